import PyProof.Rows.All
import Wide.All
import OpenK.AllK
import Wide.FinOn
import PyProof.EqAt
import PyProof.EqKinds
import PyProof.TupleCall
import Lean
import PyProof.CompFree
import PyProof.IsInstanceH
import PyProof.IsiPairs
import PyProof.ConsumeWalk
import PyProof.IsiNone
import KE.KIntText
import PyProof.Rows.EqDataRows
import PyProof.RangeIter
import PyProof.ZipIter
import PyProof.EnumMake
import PyProof.WalksEnum
import PyProof.Rows.ZipGen
import PyProof.Rows.SortWalk
import KE.KEqDict
import KE.KDictLaws
import PyProof.Rows.SumAny
import PyProof.Rows.FStr
import PyProof.ListRange
import PyProof.DictWalks
import PyProof.DictCopy
import KE.KDictOf
import PyProof.StrLawsIdx
import KE.KRevIter
import PyProof.Rows.StrRev
import PyProof.ListStr
import KE.KRevSl
import KE.KLam
import PyProof.Rows.SetFrom
import PyProof.SetRoads
import PySem.Challenge.RW_ownbeat_k31_whole_known_behind_so_many
import KE.KNestM
section
set_option Elab.async false
set_option linter.all false
set_option maxRecDepth 100000
set_option maxHeartbeats 4000000
namespace KH
open PySem PySem.W
abbrev Pw : Program := PySem.Challenge.pw_ownbeat_k31_whole_known_behind_so_many
abbrev Rw : OpenLaw := PySem.Challenge.rw_ownbeat_k31_whole_known_behind_so_many
abbrev tp (i : Nat) : Stmt := Pw.main.body.getD i (.Pass ⟨0, 0, 0, 0⟩)
abbrev cm : Stmt → Nat → Stmt
  | .ClassDef _ _ _ body _ _ _ _ _ _ _, i => body.getD i (.Pass ⟨0, 0, 0, 0⟩)
  | s, _ => s
abbrev dA (s : Stmt) : Arguments := match s with
  | .FunctionDef _ a _ _ _ _ _ _ _ _ => a
  | _ => { posonlyargs := [], args := [], vararg := none, kwonlyargs := [], kw_defaults := [], kwarg := none, defaults := [] }
abbrev dB (s : Stmt) : List Stmt := match s with
  | .FunctionDef _ _ b _ _ _ _ _ _ _ => b
  | _ => []
abbrev dS (s : Stmt) : Scope := match s with
  | .FunctionDef _ _ _ _ _ _ sc _ _ _ => sc
  | _ => { kind := .function, names := [], isGenerator := false, isCoroutine := false }
abbrev en (P : Params) (k : Str) (t : Nat) (v : Value) : DictEntry := ⟨PyData.keyHash P k, .str k t, v⟩
abbrev tu (l : List Value) : Obj := ⟨.type "tuple", none, .seq l.toArray 0, #[]⟩
abbrev di (l : List DictEntry) : Obj := ⟨.type "dict", none, .dict l.toArray 0, #[]⟩
abbrev co (n : Str) (t1 : Nat) (q : Str) (t2 t3 : Nat) (l c : Int) (a b : Nat) (x y : Value) (z : Nat) (d : Int) (t4 : Nat) : Obj := ⟨.type "code", none, .fields #[.str n t1, .str q t2, .str "/claim/cut.py" t3, .int l 0, .int c 0, .int 0 0, .int 0 0, .int 3 0, .ref a, .bool true, .int 181 0, .ref b, .none, x, y, .ref z, .int d 0, .int l 0, .str "/claim/cut.py" t4], #[]⟩
abbrev fu (n q : Str) (st : Stmt) (m : Str) (t c : Nat) : Obj := ⟨.type "function", none, .func ⟨n, q, dA st, .stmts (dB st), dS st, 3, [], .none, .none, .none, .str m t, none, .ref c, .none, 0⟩, #[]⟩
abbrev cl (n : Str) (self ns a t1 t2 : Nat) : Obj := ⟨.type "type", none, .cls ⟨n, [.ref 24], [.ref self, .ref 24, .type "ValueError", .type "Exception", .type "BaseException", .type "object"], ns, n, true, [], [], false, none, false⟩, #[some (.ref a), none, some (.str n t1), some (.str n t2), some (.builtin "ValueError.__new__"), some (.bool true)]⟩
noncomputable def K (P : Params) : Frag :=
  (nat_lit 2, ⟨.none, none, .dict #[], #[]⟩) ::
  (nat_lit 3, ⟨.type "dict", none, .dict #[en P "__name__" 165 (.str "law_ownbeat_k31_whole_known_behind_so_many" 471), en P "__doc__" 166 (.none), en P "__package__" 167 (.none), en P "__loader__" 168 (.builtin "__main__.__loader__#opaque"), en P "__spec__" 169 (.none), en P "__annotations__" 170 (.ref 6), en P "__builtins__" 171 (.ref 4), en P "__file__" 173 (.str "/claim/cut.py" 172), en P "__cached__" 174 (.none), en P "BeatError" 206 (.ref 24), en P "NoLetter" 222 (.ref 37), en P "NoWire" 247 (.ref 56), en P "is_whole" 256 (.ref 65), en P "is_letter" 264 (.ref 72), en P "is_letter_list" 270 (.ref 77), en P "words_of" 276 (.ref 82), en P "every_state" 283 (.ref 89), en P "pair_graph" 294 (.ref 96), en P "pair_steps" 308 (.ref 103), en P "layers_of" 318 (.ref 110), en P "layer_behind" 330 (.ref 117), en P "comes_back" 338 (.ref 124), en P "longest_walk" 349 (.ref 131), en P "first_return" 359 (.ref 138), en P "is_word" 369 (.ref 145), en P "sent" 381 (.ref 152), en P "given_words" 391 (.ref 159), en P "ends" 401 (.ref 166), en P "whole_words" 412 (.ref 173), en P "states_behind" 422 (.ref 180), en P "states_behind_word" 434 (.ref 187), en P "settles" 443 (.ref 194), en P "unsettled" 449 (.ref 199), en P "backward_graph" 461 (.ref 206), en P "unlike_pairs" 470 (.ref 213), en P "_law_cell" 480 (.ref 220), en P "_law_store" 488 (.ref 227), en P "_law_take" 498 (.ref 234), en P "_law_word" 508 (.ref 241), en P "_law_branch" 525 (.ref 248), en P "_law_code" 531 (.ref 253), en P "_law_chained" 537 (.ref 258), en P "_law_any_code" 544 (.ref 265), en P "_law_copy" 550 (.ref 270), en P "_law_rows" 556 (.ref 275), en P "_law_sent" 568 (.ref 282), en P "_law_pairs" 574 (.ref 287), en P "_law_steps" 589 (.ref 294), en P "_law_late_wire" 595 (.ref 299), en P "_law_settled_well" 601 (.ref 304), en P "_law_never_well" 623 (.ref 311), en P "law" 635 (.ref 318)] 52, #[]⟩) ::
  (nat_lit 15, tu [.type "ValueError"]) ::
  (nat_lit 22, tu []) ::
  (nat_lit 23, ⟨.type "dict", none, .dict #[en P "__module__" 196 (.str "ownbeat.errors" 187), en P "__firstlineno__" 200 (.int 2 199), en P "__static_attributes__" 201 (.ref 22), en P "__weakref__" 203 (.ref 25), en P "__doc__" 204 (.none)] 3, #[]⟩) ::
  (nat_lit 24, ⟨.type "type", none, .cls ⟨"BeatError", [.type "ValueError"], [.ref 24, .type "ValueError", .type "Exception", .type "BaseException", .type "object"], 23, "BeatError", true, [], [.ref 37, .ref 56], false, none, false⟩, #[some (.ref 15), none, some (.str "BeatError" 189), some (.str "BeatError" 197), some (.builtin "ValueError.__new__"), some (.bool true)]⟩) ::
  (nat_lit 25, ⟨.type "getset_descriptor", none, .fields #[.str "__weakref__" 202, .ref 24, .builtin "ExceptionGroup.__weakref__", .none], #[]⟩) ::
  (nat_lit 28, tu [.ref 24]) ::
  (nat_lit 35, tu []) ::
  (nat_lit 36, ⟨.type "dict", none, .dict #[en P "__module__" 214 (.str "ownbeat.errors" 187), en P "__firstlineno__" 218 (.int 4 217), en P "__static_attributes__" 219 (.ref 35), en P "__doc__" 220 (.none)] 2, #[]⟩) ::
  (nat_lit 37, cl "NoLetter" 37 36 28 207 215) ::
  (nat_lit 40, tu [.ref 24]) ::
  (nat_lit 47, tu []) ::
  (nat_lit 49, tu [.str "self" 238, .str "at" 239]) ::
  (nat_lit 50, tu []) ::
  (nat_lit 52, co "__init__" 235 "NoWire.__init__" 236 237 8 2 47 48 (.ref 49) (.ref 50) 51 240 241) ::
  (nat_lit 53, fu "__init__" "NoWire.__init__" (cm (tp 3) 0) "ownbeat.errors" 187 52) ::
  (nat_lit 54, tu [.str "at" 243]) ::
  (nat_lit 55, ⟨.type "dict", none, .dict #[en P "__module__" 230 (.str "ownbeat.errors" 187), en P "__firstlineno__" 234 (.int 6 233), en P "__init__" 242 (.ref 53), en P "__static_attributes__" 244 (.ref 54), en P "__doc__" 245 (.none)] 2, #[]⟩) ::
  (nat_lit 56, cl "NoWire" 56 55 40 223 231) ::
  (nat_lit 59, tu []) ::
  (nat_lit 61, tu [.str "thing" 253]) ::
  (nat_lit 62, tu []) ::
  (nat_lit 64, co "is_whole" 250 "is_whole" 251 252 12 1 59 60 (.ref 61) (.ref 62) 63 254 255) ::
  (nat_lit 65, fu "is_whole" "is_whole" (tp 5) "ownbeat.walks" 248 64) ::
  (nat_lit 66, tu []) ::
  (nat_lit 68, tu [.str "k" 260, .str "thing" 261]) ::
  (nat_lit 69, tu []) ::
  (nat_lit 71, co "is_letter" 257 "is_letter" 258 259 14 2 66 67 (.ref 68) (.ref 69) 70 262 263) ::
  (nat_lit 72, fu "is_letter" "is_letter" (tp 6) "ownbeat.walks" 248 71) ::
  (nat_lit 73, tu []) ::
  (nat_lit 76, co "is_letter_list" 265 "is_letter_list" 266 267 16 2 73 74 (.none) (.none) 75 268 269) ::
  (nat_lit 77, fu "is_letter_list" "is_letter_list" (tp 7) "ownbeat.walks" 248 76) ::
  (nat_lit 78, tu []) ::
  (nat_lit 81, co "words_of" 271 "words_of" 272 273 18 2 78 79 (.none) (.none) 80 274 275) ::
  (nat_lit 82, fu "words_of" "words_of" (tp 8) "ownbeat.walks" 248 81) ::
  (nat_lit 83, tu []) ::
  (nat_lit 85, tu [.str "code" 280]) ::
  (nat_lit 86, tu []) ::
  (nat_lit 88, co "every_state" 277 "every_state" 278 279 20 1 83 84 (.ref 85) (.ref 86) 87 281 282) ::
  (nat_lit 89, fu "every_state" "every_state" (tp 9) "ownbeat.walks" 248 88) ::
  (nat_lit 90, tu []) ::
  (nat_lit 92, tu [.str "code" 287, .str "states" 288, .str "graph" 289, .str "one" 290, .str "other" 291]) ::
  (nat_lit 93, tu []) ::
  (nat_lit 95, co "pair_graph" 284 "pair_graph" 285 286 22 2 90 91 (.ref 92) (.ref 93) 94 292 293) ::
  (nat_lit 96, fu "pair_graph" "pair_graph" (tp 10) "ownbeat.walks" 248 95) ::
  (nat_lit 97, tu []) ::
  (nat_lit 99, tu [.str "code" 298, .str "one" 299, .str "other" 300, .str "steps" 301, .str "letter" 302, .str "row" 303, .str "another" 304, .str "beside" 305]) ::
  (nat_lit 100, tu []) ::
  (nat_lit 102, co "pair_steps" 295 "pair_steps" 296 297 28 3 97 98 (.ref 99) (.ref 100) 101 306 307) ::
  (nat_lit 103, fu "pair_steps" "pair_steps" (tp 11) "ownbeat.walks" 248 102) ::
  (nat_lit 104, tu []) ::
  (nat_lit 106, tu [.str "first" 312, .str "graph" 313, .str "layers" 314, .str "layer" 315]) ::
  (nat_lit 107, tu []) ::
  (nat_lit 109, co "layers_of" 309 "layers_of" 310 311 35 2 104 105 (.ref 106) (.ref 107) 108 316 317) ::
  (nat_lit 110, fu "layers_of" "layers_of" (tp 12) "ownbeat.walks" 248 109) ::
  (nat_lit 111, tu []) ::
  (nat_lit 113, tu [.str "layer" 322, .str "graph" 323, .str "behind" 324, .str "node" 325, .str "label" 326, .str "to" 327]) ::
  (nat_lit 114, tu []) ::
  (nat_lit 116, co "layer_behind" 319 "layer_behind" 320 321 42 2 111 112 (.ref 113) (.ref 114) 115 328 329) ::
  (nat_lit 117, fu "layer_behind" "layer_behind" (tp 13) "ownbeat.walks" 248 116) ::
  (nat_lit 118, tu []) ::
  (nat_lit 120, tu [.str "layers" 334, .str "graph" 335]) ::
  (nat_lit 121, tu []) ::
  (nat_lit 123, co "comes_back" 331 "comes_back" 332 333 49 2 118 119 (.ref 120) (.ref 121) 122 336 337) ::
  (nat_lit 124, fu "comes_back" "comes_back" (tp 14) "ownbeat.walks" 248 123) ::
  (nat_lit 125, tu []) ::
  (nat_lit 127, tu [.str "layers" 342, .str "node" 343, .str "walk" 344, .str "layer" 345, .str "ahead" 346]) ::
  (nat_lit 128, tu []) ::
  (nat_lit 130, co "longest_walk" 339 "longest_walk" 340 341 51 1 125 126 (.ref 127) (.ref 128) 129 347 348) ::
  (nat_lit 131, fu "longest_walk" "longest_walk" (tp 15) "ownbeat.walks" 248 130) ::
  (nat_lit 132, tu []) ::
  (nat_lit 134, tu [.str "walk" 353, .str "places" 354, .str "place" 355, .str "step" 356]) ::
  (nat_lit 135, tu []) ::
  (nat_lit 137, co "first_return" 350 "first_return" 351 352 59 1 132 133 (.ref 134) (.ref 135) 136 357 358) ::
  (nat_lit 138, fu "first_return" "first_return" (tp 16) "ownbeat.walks" 248 137) ::
  (nat_lit 139, tu []) ::
  (nat_lit 141, tu [.str "thing" 365, .str "n" 366]) ::
  (nat_lit 142, tu []) ::
  (nat_lit 144, co "is_word" 362 "is_word" 363 364 67 2 139 140 (.ref 141) (.ref 142) 143 367 368) ::
  (nat_lit 145, fu "is_word" "is_word" (tp 18) "ownbeat.codes" 360 144) ::
  (nat_lit 146, tu []) ::
  (nat_lit 148, tu [.str "code" 373, .str "state" 374, .str "text" 375, .str "words" 376, .str "letter" 377, .str "row" 378]) ::
  (nat_lit 149, tu []) ::
  (nat_lit 151, co "sent" 370 "sent" 371 372 69 3 146 147 (.ref 148) (.ref 149) 150 379 380) ::
  (nat_lit 152, fu "sent" "sent" (tp 19) "ownbeat.codes" 360 151) ::
  (nat_lit 153, tu []) ::
  (nat_lit 155, tu [.str "code" 387, .str "wire" 388]) ::
  (nat_lit 156, tu []) ::
  (nat_lit 158, co "given_words" 384 "given_words" 385 386 79 2 153 154 (.ref 155) (.ref 156) 157 389 390) ::
  (nat_lit 159, fu "given_words" "given_words" (tp 21) "ownbeat.reading" 382 158) ::
  (nat_lit 160, tu []) ::
  (nat_lit 162, tu [.str "code" 397, .str "wire" 398]) ::
  (nat_lit 163, tu []) ::
  (nat_lit 165, co "ends" 394 "ends" 395 396 84 2 160 161 (.ref 162) (.ref 163) 164 399 400) ::
  (nat_lit 166, fu "ends" "ends" (tp 23) "ownbeat.settling" 392 165) ::
  (nat_lit 167, tu []) ::
  (nat_lit 169, tu [.str "code" 405, .str "wire" 406, .str "words" 407, .str "at" 408, .str "word" 409]) ::
  (nat_lit 170, tu []) ::
  (nat_lit 172, co "whole_words" 402 "whole_words" 403 404 86 2 167 168 (.ref 169) (.ref 170) 171 410 411) ::
  (nat_lit 173, fu "whole_words" "whole_words" (tp 24) "ownbeat.settling" 392 172) ::
  (nat_lit 174, tu []) ::
  (nat_lit 176, tu [.str "code" 416, .str "states" 417, .str "words" 418, .str "word" 419]) ::
  (nat_lit 177, tu []) ::
  (nat_lit 179, co "states_behind" 413 "states_behind" 414 415 92 3 174 175 (.ref 176) (.ref 177) 178 420 421) ::
  (nat_lit 180, fu "states_behind" "states_behind" (tp 25) "ownbeat.settling" 392 179) ::
  (nat_lit 181, tu []) ::
  (nat_lit 183, tu [.str "code" 426, .str "states" 427, .str "word" 428, .str "behind" 429, .str "state" 430, .str "row" 431]) ::
  (nat_lit 184, tu []) ::
  (nat_lit 186, co "states_behind_word" 423 "states_behind_word" 424 425 96 3 181 182 (.ref 183) (.ref 184) 185 432 433) ::
  (nat_lit 187, fu "states_behind_word" "states_behind_word" (tp 26) "ownbeat.settling" 392 186) ::
  (nat_lit 188, tu []) ::
  (nat_lit 190, tu [.str "code" 438, .str "graph" 439, .str "layers" 440]) ::
  (nat_lit 191, tu []) ::
  (nat_lit 193, co "settles" 435 "settles" 436 437 103 1 188 189 (.ref 190) (.ref 191) 192 441 442) ::
  (nat_lit 194, fu "settles" "settles" (tp 27) "ownbeat.settling" 392 193) ::
  (nat_lit 195, tu []) ::
  (nat_lit 198, co "unsettled" 444 "unsettled" 445 446 107 1 195 196 (.none) (.none) 197 447 448) ::
  (nat_lit 199, fu "unsettled" "unsettled" (tp 28) "ownbeat.settling" 392 198) ::
  (nat_lit 200, tu []) ::
  (nat_lit 202, tu [.str "code" 453, .str "forward" 454, .str "graph" 455, .str "pair" 456, .str "label" 457, .str "to" 458]) ::
  (nat_lit 203, tu []) ::
  (nat_lit 205, co "backward_graph" 450 "backward_graph" 451 452 119 1 200 201 (.ref 202) (.ref 203) 204 459 460) ::
  (nat_lit 206, fu "backward_graph" "backward_graph" (tp 29) "ownbeat.settling" 392 205) ::
  (nat_lit 207, tu []) ::
  (nat_lit 209, tu [.str "graph" 465, .str "pairs" 466, .str "pair" 467]) ::
  (nat_lit 210, tu []) ::
  (nat_lit 212, co "unlike_pairs" 462 "unlike_pairs" 463 464 128 1 207 208 (.ref 209) (.ref 210) 211 468 469) ::
  (nat_lit 213, fu "unlike_pairs" "unlike_pairs" (tp 30) "ownbeat.settling" 392 212) ::
  (nat_lit 214, tu []) ::
  (nat_lit 216, tu [.str "script" 476, .str "k" 477]) ::
  (nat_lit 217, tu []) ::
  (nat_lit 219, co "_law_cell" 473 "_law_cell" 474 475 135 2 214 215 (.ref 216) (.ref 217) 218 478 479) ::
  (nat_lit 220, fu "_law_cell" "_law_cell" (tp 32) "law_ownbeat_k31_whole_known_behind_so_many" 471 219) ::
  (nat_lit 221, tu []) ::
  (nat_lit 223, tu [.str "cell" 484, .str "great" 485]) ::
  (nat_lit 224, tu []) ::
  (nat_lit 226, co "_law_store" 481 "_law_store" 482 483 139 1 221 222 (.ref 223) (.ref 224) 225 486 487) ::
  (nat_lit 227, fu "_law_store" "_law_store" (tp 33) "law_ownbeat_k31_whole_known_behind_so_many" 471 226) ::
  (nat_lit 228, tu []) ::
  (nat_lit 230, tu [.str "store" 492, .str "many" 493, .str "told" 494, .str "one" 495]) ::
  (nat_lit 231, tu []) ::
  (nat_lit 233, co "_law_take" 489 "_law_take" 490 491 144 2 228 229 (.ref 230) (.ref 231) 232 496 497) ::
  (nat_lit 234, fu "_law_take" "_law_take" (tp 34) "law_ownbeat_k31_whole_known_behind_so_many" 471 233) ::
  (nat_lit 235, tu []) ::
  (nat_lit 237, tu [.str "number" 502, .str "n" 503, .str "word" 504, .str "k" 505]) ::
  (nat_lit 238, tu []) ::
  (nat_lit 240, co "_law_word" 499 "_law_word" 500 501 154 2 235 236 (.ref 237) (.ref 238) 239 506 507) ::
  (nat_lit 241, fu "_law_word" "_law_word" (tp 35) "law_ownbeat_k31_whole_known_behind_so_many" 471 240) ::
  (nat_lit 242, tu []) ::
  (nat_lit 244, tu [.str "store" 512, .str "kind" 513, .str "pool" 514, .str "place" 515, .str "letter" 516, .str "sizes" 517, .str "k" 518, .str "n" 519, .str "many" 520, .str "behind" 521, .str "word" 522]) ::
  (nat_lit 245, tu []) ::
  (nat_lit 247, co "_law_branch" 509 "_law_branch" 510 511 160 6 242 243 (.ref 244) (.ref 245) 246 523 524) ::
  (nat_lit 248, fu "_law_branch" "_law_branch" (tp 36) "law_ownbeat_k31_whole_known_behind_so_many" 471 247) ::
  (nat_lit 249, tu []) ::
  (nat_lit 252, co "_law_code" 526 "_law_code" 527 528 173 2 249 250 (.none) (.none) 251 529 530) ::
  (nat_lit 253, fu "_law_code" "_law_code" (tp 37) "law_ownbeat_k31_whole_known_behind_so_many" 471 252) ::
  (nat_lit 254, tu []) ::
  (nat_lit 257, co "_law_chained" 532 "_law_chained" 533 534 187 1 254 255 (.none) (.none) 256 535 536) ::
  (nat_lit 258, fu "_law_chained" "_law_chained" (tp 38) "law_ownbeat_k31_whole_known_behind_so_many" 471 257) ::
  (nat_lit 259, tu []) ::
  (nat_lit 261, tu [.str "store" 541]) ::
  (nat_lit 262, tu []) ::
  (nat_lit 264, co "_law_any_code" 538 "_law_any_code" 539 540 206 1 259 260 (.ref 261) (.ref 262) 263 542 543) ::
  (nat_lit 265, fu "_law_any_code" "_law_any_code" (tp 39) "law_ownbeat_k31_whole_known_behind_so_many" 471 264) ::
  (nat_lit 283, tu []) ::
  (nat_lit 286, co "_law_pairs" 569 "_law_pairs" 570 571 222 1 283 284 (.none) (.none) 285 572 573) ::
  (nat_lit 287, fu "_law_pairs" "_law_pairs" (tp 43) "law_ownbeat_k31_whole_known_behind_so_many" 471 286) ::
  (nat_lit 288, tu []) ::
  (nat_lit 290, tu [.str "code" 578, .str "pair" 579, .str "some" 580, .str "letter" 581, .str "word" 582, .str "one" 583, .str "turn" 584, .str "same" 585, .str "other" 586]) ::
  (nat_lit 291, tu []) ::
  (nat_lit 293, co "_law_steps" 575 "_law_steps" 576 577 227 2 288 289 (.ref 290) (.ref 291) 292 587 588) ::
  (nat_lit 294, fu "_law_steps" "_law_steps" (tp 44) "law_ownbeat_k31_whole_known_behind_so_many" 471 293) ::
  (nat_lit 295, tu []) ::
  (nat_lit 298, co "_law_late_wire" 590 "_law_late_wire" 591 592 234 2 295 296 (.none) (.none) 297 593 594) ::
  (nat_lit 299, fu "_law_late_wire" "_law_late_wire" (tp 45) "law_ownbeat_k31_whole_known_behind_so_many" 471 298) ::
  (nat_lit 300, tu []) ::
  (nat_lit 303, co "_law_settled_well" 596 "_law_settled_well" 597 598 253 3 300 301 (.none) (.none) 302 599 600) ::
  (nat_lit 304, fu "_law_settled_well" "_law_settled_well" (tp 46) "law_ownbeat_k31_whole_known_behind_so_many" 471 303) ::
  (nat_lit 305, tu []) ::
  (nat_lit 307, tu [.str "code" 605, .str "told" 606, .str "one" 607, .str "other" 608, .str "text" 609, .str "turn" 610, .str "begin" 611, .str "behind" 612, .str "many" 613, .str "first" 614, .str "second" 615, .str "wire" 616, .str "last" 617, .str "same" 618, .str "end" 619, .str "where" 620]) ::
  (nat_lit 308, tu []) ::
  (nat_lit 310, co "_law_never_well" 602 "_law_never_well" 603 604 268 2 305 306 (.ref 307) (.ref 308) 309 621 622) ::
  (nat_lit 311, fu "_law_never_well" "_law_never_well" (tp 47) "law_ownbeat_k31_whole_known_behind_so_many" 471 310) ::
  (nat_lit 312, tu []) ::
  (nat_lit 314, tu [.str "script" 627, .str "at" 628, .str "store" 629, .str "code" 630, .str "many" 631, .str "told" 632]) ::
  (nat_lit 315, tu []) ::
  (nat_lit 317, co "law" 624 "law" 625 626 279 1 312 313 (.ref 314) (.ref 315) 316 633 634) ::
  (nat_lit 318, fu "law" "law" (tp 48) "law_ownbeat_k31_whole_known_behind_so_many" 471 317) :: []
def V : Program := view Pw [1, 2, 3, 5, 6, 7, 8, 9, 10, 11, 12, 13, 14, 15, 16, 18, 19, 21, 23, 24, 25, 26, 27, 28, 29, 30, 32, 33, 34, 35, 36, 37, 38, 39, 40, 41, 42, 43, 44, 45, 46, 47, 48]
noncomputable abbrev hk : Hook := kHook K [2, 3, 15, 22, 23, 24, 25, 28, 35, 36, 37, 40, 47, 49, 50, 52, 53, 54, 55, 56, 59, 61, 62, 64, 65, 66, 68, 69, 71, 72, 73, 76, 77, 78, 81, 82, 83, 85, 86, 88, 89, 90, 92, 93, 95, 96, 97, 99, 100, 102, 103, 104, 106, 107, 109, 110, 111, 113, 114, 116, 117, 118, 120, 121, 123, 124, 125, 127, 128, 130, 131, 132, 134, 135, 137, 138, 139, 141, 142, 144, 145, 146, 148, 149, 151, 152, 153, 155, 156, 158, 159, 160, 162, 163, 165, 166, 167, 169, 170, 172, 173, 174, 176, 177, 179, 180, 181, 183, 184, 186, 187, 188, 190, 191, 193, 194, 195, 198, 199, 200, 202, 203, 205, 206, 207, 209, 210, 212, 213, 214, 216, 217, 219, 220, 221, 223, 224, 226, 227, 228, 230, 231, 233, 234, 235, 237, 238, 240, 241, 242, 244, 245, 247, 248, 249, 252, 253, 254, 257, 258, 259, 261, 262, 264, 265, 283, 286, 287, 288, 290, 291, 293, 294, 295, 298, 299, 300, 303, 304, 305, 307, 308, 310, 311, 312, 314, 315, 317, 318] (fun _ => by kernel_rfl)
theorem HL : LeftO (Rw.row).prog V [] (fun s => xlAt V [] s && recOk (RowW.records (OpenRow.toRowW Rw.row)) s) (Hook.obs hk) (Hook.val hk) 3998 := by
  intro w
  rw [Fast.te14364793385576792824, Fast.te4187177175401517315, Fast.te5923862056798008813]
  kernel_rfl
end KH
noncomputable def PySem.W.Fast.tw14803812447375341825 : PySem.Program := PySem.Challenge.pw_ownbeat_k31_whole_known_behind_so_many
theorem PySem.W.Fast.te14803812447375341825 : PySem.Challenge.pw_ownbeat_k31_whole_known_behind_so_many = PySem.W.Fast.tw14803812447375341825 := rfl
noncomputable def PySem.W.Fast.tw2707504826396771044 : PySem.W.OpenLaw := PySem.Challenge.rw_ownbeat_k31_whole_known_behind_so_many
theorem PySem.W.Fast.te2707504826396771044 : PySem.Challenge.rw_ownbeat_k31_whole_known_behind_so_many = PySem.W.Fast.tw2707504826396771044 := rfl
noncomputable def PySem.W.Fast.tw5761066807429076752 : PySem.Program := KH.V
theorem PySem.W.Fast.te5761066807429076752 : KH.V = PySem.W.Fast.tw5761066807429076752 := rfl
noncomputable def PySem.W.Fast.tw13718576055750932966 : PySem.Params → PySem.W.Frag := KH.K
theorem PySem.W.Fast.te13718576055750932966 : KH.K = PySem.W.Fast.tw13718576055750932966 := rfl
noncomputable def PySem.W.Fast.tw770474345414848920 : PySem.Program := KH.Pw
theorem PySem.W.Fast.te770474345414848920 : KH.Pw = PySem.W.Fast.tw770474345414848920 := rfl
noncomputable def PySem.W.Fast.tw14237125333626191895 : PySem.W.OpenLaw := KH.Rw
theorem PySem.W.Fast.te14237125333626191895 : KH.Rw = PySem.W.Fast.tw14237125333626191895 := rfl
end
set_option compiler.extract_closed false
-- CHANGE: your row's module here, as the last of these rows
set_option Elab.async false
set_option linter.all false
set_option maxRecDepth 100000
namespace L2
open PySem PySem.Spec PyProof.Rows

abbrev Key := Sum Int Str
def keyIs : Key → Value → Bool
  | .inl k, v => Value.isInt k v
  | .inr x, v => Value.isStrOf x v
def keyH (w : World) : Key → Int
  | .inl k => hashInt k
  | .inr x => hashStr w x
theorem keyIs_shape : ∀ {k : Key} {v : Value}, keyIs k v = true → (∃ i t, k = Sum.inl i ∧ v = Value.int i t) ∨ (∃ x t, k = Sum.inr x ∧ v = Value.str x t)
  | .inl i, v, h => by
    obtain ⟨t, e⟩ := Value.isInt_shape (k := i) (v := v) h
    exact .inl ⟨i, t, rfl, e⟩
  | .inr x, v, h => by
    obtain ⟨t, e⟩ := Value.isStrOf_shape (x := x) (v := v) h
    exact .inr ⟨x, t, rfl, e⟩
theorem keyIs_int (i : Int) (t : Tok) : keyIs (.inl i) (.int i t) = true := by simp [keyIs, Value.isInt]
theorem keyIs_str (x : Str) (t : Tok) : keyIs (.inr x) (.str x t) = true := by simp [keyIs, Value.isStrOf]
theorem key_ll (a b : Int) : decide ((Sum.inl a : Key) = Sum.inl b) = (a == b) := by
  by_cases e : a = b
  · subst e; simp
  · have h : ¬ (Sum.inl a : Key) = Sum.inl b := fun q => e (Sum.inl.inj q)
    rw [decide_eq_false h]
    exact (beq_eq_false_iff_ne.mpr e).symm
theorem key_rr (a b : Str) : decide ((Sum.inr a : Key) = Sum.inr b) = decide (a = b) := by
  by_cases e : a = b
  · subst e; simp
  · have h : ¬ (Sum.inr a : Key) = Sum.inr b := fun q => e (Sum.inr.inj q)
    rw [decide_eq_false h, decide_eq_false e]
theorem key_lr (a : Int) (b : Str) : decide ((Sum.inl a : Key) = Sum.inr b) = false := decide_eq_false (fun q => nomatch q)
theorem key_rl (a : Str) (b : Int) : decide ((Sum.inr a : Key) = Sum.inl b) = false := decide_eq_false (fun q => nomatch q)

def mixKind (prog : Program) (w : World) : PySem.KeyKind prog w Key where
  is := keyIs
  hash := keyH w
  inj := fun v a b ha hb => by
    rcases keyIs_shape ha with ⟨i, t, rfl, rfl⟩ | ⟨x, t, rfl, rfl⟩
    · rcases keyIs_shape hb with ⟨j, u, rfl, e⟩ | ⟨y, u, rfl, e⟩
      · injection e with e1 _; rw [e1]
      · exact nomatch e
    · rcases keyIs_shape hb with ⟨j, u, rfl, e⟩ | ⟨y, u, rfl, e⟩
      · exact nomatch e
      · injection e with e1 _; rw [e1]
  byValue := fun k v h => by
    rcases keyIs_shape h with ⟨i, t, rfl, rfl⟩ | ⟨x, t, rfl, rfl⟩ <;> rfl
  pyHash := fun hv h => by
    rcases keyIs_shape hv with ⟨i, t, rfl, rfl⟩ | ⟨x, t, rfl, rfl⟩
    · exact wpAny_pyHash_int h
    · exact wpAny_pyHash_str h
  eqBool := fun hu hv h => by
    rcases keyIs_shape hu with ⟨i, t, rfl, rfl⟩ | ⟨x, t, rfl, rfl⟩
    · rcases keyIs_shape hv with ⟨j, u, rfl, rfl⟩ | ⟨y, u, rfl, rfl⟩
      · rw [key_ll] at h; exact wpAny_eqBool_int h
      · rw [key_lr] at h; exact SeqAt.EqAt.int_str i t y u _ _ _ _ h
    · rcases keyIs_shape hv with ⟨j, u, rfl, rfl⟩ | ⟨y, u, rfl, rfl⟩
      · rw [key_rl] at h; exact SeqAt.EqAt.str_int x t j u _ _ _ _ h
      · rw [key_rr] at h; exact wpAny_eqBool_str h
  «strs» := fun k x t v h => by
    rcases keyIs_shape h with ⟨i, u, rfl, e⟩ | ⟨y, u, rfl, e⟩
    · exact nomatch e
    · injection e with e1 _
      subst e1
      cases v <;> rfl

theorem mixKind_int (prog : Program) (w : World) (i : Int) (t : Tok) : (mixKind prog w).is (.inl i) (.int i t) = true := keyIs_int i t
theorem mixKind_str (prog : Program) (w : World) (x : Str) (t : Tok) : (mixKind prog w).is (.inr x) (.str x t) = true := keyIs_str x t
end L2

namespace L2
open PySem PySem.Spec PyProof.Rows

inductive V where
  | non | bl (b : Bool) | int (i : Int) | str (x : Str) | byt (b : Array UInt8) | flt (b : UInt64) | ref (a : Addr) | ty (n : String)
  deriving DecidableEq

def RelV : V → Value → Prop
  | .non, u => u = Value.none
  | .bl b, u => u = Value.bool b
  | .int i, u => ∃ t, u = Value.int i t
  | .str x, u => ∃ t, u = Value.str x t
  | .byt b, u => ∃ t, u = Value.bytes b t
  | .flt b, u => ∃ t, u = Value.float b t
  | .ref a, u => u = Value.ref a
  | .ty n, u => u = Value.type n

abbrev Vals : List V → List Value → Prop := Paired RelV
theorem Vals.length {xs : List V} {us : List Value} (r : Vals xs us) : xs.length = us.length := Paired.length r
theorem Vals.get : ∀ {xs : List V} {us : List Value} {i : Nat} {x : V}, Vals xs us → xs[i]? = some x → ∃ u, us[i]? = some u ∧ RelV x u
  | _, _, _, _, .nil, e => by simp at e
  | _, _, 0, _, .cons r _, e => by simp at e; subst e; exact ⟨_, rfl, r⟩
  | _, _, i + 1, x, .cons _ t, e => by
    obtain ⟨u, h1, h2⟩ := Vals.get (i := i) (x := x) t (by simpa using e)
    exact ⟨u, by simpa using h1, h2⟩
theorem Vals.set {x : V} {u : Value} (r : RelV x u) : ∀ {xs : List V} {us : List Value} (i : Nat), Vals xs us → Vals (xs.set i x) (us.set i u)
  | _, _, _, .nil => .nil
  | _, _, 0, .cons _ t => .cons r t
  | _, _, i + 1, .cons q t => .cons q (Vals.set r i t)
theorem Vals.append : ∀ {xs ys : List V} {us ws : List Value}, Vals xs us → Vals ys ws → Vals (xs ++ ys) (us ++ ws)
  | _, _, _, _, .nil, s => s
  | _, _, _, _, .cons r t, s => .cons r (Vals.append t s)
theorem Vals.take : ∀ {xs : List V} {us : List Value} (n : Nat), Vals xs us → Vals (xs.take n) (us.take n)
  | _, _, 0, _ => .nil
  | _, _, _ + 1, .nil => .nil
  | _, _, n + 1, .cons r t => .cons r (Vals.take n t)
theorem Vals.drop : ∀ {xs : List V} {us : List Value} (n : Nat), Vals xs us → Vals (xs.drop n) (us.drop n)
  | _, _, 0, r => r
  | _, _, _ + 1, .nil => .nil
  | _, _, n + 1, .cons _ t => Vals.drop n t
def RelO : Option V → Option Value → Prop
  | some v, some u => RelV v u
  | none, none => True
  | _, _ => False
def KV {κ : Type} : List (κ × V) → List (κ × Value) → Prop := Paired fun (p : κ × V) (q : κ × Value) => p.1 = q.1 ∧ RelV p.2 q.2

def kV : Key → V
  | .inl i => .int i
  | .inr x => .str x

inductive HO where
    | lst (xs : List V)
    | tup (xs : List V)
    | dK (kvs : List (Key × V)) | dT (kvs : List (List Key × V))
    | set (S : Int → Bool) (n : Nat)
    | ins (C dx : Addr) (fs : List (Str × V))
    | own (x : Addr)
    | xd (fs : List (Str × V))
    | met (f x : Addr)
    | rng (lo hi : Int)
    | frz (o : Obj) (u : HO)
    | tbl (ps : Array Value)
    | ext (φ : Heap → Prop)

abbrev Hp := Addr → Option HO
def upd (H : Hp) (a : Addr) (o : HO) : Hp := fun b => if b = a then some o else H b
theorem upd_same {H : Hp} {a : Addr} {o : HO} : upd H a o a = some o := by unfold upd; rw [if_pos rfl]
theorem upd_ne {H : Hp} {a b : Addr} {o : HO} (h : b ≠ a) : upd H a o b = H b := by unfold upd; rw [if_neg h]
theorem upd_upd {H : Hp} {a : Addr} {o u : HO} : upd (upd H a o) a u = upd H a u := by
  funext b; unfold upd; split <;> rfl
theorem ne_of {H : Hp} {a b : Addr} {o u : HO} (h : H a = some o) (h' : H b = some u) (d : o ≠ u) : a ≠ b := by
  intro e; subst e; rw [h] at h'; exact d (Option.some.inj h')
theorem ne_of_none {H : Hp} {a b : Addr} {o : HO} (h : H a = some o) (h' : H b = none) : a ≠ b := by
  intro e; subst e; rw [h] at h'; cases h'

section
variable (P : Program) (w : World)
def ObjOk (H : Hp) (h : Heap) (a : Addr) : HO → Prop
  | .lst xs => xs.length ≤ sizeLine ∧ ∃ (its : List Value) (n : Nat), Vals xs its ∧ h.get? a = some { cls := .type "list", data := .seq its.toArray n }
  | .tup xs => xs.length ≤ sizeLine ∧ ∃ its : List Value, Vals xs its ∧ IsTup h a its.toArray
  | .dK kvs => kvs.length ≤ sizeLine ∧ (a == sysModules) = false ∧ ∃ vs, KV kvs vs ∧ h.DictOf (mixKind P w) a vs
  | .dT kvs => kvs.length ≤ sizeLine ∧ (a == sysModules) = false ∧ ∃ xs : List (List Key × Addr × Value),
      Paired (fun (p : List Key × V) (q : List Key × Addr × Value) => p.1 = q.1 ∧ H q.2.1 = some (.tup (p.1.map kV)) ∧ RelV p.2 q.2.2) kvs xs ∧
      ∃ o es ep, h.get? a = some o ∧ o.ExactDict ∧ o.data = .dict es ep ∧ es.toList = xs.map (entryOfKey (tupleKind (mixKind P w))) ∧ (xs.map (·.1)).Nodup
  | .set S n => h.SetOf (intKind P w) a S n
  | .ins C dx fs => H dx = some (.own a) ∧ fs.length ≤ 1000 ∧ dx ≠ a ∧ h.get? a = some (PySem.W.instObj C dx) ∧
      ∃ mA, h.Ns1 dx mA ∧ (∀ f, RelO (fs.lookup f) (mA f)) ∧ PySem.Within mA (fs.map (·.1))
  | .own _ => ∃ o, h.get? a = some o
  | .xd fs => ∃ mA, h.Ns1 a mA ∧ ∀ f, RelO (fs.lookup f) (mA f)
  | .rng lo hi => ∃ t u v, h.get? a = some { cls := .type "range", data := .fields #[.int lo t, .int hi u, .int 1 v] }
  | .frz o u => h.get? a = some o ∧ ObjOk H h a u
  | .tbl ps => h.get? a = some { cls := .none, data := .fields ps }
  | .met f x => h.get? a = some (PySem.W.methodObj (.ref f) (.ref x))
  | .ext φ => φ h ∧ (∃ o, h.get? a = some o) ∧ ∀ h1 h2 : Heap, φ h1 → (∀ o, h1.get? a = some o → h2.get? a = some o) → φ h2
def HOk (H : Hp) (h : Heap) : Prop := ∀ a o, H a = some o → ObjOk P w H h a o
end

section
variable {P : Program} {w : World} {H H' : Hp} {h h' : Heap} {a : Addr} {o : HO}
theorem ObjOk.lt (x : ObjOk P w H h a o) : a < h.objs.size := by
  cases o with
  | lst xs => obtain ⟨_, _, _, _, e⟩ := x; exact Heap.lt_size e
  | tup xs => obtain ⟨_, _, _, p⟩ := x; exact p.lt
  | dK kvs => obtain ⟨_, _, _, _, o, _, _, e, _⟩ := x; exact Heap.lt_size e
  | dT kvs => obtain ⟨_, _, _, _, o, _, _, e, _⟩ := x; exact Heap.lt_size e
  | set S n => obtain ⟨o, _, _, _, e, _⟩ := x; exact Heap.lt_size e
  | ins C dx fs => obtain ⟨_, _, _, e, _⟩ := x; exact Heap.lt_size e
  | own y => obtain ⟨_, e⟩ := x; exact Heap.lt_size e
  | xd fs => obtain ⟨_, ⟨_, _, _, e, _⟩, _⟩ := x; exact Heap.lt_size e
  | rng lo hi => obtain ⟨_, _, _, e⟩ := x; exact Heap.lt_size e
  | frz ob u => obtain ⟨e, _⟩ := x; exact Heap.lt_size e
  | tbl ps => exact Heap.lt_size (show h.get? a = some _ from x)
  | met f y => exact Heap.lt_size (show h.get? a = some _ from x)
  | ext φ => obtain ⟨_, ⟨_, e⟩, _⟩ := x; exact Heap.lt_size e
theorem Paired.mapP {α β : Type} {F G : α → β → Prop} : ∀ {l₁ : List α} {l₂ : List β}, Paired F l₁ l₂ → (∀ a b, F a b → G a b) → Paired G l₁ l₂
  | _, _, .nil, _ => .nil
  | _, _, .cons r t, f => .cons (f _ _ r) (Paired.mapP t f)
theorem ObjOk.stay (x : ObjOk P w H h a o) (k : ∀ b u, (b = a ∨ H b = some (.own a)) → h.get? b = some u → h'.get? b = some u)
    (ho : ∀ b, H b = some (.own a) → H' b = some (.own a)) (ht : ∀ b xs, H b = some (.tup xs) → H' b = some (.tup xs)) : ObjOk P w H' h' a o := by
  induction o with
  | lst xs => obtain ⟨z, its, n, r, e⟩ := x; exact ⟨z, its, n, r, k _ _ (.inl rfl) e⟩
  | tup xs => obtain ⟨z, its, r, ob, e, c⟩ := x; exact ⟨z, its, r, ob, k _ _ (.inl rfl) e, c⟩
  | dK kvs => obtain ⟨z, y, vs, r, ob, es, ep, e, c⟩ := x; exact ⟨z, y, vs, r, ob, es, ep, k _ _ (.inl rfl) e, c⟩
  | dT kvs =>
    obtain ⟨z, y, xs, r, ob, es, ep, e, c⟩ := x
    exact ⟨z, y, xs, Paired.mapP r fun p q z => ⟨z.1, ht _ _ z.2.1, z.2.2⟩, ob, es, ep, k _ _ (.inl rfl) e, c⟩
  | set S n => obtain ⟨ob, es, ep, t, e, c⟩ := x; exact ⟨ob, es, ep, t, k _ _ (.inl rfl) e, c⟩
  | ins C dx fs =>
    obtain ⟨d, z, ne, e, mA, ⟨od, es, ep, e2, c⟩, r⟩ := x
    exact ⟨ho _ d, z, ne, k _ _ (.inl rfl) e, mA, ⟨od, es, ep, k _ _ (.inr d) e2, c⟩, r⟩
  | own y => obtain ⟨ob, e⟩ := x; exact ⟨ob, k _ _ (.inl rfl) e⟩
  | xd fs => obtain ⟨mA, ⟨od, es, ep, e, c⟩, r⟩ := x; exact ⟨mA, ⟨od, es, ep, k _ _ (.inl rfl) e, c⟩, r⟩
  | rng lo hi => obtain ⟨t, u, v, e⟩ := x; exact ⟨t, u, v, k _ _ (.inl rfl) e⟩
  | frz ob u ih => obtain ⟨e, q⟩ := x; exact ⟨k _ _ (.inl rfl) e, ih q⟩
  | tbl ps =>
    have e : h.get? a = some { cls := .none, data := .fields ps } := x
    show h'.get? a = some { cls := .none, data := .fields ps }
    exact k a _ (.inl rfl) e
  | met f y =>
    have e : h.get? a = some (PySem.W.methodObj (.ref f) (.ref y)) := x
    show h'.get? a = some (PySem.W.methodObj (.ref f) (.ref y))
    exact k a _ (.inl rfl) e
  | ext φ => obtain ⟨p, ⟨o, e⟩, st⟩ := x; exact ⟨st _ _ p fun o q => k _ _ (.inl rfl) q, ⟨o, k _ _ (.inl rfl) e⟩, st⟩
theorem HOk.lt (x : HOk P w H h) (e : H a = some o) : a < h.objs.size := (x a o e).lt
theorem HOk.fresh (x : HOk P w H h) (e : h.objs.size ≤ a) : H a = none := by
  cases q : H a with
  | none => rfl
  | some u => exact absurd (Nat.lt_of_lt_of_le (x.lt q) e) (Nat.lt_irrefl _)
theorem HOk.kept (x : HOk P w H h) (k : ∀ b u, h.get? b = some u → h'.get? b = some u) : HOk P w H h' := fun a o e =>
  (x a o e).stay (fun b u _ q => k b u q) (fun _ q => q) fun _ _ q => q
theorem HOk.laid (x : HOk P w H h) (k : ∀ b u, h.get? b = some u → h'.get? b = some u) (hp : h.objs.size ≤ a) (new : ObjOk P w (upd H a o) h' a o) : HOk P w (upd H a o) h' := fun b u e => by
  have hn := x.fresh hp
  by_cases hb : b = a
  · subst hb; rw [upd_same] at e; cases e; exact new
  · rw [upd_ne hb] at e
    exact (x b u e).stay (fun c v _ q => k c v q) (fun c q => by rw [upd_ne (ne_of_none q hn)]; exact q) fun c xs q => by rw [upd_ne (ne_of_none q hn)]; exact q
end

def Rd (H : Hp) (a : Addr) (u : HO) : Prop := H a = some u ∨ ∃ o, H a = some (.frz o u)
theorem Rd.of {H : Hp} {a : Addr} {u : HO} (h : H a = some u) : Rd H a u := .inl h
theorem Rd.ok {P : Program} {w : World} {H : Hp} {h : Heap} {a : Addr} {u : HO} (r : Rd H a u) (x : HOk P w H h) : ObjOk P w H h a u := by
  rcases r with r | ⟨o, r⟩
  · exact x a u r
  · obtain ⟨_, q⟩ := x a _ r
    exact q
def Mut : Option HO → Prop
  | some (.lst _) => True
  | some (.dK _) => True
  | some (.dT _) => True
  | some (.set _ _) => True
  | some (.ins _ _ _) => True
  | some (.ext _) => True
  | _ => False
section
variable {P : Program} {w : World} {H : Hp} {h h' : Heap} {x e : Addr} {o' : HO}
theorem HOk.write (ok : HOk P w H h) (mu : Mut (H x)) (he : e = x ∨ H e = some (.own x)) (k : ∀ b u, b ≠ e → h.get? b = some u → h'.get? b = some u) (heo : ∃ u, h'.get? e = some u)
    (new : ObjOk P w (upd H x o') h' x o') : HOk P w (upd H x o') h' := fun b u q => by
  have nown : ∀ c y, H c = some (.own y) → c ≠ x := fun c y r z => by subst z; rw [r] at mu; exact mu
  have ntup : ∀ c xs, H c = some (.tup xs) → c ≠ x := fun c xs r z => by subst z; rw [r] at mu; exact mu
  by_cases hb : b = x
  · subst hb; rw [upd_same] at q; cases q; exact new
  · rw [upd_ne hb] at q
    by_cases hbe : b = e
    · have q' : H b = some (.own x) := by
        rcases he with z | z
        · exact absurd (hbe.trans z) hb
        · rw [hbe]; exact z
      rw [q] at q'; cases q'
      obtain ⟨v, hv⟩ := heo
      exact ⟨v, by rw [hbe]; exact hv⟩
    · refine (ok b u q).stay (fun c v hc r => k c v ?_ r) (fun c r => by rw [upd_ne (nown c b r)]; exact r) fun c xs r => by rw [upd_ne (ntup c xs r)]; exact r
      rcases hc with rfl | hc
      · exact hbe
      · rintro rfl
        rcases he with z | z
        · exact nown c b hc z
        · rw [hc] at z; cases z; exact hb rfl
end

structure Un (fs ex : List Addr) (H H' : Hp) (h h' : Heap) : Prop where
  keep : ∀ b o, h.get? b = some o → H b = none → b ∉ fs → b ∉ ex → h'.get? b = some o
  slot : ∀ b o, h.get? b = some o → H b = none → b ∈ fs → b ∉ ex → ∃ sl, h'.get? b = some { o with slots := sl }
  free : ∀ b o, h.get? b = some o → H b = none → b ∉ ex → H' b = none
  there : ∀ b o, h.get? b = some o → b ∉ ex → ∃ o', h'.get? b = some o'
  tups : ∀ b xs, H b = some (.tup xs) → H' b = some (.tup xs)
  frzs : ∀ b o u, H b = some (.frz o u) → H' b = some (.frz o u)
  tbls : ∀ b ps, H b = some (.tbl ps) → ∃ more, H' b = some (.tbl (ps ++ more))
section
variable {fs fs' ex ex' : List Addr} {H H1 H2 : Hp} {h h1 h2 h' : Heap} {a x e : Addr} {o : HO}
theorem Un.any (u : Un fs ex H H1 h h1) {b : Addr} {ob : Obj} (q : h.get? b = some ob) (n : H b = none) (hx : b ∉ ex) : ∃ sl, h1.get? b = some { ob with slots := sl } := by
  by_cases hb : b ∈ fs
  · exact u.slot b ob q n hb hx
  · exact ⟨ob.slots, u.keep b ob q n hb hx⟩
theorem Un.trans (a : Un fs ex H H1 h h1) (b : Un fs ex H1 H2 h1 h2) : Un fs ex H H2 h h2 where
  keep := fun c ob q n hc hx => b.keep c ob (a.keep c ob q n hc hx) (a.free c ob q n hx) hc hx
  slot := fun c ob q n hc hx => by
    obtain ⟨sl, e1⟩ := a.slot c ob q n hc hx
    obtain ⟨sl', e2⟩ := b.slot c _ e1 (a.free c ob q n hx) hc hx
    exact ⟨sl', e2⟩
  free := fun c ob q n hx => by
    obtain ⟨o', e1⟩ := a.there c ob q hx
    exact b.free c o' e1 (a.free c ob q n hx) hx
  there := fun c ob q hx => by
    obtain ⟨o', e1⟩ := a.there c ob q hx
    exact b.there c o' e1 hx
  tups := fun c xs q => b.tups c xs (a.tups c xs q)
  frzs := fun c ob xs q => b.frzs c ob xs (a.frzs c ob xs q)
  tbls := fun c ps q => by
    obtain ⟨m1, e1⟩ := a.tbls c ps q
    obtain ⟨m2, e2⟩ := b.tbls c _ e1
    exact ⟨m1 ++ m2, by rw [e2, Array.append_assoc]⟩
theorem Un.kept (k : ∀ b u, h.get? b = some u → h'.get? b = some u) : Un fs ex H H h h' :=
  ⟨fun b ob q _ _ _ => k b ob q, fun b ob q _ _ _ => ⟨ob.slots, k b ob q⟩, fun _ _ _ n _ => n, fun b ob q _ => ⟨ob, k b ob q⟩, fun _ _ q => q, fun _ _ _ q => q, fun _ ps q => ⟨#[], by rw [q]; simp⟩⟩
theorem Un.refl : Un fs ex H H h h := Un.kept fun _ _ q => q
theorem Un.laid (k : ∀ b u, h.get? b = some u → h'.get? b = some u) (hp : h.objs.size ≤ a) (hn : H a = none) : Un fs ex H (upd H a o) h h' where
  keep := fun b u q _ _ _ => k b u q
  slot := fun b u q _ _ _ => ⟨u.slots, k b u q⟩
  free := fun b u q n _ => by rw [upd_ne (Nat.ne_of_lt (Nat.lt_of_lt_of_le (Heap.lt_size q) hp))]; exact n
  there := fun b u q _ => ⟨u, k b u q⟩
  tups := fun b xs q => by rw [upd_ne (ne_of_none q hn)]; exact q
  frzs := fun b u xs q => by rw [upd_ne (ne_of_none q hn)]; exact q
  tbls := fun b ps q => ⟨#[], by rw [upd_ne (ne_of_none q hn), q]; simp⟩
theorem Un.write (mu : Mut (H x)) (he : e = x ∨ H e = some (.own x)) (k : ∀ b u, b ≠ e → h.get? b = some u → h'.get? b = some u) (heo : ∃ u, h'.get? e = some u) : Un fs ex H (upd H x o) h h' := by
  have hx : ∀ b, H b = none → b ≠ x := fun b n z => by subst z; rw [n] at mu; exact mu
  have hb : ∀ b, H b = none → b ≠ e := fun b n z => by
    subst z
    rcases he with r | r
    · exact hx b n r
    · rw [n] at r; cases r
  have hm : ∀ b u, H b = some u → ¬ Mut (some u) → b ≠ x := fun b u q nm z => by subst z; rw [q] at mu; exact nm mu
  refine ⟨fun b u q n _ _ => k b u (hb b n) q, fun b u q n _ _ => ⟨u.slots, k b u (hb b n) q⟩, fun b u q n _ => by rw [upd_ne (hx b n)]; exact n, fun b u q _ => ?_,
    fun b xs q => by rw [upd_ne (hm b _ q fun z => z)]; exact q, fun b u xs q => by rw [upd_ne (hm b _ q fun z => z)]; exact q, fun b ps q => ⟨#[], by rw [upd_ne (hm b _ q fun z => z), q]; simp⟩⟩
  by_cases hbe : b = e
  · subst hbe; exact heo
  · exact ⟨u, k b u hbe q⟩
theorem Un.mono (u : Un fs ex H H1 h h1) (hs : ∀ b ∈ fs, b ∈ fs') (hx : ∀ b ∈ ex, b ∈ ex') : Un fs' ex' H H1 h h1 :=
  ⟨fun b ob q n hb he => u.keep b ob q n (fun z => hb (hs b z)) fun z => he (hx b z), fun _ _ q n _ he => u.any q n fun z => he (hx _ z), fun b ob q n he => u.free b ob q n fun z => he (hx b z), fun b ob q he => u.there b ob q fun z => he (hx b z), u.tups, u.frzs, u.tbls⟩
end

def trk (h : Heap) (H : Hp) : List Addr := (List.range h.objs.size).filter fun a => (H a).isSome
def hidT (h : Heap) (H : Hp) : Heap := PySem.W.hideAll h (trk h H)
theorem hidT_size (h : Heap) (H : Hp) : (hidT h H).objs.size = h.objs.size := PySem.W.hideAll_size _ _
theorem hidT_get {h : Heap} {H : Hp} {b : Addr} {o : Obj} (e : h.get? b = some o) (n : H b = none) : (hidT h H).get? b = some o :=
  PySem.W.hideAll_get _ e fun hm => by
    have q : (H b).isSome = true := (List.mem_filter.mp hm).2
    rw [n] at q; simp at q
theorem of_hidT {h : Heap} {H : Hp} {b : Addr} {o : Obj} (e : (hidT h H).get? b = some o) : h.get? b = some o ∧ H b = none := by
  have e' : h.get? b = some o := PySem.W.of_hideAll (trk h H) e
  refine ⟨e', ?_⟩
  cases q : H b with
  | none => rfl
  | some x =>
    have hm : b ∈ trk h H := List.mem_filter.mpr ⟨List.mem_range.mpr (Heap.lt_size e'), by simp [q]⟩
    have z : (hidT h H).get? b = none := PySem.W.hideAll_none (trk h H) hm
    rw [z] at e; cases e

def allNews (g h : Heap) (L : Addr) : List (Addr × Obj) := (List.range h.objs.size).filterMap fun a => if a = L ∨ (g.get? a).isSome = true then none else (h.get? a).map fun o => (a, o)
def rest (g h : Heap) (L d : Addr) : List (Addr × Obj) := (allNews g h L).filter fun p => decide (p.1 ≠ d)
end L2

namespace L2
open PySem PySem.Spec PyProof.Rows

structure Mod (K : PySem.W.Frag) (mg : Str → Option Value) (base : Heap) : Prop where
  kin : K.In base
  glob : base.Ns mainGlobals mg
  blt : ∃ mb, base.Ns builtinsNs mb ∧ ∀ x : Str, x ≠ "__name__" → mb x = bootBuiltins x
  nolimit : base.NoLimit

structure Cx where
  prog : Program
  w : World
  K : PySem.W.Frag
  mg : Str → Option Value
  base : Heap
  A : Around
  N : List Str
  s₀ : Shared
  H₀ : Hp
  env : Env
  outer : List Env
  stack : List Env
  ex : List Addr
  fn : Str → Bool
  calm : Bool
  pn : List (Addr × Obj)
  xe : Value → Shared → Prop
def frs (l : List Env) : List Addr := l.filterMap (·.frame)
abbrev Cx.fs (X : Cx) : List Addr := frs X.outer

def Vis (sc : Scope) (x : Str) : Prop := sc.names.lookup x = some .local ∨ sc.names.lookup x = some .cell ∨ sc.names.lookup x = some .free
def Loc (sc : Scope) (x : Str) : Prop := sc.names.lookup x = some .local ∨ sc.names.lookup x = some .cell
def Look (env : Env) (h : Heap) (m : Str → Option Value) (x : Str) (u : Value) : Prop :=
  (env.kindOf x = some .local ∧ m x = some u) ∨ ((env.kindOf x = some .cell ∨ env.kindOf x = some .free) ∧ ∃ c, env.cells.lookup x = some c ∧ h.IsCell c (some u))

structure Cx.Ok (X : Cx) : Prop where
  mod : Mod X.K X.mg X.base
  kind : X.env.scope.kind = .function
  glob : X.env.globals = mainGlobals
  blt : X.env.builtins = builtinsNs
  above : X.s₀.heap.objs.size ≤ X.env.locals
  inj : ∀ x y c, X.env.cells.lookup x = some c → X.env.cells.lookup y = some c → x = y
  has : ∀ x, (X.env.kindOf x = some .cell ∨ X.env.kindOf x = some .free) → ∃ c, X.env.cells.lookup x = some c
  cab : ∀ x c, X.fn x = true → X.env.cells.lookup x = some c → X.s₀.heap.objs.size ≤ c
  hd : X.calm = true → X.A.handled = none
  frames : X.A.frames = some X.stack
  stk : X.stack = X.outer ∨ (X.stack = X.env :: X.outer ∧ X.env.frame = some X.env.locals)
  exf : ∀ b ∈ X.ex, b ≠ X.env.locals ∧ ∀ x c, X.env.cells.lookup x = some c → c ≠ b
  bs : ∀ b o, X.base.get? b = some o → X.s₀.heap.get? b = some o ∧ X.H₀ b = none
  bsz : X.base.objs.size ≤ X.s₀.heap.objs.size
  noex : ∀ b o, X.base.get? b = some o → b ∉ X.ex
  exfs : ∀ b ∈ X.ex, b ∉ X.fs
  funs : X.s₀.heap.FunFrames X.base X.outer
  frf : ∀ b ∈ X.fs, X.H₀ b = none

structure Inv (X : Cx) (pins : List (Addr × Obj)) (σ : List (Option V)) (H : Hp) (s : Shared) : Prop where
  ok : X.Ok
  os : s.os = X.s₀.os
  bare : AllBare s.gens
  base : Un X.fs X.ex X.H₀ H X.s₀.heap s.heap
  loc : ∃ m, s.heap.Ns X.env.locals m ∧ ∀ (i : Nat) (x : Str) (v : V), X.N[i]? = some x → σ[i]? = some (some v) → Vis X.env.scope x → ∃ u, RelV v u ∧ Look X.env s.heap m x u
  cell : ∀ x c, X.env.cells.lookup x = some c → ∃ v, s.heap.IsCell c v
  free : H X.env.locals = none
  freeC : ∀ x c, X.env.cells.lookup x = some c → H c = none
  pin : ∀ p ∈ X.pn ++ pins, s.heap.get? p.1 = some p.2 ∧ H p.1 = none ∧ p.1 ≠ X.env.locals ∧ p.1 ∉ X.fs ∧ ∀ v, p.2.data ≠ .cell v
  hok : HOk X.prog X.w H s.heap
  len : σ.length = X.N.length

section
variable {X : Cx} {pins : List (Addr × Obj)} {σ : List (Option V)} {H H' : Hp} {s : Shared} {h' : Heap}

theorem Cx.Ok.nofr (ok : X.Ok) {b : Addr} {o : Obj} (e : X.base.get? b = some o) : b ∉ X.fs := fun hb => by
  have := (ok.funs.mem hb).1
  rw [e] at this; cases this
theorem Inv.bs (I : Inv X pins σ H s) : ∀ b o, X.base.get? b = some o → s.heap.get? b = some o ∧ H b = none := fun b o e =>
  ⟨I.base.keep b o (I.ok.bs b o e).1 (I.ok.bs b o e).2 (I.ok.nofr e) (I.ok.noex b o e), I.base.free b o (I.ok.bs b o e).1 (I.ok.bs b o e).2 (I.ok.noex b o e)⟩
theorem Inv.bk (I : Inv X pins σ H s) : ∀ b o, X.base.get? b = some o → s.heap.get? b = some o := fun b o e => (I.bs b o e).1
theorem Inv.mod (I : Inv X pins σ H s) : Mod X.K X.mg X.base := I.ok.mod
theorem Inv.kIn (I : Inv X pins σ H s) : X.K.In s.heap := I.ok.mod.kin.keeps I.bk
theorem Inv.nolimit (I : Inv X pins σ H s) : s.heap.NoLimit := I.ok.mod.nolimit.keeps I.bk
theorem Inv.fr (I : Inv X pins σ H s) : ∃ m, Fr X.base X.env.locals s.heap m :=
  let ⟨m, hn, _⟩ := I.loc
  ⟨m, hn, I.bk, Nat.le_trans I.ok.bsz I.ok.above⟩
theorem Inv.lt (I : Inv X pins σ H s) : X.env.locals < s.heap.objs.size := let ⟨_, hn, _⟩ := I.loc; hn.lt
theorem Inv.sz (I : Inv X pins σ H s) : X.s₀.heap.objs.size ≤ s.heap.objs.size := Nat.le_trans I.ok.above (Nat.le_of_lt I.lt)
theorem Inv.nofs (I : Inv X pins σ H s) {a : Addr} (h : s.heap.objs.size ≤ a) : a ∉ X.fs := fun hb => by
  obtain ⟨_, o, ho, _⟩ := I.ok.funs.mem hb
  exact absurd (Nat.lt_of_lt_of_le (Heap.lt_size ho) (Nat.le_trans I.sz h)) (Nat.lt_irrefl _)
theorem Inv.cne (I : Inv X pins σ H s) : ∀ x c, X.env.cells.lookup x = some c → c ≠ X.env.locals := fun x c e z => by
  obtain ⟨v, o, ho, hd⟩ := I.cell x c e
  obtain ⟨m, ⟨o', es, ep, ho', hd', _⟩, _⟩ := I.loc
  rw [z, ho'] at ho; cases ho; rw [hd'] at hd; cases hd
theorem Inv.funs (I : Inv X pins σ H s) : s.heap.FunFrames X.base X.outer := by
  have all : ∀ (l : List Env), (∀ b ∈ frs l, b ∈ X.fs) → X.s₀.heap.FunFrames X.base l → s.heap.FunFrames X.base l := by
    intro l
    induction l with
    | nil => intro _ _; trivial
    | cons env r ih =>
      intro hs hl
      obtain ⟨hk, ⟨L, o, hf, hn, ho, hd⟩, hr⟩ := hl
      have hL : L ∈ X.fs := hs L (by unfold frs; rw [List.filterMap_cons, hf]; exact List.mem_cons_self)
      obtain ⟨sl, e⟩ := I.base.slot L o ho (I.ok.frf L hL) hL fun z => I.ok.exfs L z hL
      exact ⟨hk, ⟨L, _, hf, hn, e, hd⟩, ih (fun b hb => hs b (by unfold frs; rw [List.filterMap_cons, hf]; exact List.mem_cons_of_mem _ hb)) hr⟩
  exact all X.outer (fun _ hb => hb) I.ok.funs

theorem Inv.stack (I : Inv X pins σ H s) : s.heap.FunFrames X.base X.stack := by
  rcases I.ok.stk with e | ⟨e, hf⟩
  · rw [e]; exact I.funs
  · rw [e]
    obtain ⟨m, hn, _⟩ := I.loc
    refine .cons (by rw [I.ok.kind]; decide) hf hn ?_ I.funs
    exact Heap.get?_none_of_le (Nat.le_trans I.ok.bsz I.ok.above)
theorem Inv.stkSub (I : Inv X pins σ H s) : ∀ b ∈ frs X.stack, b ∈ X.env.locals :: X.fs := fun b hb => by
  rcases I.ok.stk with e | ⟨e, hf⟩
  · rw [e] at hb; exact List.mem_cons_of_mem _ hb
  · rw [e] at hb
    unfold frs at hb
    rw [List.filterMap_cons, hf] at hb
    exact hb
theorem Inv.stkFree (I : Inv X pins σ H s) : ∀ b ∈ frs X.stack, H b = none := fun b hb => by
  rcases List.mem_cons.mp (I.stkSub b hb) with e | hb
  · rw [e]; exact I.free
  · obtain ⟨_, o, ho, _⟩ := I.ok.funs.mem hb
    exact I.base.free b o ho (I.ok.frf b hb) fun z => I.ok.exfs b z hb

theorem Inv.step {g' : Array GenState} {t' : Nat} {d' : Drawn} {ch : List Addr} (I : Inv X pins σ H s)
    (hch : ∀ b ∈ ch, (b ∈ X.ex ∨ X.s₀.heap.objs.size ≤ b) ∧ b ≠ X.env.locals ∧ (∀ x c, X.env.cells.lookup x = some c → c ≠ b) ∧ ∀ p ∈ X.pn ++ pins, p.1 ≠ b)
    (keep : ∀ b o, b ≠ X.env.locals → b ∉ X.fs → b ∉ ch → s.heap.get? b = some o → H b = none → h'.get? b = some o)
    (slot : ∀ b o, b ≠ X.env.locals → b ∈ X.fs → b ∉ ch → s.heap.get? b = some o → H b = none → ∃ sl, h'.get? b = some { o with slots := sl }) (free : ∀ b o, b ∉ ch → s.heap.get? b = some o → H b = none → H' b = none)
    (there : ∀ b o, b ∉ ch → s.heap.get? b = some o → ∃ o', h'.get? b = some o')
    (tups : ∀ b xs, H b = some (.tup xs) → H' b = some (.tup xs)) (frzs : ∀ b o u, H b = some (.frz o u) → H' b = some (.frz o u)) (tbls : ∀ b ps, H b = some (.tbl ps) → ∃ more, H' b = some (.tbl (ps ++ more)))
    (ns : ∀ m, s.heap.Ns X.env.locals m → h'.Ns X.env.locals m) (hok : HOk X.prog X.w H' h') (hg : AllBare g') :
    Inv X pins σ H' { s with heap := h', gens := g', drawn := d', toks := t' } := by
  have neL : ∀ b o, X.s₀.heap.get? b = some o → b ≠ X.env.locals := fun b o e => Nat.ne_of_lt (Nat.lt_of_lt_of_le (Heap.lt_size e) I.ok.above)
  have neC : ∀ b o, X.s₀.heap.get? b = some o → b ∉ X.ex → b ∉ ch := fun b o e hx hb => by
    rcases (hch b hb).1 with z | z
    · exact hx z
    · exact absurd (Nat.lt_of_lt_of_le (Heap.lt_size e) z) (Nat.lt_irrefl _)
  have cellK : ∀ x c, X.env.cells.lookup x = some c → ∀ v, s.heap.IsCell c v → h'.IsCell c v := fun x c e v ⟨o, ho, hd⟩ => by
    have nch : c ∉ ch := fun z => (hch c z).2.2.1 x c e rfl
    by_cases hc : c ∈ X.fs
    · obtain ⟨sl, q⟩ := slot c o (I.cne x c e) hc nch ho (I.freeC x c e)
      exact ⟨_, q, hd⟩
    · exact ⟨o, keep c o (I.cne x c e) hc nch ho (I.freeC x c e), hd⟩
  refine ⟨I.ok, I.os, hg, ⟨fun b o e n hb hx => ?_, fun b o e n hb hx => ?_, fun b o e n hx => ?_, fun b o e hx => ?_, fun b xs e => tups b xs (I.base.tups b xs e), fun b o xs e => frzs b o xs (I.base.frzs b o xs e), fun b ps e => ?_⟩, ?_, fun x c e => ?_, ?_, fun x c e => ?_, fun p hp => ?_, hok, I.len⟩
  · exact keep b o (neL b o e) hb (neC b o e hx) (I.base.keep b o e n hb hx) (I.base.free b o e n hx)
  · obtain ⟨sl, e1⟩ := I.base.slot b o e n hb hx
    obtain ⟨sl', e2⟩ := slot b _ (neL b o e) hb (neC b o e hx) e1 (I.base.free b o e n hx)
    exact ⟨sl', e2⟩
  · obtain ⟨o', e1⟩ := I.base.there b o e hx
    exact free b o' (neC b o e hx) e1 (I.base.free b o e n hx)
  · obtain ⟨o', e1⟩ := I.base.there b o e hx
    exact there b o' (neC b o e hx) e1
  · obtain ⟨m1, e1⟩ := I.base.tbls b ps e
    obtain ⟨m2, e2⟩ := tbls b _ e1
    exact ⟨m1 ++ m2, by rw [e2, Array.append_assoc]⟩
  · obtain ⟨m, hn, hl⟩ := I.loc
    refine ⟨m, ns m hn, fun i x v e1 e2 e3 => ?_⟩
    obtain ⟨u, r, l⟩ := hl i x v e1 e2 e3
    refine ⟨u, r, ?_⟩
    rcases l with l | ⟨k, c, e, z⟩
    · exact .inl l
    · exact .inr ⟨k, c, e, cellK x c e _ z⟩
  · obtain ⟨v, z⟩ := I.cell x c e
    exact ⟨v, cellK x c e v z⟩
  · obtain ⟨m, ⟨o, _, _, ho, _⟩, _⟩ := I.loc
    exact free _ o (fun z => (hch _ z).2.1 rfl) ho I.free
  · obtain ⟨v, o, ho, hd⟩ := I.cell x c e
    exact free c o (fun z => (hch c z).2.2.1 x c e rfl) ho (I.freeC x c e)
  · obtain ⟨e, n, ne, nf, d⟩ := I.pin p hp
    have nch : p.1 ∉ ch := fun z => (hch p.1 z).2.2.2 p hp rfl
    exact ⟨keep p.1 p.2 ne nf nch e n, free p.1 p.2 nch e n, ne, nf, d⟩
theorem Inv.un {t' : Nat} (I : Inv X pins σ H s) (u : Un X.fs [] H H' s.heap h') (hok : HOk X.prog X.w H' h') : Inv X pins σ H' { s with heap := h', toks := t' } := by
  obtain ⟨m, ⟨o, es, ep, ho, r⟩, _⟩ := id I.loc
  obtain ⟨sl, hL⟩ := u.any ho I.free (by simp)
  exact I.step (g' := s.gens) (d' := s.drawn) (ch := []) (fun _ z => nomatch z) (fun b o _ hb _ e n => u.keep b o e n hb (by simp)) (fun b o _ hb _ e n => u.slot b o e n hb (by simp)) (fun b o _ e n => u.free b o e n (by simp)) (fun b o _ e => u.there b o e (by simp)) u.tups u.frzs u.tbls (fun m' hm => by
    obtain ⟨o', es', ep', ho', r'⟩ := hm
    rw [ho] at ho'; cases ho'
    exact ⟨_, es', ep', hL, r'⟩) hok I.bare
theorem Inv.call {g' : Array GenState} {t' : Nat} {d' : Drawn} {ch : List Addr} (I : Inv X pins σ H s) (u : Un (frs X.stack) ch H H' s.heap h') (hok : HOk X.prog X.w H' h') (hg : AllBare g')
    (hch : ∀ b ∈ ch, (b ∈ X.ex ∨ X.s₀.heap.objs.size ≤ b) ∧ b ≠ X.env.locals ∧ (∀ x c, X.env.cells.lookup x = some c → c ≠ b) ∧ ∀ p ∈ X.pn ++ pins, p.1 ≠ b) :
    Inv X pins σ H' { s with heap := h', gens := g', drawn := d', toks := t' } := by
  obtain ⟨m, ⟨o, es, ep, ho, r⟩, _⟩ := id I.loc
  obtain ⟨sl, hL⟩ := u.any ho I.free fun z => (hch _ z).2.1 rfl
  exact I.step (ch := ch) hch (fun b o hL hb hc e n => u.keep b o e n (fun z => (List.mem_cons.mp (I.stkSub b z)).elim hL hb) hc) (fun b o _ _ hc e n => u.any e n hc) (fun b o hc e n => u.free b o e n hc) (fun b o hc e => u.there b o e hc) u.tups u.frzs u.tbls (fun m' hm => by
    obtain ⟨o', es', ep', ho', r'⟩ := hm
    rw [ho] at ho'; cases ho'
    exact ⟨_, es', ep', hL, r'⟩) hok hg
theorem Inv.turned {t' : Nat} {it : Addr} (I : Inv X pins σ H s) (k : ∀ b o, b ≠ it → s.heap.get? b = some o → h'.get? b = some o) (hn : H it = none) (hL : it ≠ X.env.locals)
    (h1 : it ∈ X.ex ∨ X.s₀.heap.objs.size ≤ it) (h2 : ∀ x c, X.env.cells.lookup x = some c → c ≠ it) (h3 : ∀ p ∈ X.pn ++ pins, p.1 ≠ it) : Inv X pins σ H { s with heap := h', toks := t' } := by
  have nit : ∀ b u, H b = some u → b ≠ it := fun b u e z => by rw [z, hn] at e; cases e
  refine I.step (g' := s.gens) (d' := s.drawn) (ch := [it]) (fun b hb => ?_) (fun b o _ _ hc e _ => k b o (fun z => hc (by simp [z])) e) (fun b o _ _ hc e _ => ⟨o.slots, k b o (fun z => hc (by simp [z])) e⟩) (fun _ _ _ _ n => n)
    (fun b o hc e => ⟨o, k b o (fun z => hc (by simp [z])) e⟩) (fun _ _ e => e) (fun _ _ _ e => e) (fun b ps e => ⟨#[], by rw [e]; simp⟩) (fun m hm => ?_) (fun b u e => ?_) I.bare
  · have e : b = it := by simpa using hb
    subst e
    exact ⟨h1, hL, h2, h3⟩
  · obtain ⟨o, es, ep, ho, r⟩ := hm
    exact ⟨o, es, ep, k _ o (Ne.symm hL) ho, r⟩
  · refine (I.hok b u e).stay (fun c v hc q => k c v ?_ q) (fun _ q => q) fun _ _ q => q
    rcases hc with z | z
    · rw [z]; exact nit b u e
    · exact nit c _ z
theorem Inv.tok (I : Inv X pins σ H s) (t : Nat) : Inv X pins σ H { s with toks := t } := I.un (h' := s.heap) (t' := t) Un.refl I.hok
theorem Inv.kept {t' : Nat} (I : Inv X pins σ H s) (k : ∀ b u, s.heap.get? b = some u → h'.get? b = some u) : Inv X pins σ H { s with heap := h', toks := t' } := I.un (Un.kept k) (I.hok.kept k)
theorem Inv.laid {a : Addr} {o : HO} {t' : Nat} (I : Inv X pins σ H s) (k : ∀ b u, s.heap.get? b = some u → h'.get? b = some u) (hp : s.heap.objs.size ≤ a) (new : ObjOk X.prog X.w (upd H a o) h' a o) :
    Inv X pins σ (upd H a o) { s with heap := h', toks := t' } := I.un (Un.laid k hp (I.hok.fresh hp)) (I.hok.laid k hp new)
theorem Inv.write {x e : Addr} {o : HO} {t' : Nat} (I : Inv X pins σ H s) (mu : Mut (H x)) (he : e = x ∨ H e = some (.own x)) (k : ∀ b u, b ≠ e → s.heap.get? b = some u → h'.get? b = some u) (heo : ∃ u, h'.get? e = some u)
    (new : ObjOk X.prog X.w (upd H x o) h' x o) : Inv X pins σ (upd H x o) { s with heap := h', toks := t' } := I.un (Un.write mu he k heo) (I.hok.write mu he k heo new)
theorem Inv.pins_of {pins' : List (Addr × Obj)} (I : Inv X pins σ H s) (h : ∀ p ∈ pins', s.heap.get? p.1 = some p.2 ∧ H p.1 = none ∧ p.1 ≠ X.env.locals ∧ p.1 ∉ X.fs ∧ ∀ v, p.2.data ≠ .cell v) : Inv X pins' σ H s :=
  ⟨I.ok, I.os, I.bare, I.base, I.loc, I.cell, I.free, I.freeC, fun p hp => (List.mem_append.mp hp).elim (fun z => I.pin p (List.mem_append_left _ z)) (h p), I.hok, I.len⟩

theorem nodup_ix {N : List Str} (hN : N.Nodup) {i j : Nat} {x : Str} (a : N[i]? = some x) (b : N[j]? = some x) : i = j := by
  obtain ⟨h1, e1⟩ := List.getElem?_eq_some_iff.mp a
  obtain ⟨h2, e2⟩ := List.getElem?_eq_some_iff.mp b
  exact (List.getElem_inj hN).mp (e1.trans e2.symm)

theorem store_ok2 {M : Model} {A : Around} {E : Value → Shared → Prop} {i : Nat} {x : Str} {v : V} {u : Value} {Q : Unit → Shared → Prop} (I : Inv X pins σ H s) (hN : X.N.Nodup) (hi : X.N[i]? = some x) (hx : Loc X.env.scope x) (r : RelV v u)
    (h : ∀ s', Inv X pins (σ.set i (some v)) H s' → (∃ a, Heap.SameBut a s.heap s'.heap ∧ (a = X.env.locals ∨ X.env.cells.lookup x = some a)) → Q () s') (hf : X.fn x = true ∨ X.env.scope.names.lookup x = some .local := by first | exact .inl rfl | exact .inr rfl | assumption) : wpAny M A (storeName X.env x u) Q E s := by
  obtain ⟨m, hn, hl⟩ := id I.loc
  have hcls : (X.env.scope.kind == .class || (X.env.scope.kind == .module && X.env.locals != X.env.globals)) = false := by rw [I.ok.kind]; rfl
  have hiσ : i < σ.length := by rw [I.len]; exact (List.getElem?_eq_some_iff.mp hi).1
  have cne := I.cne
  have tracked : ∀ {a : Addr} {h' : Heap}, (∃ o, s.heap.get? a = some o ∧ H a = none) → Heap.SameBut a s.heap h' → HOk X.prog X.w H h' := fun {a h'} ha hs b ob e => by
    obtain ⟨_, _, hfree⟩ := ha
    refine (I.hok b ob e).stay (fun c w' hc q => (hs.2 c ?_).trans q) (fun _ q => q) fun _ _ q => q
    rintro rfl
    rcases hc with rfl | hc
    · rw [hfree] at e; cases e
    · rw [hfree] at hc; cases hc
  rcases hx with hk | hk
  · refine wpAny_storeName_local hk hn (fun h' hn' hs => ?_) hcls
    obtain ⟨oL, _, _, hoL, _⟩ := id hn
    refine h _ ⟨I.ok, I.os, I.bare, ⟨fun b o e n hb hx => ?_, fun b o e n hb hx => ?_, I.base.free, fun b o e hx => ?_, I.base.tups, I.base.frzs, I.base.tbls⟩, ⟨_, hn', fun j y v' e1 e2 e3 => ?_⟩, fun y c e => ?_, I.free, I.freeC, fun p hp => ?_, tracked ⟨oL, hoL, I.free⟩ hs, by simpa using I.len⟩ ⟨_, hs, .inl rfl⟩
    · exact (hs.2 b (Nat.ne_of_lt (Nat.lt_of_lt_of_le (Heap.lt_size e) I.ok.above))).trans (I.base.keep b o e n hb hx)
    · obtain ⟨sl, e1⟩ := I.base.slot b o e n hb hx
      exact ⟨sl, (hs.2 b (Nat.ne_of_lt (Nat.lt_of_lt_of_le (Heap.lt_size e) I.ok.above))).trans e1⟩
    · obtain ⟨o', e1⟩ := I.base.there b o e hx
      exact ⟨o', (hs.2 b (Nat.ne_of_lt (Nat.lt_of_lt_of_le (Heap.lt_size e) I.ok.above))).trans e1⟩
    · by_cases hj : j = i
      · subst hj
        rw [hi] at e1; cases e1
        rw [List.getElem?_set_self hiσ] at e2
        cases e2
        exact ⟨u, r, .inl ⟨hk, by simp⟩⟩
      · rw [List.getElem?_set_ne (Ne.symm hj)] at e2
        obtain ⟨u', r', q⟩ := hl j y v' e1 e2 e3
        refine ⟨u', r', ?_⟩
        rcases q with ⟨k, e⟩ | ⟨k, c, e, z⟩
        · refine .inl ⟨k, ?_⟩
          have : y ≠ x := fun e => hj (nodup_ix hN e1 (e ▸ hi))
          simp [this, e]
        · exact .inr ⟨k, c, e, z.sameBut hs (cne y c e)⟩
    · obtain ⟨w', z⟩ := I.cell y c e
      exact ⟨w', z.sameBut hs (cne y c e)⟩
    · obtain ⟨e, n, ne, nf, d⟩ := I.pin p hp
      exact ⟨(hs.2 p.1 ne).trans e, n, ne, nf, d⟩
  · have hfn : X.fn x = true := by
      rcases hf with z | z
      · exact z
      · rw [z] at hk; cases hk
    obtain ⟨c, hc⟩ := I.ok.has x (.inl hk)
    obtain ⟨w', z⟩ := I.cell x c hc
    refine wpAny_storeName_cell I.ok.kind hk hc z (fun h' hc' hs => ?_)
    obtain ⟨oc, hoc, hocd⟩ := id z
    refine h { s with heap := h' } ⟨I.ok, I.os, I.bare, ⟨fun b o e n hb hx => ?_, fun b o e n hb hx => ?_, I.base.free, fun b o e hx => ?_, I.base.tups, I.base.frzs, I.base.tbls⟩, ⟨m, hn.sameBut hs (Ne.symm (cne x c hc)), fun j y v' e1 e2 e3 => ?_⟩, fun y c' e => ?_, I.free, I.freeC, fun p hp => ?_, tracked ⟨oc, hoc, I.freeC x c hc⟩ hs, by simpa using I.len⟩ ⟨c, hs, .inr hc⟩
    · exact (hs.2 b (Nat.ne_of_lt (Nat.lt_of_lt_of_le (Heap.lt_size e) (I.ok.cab x c hfn hc)))).trans (I.base.keep b o e n hb hx)
    · obtain ⟨sl, e1⟩ := I.base.slot b o e n hb hx
      exact ⟨sl, (hs.2 b (Nat.ne_of_lt (Nat.lt_of_lt_of_le (Heap.lt_size e) (I.ok.cab x c hfn hc)))).trans e1⟩
    · obtain ⟨o', e1⟩ := I.base.there b o e hx
      exact ⟨o', (hs.2 b (Nat.ne_of_lt (Nat.lt_of_lt_of_le (Heap.lt_size e) (I.ok.cab x c hfn hc)))).trans e1⟩
    · by_cases hj : j = i
      · subst hj
        rw [hi] at e1; cases e1
        rw [List.getElem?_set_self hiσ] at e2
        cases e2
        exact ⟨u, r, .inr ⟨.inl hk, c, hc, hc'⟩⟩
      · rw [List.getElem?_set_ne (Ne.symm hj)] at e2
        obtain ⟨u', r', q⟩ := hl j y v' e1 e2 e3
        refine ⟨u', r', ?_⟩
        rcases q with q | ⟨k, c', e, z'⟩
        · exact .inl q
        · refine .inr ⟨k, c', e, z'.sameBut hs ?_⟩
          rintro rfl
          exact hj (nodup_ix hN e1 (I.ok.inj _ _ _ e hc ▸ hi))
    · by_cases hcc : c' = c
      · subst hcc; exact ⟨_, hc'⟩
      · obtain ⟨w2, z2⟩ := I.cell y c' e
        exact ⟨w2, z2.sameBut hs hcc⟩
    · obtain ⟨e, n, ne, nf, d⟩ := I.pin p hp
      refine ⟨(hs.2 p.1 ?_).trans e, n, ne, nf, d⟩
      intro q
      rw [q, hoc] at e
      have q' : oc = p.2 := Option.some.inj e
      exact d w' (by rw [← q']; exact hocd)
theorem store_ok {M : Model} {A : Around} {E : Value → Shared → Prop} {i : Nat} {x : Str} {v : V} {u : Value} {Q : Unit → Shared → Prop} (I : Inv X pins σ H s) (hN : X.N.Nodup) (hi : X.N[i]? = some x) (hx : Loc X.env.scope x) (r : RelV v u)
    (h : ∀ s', Inv X pins (σ.set i (some v)) H s' → Q () s') (hf : X.fn x = true ∨ X.env.scope.names.lookup x = some .local := by first | exact .inl rfl | exact .inr rfl | assumption) : wpAny M A (storeName X.env x u) Q E s :=
  store_ok2 I hN hi hx r (fun s' I' _ => h s' I') hf
theorem Inv.call' {s' : Shared} {ch : List Addr} (I : Inv X pins σ H s) (ho : s'.os = s.os) (u : Un (frs X.stack) ch H H' s.heap s'.heap) (hok : HOk X.prog X.w H' s'.heap) (hg : AllBare s'.gens)
    (hch : ∀ b ∈ ch, (b ∈ X.ex ∨ X.s₀.heap.objs.size ≤ b) ∧ b ≠ X.env.locals ∧ (∀ x c, X.env.cells.lookup x = some c → c ≠ b) ∧ ∀ p ∈ X.pn ++ pins, p.1 ≠ b) : Inv X pins σ H' s' := by
  obtain ⟨h', g', d', t', o'⟩ := s'
  have e : o' = s.os := ho
  subst e
  exact I.call (g' := g') (t' := t') (d' := d') u hok hg hch
end

abbrev XK := Value → Option Addr → Hp → Prop
abbrev St := List (Option V)
abbrev VK := V → Hp → Prop
abbrev TE := St → Hp → VK → Prop
abbrev TT := St → Hp → (Bool → Hp → Prop) → Prop
abbrev TA := St → Hp → (List V → Hp → Prop) → Prop
structure Ends where
  nx : St → Hp → Prop
  rt : VK
  bk : St → Hp → Prop := fun _ _ => False
  ct : St → Hp → Prop := fun _ _ => False
abbrev TS := Ends → St → Hp → Prop

def EP (X : Cx) (pins : List (Addr × Obj)) (σ : St) (Q : VK) (u : Value) (s' : Shared) : Prop := ∃ v H', Inv X pins σ H' s' ∧ RelV v u ∧ Q v H'
def TP (X : Cx) (pins : List (Addr × Obj)) (σ : St) (Q : Bool → Hp → Prop) (b : Bool) (s' : Shared) : Prop := ∃ H', Inv X pins σ H' s' ∧ Q b H'
def AP (X : Cx) (pins : List (Addr × Obj)) (σ : St) (Q : List V → Hp → Prop) (us : List Value) (s' : Shared) : Prop := ∃ vs H', Inv X pins σ H' s' ∧ Vals vs us ∧ Q vs H'
def SP (X : Cx) (pins : List (Addr × Obj)) (D : Ends) (f : Flow) (s' : Shared) : Prop :=
  match f with
  | .next => ∃ σ' H', Inv X pins σ' H' s' ∧ D.nx σ' H'
  | .brk => ∃ σ' H', Inv X pins σ' H' s' ∧ D.bk σ' H'
  | .cont => ∃ σ' H', Inv X pins σ' H' s' ∧ D.ct σ' H'
  | .ret u => ∃ v σ' H', Inv X pins σ' H' s' ∧ RelV v u ∧ D.rt v H'

def PE (X : Cx) (e : Expr) (t : TE) : Prop :=
  ∀ (pins : List (Addr × Obj)) (s : Shared) (σ : St) (H : Hp) (Q : VK), Inv X pins σ H s → t σ H Q → wpAny (model X.prog X.w) X.A (eval e X.env) (EP X pins σ Q) X.xe s
def PT (X : Cx) (e : Expr) (t : TT) : Prop :=
  ∀ (pins : List (Addr × Obj)) (s : Shared) (σ : St) (H : Hp) (Q : Bool → Hp → Prop), Inv X pins σ H s → t σ H Q → wpAny (model X.prog X.w) X.A (isTrue e X.env (eval e X.env)) (TP X pins σ Q) X.xe s
def PW (X : Cx) (e : Expr) (t : TT) : Prop :=
  ∀ (whole : Sem Value) (pins : List (Addr × Obj)) (s : Shared) (σ : St) (H : Hp) (Q : Bool → Hp → Prop), Inv X pins σ H s → t σ H Q → wpAny (model X.prog X.w) X.A (isTrue e X.env whole) (TP X pins σ Q) X.xe s
theorem PW.pt {X : Cx} {e : Expr} {t : TT} (h : PW X e t) : PT X e t := h _
def PA (X : Cx) (es : List Expr) (t : TA) : Prop :=
  ∀ (pos : Pos) (pins : List (Addr × Obj)) (s : Shared) (σ : St) (H : Hp) (Q : List V → Hp → Prop), Inv X pins σ H s → t σ H Q → wpAny (model X.prog X.w) X.A (spliced (backTo pos (starEach es X.env))) (AP X pins σ Q) X.xe s
def PS (X : Cx) (st : Stmt) (t : TS) : Prop :=
  ∀ (pins : List (Addr × Obj)) (s : Shared) (σ : St) (H : Hp) (D : Ends), Inv X pins σ H s → t D σ H → wpAny (model X.prog X.w) X.A (exec st X.env) (SP X pins D) X.xe s
def PSs (X : Cx) (st : List Stmt) (t : TS) : Prop :=
  ∀ (pins : List (Addr × Obj)) (s : Shared) (σ : St) (H : Hp) (D : Ends), Inv X pins σ H s → t D σ H → wpAny (model X.prog X.w) X.A (execs st X.env) (SP X pins D) X.xe s
theorem thn {α : Type} {t : Sem α} {Q Q' : α → Shared → Prop} {M : Model} {A : Around} {E : Value → Shared → Prop} {s : Shared} (h : wpAny M A t Q E s) (hQ : ∀ a s, Q a s → Q' a s) : wpAny M A t Q' E s := wpAny_mono h hQ fun _ _ x => x
end L2

namespace L2
open PySem PySem.Spec PyProof.Rows
section
variable {X : Cx}

def tVar (i : Nat) : TE := fun σ H Q => ∃ v, σ[i]? = some (some v) ∧ Q v H
def tC (v : V) : TE := fun _ H Q => Q v H
theorem pe_var {i : Nat} {x : Str} {pos : Pos} (hN : X.N[i]? = some x) (hv : Vis X.env.scope x) (hd : (x == ("__debug__" : Str)) = false := by decide) (hcd : (x == ("__classdict__" : Str)) = false := by decide) : PE X (.Name x pos) (tVar i) := by
  intro pins s σ H Q I h
  obtain ⟨v, e, h⟩ := h
  obtain ⟨m, hn, hl⟩ := I.loc
  obtain ⟨u, r, l⟩ := hl i x v hN e hv
  have fin : EP X pins σ Q u s := ⟨v, H, I, r, h⟩
  rcases l with ⟨hk, hm⟩ | ⟨hk, c, hc, hcell⟩
  · exact wpAny_Name (wpAny_loadName_local I.ok.kind hk hn hm fin) hd
  · rcases hk with hk | hk
    · exact wpAny_Name (wpAny_loadName_cell I.ok.kind hk hc hcell fin) hd
    · exact wpAny_Name (wpAny_loadName_free I.ok.kind hk hc hcell fin hcd) hd
theorem pe_int {i j pos} : PE X (.Constant (.int i) j pos) (tC (.int i)) := fun _ _ _ H _ I h => wpAny_Constant_int ⟨.int i, H, I.tok _, ⟨_, rfl⟩, h⟩
theorem pe_bl {b j pos} : PE X (.Constant (.bool b) j pos) (tC (.bl b)) := fun _ _ _ H _ I h => Constant_bool ⟨.bl b, H, I, rfl, h⟩
theorem pe_non {j pos} : PE X (.Constant .none j pos) (tC .non) := fun _ _ _ H _ I h => Constant_none ⟨.non, H, I, rfl, h⟩
theorem pe_str {x j pos} : PE X (.Constant (.str x) j pos) (tC (.str x)) := fun _ _ _ H _ I h => Calls.Constant_str ⟨.str x, H, I.tok _, ⟨_, rfl⟩, h⟩

def Gl (X : Cx) (x : Str) : Prop := X.env.kindOf x = some .globalImplicit
theorem ld_glob {E : Value → Shared → Prop} {pins : List (Addr × Obj)} {s : Shared} {σ : St} {H : Hp} {x : Str} {u : Value} {pos : Pos} {Q : Value → Shared → Prop} (I : Inv X pins σ H s) (hg : Gl X x) (hm : X.mg x = some u) (h : Q u s)
    (hd : (x == ("__debug__" : Str)) = false := by decide) : wpAny (model X.prog X.w) X.A (eval (.Name x pos) X.env) Q E s :=
  Calls.Name_function_global I.ok.kind hg (Calls.loadGlobal_global (by rw [I.ok.glob]; exact I.mod.glob.keeps I.bk) hm h) hd
theorem ld_blt {E : Value → Shared → Prop} {pins : List (Addr × Obj)} {s : Shared} {σ : St} {H : Hp} {x : Str} {u : Value} {pos : Pos} {Q : Value → Shared → Prop} (I : Inv X pins σ H s) (hg : Gl X x) (hm : X.mg x = none) (hv : bootBuiltins x = some u) (h : Q u s)
    (hn : x ≠ "__name__" := by decide) (hd : (x == ("__debug__" : Str)) = false := by decide) : wpAny (model X.prog X.w) X.A (eval (.Name x pos) X.env) Q E s := by
  obtain ⟨mb, h1, h2⟩ := I.mod.blt
  exact Calls.Name_function_global I.ok.kind hg (Calls.loadGlobal_builtin (by rw [I.ok.glob]; exact I.mod.glob.keeps I.bk) hm (by rw [I.ok.blt]; exact h1.keeps I.bk) ((h2 x hn).trans hv) h) hd
theorem pe_bltn {x : Str} {v : V} {u : Value} {pos : Pos} (hg : Gl X x) (hm : X.mg x = none) (hv : bootBuiltins x = some u) (r : RelV v u) (hn : x ≠ "__name__" := by decide) (hd : (x == ("__debug__" : Str)) = false := by decide) : PE X (.Name x pos) (tC v) :=
  fun _ _ _ H _ I h => ld_blt I hg hm hv ⟨v, H, I, r, h⟩ hn hd

variable {a b : Expr} {ta tb : TE} {pos : Pos}
variable {tA tB' : TT} {rest : List Expr}
def tAnd (t u : TT) : TT := fun σ H Q => t σ H fun c H1 => if c = true then u σ H1 Q else Q false H1
def tOr (t u : TT) : TT := fun σ H Q => t σ H fun c H1 => if c = true then Q true H1 else u σ H1 Q
def tNot (t : TT) : TT := fun σ H Q => t σ H fun c H1 => Q (!c) H1
theorem pw_and1 (ha : PT X a tA) : PW X (.BoolOp .And [a] pos) tA := by
  intro wh pins s σ H Q I h
  refine isTrue_and (thn (ha pins s σ H Q I h) fun c s1 e => ?_)
  cases c with
  | true => exact isTrue_and_nil e
  | false => exact e
theorem pw_or1 (ha : PT X a tA) : PW X (.BoolOp .Or [a] pos) tA := by
  intro wh pins s σ H Q I h
  refine isTrue_or (thn (ha pins s σ H Q I h) fun c s1 e => ?_)
  cases c with
  | false => exact isTrue_or_nil e
  | true => exact e
theorem pw_and (ha : PT X a tA) (hb : PW X (.BoolOp .And (b :: rest) pos) tB') : PW X (.BoolOp .And (a :: b :: rest) pos) (tAnd tA tB') := by
  intro wh pins s σ H Q I h
  refine isTrue_and (thn (ha pins s σ H _ I h) fun c s1 ⟨H1, I1, q1⟩ => ?_)
  cases c with
  | true => exact hb wh pins s1 σ H1 Q I1 q1
  | false => exact ⟨H1, I1, q1⟩
theorem pw_or (ha : PT X a tA) (hb : PW X (.BoolOp .Or (b :: rest) pos) tB') : PW X (.BoolOp .Or (a :: b :: rest) pos) (tOr tA tB') := by
  intro wh pins s σ H Q I h
  refine isTrue_or (thn (ha pins s σ H _ I h) fun c s1 ⟨H1, I1, q1⟩ => ?_)
  cases c with
  | true => exact ⟨H1, I1, q1⟩
  | false => exact hb wh pins s1 σ H1 Q I1 q1
theorem pt_not (ha : PT X a tA) : PT X (.UnaryOp .Not a pos) (tNot tA) := by
  intro pins s σ H Q I h
  exact isTrue_not (ha pins s σ H (fun c H1 => Q (!c) H1) I h)
theorem pe_one {op} {t : TE} (h : PE X a t) : PE X (.BoolOp op [a] pos) t := fun pins s σ H Q I hw => BoolOp_one (h pins s σ H Q I hw)
def tIf (t : TT) (ta tb : TE) : TE := fun σ H Q => t σ H fun c H1 => if c = true then ta σ H1 Q else tb σ H1 Q
theorem pe_ifExp {c : Expr} (hc : PT X c tA) (ha : PE X a ta) (hb : PE X b tb) : PE X (.IfExp c a b pos) (tIf tA ta tb) := by
  intro pins s σ H Q I h
  refine wpAny_IfExp (thn (hc pins s σ H _ I h) fun d s1 ⟨H1, I1, q1⟩ => ?_)
  cases d with
  | true => exact ha pins s1 σ H1 Q I1 q1
  | false => exact hb pins s1 σ H1 Q I1 q1
end
end L2

namespace L2
open PySem PySem.Spec PyProof.Rows

def SqL (K : PySem.W.Frag) (H : Hp) (a : Addr) (xs : List V) : Prop :=
  Rd H a (.lst xs) ∨
    ∃ (o : Obj) (its : Array Value) (n : Nat), K.lookup a = some o ∧ o.cls = .type "list" ∧ o.dict = none ∧ o.data = .seq its n ∧ its.size ≤ sizeLine ∧ Vals xs its.toList
def SqT (K : PySem.W.Frag) (H : Hp) (a : Addr) (xs : List V) : Prop :=
  Rd H a (.tup xs) ∨
    ∃ (o : Obj) (its : Array Value) (n : Nat), K.lookup a = some o ∧ o.cls = .type "tuple" ∧ o.data = .seq its n ∧ its.size ≤ sizeLine ∧ Vals xs its.toList
def absV : Value → Option V
  | .none => some .non
  | .bool b => some (.bl b)
  | .int i _ => some (.int i)
  | .str x _ => some (.str x)
  | .bytes b _ => some (.byt b)
  | .float b _ => some (.flt b)
  | .ref a => some (.ref a)
  | .type n => some (.ty n)
  | _ => none
theorem RelV.abs {x : V} {u : Value} (r : RelV x u) : absV u = some x := by
  cases x with
  | non => cases r; rfl
  | bl _ => cases r; rfl
  | int _ => obtain ⟨t, rfl⟩ := r; rfl
  | str _ => obtain ⟨t, rfl⟩ := r; rfl
  | byt _ => obtain ⟨t, rfl⟩ := r; rfl
  | flt _ => obtain ⟨t, rfl⟩ := r; rfl
  | ref _ => cases r; rfl
  | ty _ => cases r; rfl
theorem RelV.inj {x y : V} {u : Value} (r : RelV x u) (q : RelV y u) : x = y := Option.some.inj (r.abs.symm.trans q.abs)
theorem Vals.inj : ∀ {xs ys : List V} {us : List Value}, Vals xs us → Vals ys us → xs = ys
  | _, _, _, .nil, .nil => rfl
  | _, _, _, .cons r t, .cons r' t' => by rw [r.inj r', Vals.inj t t']
section
variable {X : Cx} {pins : List (Addr × Obj)} {σ : St} {H : Hp} {s : Shared} {a : Addr} {xs ys : List V}
theorem SqL.of {K : PySem.W.Frag} (h : H a = some (.lst xs)) : SqL K H a xs := .inl (.inl h)
theorem SqT.of {K : PySem.W.Frag} (h : H a = some (.tup xs)) : SqT K H a xs := .inl (.inl h)
theorem Inv.list (I : Inv X pins σ H s) (h : SqL X.K H a xs) : ∃ its : List Value, Vals xs its ∧ PlainL s.heap a its.toArray ∧ xs.length ≤ sizeLine := by
  rcases h with h | ⟨o, its, n, hk, hc, hd, hs, hz, r⟩
  · obtain ⟨z, its, n, r, e⟩ := h.ok I.hok
    exact ⟨its, r, ⟨_, n, e, rfl, rfl, rfl⟩, z⟩
  · refine ⟨its.toList, r, ⟨o, n, I.kIn a o hk, hc, hd, by simpa using hs⟩, ?_⟩
    have e := r.length
    simp only [Array.length_toList] at e
    omega
theorem Inv.tuple (I : Inv X pins σ H s) (h : SqT X.K H a xs) : ∃ its : List Value, Vals xs its ∧ IsTup s.heap a its.toArray ∧ xs.length ≤ sizeLine := by
  rcases h with h | ⟨o, its, n, hk, hc, hs, hz, r⟩
  · obtain ⟨z, its, r, p⟩ := h.ok I.hok
    exact ⟨its, r, p, z⟩
  · refine ⟨its.toList, r, ⟨o, I.kIn a o hk, hc, n, by simpa using hs⟩, ?_⟩
    have e := r.length
    simp only [Array.length_toList] at e
    omega
theorem Inv.list_inj (I : Inv X pins σ H s) (h : SqL X.K H a xs) (h' : SqL X.K H a ys) : xs = ys := by
  obtain ⟨its, r, ⟨o, n, e, _, _, d⟩, _⟩ := I.list h
  obtain ⟨its', r', ⟨o', n', e', _, _, d'⟩, _⟩ := I.list h'
  rw [e] at e'; cases e'
  rw [d] at d'
  injection d' with d1 _
  have : its = its' := by simpa using congrArg Array.toList d1
  subst this
  exact r.inj r'
end

abbrev Cx.wish (X : Cx) (E : Value → Shared → Prop) : Cx := { X with xe := E }
abbrev Cx.nox (X : Cx) : Cx := X.wish fun _ _ => False
theorem Cx.Ok.wish {X : Cx} (ok : X.Ok) (E : Value → Shared → Prop) : (X.wish E).Ok :=
  ⟨ok.mod, ok.kind, ok.glob, ok.blt, ok.above, ok.inj, ok.has, ok.cab, ok.hd, ok.frames, ok.stk, ok.exf, ok.bs, ok.bsz, ok.noex, ok.exfs, ok.funs, ok.frf⟩
theorem Cx.Ok.unwish {X : Cx} {E : Value → Shared → Prop} (ok : (X.wish E).Ok) : X.Ok :=
  ⟨ok.mod, ok.kind, ok.glob, ok.blt, ok.above, ok.inj, ok.has, ok.cab, ok.hd, ok.frames, ok.stk, ok.exf, ok.bs, ok.bsz, ok.noex, ok.exfs, ok.funs, ok.frf⟩
section
variable {X : Cx} {pins : List (Addr × Obj)} {σ : St} {H : Hp} {s : Shared} {E : Value → Shared → Prop}
theorem Inv.wish (I : Inv X pins σ H s) (E : Value → Shared → Prop) : Inv (X.wish E) pins σ H s := ⟨I.ok.wish E, I.os, I.bare, I.base, I.loc, I.cell, I.free, I.freeC, I.pin, I.hok, I.len⟩
theorem Inv.unwish (I : Inv (X.wish E) pins σ H s) : Inv X pins σ H s := ⟨I.ok.unwish, I.os, I.bare, I.base, I.loc, I.cell, I.free, I.freeC, I.pin, I.hok, I.len⟩
theorem SP.unwish {D : Ends} {f : Flow} {s' : Shared} (h : SP (X.wish E) pins D f s') : SP X pins D f s' := by
  cases f with
  | next => obtain ⟨σ', H', I, q⟩ := h; exact ⟨σ', H', I.unwish, q⟩
  | brk => obtain ⟨σ', H', I, q⟩ := h; exact ⟨σ', H', I.unwish, q⟩
  | cont => obtain ⟨σ', H', I, q⟩ := h; exact ⟨σ', H', I.unwish, q⟩
  | ret u => obtain ⟨v, σ', H', I, r, q⟩ := h; exact ⟨v, σ', H', I.unwish, r, q⟩
theorem PE.nox {e : Expr} {t : TE} (h : PE X.nox e t) : PE X e t := fun pins s σ H Q I hw =>
  wpAny_mono (h pins s σ H Q (I.wish _) hw) (fun _ _ ⟨v, H', I', r, q⟩ => ⟨v, H', I'.unwish, r, q⟩) fun _ _ z => False.elim z
theorem PT.nox {e : Expr} {t : TT} (h : PT X.nox e t) : PT X e t := fun pins s σ H Q I hw =>
  wpAny_mono (h pins s σ H Q (I.wish _) hw) (fun _ _ ⟨H', I', q⟩ => ⟨H', I'.unwish, q⟩) fun _ _ z => False.elim z
theorem PSs.nox {st : List Stmt} {t : TS} (h : PSs X.nox st t) : PSs X st t := fun pins s σ H D I hw =>
  wpAny_mono (h pins s σ H D (I.wish _) hw) (fun _ _ q => q.unwish) fun _ _ z => False.elim z
end

section
variable {X : Cx} {st : Stmt} {rest : List Stmt} {t u : TS} {e : Expr} {te : TE} {pos : Pos}
def tNext : TS := fun D σ H => D.nx σ H
def tSeq (t u : TS) : TS := fun D σ H => t { D with nx := u D } σ H
theorem pss_nil : PSs X [] tNext := fun _ _ σ H _ I h => wpAny_execs_nil ⟨σ, H, I, h⟩
theorem pss_cons (h1 : PS X st t) (h2 : PSs X rest u) : PSs X (st :: rest) (tSeq t u) := by
  intro pins s σ H D I h
  refine wpAny_execs_cons (thn (h1 pins s σ H { D with nx := u D } I h) fun f s1 q => ?_)
  cases f with
  | next =>
    obtain ⟨σ', H', I', q⟩ := q
    exact h2 pins s1 σ' H' D I' q
  | ret v => exact q
  | brk => exact q
  | cont => exact q
theorem pss_one (h1 : PS X st t) : PSs X [st] t := by
  intro pins s σ H D I h
  refine wpAny_execs_cons (thn (h1 pins s σ H D I h) fun f s1 q => ?_)
  cases f with
  | next => exact wpAny_execs_nil q
  | ret v => exact q
  | brk => exact q
  | cont => exact q
theorem Inv.quiet {pins : List (Addr × Obj)} {σ : St} {H : Hp} {s : Shared} (I : Inv X pins σ H s) : interactive X.env = false := by simp [interactive, I.ok.kind]
def tDrop (te : TE) : TS := fun D σ H => te σ H fun _ H1 => D.nx σ H1
theorem ps_expr (he : PE X e te) (hs : swapsWith e none pos.line X.env = pure false := by rfl) : PS X (.Expr e pos) (tDrop te) := by
  intro pins s σ H D I h
  exact wpAny_Expr_any (thn (he pins s σ H _ I h) fun v s1 ⟨x, H1, I1, r1, q1⟩ => ⟨σ, H1, I1, q1⟩) I.quiet hs
def tRet (te : TE) : TS := fun D σ H => te σ H D.rt
theorem ps_ret (he : PE X e te) : PS X (.Return (some e) pos) (tRet te) := by
  intro pins s σ H D I h
  exact wpAny_Return_some (thn (he pins s σ H _ I h) fun v s1 ⟨x, H1, I1, r1, q1⟩ => ⟨x, σ, H1, I1, r1, q1⟩)
def tIfS (c : TT) (t u : TS) : TS := fun D σ H => c σ H fun b H1 => if b = true then t D σ H1 else u D σ H1
theorem ps_if {c : Expr} {a b : List Stmt} {tc : TT} (hc : PT X c tc) (ha : PSs X a t) (hb : PSs X b u) : PS X (.If c a b pos) (tIfS tc t u) := by
  intro pins s σ H D I h
  refine wpAny_If (thn (hc pins s σ H _ I h) fun d s1 ⟨H1, I1, q1⟩ => ?_)
  cases d with
  | true => exact ha pins s1 σ H1 D I1 q1
  | false => exact hb pins s1 σ H1 D I1 q1
def tNever : TS := fun _ _ _ => False
theorem ps_never : PS X st tNever := fun _ _ _ _ _ _ h => h.elim
end

abbrev TG := V → St → Hp → (St → Hp → Prop) → Prop
abbrev TGs := List V → St → Hp → (St → Hp → Prop) → Prop
def PG (X : Cx) (target : Expr) (t : TG) : Prop :=
  ∀ (pins : List (Addr × Obj)) (s : Shared) (σ : St) (H : Hp) (v : V) (u : Value) (Q : St → Hp → Prop), Inv X pins σ H s → RelV v u → t v σ H Q →
    wpAny (model X.prog X.w) X.A (assign target X.env u) (fun _ s' => ∃ σ' H', Inv X pins σ' H' s' ∧ Q σ' H') X.xe s
def PGs (X : Cx) (ts : List Expr) (t : TGs) : Prop :=
  ∀ (pins : List (Addr × Obj)) (s : Shared) (σ : St) (H : Hp) (vs : List V) (us : List Value) (Q : St → Hp → Prop), Inv X pins σ H s → Vals vs us → t vs σ H Q →
    wpAny (model X.prog X.w) X.A (assignInOrder ((assignEach ts X.env).map (·.2)) us) (fun _ s' => ∃ σ' H', Inv X pins σ' H' s' ∧ Q σ' H') X.xe s
abbrev TSet := V → V → V → Hp → (Hp → Prop) → Prop
def PSet (X : Cx) (t : TSet) : Prop :=
  ∀ (pins : List (Addr × Obj)) (s : Shared) (σ : St) (H : Hp) (o i v : V) (ov iv u : Value) (Q : Hp → Prop), Inv X pins σ H s → RelV o ov → RelV i iv → RelV v u → t o i v H Q →
    wpAny (model X.prog X.w) X.A (setItem ov iv u) (fun _ s' => ∃ H', Inv X pins σ H' s' ∧ Q H') X.xe s
section
variable {X : Cx} {pos : Pos}
def gName (i : Nat) : TG := fun v σ H Q => Q (σ.set i (some v)) H
theorem pg_name {i : Nat} {x : Str} (hN : X.N.Nodup) (hi : X.N[i]? = some x) (hx : Loc X.env.scope x) (hf : X.fn x = true ∨ X.env.scope.names.lookup x = some .local := by first | exact .inl rfl | exact .inr rfl | assumption) : PG X (.Name x pos) (gName i) := by
  intro pins s σ H v u Q I r h
  exact wpAny_assign_Name (store_ok I hN hi hx r (fun s' I' => ⟨_, H, I', h⟩) hf)
def gNil : TGs := fun vs σ H Q => vs = [] ∧ Q σ H
def gCons (t : TG) (u : TGs) : TGs := fun vs σ H Q => ∃ v r, vs = v :: r ∧ t v σ H fun σ' H' => u r σ' H' Q
theorem pgs_nil : PGs X [] gNil := by
  intro pins s σ H vs us Q I r h
  obtain ⟨e, h⟩ := h
  subst e
  cases r
  exact assignInOrder_nil ⟨σ, H, I, h⟩
theorem pgs_cons {e : Expr} {es : List Expr} {t : TG} {u : TGs} (h1 : PG X e t) (h2 : PGs X es u)
    (hs : (assignEach (e :: es) X.env).map (·.2) = assign e X.env :: (assignEach es X.env).map (·.2) := by rfl) : PGs X (e :: es) (gCons t u) := by
  intro pins s σ H vs us Q I r h
  obtain ⟨v, vr, e1, h⟩ := h
  subst e1
  cases r with
  | cons r rr =>
    rw [hs]
    refine assignInOrder_cons (thn (h1 pins s σ H _ _ _ I r h) fun _ s1 ⟨σ1, H1, I1, q1⟩ => ?_)
    exact h2 pins s1 σ1 H1 _ _ Q I1 rr q1
def gTup (K : PySem.W.Frag) (n : Nat) (t : TGs) : TG := fun v σ H Q => ∃ a xs, v = .ref a ∧ SqT K H a xs ∧ xs.length = n ∧ t xs σ H Q
theorem pg_tup {es : List Expr} {k : Nat} {t : TGs} {n : Nat} (hc : X.calm = true) (h : PGs X es t)
    (hn : (assignEach es X.env).length = n := by rfl) (hst : (assignEach es X.env).findIdx? (·.1) = none := by rfl) : PG X (.Tuple es k pos) (gTup X.K n t) := by
  intro pins s σ H v u Q I r hw
  obtain ⟨a, xs, e1, hq, hl, hw⟩ := hw
  subst e1
  cases r
  obtain ⟨its, rv, ht, hz⟩ := I.tuple hq
  refine assign_Tuple_tuple (I.ok.hd hc) ht (by simp [hn, ← hl, rv.length]) hst fun h' hx => ?_
  have I1 : Inv X pins σ H { s with heap := h' } := I.kept (t' := s.toks) fun b o e => hx b o (Nat.ne_of_lt (Heap.lt_size e)) e
  exact h pins _ σ H xs _ Q I1 (by simpa using rv) hw
def gSub (to ti : TE) (t : TSet) : TG := fun v σ H Q => to σ H fun o H1 => ti σ H1 fun i H2 => t o i v H2 fun H3 => Q σ H3
theorem pg_sub {o i : Expr} {to ti : TE} {t : TSet} (ho : PE X o to) (hi : PE X i ti) (hs : PSet X t)
    (ha : ∀ v, assign (.Subscript o i pos) X.env v = (do
      let ov ← holding [v] (eval o X.env)
      let iv ← holding [v, ov] (eval i X.env)
      standAt pos
      holding [v, ov, iv] (setItem ov iv v)
      release [v, ov, iv] []) := by intro _; rfl) : PG X (.Subscript o i pos) (gSub to ti t) := by
  intro pins s σ H v u Q I r h
  rw [ha]
  refine wpAny_bind (wpAny_holding (thn (ho pins s σ H _ I h) fun ov s1 ⟨x, H1, I1, r1, q1⟩ => ?_))
  refine wpAny_bind (wpAny_holding (thn (hi pins s1 σ H1 _ I1 q1) fun iv s2 ⟨y, H2, I2, r2, q2⟩ => ?_))
  refine wpAny_bind (wpAny_standAt (wpAny_bind (wpAny_holding (thn (hs pins s2 σ H2 x y v ov iv u _ I2 r1 r2 r q2) fun _ s3 ⟨H3, I3, q3⟩ => ?_))))
  exact wpAny_release ⟨σ, H3, I3, q3⟩
def tAsg (te : TE) (g : TG) : TS := fun D σ H => te σ H fun x H1 => g x σ H1 D.nx
theorem ps_asg {tg e : Expr} {te : TE} {g : TG} (he : PE X e te) (hg : PG X tg g) (hs : swapsWithSole [tg] e pos.line X.env = pure false := by rfl) (hw : swappedStores [tg] e X.env = pure none := by rfl)
    (h1 : (assignEach [tg] X.env).map (·.2) = [assign tg X.env] := by rfl) : PS X (.Assign [tg] e pos) (tAsg te g) := by
  intro pins s σ H D I h
  refine wpAny_Assign_stores (thn (he pins s σ H _ I h) fun v s1 ⟨x, H1, I1, r1, q1⟩ => ?_) hs hw
  rw [h1]
  exact thn (hg pins s1 σ H1 x v _ I1 r1 q1) fun _ s2 q => q
end

section
variable {X : Cx} {pos : Pos}
def tWhile (c : TT) (tb : TS) : TS := fun D σ H => ∃ W : Nat → St → Hp → Prop, (∃ m, W m σ H) ∧ ∀ m σ H, W m σ H →
  c σ H fun b H1 => if b = true then ∃ N : St → Hp → Prop, (∀ σ' H', N σ' H' → ∃ m', m' < m ∧ W m' σ' H') ∧ tb { D with nx := N, ct := N, bk := D.nx } σ H1 else D.nx σ H1
theorem ps_while {c : Expr} {body : List Stmt} {tc : TT} {tb : TS} (hp : PassesOwn (model X.prog X.w) X.A X.env X.xe) (hc : PT X c tc) (hb : PSs X body tb) : PS X (.While c body [] pos) (tWhile tc tb) := by
  intro pins s σ H D I h
  obtain ⟨W, ⟨m0, w0⟩, turn⟩ := h
  refine wpAny_While (codeAny_whileLoop (fun n s' => ∃ σ' H', Inv X pins σ' H' s' ∧ W n σ' H') ?_ m0 ⟨σ, H, I, w0⟩)
  rintro n s1 ⟨σ1, H1, I1, w1⟩
  refine wpAny_passesOwn hp (thn (hc pins s1 σ1 H1 _ I1 (turn n σ1 H1 w1)) fun b s2 ⟨H2, I2, q2⟩ => ?_)
  cases b with
  | true =>
    obtain ⟨N, hN, q2⟩ := q2
    rw [if_pos rfl]
    refine wpAny_passesOwn hp (thn (hb pins s2 σ1 H2 _ I2 q2) fun f s3 q3 => ?_)
    cases f with
    | next =>
      obtain ⟨σ3, H3, I3, n3⟩ := q3
      obtain ⟨m', hm, w3⟩ := hN σ3 H3 n3
      exact ⟨m', hm, σ3, H3, I3, w3⟩
    | cont =>
      obtain ⟨σ3, H3, I3, n3⟩ := q3
      obtain ⟨m', hm, w3⟩ := hN σ3 H3 n3
      exact ⟨m', hm, σ3, H3, I3, w3⟩
    | brk => exact q3
    | ret v => exact q3
  | false =>
    rw [if_neg Bool.false_ne_true]
    exact wpAny_execs_nil ⟨σ1, H2, I2, q2⟩
end

structure It where
  go : Nat → Hp → Prop
  yld : Nat → Hp → V → Hp → Prop
  stop : Nat → Hp → Prop
def FpOk (X : Cx) (pins : List (Addr × Obj)) (H : Hp) (b : Addr) : Prop :=
  H b = none ∧ b ≠ X.env.locals ∧ b ∉ X.fs ∧ (b ∈ X.ex ∨ X.s₀.heap.objs.size ≤ b) ∧ (∀ x c, X.env.cells.lookup x = some c → c ≠ b) ∧ ∀ p ∈ X.pn ++ pins, p.1 ≠ b
theorem Inv.fpOk {X : Cx} {pins : List (Addr × Obj)} {σ : St} {H H' : Hp} {s : Shared} {b : Addr} (I : Inv X pins σ H s) (hb : s.heap.objs.size ≤ b) (hn : H' b = none) : FpOk X pins H' b := by
  refine ⟨hn, Nat.ne_of_gt (Nat.lt_of_lt_of_le I.lt hb), I.nofs hb, .inr (Nat.le_trans I.sz hb), fun x c e z => ?_, fun p hp z => ?_⟩
  · obtain ⟨v, q⟩ := I.cell x c e
    exact absurd (Nat.lt_of_lt_of_le q.lt (by rw [z]; exact hb)) (Nat.lt_irrefl _)
  · exact absurd (Nat.lt_of_lt_of_le (Heap.lt_size (I.pin p hp).1) (by rw [z]; exact hb)) (Nat.lt_irrefl _)
structure Turn (P : Program) (w : World) (K : PySem.W.Frag) (tg : Expr) (J : It) (fp : List Addr) (it : Addr) (tn : Nat → Heap → Prop) : Prop where
  mem : it ∈ fp
  obj : ∀ i h, tn i h → ∀ b ∈ fp, ∃ o, h.get? b = some o ∧ ∀ v, o.data ≠ .cell v
  keep : ∀ i h h', tn i h → (∀ b ∈ fp, ∀ o, h.get? b = some o → h'.get? b = some o) → tn i h'
  item : ∀ (X : Cx), X.prog = P → X.w = w → X.K = K → X.calm = true → ∀ (i : Nat) (pins : List (Addr × Obj)) (s : Shared) (σ : St) (H : Hp) (E : Value → Shared → Prop), Inv X pins σ H s → (∀ b ∈ fp, FpOk X pins H b) → tn i s.heap → J.go i H →
    wpAny (model P w) X.A (pyNext (.ref it)) (fun r s1 => ∃ u, r = some u ∧
      wpAny (model P w) X.A (letOwnedTupleGo tg (.ref it) u) (fun _ s2 => ∃ x H', Inv X pins σ H' s2 ∧ RelV x u ∧ J.yld i H x H' ∧ tn (i + 1) s2.heap ∧ ∀ b ∈ fp, H' b = none) E s1) E s
  done : ∀ (X : Cx), X.prog = P → X.w = w → X.K = K → X.calm = true → ∀ (i : Nat) (pins : List (Addr × Obj)) (s : Shared) (σ : St) (H : Hp) (E : Value → Shared → Prop), Inv X pins σ H s → (∀ b ∈ fp, FpOk X pins H b) → tn i s.heap → J.stop i H →
    wpAny (model P w) X.A (pyNext (.ref it)) (fun r s1 => r = none ∧ Inv X pins σ H s1) E s
  self : ∀ (A : Around) (i : Nat) (s : Shared) (Q : Value → Shared → Prop) (E : Value → Shared → Prop), tn i s.heap → Q (.ref it) s → wpAny (model P w) A (pyIter (.ref it)) Q E s
abbrev TI := St → Hp → (It → Hp → Prop) → Prop
def PIE (X : Cx) (pins : List (Addr × Obj)) (σ : St) (tg : Expr) (R : It → Hp → Prop) (itv : Value) (s2 : Shared) : Prop :=
  ∃ (it : Addr) (fp : List Addr) (tn : Nat → Heap → Prop) (J : It) (H' : Hp), itv = .ref it ∧ Inv X pins σ H' s2 ∧ Turn X.prog X.w X.K tg J fp it tn ∧ tn 0 s2.heap ∧ (∀ b ∈ fp, FpOk X pins H' b) ∧ R J H'
def PI (X : Cx) (tg iter : Expr) (wi : TI) : Prop :=
  ∀ (pins : List (Addr × Obj)) (s : Shared) (σ : St) (H : Hp) (R : It → Hp → Prop), Inv X pins σ H s → wi σ H R →
    wpAny (model X.prog X.w) X.A (eval iter X.env) (fun v s1 => wpAny (model X.prog X.w) X.A (pyIter v) (PIE X pins σ tg R) X.xe s1) X.xe s

theorem go_of {M : Model} {A : Around} {E : Value → Shared → Prop} {s : Shared} {tg : Expr} {it : Addr} {u : Value} {o : Obj} {n : String} {vs : Array Value} {Q : Unit → Shared → Prop} (ho : s.heap.get? it = some o) (hc : o.cls = .type n) (hd : o.data = .fields vs)
    (hn : ["enumerate", "zip", "dict_itemiterator", "dict_reverseitemiterator", "odict_iterator", "itertools.zip_longest", "itertools.pairwise"].contains n = false) (hQ : Q () s) : wpAny M A (letOwnedTupleGo tg (.ref it) u) Q E s := by
  unfold letOwnedTupleGo
  cases tg <;> first
    | exact wpAny_pure hQ
    | (cases u <;> first
        | exact wpAny_pure hQ
        | (refine wpAny_bind (wpAny_load ho ?_)
           rw [hc, hd]
           show wpAny M A (if (["enumerate", "zip", "dict_itemiterator", "dict_reverseitemiterator", "odict_iterator", "itertools.zip_longest", "itertools.pairwise"].contains n && vs[0]? == some (rawInt _)) = true then _ else _) Q E s
           rw [if_neg (by intro h; rw [hn, Bool.false_and] at h; cases h)]
           exact wpAny_pure hQ))

def Itl (K : PySem.W.Frag) (a : Addr) : It :=
  ⟨fun i H => ∃ xs x, SqL K H a xs ∧ xs[i]? = some x, fun i H x H' => H' = H ∧ ∀ xs, SqL K H a xs → xs[i]? = some x, fun i H => ∃ xs, SqL K H a xs ∧ xs.length ≤ i⟩
def Itr (lo : Int) (n : Nat) : It := ⟨fun i _ => i < n, fun i H x H' => H' = H ∧ x = .int (lo + i), fun i _ => n ≤ i⟩
theorem turn_list {P : Program} {w : World} {K : PySem.W.Frag} {tg : Expr} (a it : Addr) : Turn P w K tg (Itl K a) [it] it (fun i h => h.IsListIter it a i) where
  mem := by simp
  obj := fun i h st b hb => by
    have e : b = it := by simpa using hb
    subst e
    obtain ⟨o, e, c, d⟩ := st
    exact ⟨o, e, fun v z => by rw [d] at z; cases z⟩
  keep := fun i h h' st k => st.at fun o e => k it (by simp) o e
  item := by
    intro X hP hw hK hc i pins s σ H E I hf st hg
    subst hP hw hK
    obtain ⟨xs, x, hq, hx⟩ := hg
    obtain ⟨its, rv, p, hz⟩ := I.list hq
    obtain ⟨u, hu, ru⟩ := rv.get hx
    obtain ⟨f0, f1, f2, f3, f4, f5⟩ := hf it (by simp)
    refine wpAny_pyNext_list_item st p.isList (x := u) (by simpa using hu) fun h' st' sb => ?_
    have I1 : Inv X pins σ H { s with heap := h' } := I.turned (t' := s.toks) (fun b o hb e => (sb.2 b hb).trans e) f0 f1 f3 f4 f5
    obtain ⟨o, e, c, d⟩ := id st'
    exact ⟨u, rfl, go_of (s := { s with heap := h' }) e c d (by decide) ⟨x, H, I1, ru, ⟨rfl, fun ys hy => by rw [I.list_inj hy hq]; exact hx⟩, st', fun b hb => (hf b hb).1⟩⟩
  done := by
    intro X hP hw hK hc i pins s σ H E I hf st hg
    subst hP hw hK
    obtain ⟨xs, hq, hx⟩ := hg
    obtain ⟨its, rv, p, hz⟩ := I.list hq
    obtain ⟨f0, f1, f2, f3, f4, f5⟩ := hf it (by simp)
    have hl := rv.length
    exact wpAny_pyNext_list_end (I.ok.hd hc) st p.isList (by simp; omega) fun h' eb => ⟨rfl, I.turned (t' := s.toks) (fun b o hb e => eb b o hb e) f0 f1 f3 f4 f5⟩
  self := fun _ _ _ _ _ st h => wpAny_pyIter_listiter st h
theorem turn_range {P : Program} {w : World} {K : PySem.W.Frag} {tg : Expr} (it : Addr) (lo : Int) (n : Nat) : Turn P w K tg (Itr lo n) [it] it (fun i h => IsRangeIter h it (lo + (i : Nat) * 1) ((n : Int) - (i : Nat)) 1) where
  mem := by simp
  obj := fun i h st b hb => by
    have e : b = it := by simpa using hb
    subst e
    exact ⟨_, st, fun v z => by
      have z' : Data.fields _ = Data.cell v := z
      cases z'⟩
  keep := fun i h h' st k => k it (by simp) _ st
  item := by
    intro X hP hw hK hc i pins s σ H E I hf st hg
    subst hP hw hK
    obtain ⟨f0, f1, f2, f3, f4, f5⟩ := hf it (by simp)
    have W := Walks.range (prog := X.prog) (w := X.w) (I.ok.hd hc) it lo 1 n
    refine W.item i s _ _ hg st fun v h' tk hv st' kk => ?_
    obtain ⟨t, rfl⟩ := hv
    have I1 : Inv X pins σ H { s with heap := h', toks := tk } := I.turned (fun b o hb e => kk b o (by simpa using hb) e) f0 f1 f3 f4 f5
    refine ⟨_, rfl, go_of (s := { s with heap := h', toks := tk }) (n := "range_iterator") st' rfl rfl (by decide) ⟨.int (lo + i), H, I1, ⟨t, ?_⟩, ⟨rfl, rfl⟩, st', fun b hb => (hf b hb).1⟩⟩
    rw [Int.mul_one]
  done := by
    intro X hP hw hK hc i pins s σ H E I hf st hg
    subst hP hw hK
    obtain ⟨f0, f1, f2, f3, f4, f5⟩ := hf it (by simp)
    exact wpAny_pyNext_range_end (I.ok.hd hc) st (by have : n ≤ i := hg; omega) fun h' eb => ⟨rfl, I.turned (t' := s.toks) (fun b o hb e => eb b o hb e) f0 f1 f3 f4 f5⟩
  self := fun _ _ _ _ _ st h => wpAny_pyIter_rangeiter st h
end L2

namespace L2
open PySem PySem.Spec PyProof.Rows
section
variable {X : Cx} {tg : Expr}
theorem range_it {pins : List (Addr × Obj)} {σ : St} {H : Hp} {s : Shared} {R : It → Hp → Prop} {E : Value → Shared → Prop} {lo hi : Int} {t u v : Tok} {tk : Nat} (I : Inv X pins σ H s) (h1 : -(2 ^ 62) ≤ lo) (h2 : lo < 2 ^ 62) (h3 : -(2 ^ 62) ≤ hi) (h4 : hi < 2 ^ 62)
    (q : R (Itr lo (hi - lo).toNat) H) : wpAny (model X.prog X.w) X.A (pyIter (.ref s.heap.objs.size)) (PIE X pins σ tg R) E { s with heap := s.heap.push { cls := .type "range", data := .fields #[.int lo t, .int hi u, .int 1 v] }, toks := tk } := by
  refine wpAny_pyIter_range (IsRange.new ..) (small_one h1 h2 h3 h4) ?_
  have I1 : Inv X pins σ H { s with heap := s.heap.push { cls := .type "range", data := .fields #[.int lo t, .int hi u, .int 1 v] }, toks := tk } := I.kept fun b o e => Heap.get?_push_of_some _ e
  refine ⟨(s.heap.push { cls := .type "range", data := .fields #[.int lo t, .int hi u, .int 1 v] }).objs.size, [(s.heap.push { cls := .type "range", data := .fields #[.int lo t, .int hi u, .int 1 v] }).objs.size], _, _, H, rfl,
    I1.kept (t' := tk) fun b o e => Heap.get?_push_of_some _ e, turn_range _ lo (hi - lo).toNat, ?_, fun b hb => ?_, q⟩
  · have e1 : lo + ((0 : Nat) : Int) * 1 = lo := by simp
    have e2 : (((hi - lo).toNat : Nat) : Int) - ((0 : Nat) : Int) = Builtin.Range.rangeSize lo hi 1 := by rw [rangeSize_one]; split <;> omega
    show IsRangeIter _ _ (lo + ((0 : Nat) : Int) * 1) ((((hi - lo).toNat : Nat) : Int) - ((0 : Nat) : Int)) 1
    rw [e1, e2]
    exact Heap.get?_push_size _ rfl
  · have e : b = (s.heap.push { cls := .type "range", data := .fields #[.int lo t, .int hi u, .int 1 v] }).objs.size := by simpa using hb
    subst e
    exact I1.fpOk (Nat.le_refl _) (I1.hok.fresh (Nat.le_refl _))
def tFor (wi : TI) (g : TG) (tb : TS) : TS := fun D σ H => wi σ H fun J H1 => ∃ W : Nat → Nat → St → Hp → Prop, (∃ m, W 0 m σ H1) ∧ ∀ i m σ H, W i m σ H →
  (J.stop i H ∧ D.nx σ H) ∨ (J.go i H ∧ ∃ N : St → Hp → Prop, (∀ σ' H', N σ' H' → ∃ m', m' < m ∧ W (i + 1) m' σ' H') ∧ ∀ x H', J.yld i H x H' → g x σ H' fun σ2 H2 => tb { D with nx := N, ct := N, bk := D.nx } σ2 H2)
def pinsAt (fp : List Addr) (h : Heap) : List (Addr × Obj) := fp.filterMap fun b => (h.get? b).map fun o => (b, o)
theorem mem_pinsAt {fp : List Addr} {h : Heap} {b : Addr} {o : Obj} (hb : b ∈ fp) (e : h.get? b = some o) : (b, o) ∈ pinsAt fp h := List.mem_filterMap.mpr ⟨b, hb, by rw [e]; rfl⟩
theorem of_pinsAt {fp : List Addr} {h : Heap} {p : Addr × Obj} (hp : p ∈ pinsAt fp h) : p.1 ∈ fp ∧ h.get? p.1 = some p.2 := by
  obtain ⟨b, hb, e⟩ := List.mem_filterMap.mp hp
  cases q : h.get? b with
  | none => rw [q] at e; cases e
  | some o =>
    rw [q] at e
    have e' : (b, o) = p := Option.some.inj e
    subst e'
    exact ⟨hb, q⟩
theorem Inv.pinned {pins : List (Addr × Obj)} {σ : St} {H : Hp} {s : Shared} {fp : List Addr} (I : Inv X pins σ H s) (hf : ∀ b ∈ fp, FpOk X pins H b) (ho : ∀ b ∈ fp, ∃ o, s.heap.get? b = some o ∧ ∀ v, o.data ≠ .cell v) : Inv X (pins ++ pinsAt fp s.heap) σ H s :=
  I.pins_of fun p hp => (List.mem_append.mp hp).elim (fun z => I.pin p (List.mem_append_right _ z)) fun z => by
    obtain ⟨hb, e⟩ := of_pinsAt z
    obtain ⟨f0, f1, f2, _⟩ := hf p.1 hb
    obtain ⟨o, e', d⟩ := ho p.1 hb
    rw [e] at e'; cases e'
    exact ⟨e, f0, f1, f2, d⟩
theorem Inv.unpinned {pins pl : List (Addr × Obj)} {σ : St} {H : Hp} {s : Shared} (I : Inv X (pins ++ pl) σ H s) : Inv X pins σ H s := I.pins_of fun p hp => I.pin p (List.mem_append_right _ (List.mem_append_left _ hp))
theorem ps_for {iter : Expr} {body : List Stmt} {wi : TI} {g : TG} {tb : TS} {pos : Pos} (hp : PassesOwn (model X.prog X.w) X.A X.env X.xe) (hc : X.calm = true) (hi : PI X tg iter wi) (hg : PG X tg g) (hb : PSs X body tb)
    (hs : ∀ x, foldedSetIterable iter X.env x = pure x := by intro _; rfl) : PS X (.For tg iter body [] pos) (tFor wi g tb) := by
  intro pins s σ H D I h
  refine wpAny_For (thn (hi pins s σ H _ I h) fun v s1 h1 => thn h1 fun itv s2 h2 => ?_) hs
  obtain ⟨it, fp, tn, J, H2, e, I2, T, st2, f2, W, ⟨m0, w0⟩, turn⟩ := h2
  subst e
  -- what stays true of the iterator's objects through the loop
  have stat : ∀ {H' : Hp}, (∀ b ∈ fp, H' b = none) → ∀ b ∈ fp, FpOk X pins H' b := fun hn b hb => ⟨hn b hb, (f2 b hb).2⟩
  refine codeAny_forLoop_any (fun n s' => ∃ i σ' H', Inv X pins σ' H' s' ∧ tn i s'.heap ∧ (∀ b ∈ fp, H' b = none) ∧ W i n σ' H') ?_ m0 ⟨0, σ, H2, I2, st2, fun b hb => (f2 b hb).1, w0⟩
  rintro n s3 ⟨i, σ3, H3, I3, st3, fr3, w3⟩
  rcases turn i n σ3 H3 w3 with ⟨stop, qn⟩ | ⟨go, N, hN, step⟩
  · refine wpAny_passesOwn hp (thn (T.done X rfl rfl rfl hc i pins s3 σ3 H3 X.xe I3 (stat fr3) st3 stop) fun r s4 ⟨hr, I4⟩ => ?_)
    subst hr
    exact wpAny_execs_nil ⟨σ3, H3, I4, qn⟩
  · refine wpAny_passesOwn hp (thn (T.item X rfl rfl rfl hc i pins s3 σ3 H3 X.xe I3 (stat fr3) st3 go) fun r s4 ⟨u, hr, h4⟩ => ?_)
    subst hr
    refine wpAny_passesOwn hp (thn h4 fun _ s5 ⟨x, H5, I5, r5, y5, st5, fr5⟩ => ?_)
    have I5' := I5.pinned (stat fr5) (T.obj _ _ st5)
    refine wpAny_passesOwn hp (thn (hg _ s5 σ3 H5 x u _ I5' r5 (step x H5 y5)) fun _ s6 ⟨σ6, H6, I6, q6⟩ => ?_)
    refine wpAny_passesOwn hp (thn (hb _ s6 σ6 H6 _ I6 q6) fun f s7 q7 => ?_)
    have again : ∀ {σ7 : St} {H7 : Hp}, Inv X (pins ++ pinsAt fp s5.heap) σ7 H7 s7 → N σ7 H7 → ∃ m, m < n ∧ ∃ i σ' H', Inv X pins σ' H' s7 ∧ tn i s7.heap ∧ (∀ b ∈ fp, H' b = none) ∧ W i m σ' H' := fun {σ7 H7} I7 n7 => by
      obtain ⟨m', hm, w7⟩ := hN σ7 H7 n7
      refine ⟨m', hm, i + 1, σ7, H7, I7.unpinned, T.keep _ _ _ st5 fun b hb o e => (I7.pin (b, o) (List.mem_append_right _ (List.mem_append_right _ (mem_pinsAt hb e)))).1, fun b hb => ?_, w7⟩
      obtain ⟨o, e, d⟩ := T.obj _ _ st5 b hb
      exact (I7.pin (b, o) (List.mem_append_right _ (List.mem_append_right _ (mem_pinsAt hb e)))).2.1
    cases f with
    | next => obtain ⟨σ7, H7, I7, n7⟩ := q7; exact again I7 n7
    | cont => obtain ⟨σ7, H7, I7, n7⟩ := q7; exact again I7 n7
    | brk => obtain ⟨σ7, H7, I7, q7⟩ := q7; exact ⟨σ7, H7, I7.unpinned, q7⟩
    | ret v => obtain ⟨x7, σ7, H7, I7, r7, q7⟩ := q7; exact ⟨x7, σ7, H7, I7.unpinned, r7, q7⟩
end

end L2

namespace L2
open PySem PySem.Spec PyProof.Rows

abbrev R2 := V → V → Hp → VK → Prop
def OpR (X : Cx) (f : Value → Value → Sem Value) (r : R2) : Prop :=
  ∀ (pins : List (Addr × Obj)) (s : Shared) (σ : St) (H : Hp) (x y : V) (v u : Value) (Q : VK), Inv X pins σ H s → RelV x v → RelV y u → r x y H Q →
    wpAny (model X.prog X.w) X.A (f v u) (EP X pins σ Q) X.xe s
def UnR (X : Cx) (f : Value → Sem Value) (r : V → Hp → VK → Prop) : Prop :=
  ∀ (pins : List (Addr × Obj)) (s : Shared) (σ : St) (H : Hp) (x : V) (v : Value) (Q : VK), Inv X pins σ H s → RelV x v → r x H Q →
    wpAny (model X.prog X.w) X.A (f v) (EP X pins σ Q) X.xe s
def CallR (X : Cx) (f : Value) (r : List V → Hp → VK → Prop) : Prop :=
  ∀ (pins : List (Addr × Obj)) (s : Shared) (σ : St) (H : Hp) (xs : List V) (us : List Value) (Q : VK), Inv X pins σ H s → Vals xs us → r xs H Q →
    wpAny (model X.prog X.w) X.A (call f us) (EP X pins σ Q) X.xe s
def TruR (X : Cx) (r : V → Hp → (Bool → Hp → Prop) → Prop) : Prop :=
  ∀ (pins : List (Addr × Obj)) (s : Shared) (σ : St) (H : Hp) (x : V) (v : Value) (Q : Bool → Hp → Prop), Inv X pins σ H s → RelV x v → r x H Q →
    wpAny (model X.prog X.w) X.A (truthy v) (TP X pins σ Q) X.xe s

def tOp (r : R2) (ta tb : TE) : TE := fun σ H Q => ta σ H fun x H1 => tb σ H1 fun y H2 => r x y H2 Q
def tUn (r : V → Hp → VK → Prop) (ta : TE) : TE := fun σ H Q => ta σ H fun x H1 => r x H1 Q
def rI (C : Int → Int → Prop) (g : Int → Int → V) : R2 := fun x y H Q => ∃ i j, x = .int i ∧ y = .int j ∧ C i j ∧ Q (g i j) H
def rI0 (g : Int → Int → V) : R2 := fun x y H Q => ∃ i j, x = .int i ∧ y = .int j ∧ Q (g i j) H
def rU (g : Int → V) : V → Hp → VK → Prop := fun x H Q => ∃ i, x = .int i ∧ Q (g i) H

section
variable {X : Cx} {a b c : Expr} {ta tb tc : TE} {pos : Pos}

theorem binT (ha : PE X a ta) (hb : PE X b tb) {pins : List (Addr × Obj)} {s : Shared} {σ : St} {H : Hp} {R : V → V → Hp → Prop} (I : Inv X pins σ H s)
    (h : ta σ H fun x H1 => tb σ H1 fun y H2 => R x y H2) {Q : Value → Shared → Prop} {f : Value → Value → Sem Value}
    (hf : ∀ v u s2 x y H2, Inv X pins σ H2 s2 → RelV x v → RelV y u → R x y H2 → wpAny (model X.prog X.w) X.A (f v u) Q X.xe s2) :
    wpAny (model X.prog X.w) X.A (eval a X.env) (fun v s₁ => wpAny (model X.prog X.w) X.A (eval b X.env) (fun u s₂ => wpAny (model X.prog X.w) X.A (f v u) Q X.xe s₂) X.xe s₁) X.xe s := by
  refine thn (ha pins s σ H _ I h) fun v s1 ⟨x, H1, I1, r1, q1⟩ => ?_
  refine thn (hb pins s1 σ H1 _ I1 q1) fun u s2 ⟨y, H2, I2, r2, q2⟩ => ?_
  exact hf v u s2 x y H2 I2 r1 r2 q2

theorem pe_op {op : Operator} {r : R2} (ho : OpR X (binaryOp op) r) (ha : PE X a ta) (hb : PE X b tb) : PE X (.BinOp a op b pos) (tOp r ta tb) := by
  intro pins s σ H Q I h
  exact wpAny_BinOp (binT ha hb I h fun v u s2 x y H2 I2 rx ry q => ho pins s2 σ H2 x y v u Q I2 rx ry q)
theorem pe_un {op : UnaryOp} {r : V → Hp → VK → Prop} (ho : UnR X (unaryOp op) r) (ha : PE X a ta) : PE X (.UnaryOp op a pos) (tUn r ta) := by
  intro pins s σ H Q I h
  exact UnaryOp_ (thn (ha pins s σ H _ I h) fun v s1 ⟨x, H1, I1, r1, q1⟩ => ho pins s1 σ H1 x v Q I1 r1 q1)
theorem opI {f : Value → Value → Sem Value} {C : Int → Int → Prop} {g : Int → Int → Int}
    (rule : ∀ (i j : Int) (t u : Tok) (s : Shared) (Q : Value → Shared → Prop) (E : Value → Shared → Prop), C i j → Q (.int (g i j) s.toks) { s with toks := s.toks + 1 } → wpAny (model X.prog X.w) X.A (f (.int i t) (.int j u)) Q E s) :
    OpR X f (rI C fun i j => .int (g i j)) := by
  intro pins s σ H x y v u Q I rx ry h
  obtain ⟨i, j, rfl, rfl, hc, q⟩ := h
  obtain ⟨t, rfl⟩ := rx
  obtain ⟨t', rfl⟩ := ry
  exact rule i j t t' s _ _ hc ⟨.int (g i j), H, I.tok _, ⟨_, rfl⟩, q⟩
theorem opI0 {f : Value → Value → Sem Value} {g : Int → Int → Int}
    (rule : ∀ (i j : Int) (t u : Tok) (s : Shared) (Q : Value → Shared → Prop) (E : Value → Shared → Prop), Q (.int (g i j) s.toks) { s with toks := s.toks + 1 } → wpAny (model X.prog X.w) X.A (f (.int i t) (.int j u)) Q E s) :
    OpR X f (rI0 fun i j => .int (g i j)) := by
  intro pins s σ H x y v u Q I rx ry h
  obtain ⟨i, j, rfl, rfl, q⟩ := h
  obtain ⟨t, rfl⟩ := rx
  obtain ⟨t', rfl⟩ := ry
  exact rule i j t t' s _ _ ⟨.int (g i j), H, I.tok _, ⟨_, rfl⟩, q⟩
theorem opB0 {f : Value → Value → Sem Value} {g : Int → Int → Bool}
    (rule : ∀ (i j : Int) (t u : Tok) (s : Shared) (Q : Value → Shared → Prop) (E : Value → Shared → Prop), Q (.bool (g i j)) s → wpAny (model X.prog X.w) X.A (f (.int i t) (.int j u)) Q E s) :
    OpR X f (rI0 fun i j => .bl (g i j)) := by
  intro pins s σ H x y v u Q I rx ry h
  obtain ⟨i, j, rfl, rfl, q⟩ := h
  obtain ⟨t, rfl⟩ := rx
  obtain ⟨t', rfl⟩ := ry
  exact rule i j t t' s _ _ ⟨.bl (g i j), H, I, rfl, q⟩

def CDiv (i j : Int) : Prop := 0 < j ∧ j < 1073741824
def CPow (i j : Int) : Prop := 0 ≤ j ∧ j ≤ 1000000 ∧ i.natAbs < 2 ^ 64
def CMul (i j : Int) : Prop := (-(2 ^ 64) < i ∧ i < 2 ^ 64) ∨ (-(2 ^ 64) < j ∧ j < 2 ^ 64)
theorem CMul.ok {i j : Int} (h : CMul i j) : IntMulOk i j := by
  rcases h with ⟨h1, h2⟩ | ⟨h1, h2⟩
  · exact .of_left (intBits_le_64 h1 h2)
  · exact .of_right (intBits_le_64 h1 h2)
theorem op_add : OpR X (binaryOp .Add) (rI0 fun i j => .int (i + j)) := opI0 fun _ _ _ _ _ _ _ q => add_int q
theorem op_sub : OpR X (binaryOp .Sub) (rI0 fun i j => .int (i - j)) := opI0 fun _ _ _ _ _ _ _ q => sub_int q
theorem op_mul : OpR X (binaryOp .Mult) (rI CMul fun i j => .int (i * j)) := opI fun _ _ _ _ _ _ _ hc q => mul_int q hc.ok
theorem op_fdiv : OpR X (binaryOp .FloorDiv) (rI CDiv fun i j => .int (i / j)) := opI fun i j _ _ _ _ _ hc q => by
  have h1 : (0 : Int) < j := hc.1
  have h2 : j < 1073741824 := hc.2
  exact floordiv_int (by omega) (by rw [Int.fdiv_eq_ediv_of_nonneg i (by omega)]; exact q) (.inl (PyProof.noPylong_small (by omega)))
theorem op_mod : OpR X (binaryOp .Mod) (rI (fun _ j => 0 < j) fun i j => .int (i % j)) := opI fun i j _ _ _ _ _ hc q => by
  have h1 : (0 : Int) < j := hc
  exact mod_int' (by omega) (by rw [Int.fmod_eq_emod_of_nonneg i (by omega)]; exact q)
theorem op_pow : OpR X (binaryOp .Pow) (rI CPow fun i j => .int (i ^ j.toNat)) := opI fun _ _ _ _ _ _ _ hc q => pow_int_small hc.1 hc.2.1 hc.2.2 q
theorem unI {f : Value → Sem Value} {g : Int → Int}
    (rule : ∀ (i : Int) (t : Tok) (s : Shared) (Q : Value → Shared → Prop) (E : Value → Shared → Prop), Q (.int (g i) s.toks) { s with toks := s.toks + 1 } → wpAny (model X.prog X.w) X.A (f (.int i t)) Q E s) :
    UnR X f (rU fun i => .int (g i)) := by
  intro pins s σ H x v Q I rx h
  obtain ⟨i, rfl, q⟩ := h
  obtain ⟨t, rfl⟩ := rx
  exact rule i t s _ _ ⟨.int (g i), H, I.tok _, ⟨_, rfl⟩, q⟩
theorem un_neg : UnR X (unaryOp .USub) (rU fun i => .int (-i)) := unI fun _ _ _ _ _ q => neg_int q
end

def scal : V → V → Bool
  | .non, .non => true | .non, .int _ => true | .int _, .non => true | .non, .bl _ => true | .bl _, .non => true | .non, .str _ => true | .str _, .non => true
  | .int _, .int _ => true | .bl _, .bl _ => true | .str _, .str _ => true | .byt _, .byt _ => true
  | .int _, .str _ => true | .str _, .int _ => true | .bl _, .str _ => true | .str _, .bl _ => true
  | _, _ => false
def rEq : R2 := fun x y H Q => scal x y = true ∧ Q (.bl (decide (x = y))) H
def rNe : R2 := fun x y H Q => scal x y = true ∧ Q (.bl (!decide (x = y))) H

theorem dec_int {i j : Int} : decide (V.int i = V.int j) = (i == j) := by
  rw [Bool.eq_iff_iff]
  simp
theorem dec_bl {i j : Bool} : decide (V.bl i = V.bl j) = (i == j) := by
  rw [Bool.eq_iff_iff]
  simp
theorem dec_str {i j : Str} : decide (V.str i = V.str j) = (i == j) := by
  rw [Bool.eq_iff_iff]
  simp
theorem dec_byt {i j : Array UInt8} : decide (V.byt i = V.byt j) = (i.toList == j.toList) := by
  rw [Bool.eq_iff_iff]
  cases i
  cases j
  simp

section
variable {X : Cx} {a b c : Expr} {ta tb tc : TE} {pos : Pos}
theorem fin_bl {pins : List (Addr × Obj)} {σ : St} {H : Hp} {s : Shared} {Q : VK} {k k' : Bool} (I : Inv X pins σ H s) (q : Q (.bl k) H) (e : k = k') : EP X pins σ Q (.bool k') s := by
  subst e
  exact ⟨.bl k, H, I, rfl, q⟩
theorem op_eq : OpR X (compareOp .Eq) rEq := by
  intro pins s σ H x y v u Q I rx ry h
  obtain ⟨hs, q⟩ := h
  cases x with
  | non =>
    cases rx
    cases y with
    | non => cases ry; exact PySem.EqNone.eq_none_none (fin_bl I q (by simp))
    | bl j => cases ry; exact PySem.EqNone.eq_none_bool (fin_bl I q (by simp))
    | int j => obtain ⟨t', rfl⟩ := ry; exact PySem.EqNone.eq_none_int (fin_bl I q (by simp))
    | str j => obtain ⟨t', rfl⟩ := ry; exact PySem.EqNone.eq_none_str (fin_bl I q (by simp))
    | _ => exact absurd (show false = true from hs) Bool.false_ne_true
  | bl i =>
    cases rx
    cases y with
    | non => cases ry; exact PySem.EqNone.eq_bool_none (fin_bl I q (by simp))
    | bl j => cases ry; exact eq_bool (fin_bl I q dec_bl)
    | str j => obtain ⟨t', rfl⟩ := ry; exact PySem.EqMixed.eq_bool_str (fin_bl I q (by simp))
    | _ => exact absurd (show false = true from hs) Bool.false_ne_true
  | int i =>
    obtain ⟨t, rfl⟩ := rx
    cases y with
    | non => cases ry; exact PySem.EqNone.eq_int_none (fin_bl I q (by simp))
    | int j => obtain ⟨t', rfl⟩ := ry; exact eq_int (fin_bl I q dec_int)
    | str j => obtain ⟨t', rfl⟩ := ry; exact PySem.EqMixed.eq_int_str (fin_bl I q (by simp))
    | _ => exact absurd (show false = true from hs) Bool.false_ne_true
  | str i =>
    obtain ⟨t, rfl⟩ := rx
    cases y with
    | non => cases ry; exact PySem.EqNone.eq_str_none (fin_bl I q (by simp))
    | bl j => cases ry; exact PySem.EqMixed.eq_str_bool (fin_bl I q (by simp))
    | int j => obtain ⟨t', rfl⟩ := ry; exact PySem.EqMixed.eq_str_int (fin_bl I q (by simp))
    | str j => obtain ⟨t', rfl⟩ := ry; exact eq_str (fin_bl I q dec_str)
    | _ => exact absurd (show false = true from hs) Bool.false_ne_true
  | byt i =>
    obtain ⟨t, rfl⟩ := rx
    cases y with
    | byt j => obtain ⟨t', rfl⟩ := ry; exact PySem.W.eq_bytes (fin_bl I q dec_byt)
    | _ => exact absurd (show false = true from hs) Bool.false_ne_true
  | _ => cases y <;> exact absurd (show false = true from hs) Bool.false_ne_true
theorem op_ne : OpR X (compareOp .NotEq) rNe := by
  intro pins s σ H x y v u Q I rx ry h
  obtain ⟨hs, q⟩ := h
  cases x with
  | non =>
    cases rx
    cases y with
    | non => cases ry; exact PySem.EqNone.ne_none_none (fin_bl I q (by simp))
    | bl j => cases ry; exact PySem.EqNone.ne_none_bool (fin_bl I q (by simp))
    | int j => obtain ⟨t', rfl⟩ := ry; exact PySem.EqNone.ne_none_int (fin_bl I q (by simp))
    | str j => obtain ⟨t', rfl⟩ := ry; exact PySem.EqNone.ne_none_str (fin_bl I q (by simp))
    | _ => exact absurd (show false = true from hs) Bool.false_ne_true
  | bl i =>
    cases rx
    cases y with
    | non => cases ry; exact PySem.EqNone.ne_bool_none (fin_bl I q (by simp))
    | bl j => cases ry; exact ne_bool (fin_bl I q (congrArg not dec_bl))
    | str j => obtain ⟨t', rfl⟩ := ry; exact PySem.EqMixed.ne_bool_str (fin_bl I q (by simp))
    | _ => exact absurd (show false = true from hs) Bool.false_ne_true
  | int i =>
    obtain ⟨t, rfl⟩ := rx
    cases y with
    | non => cases ry; exact PySem.EqNone.ne_int_none (fin_bl I q (by simp))
    | int j => obtain ⟨t', rfl⟩ := ry; exact ne_int (fin_bl I q (congrArg not dec_int))
    | str j => obtain ⟨t', rfl⟩ := ry; exact PySem.EqMixed.ne_int_str (fin_bl I q (by simp))
    | _ => exact absurd (show false = true from hs) Bool.false_ne_true
  | str i =>
    obtain ⟨t, rfl⟩ := rx
    cases y with
    | non => cases ry; exact PySem.EqNone.ne_str_none (fin_bl I q (by simp))
    | bl j => cases ry; exact PySem.EqMixed.ne_str_bool (fin_bl I q (by simp))
    | int j => obtain ⟨t', rfl⟩ := ry; exact PySem.EqMixed.ne_str_int (fin_bl I q (by simp))
    | str j => obtain ⟨t', rfl⟩ := ry; exact ne_str (fin_bl I q (congrArg not dec_str))
    | _ => exact absurd (show false = true from hs) Bool.false_ne_true
  | byt i =>
    obtain ⟨t, rfl⟩ := rx
    cases y with
    | byt j => obtain ⟨t', rfl⟩ := ry; exact PySem.W.ne_bytes (fin_bl I q (congrArg not dec_byt))
    | _ => exact absurd (show false = true from hs) Bool.false_ne_true
  | _ => cases y <;> exact absurd (show false = true from hs) Bool.false_ne_true

theorem op_lt : OpR X (compareOp .Lt) (rI0 fun i j => .bl (decide (i < j))) := opB0 fun _ _ _ _ _ _ _ q => lt_int q
theorem op_le : OpR X (compareOp .LtE) (rI0 fun i j => .bl (decide (i ≤ j))) := opB0 fun _ _ _ _ _ _ _ q => le_int q
theorem op_gt : OpR X (compareOp .Gt) (rI0 fun i j => .bl (decide (j < i))) := opB0 fun _ _ _ _ _ _ _ q => gt_int q
theorem op_ge : OpR X (compareOp .GtE) (rI0 fun i j => .bl (decide (j ≤ i))) := opB0 fun _ _ _ _ _ _ _ q => ge_int q
theorem op_isN : OpR X (compareOp .Is) (fun x y H Q => y = .non ∧ Q (.bl (decide (x = .non))) H) := by
  intro pins s σ H x y v u Q I rx ry h
  obtain ⟨rfl, q⟩ := h
  cases ry
  refine is_none_gen (fin_bl I q ?_)
  cases x <;> first
    | (cases rx; rfl)
    | (obtain ⟨t, rfl⟩ := rx; rfl)
theorem op_notN : OpR X (compareOp .IsNot) (fun x y H Q => y = .non ∧ Q (.bl (!decide (x = .non))) H) := by
  intro pins s σ H x y v u Q I rx ry h
  obtain ⟨rfl, q⟩ := h
  cases ry
  refine isnot_none_gen (fin_bl I q ?_)
  cases x <;> first
    | (cases rx; rfl)
    | (obtain ⟨t, rfl⟩ := rx; rfl)

theorem OpR.or {f : Value → Value → Sem Value} {r r' : R2} (h : OpR X f r) (h' : OpR X f r') : OpR X f (fun x y H Q => r x y H Q ∨ r' x y H Q) := by
  intro pins s σ H x y v u Q I rx ry q
  rcases q with q | q
  · exact h pins s σ H x y v u Q I rx ry q
  · exact h' pins s σ H x y v u Q I rx ry q

theorem nomark (b : Expr) {op : CmpOp} (h : op ≠ .In := by decide) (h2 : op ≠ .NotIn := by decide) : behindInMarks op b = false := by
  have e1 : (op == CmpOp.In) = false := by cases op <;> first | rfl | exact absurd rfl h
  have e2 : (op == CmpOp.NotIn) = false := by cases op <;> first | rfl | exact absurd rfl h2
  cases b <;> simp [behindInMarks, e1, e2]
theorem pe_cmpR {op : CmpOp} {r : R2} (ho : OpR X (compareOp op) r) (ha : PE X a ta) (hb : PE X b tb) (hm : behindInMarks op b = false) : PE X (.Compare a [op] [b] pos) (tOp r ta tb) := by
  intro pins s σ H Q I h
  exact wpAny_Compare1 (binT ha hb I h fun v u s2 x y H2 I2 rx ry q => ho pins s2 σ H2 x y v u Q I2 rx ry q) hm
def TruV (K : PySem.W.Frag) (x : V) (H : Hp) (k : Bool) : Prop :=
  match x with
  | .non => k = false
  | .bl b => k = b
  | .int i => k = (i != 0)
  | .str y => y.length ≤ sizeLine ∧ k = ((y.length : Int) != 0)
  | .byt y => y.size ≤ sizeLine ∧ k = ((y.size : Int) != 0)
  | .ref p => (∃ xs, SqL K H p xs ∧ k = !xs.isEmpty) ∨ (∃ xs, SqT K H p xs ∧ k = !xs.isEmpty) ∨ ∃ kvs, H p = some (.dK kvs) ∧ k = !kvs.isEmpty
  | _ => False
theorem isEmpty_kv {κ : Type} {kvs : List (κ × V)} {vs : List (κ × Value)} (r : KV kvs vs) : (!vs.isEmpty) = !kvs.isEmpty := by
  cases r <;> rfl
theorem isEmpty_of {xs : List V} {its : List Value} (r : Vals xs its) : (!its.toArray.isEmpty) = !xs.isEmpty := by
  cases r <;> simp
theorem line63 : (sizeLine : Nat) < 2 ^ 63 := by rw [sizeLine_eq]; decide
theorem tru_ok : TruR X (fun x H Q => ∃ k, TruV X.K x H k ∧ Q k H) := by
  intro pins s σ H x v Q I rx h
  obtain ⟨k, e, q⟩ := h
  have hl := line63
  have hs : sizeLine = 16777216 := sizeLine_eq
  cases x with
  | non =>
    cases rx
    have e' : k = false := e
    subst e'
    exact truthy_none ⟨H, I, q⟩
  | bl b =>
    cases rx
    have e' : k = b := e
    subst e'
    exact wpAny_truthy_bool ⟨H, I, q⟩
  | int i =>
    obtain ⟨t, rfl⟩ := rx
    have e' : k = (i != 0) := e
    subst e'
    exact PySem.P.truthy_int ⟨H, I, q⟩
  | str y =>
    obtain ⟨t, rfl⟩ := rx
    obtain ⟨hy, e'⟩ : y.length ≤ sizeLine ∧ k = ((y.length : Int) != 0) := e
    subst e'
    exact PySem.P.truthy_str (by omega) ⟨H, I.tok _, q⟩
  | byt y =>
    obtain ⟨t, rfl⟩ := rx
    obtain ⟨hy, e'⟩ : y.size ≤ sizeLine ∧ k = ((y.size : Int) != 0) := e
    subst e'
    exact PySem.W.truthy_bytes (by omega) ⟨H, I.tok _, q⟩
  | ref p =>
    cases rx
    have e' : (∃ xs, SqL X.K H p xs ∧ k = !xs.isEmpty) ∨ (∃ xs, SqT X.K H p xs ∧ k = !xs.isEmpty) ∨ ∃ kvs, H p = some (.dK kvs) ∧ k = !kvs.isEmpty := e
    rcases e' with ⟨xs, hx, e'⟩ | ⟨xs, hx, e'⟩ | ⟨kvs, hx, e'⟩
    · subst e'
      obtain ⟨its, r, pl, hz⟩ := I.list hx
      have hlen := r.length
      exact wpAny_truthy_list pl.isList (by simp only [List.size_toArray]; omega) ⟨H, I.tok _, by rw [isEmpty_of r]; exact q⟩
    · subst e'
      obtain ⟨its, r, pl, hz⟩ := I.tuple hx
      have hlen := r.length
      exact truthy_tuple pl (by simp only [List.size_toArray]; omega) ⟨H, I.tok _, by rw [isEmpty_of r]; exact q⟩
    · subst e'
      obtain ⟨hz, hS, vs, r, m⟩ : kvs.length ≤ sizeLine ∧ (p == sysModules) = false ∧ ∃ vs, KV kvs vs ∧ s.heap.DictOf (mixKind X.prog X.w) p vs := I.hok p _ hx
      have hlen : kvs.length = vs.length := Paired.length r
      exact wpAny_truthy_dict hS m (by omega) ⟨H, I.tok _, by rw [isEmpty_kv r]; exact q⟩
  | _ => exact (show False from e).elim
theorem op_add_str : OpR X (binaryOp .Add) (fun x y H Q => ∃ i j, x = .str i ∧ y = .str j ∧ i.length + j.length ≤ sizeLine ∧ Q (.str (i ++ j)) H) := by
  intro pins s σ H x y v u Q I rx ry h
  obtain ⟨i, j, rfl, rfl, hz, q⟩ := h
  obtain ⟨t, rfl⟩ := rx
  obtain ⟨t', rfl⟩ := ry
  exact add_str (fun t' tk => ⟨.str (i ++ j), H, I.tok _, ⟨_, rfl⟩, q⟩) hz
theorem vals1 {x : V} {us : List Value} (r : Vals [x] us) : ∃ u, us = [u] ∧ RelV x u := by
  cases r with
  | cons r1 r2 => cases r2; exact ⟨_, rfl, r1⟩
theorem vals2 {x y : V} {us : List Value} (r : Vals [x, y] us) : ∃ u w', us = [u, w'] ∧ RelV x u ∧ RelV y w' := by
  cases r with
  | cons r1 r2 =>
    cases r2 with
    | cons r3 r4 => cases r4; exact ⟨_, _, rfl, r1, r3⟩
theorem call_max2 (hc : X.calm = true) : CallR X (.builtin "max") (fun xs H Q => ∃ i j, xs = [.int i, .int j] ∧ Q (.int (if j > i then j else i)) H) := by
  intro pins s σ H xs us Q I r h
  obtain ⟨i, j, rfl, q⟩ := h
  obtain ⟨u, w', rfl, ⟨t, rfl⟩, ⟨t', rfl⟩⟩ := vals2 r
  refine max_two_ints (I.ok.hd hc) fun h' tk k => ⟨_, H, I.kept k, ?_, q⟩
  by_cases hj : j > i
  · rw [if_pos hj, if_pos hj]; exact ⟨_, rfl⟩
  · rw [if_neg hj, if_neg hj]; exact ⟨_, rfl⟩
theorem call_min2 (hc : X.calm = true) : CallR X (.builtin "min") (fun xs H Q => ∃ i j, xs = [.int i, .int j] ∧ Q (.int (if j < i then j else i)) H) := by
  intro pins s σ H xs us Q I r h
  obtain ⟨i, j, rfl, q⟩ := h
  obtain ⟨u, w', rfl, ⟨t, rfl⟩, ⟨t', rfl⟩⟩ := vals2 r
  refine min_two_ints (I.ok.hd hc) fun h' tk k => ⟨_, H, I.kept k, ?_, q⟩
  by_cases hj : j < i
  · rw [if_pos hj, if_pos hj]; exact ⟨_, rfl⟩
  · rw [if_neg hj, if_neg hj]; exact ⟨_, rfl⟩
theorem call_int1 : CallR X (.type "int") (fun xs H Q => (∃ i, xs = [.int i] ∧ Q (.int i) H) ∨ ∃ k, xs = [.bl k] ∧ Q (.int (if k then 1 else 0)) H) := by
  intro pins s σ H xs us Q I r h
  rcases h with ⟨i, rfl, q⟩ | ⟨k, rfl, q⟩
  · obtain ⟨u, rfl, t, rfl⟩ := vals1 r
    exact call_int_int ⟨.int i, H, I, ⟨_, rfl⟩, q⟩
  · obtain ⟨u, rfl, r1⟩ := vals1 r
    cases r1
    exact call_int_bool ⟨.int (if k then 1 else 0), H, I.tok _, ⟨_, rfl⟩, q⟩
end
end L2

namespace L2
open PySem PySem.Spec PyProof.Rows

section
variable {prog : Program} {w : World} {A : Around} {E : Value → Shared → Prop} {s : Shared} {K : PySem.W.Frag} {x dx C f : Addr} {mA : Str → Option Value} {name : Str} {v : Value}

end

theorem RelO.some_of {v : V} {o : Option Value} (r : RelO (some v) o) : ∃ u, o = some u ∧ RelV v u := by
  cases o with
  | none => exact (show False from r).elim
  | some u => exact ⟨u, rfl, r⟩
section
variable {P : Program} {w : World} {H H' : Hp} {h h' : Heap} {a C dx : Addr} {fs fs' : List (Str × V)}
end

section
variable {X : Cx} {pins : List (Addr × Obj)} {σ : St} {H : Hp} {s : Shared} {a C dx : Addr} {fs : List (Str × V)} {f : Str} {v : V} {A : Around} {E : Value → Shared → Prop}

end

section
variable {X : Cx} {o e value : Expr} {f : Str} {pos pos' tpos : Pos} {ta tv : TE}
end

section
variable {X : Cx} {pins : List (Addr × Obj)} {σ : St} {H : Hp} {s : Shared} {A : Around} {E : Value → Shared → Prop} {Q : Value → Shared → Prop} {c : Value} {b : Bool}
end
end L2

namespace L2
open PySem PySem.Spec PyProof.Rows

structure Room (k : Nat) (A : Around) : Prop where
  hd : A.handled = none
  dp : A.depth + 3 * k + 5 < recursionLimit
  un : A.units + 16 * k + 200 < cLine
theorem Room.mono {j k : Nat} {A : Around} (r : Room k A) (h : j ≤ k) : Room j A := ⟨r.hd, by have := r.dp; omega, by have := r.un; omega⟩
theorem Room.deeper {k : Nat} {A : Around} (r : Room (k + 1) A) (env : Env) : Room k (A.deeper env) :=
  ⟨r.hd, by have := r.dp; show A.depth + 1 + 3 * k + 5 < _; omega, by have := r.un; show A.units + 3 + 16 * k + 200 < _; omega⟩
theorem Room.in1 {k : Nat} {A : Around} (r : Room (k + 1) A) : Room k A.in1 :=
  ⟨r.hd, by have := r.dp; show A.depth + 3 * k + 5 < _; omega, by have := r.un; show A.units + 1 + 16 * k + 200 < _; omega⟩
theorem Room.depth {k : Nat} {A : Around} (r : Room k A) : A.depth < recursionLimit := by have := r.dp; omega
theorem Room.units {k : Nat} {A : Around} (r : Room k A) : A.units + 64 < cLine := by have := r.un; omega
def tNil : TA := fun _ H Q => Q [] H
def tCons (ta : TE) (tr : TA) : TA := fun σ H Q => ta σ H fun x H1 => tr σ H1 fun xs H2 => Q (x :: xs) H2
section
variable {X : Cx} {e : Expr} {es : List Expr} {te : TE} {t : TA} {pos : Pos}
theorem pa_nil : PA X [] tNil := fun _ _ _ _ H Q I h => Calls.spliced_nil ⟨[], H, I, .nil, h⟩
theorem pa_cons (ha : PE X e te) (hr : PA X es t) (hs : starEach (e :: es) X.env = (false, eval e X.env) :: starEach es X.env := by rfl) : PA X (e :: es) (tCons te t) := by
  intro pos pins s σ H Q I h
  rw [hs]
  show wpAny _ _ (spliced ((false, eval e X.env) :: backTo pos (starEach es X.env))) _ _ s
  refine Calls.spliced_cons (thn (ha pins s σ H _ I h) fun u s1 ⟨x, H1, I1, r1, q1⟩ => ?_)
  exact thn (hr pos pins s1 σ H1 _ I1 q1) fun us s2 ⟨xs, H2, I2, r2, q2⟩ => ⟨x :: xs, H2, I2, .cons r1 r2, q2⟩

def tTup (t : TA) : TE := fun σ H Q => t σ H fun xs H1 => xs.length ≤ sizeLine ∧ ∀ p, H1 p = none → Q (.ref p) (upd H1 p (.tup xs))
def tLst (t : TA) : TE := fun σ H Q => t σ H fun xs H1 => xs.length ≤ sizeLine ∧ ∀ p, H1 p = none → Q (.ref p) (upd H1 p (.lst xs))
theorem pe_tup {x1} (h : PA X es t) : PE X (.Tuple es x1 pos) (tTup t) := by
  intro pins s σ H Q I hq
  refine wpAny_Tuple_spliced (thn (h pos pins s σ H _ I hq) fun us s1 ⟨xs, H1, I1, r, z, q⟩ => ⟨by rw [← r.length]; exact z, ?_⟩)
  have hf : H1 s1.heap.objs.size = none := I1.hok.fresh (Nat.le_refl _)
  refine ⟨.ref s1.heap.objs.size, upd H1 s1.heap.objs.size (.tup xs), I1.laid (t' := s1.toks) (fun b u e => Heap.get?_push_of_some _ e) (Nat.le_refl _) ?_, rfl, q _ hf⟩
  exact ⟨z, us, r, ⟨_, Heap.get?_push_size _ rfl, rfl, _, rfl⟩⟩
theorem pe_lst (h : PA X es t) : PE X (.List es pos) (tLst t) := by
  intro pins s σ H Q I hq
  refine wpAny_List_spliced (thn (h pos pins s σ H _ I hq) fun us s1 ⟨xs, H1, I1, r, z, q⟩ => ⟨by rw [← r.length]; exact z, ?_⟩)
  have hf : H1 s1.heap.objs.size = none := I1.hok.fresh (Nat.le_refl _)
  refine ⟨.ref s1.heap.objs.size, upd H1 s1.heap.objs.size (.lst xs), I1.laid (t' := s1.toks) (fun b u e => Heap.get?_push_of_some _ e) (Nat.le_refl _) ?_, rfl, q _ hf⟩
  exact ⟨z, us, 0, r, Heap.get?_push_size _ rfl⟩
end

abbrev Sp := List V → Hp → VK → XK → Prop
abbrev CXT := List Env → Hp → Shared → XK → Value → Shared → Prop

structure Env0 (P : Program) (w : World) (K : PySem.W.Frag) (mg : Str → Option Value) (base : Heap) (A : Around) (outer : List Env) (s : Shared) (H : Hp) : Prop where
  frames : A.frames = some outer
  mod : Mod K mg base
  bs : ∀ b o, base.get? b = some o → s.heap.get? b = some o ∧ H b = none
  bsz : base.objs.size ≤ s.heap.objs.size
  funs : s.heap.FunFrames base outer
  frf : ∀ b ∈ frs outer, H b = none
  hok : HOk P w H s.heap
  bare : AllBare s.gens
def CE (outer : List Env) (P : Program) (w : World) (H : Hp) (s : Shared) (Q : VK) (u : Value) (s' : Shared) : Prop :=
  ∃ v H', s'.os = s.os ∧ AllBare s'.gens ∧ Un (frs outer) [] H H' s.heap s'.heap ∧ HOk P w H' s'.heap ∧ RelV v u ∧ Q v H'
def CR (CX : CXT) (outer : List Env) (P : Program) (w : World) (H : Hp) (s : Shared) (Q : VK) (E : XK) (r : Result) (s' : Shared) : Prop :=
  match r with
  | .ok (.ret u) => CE outer P w H s Q u s'
  | .ok _ => False
  | .error e => CX outer H s E e s'
structure FnOk (P : Program) (w : World) (K : PySem.W.Frag) (mg : Str → Option Value) (base : Heap) (CX : CXT) (k : Nat) (f : Addr) (fd : FuncData) (ps : List Str) (sp : Sp) : Prop where
  len : ∀ vs H Q E, sp vs H Q E → vs.length = ps.length
  run : ∀ (A : Around) (outer : List Env) (s : Shared) (H : Hp) (args : Args) (us : List Value) (vs : List V) (Q : VK) (E : XK), Room k A → Env0 P w K mg base A outer s H → BindsTo s fd args (ps.zip us) → Vals vs us → sp vs H Q E →
    codeAny (model P w) A (.call (.ref f) args) (CR CX outer P w H s Q E) s
theorem FnOk.mono {P : Program} {w : World} {K : PySem.W.Frag} {mg : Str → Option Value} {base : Heap} {CX : CXT} {j k : Nat} {f : Addr} {fd : FuncData} {ps : List Str} {sp : Sp} (F : FnOk P w K mg base CX j f fd ps sp) (h : j ≤ k) :
    FnOk P w K mg base CX k f fd ps sp := ⟨F.len, fun A outer s H args us vs Q E hr => F.run A outer s H args us vs Q E (hr.mono h)⟩
theorem FnOk.imp {P : Program} {w : World} {K : PySem.W.Frag} {mg : Str → Option Value} {base : Heap} {CX : CXT} {k : Nat} {f : Addr} {fd : FuncData} {ps : List Str} {sp sp' : Sp} (F : FnOk P w K mg base CX k f fd ps sp)
    (h : ∀ vs H Q E, sp' vs H Q E → sp vs H Q E) : FnOk P w K mg base CX k f fd ps sp' :=
  ⟨fun vs H Q E q => F.len vs H Q E (h _ _ _ _ q), fun A outer s H args us vs Q E hr he hb hv hs => F.run A outer s H args us vs Q E hr he hb hv (h _ _ _ _ hs)⟩

theorem Env0.in1 {P : Program} {w : World} {K : PySem.W.Frag} {mg : Str → Option Value} {base : Heap} {A : Around} {outer : List Env} {s : Shared} {H : Hp} (e : Env0 P w K mg base A outer s H) :
    Env0 P w K mg base A.in1 outer s H := ⟨e.frames, e.mod, e.bs, e.bsz, e.funs, e.frf, e.hok, e.bare⟩

section
variable {X : Cx} {pins : List (Addr × Obj)} {σ : St} {H : Hp} {s s' : Shared}
theorem Inv.env0 (I : Inv X pins σ H s) : Env0 X.prog X.w X.K X.mg X.base X.A X.stack s H :=
  ⟨I.ok.frames, I.ok.mod, I.bs, Nat.le_trans I.ok.bsz I.sz, I.stack, I.stkFree, I.hok, I.bare⟩
theorem Inv.after {Q : VK} {u : Value} (I : Inv X pins σ H s) (h : CE X.stack X.prog X.w H s Q u s') : EP X pins σ Q u s' := by
  obtain ⟨v, H', os, bare, un, hok, r, q⟩ := h
  obtain ⟨hh, g, d, t, os'⟩ := s'
  obtain rfl : os' = s.os := os
  exact ⟨v, H', I.call (h' := hh) (g' := g) (d' := d) (t' := t) (ch := []) un hok bare (fun b z => absurd z (by simp)), r, q⟩
end

def tCall (sp : Sp) (dvs : List V) (E : XK) (t : TA) : TE := fun σ H Q => t σ H fun vs H1 => sp (vs ++ dvs) H1 Q E
def Binds (K : PySem.W.Frag) (fd : FuncData) (ps : List Str) (ds : List Value) : Prop :=
  ∀ (s : Shared) (us : List Value), K.In s.heap → (us ++ ds).length = ps.length → BindsTo s fd ⟨us, []⟩ (ps.zip (us ++ ds))
theorem Binds.all {K : PySem.W.Frag} {fd : FuncData} {ps : List Str} (h : ∀ us : List Value, us.length = ps.length → bindArgs fd ⟨us, []⟩ = pure (ps.zip us)) : Binds K fd ps [] := fun s us _ hl => by
  rw [List.append_nil] at hl ⊢
  exact .of_eq (h us hl)

def Passes (CX : CXT) (X : Cx) (E : XK) : Prop := ∀ (pins : List (Addr × Obj)) (σ : St) (H : Hp) (s : Shared) (e : Value) (s' : Shared), Inv X pins σ H s → CX X.stack H s E e s' → X.xe e s'

section
variable {X : Cx} {CX : CXT} {k : Nat} {f C : Addr} {fd : FuncData} {ps : List Str} {sp : Sp} {dvs : List V} {ds : List Value} {E : XK} {x m : Str} {p pos apos : Pos} {e o : Expr} {es : List Expr} {ta : TE} {t : TA}

theorem run_fn {pins : List (Addr × Obj)} {σ : St} {H : Hp} {s : Shared} {Q : VK} {us : List Value} {vs : List V} (F : FnOk X.prog X.w X.K X.mg X.base CX k f fd ps sp) (hr : Room k X.A) (hb : Binds X.K fd ps ds) (hd : Vals dvs ds) (hx : Passes CX X E)
    (I : Inv X pins σ H s) (r : Vals vs us) (h : sp (vs ++ dvs) H Q E) : wpAny (model X.prog X.w) X.A (call (.ref f) us) (EP X pins σ Q) X.xe s := by
  have r2 : Vals (vs ++ dvs) (us ++ ds) := r.append hd
  have hl : (us ++ ds).length = ps.length := by rw [← r2.length]; exact F.len _ _ _ _ h
  refine wpAny_call (codeAny_mono (F.run X.A X.stack s H ⟨us, []⟩ (us ++ ds) (vs ++ dvs) Q E hr I.env0 (hb s us I.kIn hl) r2 h) fun r s' hq => ?_)
  cases r with
  | error e => exact hx pins σ H s e s' I hq
  | ok fl =>
    cases fl with
    | ret u => exact I.after hq
    | next => exact False.elim hq
    | brk => exact False.elim hq
    | cont => exact False.elim hq

theorem pe_call (F : FnOk X.prog X.w X.K X.mg X.base CX k f fd ps sp) (hr : Room k X.A) (hg : Gl X x) (hm : X.mg x = some (.ref f)) (hk : PySem.W.keepIn X.K (.ref f) = true) (hb : Binds X.K fd ps ds) (hd : Vals dvs ds) (hx : Passes CX X E)
    (ha : PA X (e :: es) t) (hdb : (x == ("__debug__" : Str)) = false := by decide) (he : starEach (e :: es) X.env = (false, eval e X.env) :: starEach es X.env := by rfl) (hpl : (backTo pos (starEach es X.env)).any (·.1) = false := by rfl) :
    PE X (.Call (.Name x p) (e :: es) [] pos) (tCall sp dvs E t) := by
  intro pins s σ H Q I h
  refine wpAny_Call_Name_kw (ld_glob I hg hm ?_ hdb)
  refine PySem.W.callWith_K (h₀ := X.base) I.ok.mod.kin hk (thn (ha pos pins s σ H _ I h) fun us s1 ⟨vs, H1, I1, r, q⟩ => ⟨I1.kIn, ?_⟩) he hpl
  exact run_fn F hr hb hd hx I1 r q
end

section
variable {X : Cx} {CX : CXT} {k : Nat} {f C : Addr} {fd : FuncData} {ps ks : List Str} {sp : Sp} {E : XK} {x m : Str} {p pos apos kpos : Pos} {e o : Expr} {es : List Expr} {kws : List Keyword} {te ta : TE} {t tk : TA} {nm : Option Str}
variable {g : List Value → List Value → List Value} {gV : List V → List V → List V}
end

structure FnScope (N P : List Str) (sc : Scope) : Prop where
  kind : sc.kind = .function
  co : sc.isCoroutine = false
  gen : sc.isGenerator = false
  nd : N.Nodup
  pre : N.take P.length = P
  par : ∀ x ∈ P, sc.names.lookup x = some .local ∨ sc.names.lookup x = some .cell
  nofree : ∀ y ∈ sc.names, y.2 ≠ .free

theorem bindL_out {kindOf : Str → Option NameKind} {x : Str} : ∀ {binds : List (Str × Value)} {m : Str → Option Value}, (∀ v, (x, v) ∉ binds) → bindL kindOf binds m x = m x
  | [], _, _ => rfl
  | (n, v) :: r, m, h => by
    unfold bindL
    rw [bindL_out fun w hw => h w (List.mem_cons_of_mem _ hw)]
    split
    · have : x ≠ n := by rintro rfl; exact h v List.mem_cons_self
      simp [this]
    · rfl
theorem bindC_out {kindOf : Str → Option NameKind} {x : Str} : ∀ {binds : List (Str × Value)} {m : Str → Option Value}, (∀ v, (x, v) ∉ binds) → bindC kindOf binds m x = m x
  | [], _, _ => rfl
  | (n, v) :: r, m, h => by
    unfold bindC
    rw [bindC_out fun w hw => h w (List.mem_cons_of_mem _ hw)]
    split
    · rfl
    · have : x ≠ n := by rintro rfl; exact h v List.mem_cons_self
      simp [this]
theorem bindL_get {kindOf : Str → Option NameKind} {x : Str} {v : Value} : ∀ {P : List Str} {vs : List Value} {i : Nat} {m : Str → Option Value}, P.Nodup → P[i]? = some x → vs[i]? = some v → kindOf x = some .local →
    bindL kindOf (P.zip vs) m x = some v
  | [], _, _, _, _, h, _, _ => by simp at h
  | _ :: _, [], _, _, _, _, h, _ => by simp at h
  | p :: P, w :: vs, 0, m, nd, h1, h2, hk => by
    simp at h1 h2; subst h1; subst h2
    show bindL kindOf ((p, w) :: P.zip vs) m p = _
    unfold bindL
    rw [bindL_out fun v hv => (List.nodup_cons.mp nd).1 (List.of_mem_zip hv).1, if_pos hk]
    simp
  | p :: P, w :: vs, i + 1, m, nd, h1, h2, hk => by
    show bindL kindOf ((p, w) :: P.zip vs) m x = _
    unfold bindL
    exact bindL_get (i := i) (List.nodup_cons.mp nd).2 (by simpa using h1) (by simpa using h2) hk
theorem bindC_get {kindOf : Str → Option NameKind} {x : Str} {v : Value} : ∀ {P : List Str} {vs : List Value} {i : Nat} {m : Str → Option Value}, P.Nodup → P[i]? = some x → vs[i]? = some v → kindOf x ≠ some .local →
    bindC kindOf (P.zip vs) m x = some v
  | [], _, _, _, _, h, _, _ => by simp at h
  | _ :: _, [], _, _, _, _, h, _ => by simp at h
  | p :: P, w :: vs, 0, m, nd, h1, h2, hk => by
    simp at h1 h2; subst h1; subst h2
    show bindC kindOf ((p, w) :: P.zip vs) m p = _
    unfold bindC
    rw [bindC_out fun v hv => (List.nodup_cons.mp nd).1 (List.of_mem_zip hv).1, if_neg hk]
    simp
  | p :: P, w :: vs, i + 1, m, nd, h1, h2, hk => by
    show bindC kindOf ((p, w) :: P.zip vs) m x = _
    unfold bindC
    exact bindC_get (i := i) (List.nodup_cons.mp nd).2 (by simpa using h1) (by simpa using h2) hk

def start (N : List Str) (vs : List V) : St := vs.map some ++ List.replicate (N.length - vs.length) none

def cxOf (CX : CXT) (P : Program) (w : World) (K : PySem.W.Frag) (mg : Str → Option Value) (base : Heap) (N : List Str) (qual : Str) (scope : Scope) (f : Addr) (cd : Value) (A : Around) (outer : List Env) (s : Shared) (H : Hp) (E : XK) : Cx where
  prog := P
  w := w
  K := K
  mg := mg
  base := base
  A := A.deeper (envOfC qual scope s.heap.objs.size f cd)
  N := N
  s₀ := s
  H₀ := H
  env := envOfC qual scope s.heap.objs.size f cd
  outer := outer
  stack := envOfC qual scope s.heap.objs.size f cd :: outer
  ex := []
  calm := true
  fn := fun _ => true
  pn := []
  xe := fun e s' => wpAny (model P w) (A.deeper (envOfC qual scope s.heap.objs.size f cd)) (leaving (envOfC qual scope s.heap.objs.size f cd) e) (fun _ s'' => CX outer H s E e s'') (fun e' s'' => CX outer H s E e' s'') s'

theorem cell_has {sc : Scope} {n : Nat} {x : Str} (h : sc.names.lookup x = some .cell) : ∃ c, (cellsFrom n sc.names []).lookup x = some c := by
  have q := PySem.W.cellsFrom_some sc.names n [] (.inl h)
  exact Option.isSome_iff_exists.mp q

theorem inv_start {CX : CXT} {P : Program} {w : World} {K : PySem.W.Frag} {mg : Str → Option Value} {base : Heap} {N ps : List Str} {qual : Str} {scope : Scope} {f : Addr} {cd : Value} {A : Around} {outer : List Env} {s s1 : Shared} {H : Hp} {E : XK} {us : List Value} {vs : List V}
    (S : FnScope N ps scope) (hd : A.handled = none) (e0 : Env0 P w K mg base A outer s H) (hl : vs.length = ps.length) (r : Vals vs us)
    (x : InCallC s s.heap.objs.size (bindL (envOfC qual scope s.heap.objs.size f cd).kindOf (ps.zip us) fun _ => none) (cellsFrom (s.heap.objs.size + 1) scope.names []) (bindC (envOfC qual scope s.heap.objs.size f cd).kindOf (ps.zip us) fun _ => none) s1) :
    Inv (cxOf CX P w K mg base N qual scope f cd A outer s H E) [] (start N vs) H s1 := by
  have hpl : ps.length ≤ N.length := by have := congrArg List.length S.pre; rw [List.length_take] at this; omega
  obtain ⟨h1, tk, rfl, hk⟩ := x.done
  have noA : ∀ b : Addr, b ∉ (cxOf CX P w K mg base N qual scope f cd A outer s H E).ex := fun b z => absurd (show b ∈ ([] : List Addr) from z) (by simp)
  refine ⟨⟨e0.mod, S.kind, rfl, rfl, Nat.le_refl _, fun y z c h1 h2 => ?_, fun y hy => ?_, fun y c _ h => ?_, fun _ => hd, Around.frames_deeper e0.frames, .inr ⟨rfl, rfl⟩, fun b z => absurd z (noA b), e0.bs, e0.bsz, fun b _ _ => noA b, fun b z => absurd z (noA b), e0.funs, e0.frf⟩,
    rfl, e0.bare, Un.kept hk, ⟨_, x.toInCall.ns, fun i y v h1 h2 h3 => ?_⟩, fun y c h => ⟨_, x.cell y c h⟩, e0.hok.fresh (Nat.le_refl _), fun y c h => ?_, fun p hp => absurd (show p ∈ ([] : List (Addr × Obj)) from hp) (by simp), e0.hok.kept hk, ?_⟩
  · exact name_of_addr x.apart (PySem.mem_of_lookup h1) (PySem.mem_of_lookup h2)
  · have hy : scope.names.lookup y = some .cell ∨ scope.names.lookup y = some .free := hy
    rcases hy with hy | hy
    · exact cell_has hy
    · exact absurd rfl (S.nofree _ (PySem.mem_of_lookup hy))
  · exact Nat.le_of_lt (x.above y c (PySem.mem_of_lookup h))
  · have hi : i < vs.length := by
      unfold start at h2
      by_cases hi : i < vs.length
      · exact hi
      · rw [List.getElem?_append_right (by simpa using hi)] at h2
        rw [List.getElem?_replicate] at h2
        split at h2 <;> cases h2
    have ha : vs[i]? = some v := by
      unfold start at h2
      rw [List.getElem?_append_left (by simpa using hi), List.getElem?_map] at h2
      cases e : vs[i]? with
      | none => rw [e] at h2; cases h2
      | some a => rw [e] at h2; cases h2; rfl
    obtain ⟨u, hu, rv⟩ := r.get ha
    have hp : ps[i]? = some y := by
      rw [← S.pre, List.getElem?_take_of_lt (by omega)]; exact h1
    have ndP : ps.Nodup := by rw [← S.pre]; exact S.nd.sublist (List.take_sublist _ _)
    refine ⟨u, rv, ?_⟩
    rcases S.par y (List.mem_of_getElem? hp) with k | k
    · exact .inl ⟨k, bindL_get ndP hp hu k⟩
    · obtain ⟨c, e⟩ := cell_has (n := s.heap.objs.size + 1) k
      refine .inr ⟨.inl k, c, e, ?_⟩
      have q := x.cell y c e
      rw [bindC_get ndP hp hu (by show scope.names.lookup y ≠ _; rw [k]; decide)] at q
      exact q
  · exact e0.hok.fresh (Nat.le_of_lt (x.above y c (PySem.mem_of_lookup h)))
  · unfold start
    show _ = N.length
    rw [List.length_append, List.length_map, List.length_replicate]
    omega

theorem fn_of {CX : CXT} {P : Program} {w : World} {K : PySem.W.Frag} {mg : Str → Option Value} {base : Heap} {k : Nat} {f : Addr} {name qual : Str} {params : Arguments} {body : List Stmt} {scope : Scope} {dV kV doc pm cdv ct oc : Value} {an od : Option Addr}
    {osl : Array (Option Value)} {N ps : List Str} {sp : Sp} (lk : K.lookup f = some ⟨oc, od, .func (PySem.W.fnOf name qual params body scope dV kV doc pm an cdv ct), osl⟩) (hcd : PySem.W.codeIn K cdv qual = true) (S : FnScope N ps scope)
    (len : ∀ vs H Q E, sp vs H Q E → vs.length = ps.length)
    (hbody : ∀ (A : Around) (outer : List Env) (s : Shared) (H : Hp) (vs : List V) (Q : VK) (E : XK), Room k (A.deeper (envOfC qual scope s.heap.objs.size f cdv)) → sp vs H Q E →
      ∃ t, PSs (cxOf CX P w K mg base N qual scope f cdv A outer s H E) body t ∧ t { nx := fun _ H' => Q .non H', rt := Q } (start N vs) H) :
    FnOk P w K mg base CX (k + 1) f (PySem.W.fnOf name qual params body scope dV kV doc pm an cdv ct) ps sp := by
  refine ⟨len, fun A outer s H args us vs Q E hr e0 hb r hsp => ?_⟩
  have hl := len _ _ _ _ hsp
  have KX : K.In s.heap := e0.mod.kin.keeps fun b o e => (e0.bs b o e).1
  have lim : s.heap.NoLimit := e0.mod.nolimit.keeps fun b o e => (e0.bs b o e).1
  have hkind : ∀ y ∈ ps.zip us, scope.names.lookup y.1 = some .local ∨ (scope.names.lookup y.1 = some .cell ∧ ((cellsFrom (s.heap.objs.size + 1) scope.names []).lookup y.1).isSome = true) := fun ⟨n, v⟩ hy => by
    rcases S.par n (List.of_mem_zip hy).1 with q | q
    · exact .inl q
    · exact .inr ⟨q, PySem.W.cellsFrom_some _ _ _ (.inl q)⟩
  refine codeAny_call_function hr.depth (KX _ _ lk) rfl S.co S.gen rfl (PySem.W.codeRec_of KX hcd) (hb _ _ _ _ ?_)
  refine wpAny_newFunctionEnv_cells S.kind hkind fun env he s1 x => ?_
  subst he
  refine ⟨lim.keeps x.toInCall.keep, codeAny_func ?_⟩
  obtain ⟨t, ht, hq⟩ := hbody A outer s H vs Q E (hr.deeper _) hsp
  have I : Inv (cxOf CX P w K mg base N qual scope f cdv A outer s H E) [] (start N vs) H s1 := inv_start S hr.hd e0 hl r x
  refine wpAny_mono (ht [] s1 (start N vs) H _ I hq) (fun fl s' hs => ?_) fun e s' hs => hs
  have fin : ∀ {σ' : St} {H' : Hp} {v : V} {u : Value}, Inv (cxOf CX P w K mg base N qual scope f cdv A outer s H E) [] σ' H' s' → RelV v u → Q v H' → CE outer P w H s Q u s' :=
    fun {σ' H' v u} J rv q => ⟨v, H', J.os, J.bare, J.base, J.hok, rv, q⟩
  cases fl with
  | ret u =>
    obtain ⟨v, σ', H', J, rv, q⟩ := hs
    exact fin J rv q
  | next =>
    obtain ⟨σ', H', J, q⟩ := hs
    exact fin (v := V.non) (u := Value.none) J rfl q
  | brk =>
    obtain ⟨_, _, _, q⟩ := hs
    exact False.elim q
  | cont =>
    obtain ⟨_, _, _, q⟩ := hs
    exact False.elim q
end L2

namespace L2
open PySem PySem.Spec PyProof.Rows
section
variable {X : Cx} {x : Str} {p pos : Pos} {e : Expr} {es : List Expr} {t : TA} {id T : String} {r : List V → Hp → VK → Prop}

def tCB (r : List V → Hp → VK → Prop) (t : TA) : TE := fun σ H Q => t σ H fun vs H1 => r vs H1 Q
theorem pe_callB (hc : CallR X (.builtin id) r) (hg : Gl X x) (hm : X.mg x = none) (hv : bootBuiltins x = some (.builtin id)) (ha : PA X (e :: es) t) (hn : x ≠ "__name__" := by decide) (hdb : (x == ("__debug__" : Str)) = false := by decide)
    (he : starEach (e :: es) X.env = (false, eval e X.env) :: starEach es X.env := by rfl) (hpl : (backTo pos (starEach es X.env)).any (·.1) = false := by rfl) : PE X (.Call (.Name x p) (e :: es) [] pos) (tCB r t) := by
  intro pins s σ H Q I h
  refine wpAny_Call_Name_kw (ld_blt I hg hm hv ?_ hn hdb)
  exact PyProof.Rows.callWith_builtin1 (thn (ha pos pins s σ H _ I h) fun us s1 ⟨vs, H1, I1, r1, q1⟩ => hc pins s1 σ H1 vs us Q I1 r1 q1) he hpl
theorem pe_callTy (hc : CallR X (.type T) r) (hg : Gl X x) (hm : X.mg x = none) (hv : bootBuiltins x = some (.type T)) (ha : PA X (e :: es) t) (hn : x ≠ "__name__" := by decide) (hdb : (x == ("__debug__" : Str)) = false := by decide)
    (he : starEach (e :: es) X.env = (false, eval e X.env) :: starEach es X.env := by rfl) (hpl : (backTo pos (starEach es X.env)).any (·.1) = false := by rfl) : PE X (.Call (.Name x p) (e :: es) [] pos) (tCB r t) := by
  intro pins s σ H Q I h
  refine wpAny_Call_Name_kw (ld_blt I hg hm hv ?_ hn hdb)
  exact PyProof.Rows.callWith_type1 (thn (ha pos pins s σ H _ I h) fun us s1 ⟨vs, H1, I1, r1, q1⟩ => hc pins s1 σ H1 vs us Q I1 r1 q1) he hpl
end
end L2

namespace HT
open PySem PyProof.Rows

section
open PySem.SeqAt
open PySem.AutoSeq1 (wpAny_loadPart')
open PySem.MeetsSeq PySem.MeetsSeq2 PySem.MeetsSeq3

end

section
variable {prog : Program} {w : World} {A : Around} {E : Value → Shared → Prop} {s : Shared}

def sIx (n d : Nat) : Option Int → Nat
  | none => d
  | some v => if v < 0 then (v + (n : Int)).toNat else min v.toNat n
theorem sIx_nat (n d k : Nat) : sIx n d (some (k : Int)) = min k n := by
  show (if (k : Int) < 0 then ((k : Int) + (n : Int)).toNat else min (k : Int).toNat n) = min k n
  rw [if_neg (by omega), Int.toNat_natCast]
end
end HT

namespace L2
open PySem PySem.Spec PyProof.Rows

abbrev TO := St → Hp → (Option Int → Hp → Prop) → Prop
def PO (X : Cx) (e : Option Expr) (t : TO) : Prop :=
  ∀ (pins : List (Addr × Obj)) (s : Shared) (σ : St) (H : Hp) (Q : Option Int → Hp → Prop), Inv X pins σ H s → t σ H Q →
    wpAny (model X.prog X.w) X.A (evalPart e X.env) (fun u s' => ∃ o H', Inv X pins σ H' s' ∧ IsPart u o ∧ Q o H') X.xe s
def tNoPart : TO := fun _ H Q => Q none H
section
variable {X : Cx} {e : Expr} {te : TE} {lo hi : Option Expr} {tl th : TO} {pos p2 : Pos}

theorem po_none : PO X none tNoPart := by
  intro pins s σ H Q I h
  rw [evalPart_none]
  exact wpAny_pure ⟨none, H, I, .none, h⟩
def SlR (X : Cx) (r : V → Option Int → Option Int → Hp → VK → Prop) : Prop :=
  ∀ (pins : List (Addr × Obj)) (s : Shared) (σ : St) (H : Hp) (x : V) (v vl vu : Value) (lo hi : Option Int) (sl : Addr) (Q : VK), Inv X pins σ H s → RelV x v → s.heap.IsSliceOf sl vl vu .none → IsPart vl lo → IsPart vu hi → r x lo hi H Q →
    ∃ T id, typeLookup (.type T) "__getitem__" = pure (some (.builtin id)) ∧ s.TypeIs v T ∧ wpAny (model X.prog X.w) X.A (getItem v (.ref sl)) (EP X pins σ Q) X.xe s
theorem SlR.or {r r' : V → Option Int → Option Int → Hp → VK → Prop} (h : SlR X r) (h' : SlR X r') : SlR X (fun x lo hi H Q => r x lo hi H Q ∨ r' x lo hi H Q) := by
  intro pins s σ H x v vl vu lo hi sl Q I rx hs pl pu q
  rcases q with q | q
  · exact h pins s σ H x v vl vu lo hi sl Q I rx hs pl pu q
  · exact h' pins s σ H x v vl vu lo hi sl Q I rx hs pl pu q
def tSl (r : V → Option Int → Option Int → Hp → VK → Prop) (te : TE) (tl th : TO) : TE := fun σ H Q => te σ H fun x H1 => tl σ H1 fun l H2 => th σ H2 fun u H3 => r x l u H3 Q
theorem pe_slice {r : V → Option Int → Option Int → Hp → VK → Prop} (hr : SlR X r) (he : PE X e te) (hl : PO X lo tl) (hu : PO X hi th) : PE X (.Subscript e (.Slice lo hi none p2) pos) (tSl r te tl th) := by
  intro pins s σ H Q I h
  refine Subscript_ (thn (he pins s σ H _ I h) fun v s1 ⟨x, H1, I1, r1, q1⟩ => ?_)
  refine wpAny_Slice (thn (hl pins s1 σ H1 _ I1 q1) fun vl s2 ⟨l, H2, I2, pl, q2⟩ => thn (hu pins s2 σ H2 _ I2 q2) fun vu s3 ⟨u, H3, I3, pu, q3⟩ => ?_)
  rw [evalPart_none]
  refine wpAny_pure ?_
  have I4 : Inv X pins σ H3 { s3 with heap := s3.heap.push { cls := .type "slice", data := .fields #[vl, vu, .none] } } := I3.kept (t' := s3.toks) fun b ob q => Heap.get?_push_of_some _ q
  obtain ⟨T, id, hT, ht, hg⟩ := hr pins { s3 with heap := s3.heap.push { cls := .type "slice", data := .fields #[vl, vu, .none] } } σ H3 x v vl vu l u s3.heap.objs.size Q I4 r1 (Heap.IsSliceOf.new ..) pl pu q3
  show wpAny (model X.prog X.w) X.A (subscriptTail e (.Slice lo hi none p2) v (.ref s3.heap.objs.size)) (EP X pins σ Q) X.xe { s3 with heap := s3.heap.push { cls := .type "slice", data := .fields #[vl, vu, .none] } }
  exact tail_any (ops := [.ref s3.heap.objs.size, v]) ht hT hg (by with_unfolding_all rfl)

def cutV (xs : List V) (lo hi : Option Int) : List V := (xs.drop (HT.sIx xs.length 0 lo)).take (HT.sIx xs.length xs.length hi - HT.sIx xs.length 0 lo)
theorem cutV_length (xs : List V) (lo hi : Option Int) : (cutV xs lo hi).length ≤ xs.length := by
  unfold cutV
  rw [List.length_take, List.length_drop]
  omega
end
end L2

namespace L2
open PySem PySem.Spec PyProof.Rows

def ixN (n : Nat) (i : Int) : Option Nat := if 0 ≤ i then (if i < n then some i.toNat else none) else if -(n : Int) ≤ i then some (i + n).toNat else none
def atI {α : Type} (xs : List α) (i : Int) : Option α := (ixN xs.length i).bind fun j => xs[j]?
theorem ixN_seq {n : Nat} {i : Int} {j : Nat} (h : ixN n i = some j) : seqIndex? i n = some j ∧ j < n ∧ -(n : Int) ≤ i ∧ i < n := by
  unfold ixN at h
  by_cases h0 : 0 ≤ i
  · rw [if_pos h0] at h
    by_cases h1 : i < n
    · rw [if_pos h1] at h
      have e : i.toNat = j := Option.some.inj h
      exact ⟨by rw [seqIndex_of h0 h1, e], by omega, by omega, h1⟩
    · rw [if_neg h1] at h; cases h
  · rw [if_neg h0] at h
    by_cases h1 : -(n : Int) ≤ i
    · rw [if_pos h1] at h
      have e : (i + n).toNat = j := Option.some.inj h
      exact ⟨by rw [seqIndex_neg (by omega) h1, e], by omega, h1, by omega⟩
    · rw [if_neg h1] at h; cases h
theorem atI_get {α : Type} {xs : List α} {i : Int} {v : α} (h : atI xs i = some v) : ∃ j, seqIndex? i xs.length = some j ∧ xs[j]? = some v ∧ j < xs.length ∧ -(xs.length : Int) ≤ i ∧ i < xs.length := by
  unfold atI at h
  cases e : ixN xs.length i with
  | none => rw [e] at h; cases h
  | some j =>
    rw [e] at h
    obtain ⟨h1, h2, h3, h4⟩ := ixN_seq e
    exact ⟨j, h1, h, h2, h3, h4⟩
theorem atI_nat {α : Type} {xs : List α} {j : Nat} {v : α} (h : xs[j]? = some v) : atI xs (j : Int) = some v := by
  have hj : j < xs.length := (List.getElem?_eq_some_iff.mp h).1
  have e : ixN xs.length (j : Int) = some j := by
    unfold ixN
    rw [if_pos (by omega), if_pos (by omega)]; simp
  unfold atI; rw [e]; exact h
theorem atI_last {α : Type} (xs : List α) (v : α) : atI (xs ++ [v]) (-1) = some v := by
  have hl : (xs ++ [v]).length = xs.length + 1 := by simp
  have e : ixN (xs ++ [v]).length (-1) = some xs.length := by
    unfold ixN
    rw [hl, if_neg (by decide), if_pos (by omega)]
    congr 1
    omega
  unfold atI
  rw [e]
  show (xs ++ [v])[xs.length]? = some v
  simp

def PlainIx (b : Expr) : Prop := ∀ o i, subscripted b false o i = operate [o, i] (getItem o i)
def IxR (X : Cx) (r : R2) : Prop :=
  ∀ (value slice : Expr) (pins : List (Addr × Obj)) (s : Shared) (σ : St) (H : Hp) (x y : V) (v u : Value) (Q : VK), Inv X pins σ H s → RelV x v → RelV y u → r x y H Q →
    subscripted slice false v u = operate [v, u] (getItem v u) → wpAny (model X.prog X.w) X.A (subscriptTail value slice v u) (EP X pins σ Q) X.xe s
section
variable {X : Cx} {a b : Expr} {ta tb : TE} {pos : Pos}
theorem IxR.or {r r' : R2} (h : IxR X r) (h' : IxR X r') : IxR X (fun x y H Q => r x y H Q ∨ r' x y H Q) := by
  intro value slice pins s σ H x y v u Q I rx ry q hs
  rcases q with q | q
  · exact h value slice pins s σ H x y v u Q I rx ry q hs
  · exact h' value slice pins s σ H x y v u Q I rx ry q hs
theorem pe_ix {r : R2} (hr : IxR X r) (ha : PE X a ta) (hb : PE X b tb) (hs : PlainIx b) : PE X (.Subscript a b pos) (tOp r ta tb) := by
  intro pins s σ H Q I h
  exact Subscript_ (binT ha hb I h fun v u s2 x y H2 I2 rx ry q => hr a b pins s2 σ H2 x y v u Q I2 rx ry q (hs _ _))

def rIxL (K : PySem.W.Frag) : R2 := fun x y H Q => ∃ p xs i v, x = .ref p ∧ y = .int i ∧ SqL K H p xs ∧ atI xs i = some v ∧ Q v H
def rIxT (K : PySem.W.Frag) : R2 := fun x y H Q => ∃ p xs i v, x = .ref p ∧ y = .int i ∧ SqT K H p xs ∧ atI xs i = some v ∧ Q v H
def rIxS : R2 := fun x y H Q => ∃ z i c, x = .str z ∧ y = .int i ∧ z.length ≤ sizeLine ∧ atI z.cps.toList i = some c ∧ Q (.str ⟨#[c]⟩) H
theorem ix_list : IxR X (rIxL X.K) := by
  intro value slice pins s σ H x y v u Q I rx ry h hs
  obtain ⟨p, xs, i, z, rfl, rfl, hq, he, q⟩ := h
  cases rx
  obtain ⟨t, rfl⟩ := ry
  obtain ⟨its, r, pl, hz⟩ := I.list hq
  obtain ⟨j, h1, h2, h3, h4, h5⟩ := atI_get he
  obtain ⟨w, ew, rw'⟩ := r.get h2
  have hl := r.length
  have hn := line63
  have fin : EP X pins σ Q w s := ⟨z, H, I, rw', q⟩
  by_cases h0 : 0 ≤ i
  · have hj : i.toNat = j := by
      rw [seqIndex_of h0 h5] at h1
      exact Option.some.inj h1
    exact item_listR pl.isList h0 (by omega) (by rw [hj]; simpa using ew) fin hs
  · have hj : (i + (its.toArray.size : Int)).toNat = j := by
      rw [seqIndex_neg (by omega) h4] at h1
      rw [List.size_toArray, ← hl]
      exact Option.some.inj h1
    exact subscriptTail_builtinR (x := w) pl.isList.typeIs slot_list_getitem.lookup
      (wpAny_getItem_list_neg (Q := fun r s' => r = w ∧ EP X pins σ Q r s') pl.isList (by omega) (by rw [List.size_toArray] <;> omega) (by omega) (by rw [hj]; simpa using ew) ⟨rfl, fin⟩) hs
theorem ix_tup : IxR X (rIxT X.K) := by
  intro value slice pins s σ H x y v u Q I rx ry h hs
  obtain ⟨p, xs, i, z, rfl, rfl, hq, he, q⟩ := h
  cases rx
  obtain ⟨t, rfl⟩ := ry
  obtain ⟨its, r, pl, hz⟩ := I.tuple hq
  obtain ⟨j, h1, h2, h3, h4, h5⟩ := atI_get he
  obtain ⟨w, ew, rw'⟩ := r.get h2
  have hl := r.length
  have hn := line63
  have fin : EP X pins σ Q w s := ⟨z, H, I, rw', q⟩
  exact subscriptTail_builtinR (x := w) pl.typeIs slot_tuple_getitem.lookup
    (getItem_tuple (j := j) (Q := fun r s' => r = w ∧ EP X pins σ Q r s') pl (by omega) (by omega) (by rw [List.size_toArray, ← hl]; exact h1) (by simpa using ew) ⟨rfl, fin⟩) hs
theorem ix_str : IxR X rIxS := by
  intro value slice pins s σ H x y v u Q I rx ry h hs
  obtain ⟨z, i, c, rfl, rfl, hz, he, q⟩ := h
  obtain ⟨t, rfl⟩ := rx
  obtain ⟨t', rfl⟩ := ry
  obtain ⟨j, h1, h2, h3, h4, h5⟩ := atI_get he
  have hl : z.cps.toList.length = z.length := by simp [Str.length]
  rw [hl] at h1 h4 h5
  have hn := line63
  exact tail_any (typeIs_str s z t) slot_str_getitem.lookup (getItem_str (c := c) (by
    have e1 : decide (i < -(2 ^ 63 : Int)) = false := decide_eq_false (by omega)
    have e2 : decide (i ≥ 2 ^ 63) = false := decide_eq_false (by omega)
    rw [e1, e2, Bool.or_false]) (by rw [h1]; simpa using h2) ⟨.str ⟨#[c]⟩, H, I.tok _, ⟨_, rfl⟩, q⟩) hs
def rIx (K : PySem.W.Frag) : R2 := fun x y H Q => rIxL K x y H Q ∨ rIxT K x y H Q ∨ rIxS x y H Q
theorem ix_seq : IxR X (rIx X.K) := ix_list.or (ix_tup.or ix_str)

theorem mapSeq_set (its : List Value) (n j : Nat) (u : Value) : Obj.mapSeq (·.setIfInBounds j u) { cls := .type "list", data := .seq its.toArray n } = { cls := .type "list", data := .seq (its.set j u).toArray n } := by
  simp [Obj.mapSeq]
theorem Inv.lst {pins : List (Addr × Obj)} {σ : St} {H : Hp} {s : Shared} {p : Addr} {xs : List V} (I : Inv X pins σ H s) (h : H p = some (.lst xs)) :
    ∃ (its : List Value) (n : Nat), Vals xs its ∧ s.heap.get? p = some { cls := .type "list", data := .seq its.toArray n } ∧ xs.length ≤ sizeLine := by
  obtain ⟨z, its, n, r, e⟩ := I.hok p _ h
  exact ⟨its, n, r, e, z⟩
theorem Inv.lstUpd {pins : List (Addr × Obj)} {σ : St} {H : Hp} {s : Shared} {p : Addr} {xs ys : List V} {its its' : List Value} {n n' : Nat} {f : Obj → Obj} (I : Inv X pins σ H s) (h : H p = some (.lst xs))
    (ho : s.heap.get? p = some { cls := .type "list", data := .seq its.toArray n }) (hf : f { cls := .type "list", data := .seq its.toArray n } = { cls := .type "list", data := .seq its'.toArray n' }) (r : Vals ys its') (hz : ys.length ≤ sizeLine) (t : Nat) :
    Inv X pins σ (upd H p (.lst ys)) { s with heap := s.heap.update p f, toks := t } := by
  have e : (s.heap.update p f).get? p = some { cls := .type "list", data := .seq its'.toArray n' } := by
    rw [Heap.get?_update_self f ho (by rw [hf] <;> rfl), hf]
  refine I.write (x := p) (e := p) (by rw [h]; trivial) (.inl rfl) (fun b u hb q => (Heap.get?_update_other _ _ (Ne.symm hb)).trans q) ⟨_, e⟩ ?_
  exact ⟨hz, its', n', r, e⟩
def rSetL : V → V → V → Hp → (Hp → Prop) → Prop := fun o i v H Q => ∃ p xs k j, o = .ref p ∧ i = .int k ∧ H p = some (.lst xs) ∧ ixN xs.length k = some j ∧ Q (upd H p (.lst (xs.set j v)))
theorem set_list : PSet X rSetL := by
  intro pins s σ H o i v ov iv u Q I ro ri rv h
  obtain ⟨p, xs, k, j, rfl, rfl, hp, hj, q⟩ := h
  cases ro
  obtain ⟨t, rfl⟩ := ri
  obtain ⟨its, n, r, ho, hz⟩ := I.lst hp
  obtain ⟨h1, h2, h3, h4⟩ := ixN_seq hj
  have hl := r.length
  have hn := line63
  have I' : Inv X pins σ (upd H p (.lst (xs.set j v))) { s with heap := s.heap.update p (Obj.mapSeq (·.setIfInBounds j u)) } :=
    I.lstUpd hp ho (mapSeq_set its n j u) (r.set rv j) (by rw [List.length_set]; exact hz) s.toks
  by_cases h0 : 0 ≤ k
  · have hk : k.toNat = j := by
      rw [seqIndex_of h0 h4] at h1
      exact Option.some.inj h1
    exact PySem.W.ki_setAt ho h0 (by omega) (by rw [List.size_toArray, ← hl]; exact h4) (by rw [hk]; exact ⟨_, I', q⟩)
  · have hk : (k + (its.toArray.size : Int)).toNat = j := by
      rw [seqIndex_neg (by omega) h3] at h1
      rw [List.size_toArray, ← hl]
      exact Option.some.inj h1
    exact PySem.W.ki_setBack ho (by omega) (by rw [List.size_toArray, ← hl]; exact h3) (by omega) (by rw [hk]; exact ⟨_, I', q⟩)

theorem slice_bounds (lo hi : Option Int) (n : Nat) : (sliceBounds lo hi none n).1 = ((HT.sIx n 0 lo : Nat) : Int) ∧ (sliceBounds lo hi none n).2.1 = ((HT.sIx n n hi : Nat) : Int) ∧ (sliceBounds lo hi none n).2.2 = 1 := by
  refine ⟨?_, ?_, rfl⟩
  · cases lo with
    | none => simp [sliceBounds, HT.sIx]
    | some i =>
      simp only [sliceBounds, HT.sIx, Option.getD_none, show (1 : Int) > 0 by decide, if_true]
      by_cases h : i < 0
      · simp only [h, if_true] <;> omega
      · simp only [h, if_false] <;> omega
  · cases hi with
    | none => simp [sliceBounds, HT.sIx]
    | some i =>
      simp only [sliceBounds, HT.sIx, Option.getD_none, show (1 : Int) > 0 by decide, if_true]
      by_cases h : i < 0
      · simp only [h, if_true] <;> omega
      · simp only [h, if_false] <;> omega
theorem slicePick_cut (its : List Value) (lo hi : Option Int) : slicePick its.toArray lo hi none = ((its.drop (HT.sIx its.length 0 lo)).take (HT.sIx its.length its.length hi - HT.sIx its.length 0 lo)).toArray := by
  obtain ⟨h1, h2, h3⟩ := slice_bounds lo hi its.toArray.size
  unfold slicePick
  rw [h1, h2, h3]
  simp only [sliceRange_one, pick_run, List.size_toArray] <;> rfl
def rSlL (K : PySem.W.Frag) : V → Option Int → Option Int → Hp → VK → Prop := fun x lo hi H Q => ∃ a xs, x = .ref a ∧ SqL K H a xs ∧ ∀ p, H p = none → Q (.ref p) (upd H p (.lst (cutV xs lo hi)))
theorem sl_list : SlR X (rSlL X.K) := by
  intro pins s σ H x v vl vu lo hi sl Q I rx hs pl pu h
  obtain ⟨a, xs, rfl, hx, q⟩ := h
  cases rx
  obtain ⟨its, r, ht, hz⟩ := I.list hx
  have hlen := r.length
  refine ⟨"list", _, slot_list_getitem.lookup, ht.isList.typeIs, ?_⟩
  refine wpAny_getItem_list_slice ht.isList hs pl pu .none (by simp) ?_ (by rw [List.size_toArray] <;> omega)
  rw [slicePick_cut, ← hlen]
  refine ⟨.ref s.heap.objs.size, _, I.laid (t' := s.toks) (o := .lst (cutV xs lo hi)) (fun b ob q => Heap.get?_push_of_some _ q) (Nat.le_refl _) ?_, rfl, q _ (I.hok.fresh (Nat.le_refl _))⟩
  exact ⟨Nat.le_trans (cutV_length xs lo hi) hz, _, 0, (r.drop (HT.sIx xs.length 0 lo)).take (HT.sIx xs.length xs.length hi - HT.sIx xs.length 0 lo), Heap.get?_push_size _ rfl⟩

def flatV : V → Bool
  | .non => true
  | .bl _ => true
  | .int _ => true
  | .str _ => true
  | _ => false
def eqV : V → V → Bool
  | .non, .non => true
  | .bl a, .bl b => a == b
  | .bl a, .int b => (if a then 1 else 0) == b
  | .int a, .bl b => a == (if b then 1 else 0)
  | .int a, .int b => a == b
  | .str a, .str b => a == b
  | _, _ => false
theorem eqAt_V {A : Around} {s : Shared} {y x : V} {u v : Value} (ry : RelV y u) (rx : RelV x v) (fy : flatV y = true) (fx : flatV x = true) : SeqAt.EqAt A s u v (eqV y x) := by
  cases y with
  | non =>
    cases ry
    cases x with
    | non => cases rx; exact SeqAt.EqAt.same _
    | bl b => cases rx; exact SeqAt.EqAt.none_bool b
    | int b => obtain ⟨t, rfl⟩ := rx; exact SeqAt.EqAt.none_int b t
    | str b => obtain ⟨t, rfl⟩ := rx; exact SeqAt.EqAt.none_str b t
    | _ => exact absurd (show false = true from fx) Bool.false_ne_true
  | bl a =>
    cases ry
    cases x with
    | non => cases rx; exact SeqAt.EqAt.bool_none a
    | bl b => cases rx; exact SeqAt.EqAt.bool_bool a b
    | int b => obtain ⟨t, rfl⟩ := rx; exact SeqAt.EqAt.bool_int a b t
    | str b => obtain ⟨t, rfl⟩ := rx; exact SeqAt.EqAt.bool_str a b t
    | _ => exact absurd (show false = true from fx) Bool.false_ne_true
  | int a =>
    obtain ⟨t', rfl⟩ := ry
    cases x with
    | non => cases rx; exact SeqAt.EqAt.int_none a t'
    | bl b => cases rx; exact SeqAt.EqAt.int_bool a t' b
    | int b => obtain ⟨t, rfl⟩ := rx; exact SeqAt.EqAt.int_int a t' b t
    | str b => obtain ⟨t, rfl⟩ := rx; exact SeqAt.EqAt.int_str a t' b t
    | _ => exact absurd (show false = true from fx) Bool.false_ne_true
  | str a =>
    obtain ⟨t', rfl⟩ := ry
    cases x with
    | non => cases rx; exact SeqAt.EqAt.str_none a t'
    | bl b => cases rx; exact SeqAt.EqAt.str_bool a t' b
    | int b => obtain ⟨t, rfl⟩ := rx; exact SeqAt.EqAt.str_int a t' b t
    | str b => obtain ⟨t, rfl⟩ := rx; exact SeqAt.EqAt.str_str a t' b t
    | _ => exact absurd (show false = true from fx) Bool.false_ne_true
  | _ => exact absurd (show false = true from fy) Bool.false_ne_true
def eqU (x : V) (u : Value) : Bool := match u with
  | .none => eqV .non x
  | .bool b => eqV (.bl b) x
  | .int i _ => eqV (.int i) x
  | .str z _ => eqV (.str z) x
  | _ => false
theorem eqU_of {x y : V} {u : Value} (r : RelV y u) (f : flatV y = true) : eqU x u = eqV y x := by
  cases y with
  | non => cases r; rfl
  | bl b => cases r; rfl
  | int i => obtain ⟨t, rfl⟩ := r; rfl
  | str z => obtain ⟨t, rfl⟩ := r; rfl
  | _ => exact absurd (show false = true from f) Bool.false_ne_true
theorem any_eqU {x : V} : ∀ {xs : List V} {us : List Value}, Vals xs us → xs.all flatV = true → us.any (eqU x) = xs.any fun y => eqV y x
  | _, _, .nil, _ => rfl
  | y :: xs, u :: us, .cons r t, f => by
    rw [List.all_cons, Bool.and_eq_true] at f
    rw [List.any_cons, List.any_cons, eqU_of r f.1, any_eqU t f.2]
theorem mem_eqAt {A : Around} {s : Shared} {x : V} {v : Value} (rx : RelV x v) (fx : flatV x = true) : ∀ {xs : List V} {us : List Value}, Vals xs us → xs.all flatV = true → ∀ u ∈ us, SeqAt.EqAt A s u v (eqU x u)
  | _, _, .nil, _ => fun u hu => by cases hu
  | y :: xs, u :: us, .cons r t, f => fun u' hu => by
    rw [List.all_cons, Bool.and_eq_true] at f
    rcases List.mem_cons.mp hu with rfl | hu
    · rw [eqU_of r f.1]; exact eqAt_V r rx f.1 fx
    · exact mem_eqAt rx fx t f.2 u' hu
def inV (x : V) (xs : List V) : Bool := xs.any fun y => eqV y x
def rIn (K : PySem.W.Frag) (neg : Bool) : R2 := fun x y H Q => ∃ p xs, y = .ref p ∧ (SqL K H p xs ∨ SqT K H p xs) ∧ flatV x = true ∧ xs.all flatV = true ∧ Q (.bl (if neg then !inV x xs else inV x xs)) H
theorem op_in_seq : OpR X (compareOp .In) (rIn X.K false) := by
  intro pins s σ H x y v u Q I rx ry h
  obtain ⟨p, xs, rfl, hq, fx, fs, q⟩ := h
  cases ry
  rcases hq with hq | hq
  · obtain ⟨its, r, pl, hz⟩ := I.list hq
    refine SeqAt.in_listAt (eqU x) pl.isList (fun w hw => mem_eqAt rx fx r fs w (by simpa using hw)) ⟨.bl _, H, I, rfl, ?_⟩
    rw [show its.toArray.any (eqU x) = its.any (eqU x) by simp, any_eqU r fs]
    exact q
  · obtain ⟨its, r, pl, hz⟩ := I.tuple hq
    refine SeqAt.in_tupleAt (eqU x) pl (fun w hw => mem_eqAt rx fx r fs w (by simpa using hw)) ⟨.bl _, H, I, rfl, ?_⟩
    rw [show its.toArray.any (eqU x) = its.any (eqU x) by simp, any_eqU r fs]
    exact q
theorem op_notIn_seq : OpR X (compareOp .NotIn) (rIn X.K true) := by
  intro pins s σ H x y v u Q I rx ry h
  obtain ⟨p, xs, rfl, hq, fx, fs, q⟩ := h
  cases ry
  rcases hq with hq | hq
  · obtain ⟨its, r, pl, hz⟩ := I.list hq
    refine SeqAt.notIn_listAt (eqU x) pl.isList (fun w hw => mem_eqAt rx fx r fs w (by simpa using hw)) ⟨.bl _, H, I, rfl, ?_⟩
    rw [show its.toArray.any (eqU x) = its.any (eqU x) by simp, any_eqU r fs]
    exact q
  · obtain ⟨its, r, pl, hz⟩ := I.tuple hq
    refine SeqAt.notIn_tupleAt (eqU x) pl (fun w hw => mem_eqAt rx fx r fs w (by simpa using hw)) ⟨.bl _, H, I, rfl, ?_⟩
    rw [show its.toArray.any (eqU x) = its.any (eqU x) by simp, any_eqU r fs]
    exact q
theorem call_len_seq : CallR X (.builtin "len") (fun xs H Q => ∃ p ys, xs = [.ref p] ∧ (SqL X.K H p ys ∨ SqT X.K H p ys) ∧ Q (.int ys.length) H) := by
  intro pins s σ H xs us Q I r h
  obtain ⟨p, ys, rfl, hq, q⟩ := h
  obtain ⟨u, rfl, rx⟩ := vals1 r
  cases rx
  have hn := line63
  rcases hq with hq | hq
  · obtain ⟨its, r', pl, hz⟩ := I.list hq
    have hlen := r'.length
    exact Calls.call_len_list pl.isList (by simp only [List.size_toArray] <;> omega) ⟨.int ys.length, H, I.tok _, ⟨s.toks + 1, by rw [List.size_toArray, hlen]⟩, q⟩
  · obtain ⟨its, r', pl, hz⟩ := I.tuple hq
    have hlen := r'.length
    exact len_tuple pl (by simp only [List.size_toArray] <;> omega) ⟨.int ys.length, H, I.tok _, ⟨s.toks + 1, by rw [List.size_toArray, hlen]⟩, q⟩
theorem call_len_str : CallR X (.builtin "len") (fun xs H Q => ∃ z, xs = [.str z] ∧ z.length ≤ sizeLine ∧ Q (.int z.length) H) := by
  intro pins s σ H xs us Q I r h
  obtain ⟨z, rfl, hz, q⟩ := h
  obtain ⟨u, rfl, t, rfl⟩ := vals1 r
  have hn := line63
  exact len_str (by omega) ⟨.int z.length, H, I.tok _, ⟨_, rfl⟩, q⟩
theorem CallR.or {f : Value} {r r' : List V → Hp → VK → Prop} (h : CallR X f r) (h' : CallR X f r') : CallR X f (fun xs H Q => r xs H Q ∨ r' xs H Q) := by
  intro pins s σ H xs us Q I rs q
  rcases q with q | q
  · exact h pins s σ H xs us Q I rs q
  · exact h' pins s σ H xs us Q I rs q
theorem call_list_of : CallR X (.type "list") (fun xs H Q => ∃ p ys, xs = [.ref p] ∧ (SqL X.K H p ys ∨ SqT X.K H p ys) ∧ ∀ l, H l = none → Q (.ref l) (upd H l (.lst ys))) := by
  intro pins s σ H xs us Q I r h
  obtain ⟨p, ys, rfl, hq, q⟩ := h
  obtain ⟨u, rfl, rx⟩ := vals1 r
  cases rx
  have fin : ∀ (its : List Value), Vals ys its → ys.length ≤ sizeLine → ∀ (h' : Heap) (c' : Nat), (∀ b o', s.heap.get? b = some o' → h'.get? b = some o') →
      h'.get? s.heap.objs.size = some { cls := .type "list", dict := none, data := .seq its.toArray c', slots := #[] } → EP X pins σ Q (.ref s.heap.objs.size) { s with heap := h' } := fun its r' hz h' c' kp e =>
    ⟨.ref s.heap.objs.size, _, I.laid (t' := s.toks) kp (Nat.le_refl _) (show ObjOk X.prog X.w _ h' _ (.lst ys) from ⟨hz, its, c', r', e⟩), rfl, q _ (I.hok.fresh (Nat.le_refl _))⟩
  rcases hq with hq | hq
  · obtain ⟨its, r', pl, hz⟩ := I.list hq
    have hlen := r'.length
    obtain ⟨o, ho, hc, n, hd⟩ := pl.isList
    exact call_list_seq p (.inl rfl) ho hc hd (fun h' c' kp e => fin its r' hz h' c' kp e) (by simp only [List.size_toArray] <;> omega)
  · obtain ⟨its, r', pl, hz⟩ := I.tuple hq
    have hlen := r'.length
    obtain ⟨o, ho, hc, n, hd⟩ := pl
    exact call_list_seq p (.inr rfl) ho hc hd (fun h' c' kp e => fin its r' hz h' c' kp e) (by simp only [List.size_toArray] <;> omega)
def tyV (K : PySem.W.Frag) (T : String) (x : V) (H : Hp) : Prop := match x with
  | .str _ => T = "str"
  | .int _ => T = "int"
  | .ref p => (T = "list" ∧ ∃ xs, SqL K H p xs) ∨ (T = "tuple" ∧ ∃ o, K.lookup p = some o ∧ o.cls = .type "tuple" ∧ o.dict = none) ∨
      (T = "dict" ∧ ((∃ kvs, H p = some (.dK kvs)) ∨ ∃ kvs, H p = some (.dT kvs))) ∨ (T = "set" ∧ ∃ S n, H p = some (.set S n))
  | _ => False
theorem tyV_is {pins : List (Addr × Obj)} {σ : St} {H : Hp} {s : Shared} {T : String} {x : V} {v : Value} (I : Inv X pins σ H s) (r : RelV x v) (ty : tyV X.K T x H) :
    s.TypeIs v T ∧ ∀ a, v = .ref a → ∃ ob, s.heap.get? a = some ob ∧ ob.dict = none := by
  cases x with
  | str z =>
    obtain ⟨t, rfl⟩ := r
    cases (show T = "str" from ty)
    exact ⟨typeIs_str s z t, fun _ e => nomatch e⟩
  | int i =>
    obtain ⟨t, rfl⟩ := r
    cases (show T = "int" from ty)
    exact ⟨typeIs_int s i t, fun _ e => nomatch e⟩
  | ref p =>
    cases r
    rcases ty with ⟨rfl, xs, hq⟩ | ⟨rfl, o, hk, hc, hd⟩ | ⟨rfl, hk⟩ | ⟨rfl, S, n, hk⟩
    · obtain ⟨its, _, pl, _⟩ := I.list hq
      refine ⟨pl.isList.typeIs, fun a e => ?_⟩
      cases e
      obtain ⟨o, n, e, c, hd, _⟩ := pl
      exact ⟨o, e, hd⟩
    · refine ⟨⟨o, I.kIn p o hk, hc⟩, fun a e => ?_⟩
      cases e
      exact ⟨o, I.kIn _ o hk, hd⟩
    · have z : ∃ o, s.heap.get? p = some o ∧ o.ExactDict := by
        rcases hk with ⟨kvs, hk⟩ | ⟨kvs, hk⟩
        · obtain ⟨_, _, _, _, o, _, _, e, ex, _⟩ := I.hok p _ hk
          exact ⟨o, e, ex⟩
        · obtain ⟨_, _, _, _, o, _, _, e, ex, _⟩ := I.hok p _ hk
          exact ⟨o, e, ex⟩
      obtain ⟨o, e, ex⟩ := z
      refine ⟨⟨o, e, ex.1⟩, fun a e2 => ?_⟩
      cases e2
      exact ⟨o, e, ex.2.1⟩
    · obtain ⟨o, _, _, _, e, ex, _⟩ := I.hok p _ hk
      refine ⟨⟨o, e, ex.1⟩, fun a e2 => ?_⟩
      cases e2
      exact ⟨o, e, ex.2.1⟩
  | _ => exact False.elim ty
variable {o e : Expr} {es : List Expr} {to : TE} {t : TA} {name : Str} {apos cpos : Pos} {T id : String} {r : V → List V → Hp → VK → Prop}
/- xs.append(e), list.index on a module's tuple .. are MtR facts of 06m -/
end
end L2

namespace L2
open PySem PySem.Spec PyProof.Rows

def MtM (X : Cx) (id : String) (r : V → List V → Hp → VK → Prop) : Prop :=
  ∀ (pins : List (Addr × Obj)) (s : Shared) (σ : St) (H : Hp) (x : V) (xs : List V) (v : Value) (us : List Value) (Q : VK), Inv X pins σ H s → RelV x v → Vals xs us → r x xs H Q →
    wpAny (model X.prog X.w) X.A (call (.builtin id) (v :: us)) (EP X pins σ Q) X.xe s

theorem Vals.one : ∀ {x : V} {us : List Value}, Vals [x] us → ∃ u, us = [u] ∧ RelV x u
  | _, _, .cons r .nil => ⟨_, rfl, r⟩
theorem Vals.zero : ∀ {us : List Value}, Vals [] us → us = []
  | _, .nil => rfl
theorem Vals.eraseIdx : ∀ {xs : List V} {us : List Value} (i : Nat), Vals xs us → Vals (xs.eraseIdx i) (us.eraseIdx i)
  | _, _, _, .nil => .nil
  | _, _, 0, .cons _ t => t
  | _, _, i + 1, .cons r t => .cons r (Vals.eraseIdx i t)
theorem Vals.reverse {xs : List V} {us : List Value} (h : Vals xs us) : Vals xs.reverse us.reverse := by
  induction h with
  | nil => exact .nil
  | cons r t ih => rw [List.reverse_cons, List.reverse_cons]; exact Vals.append ih (.cons r .nil)
theorem Vals.rep {xs : List V} {us : List Value} (h : Vals xs us) : ∀ k : Nat, Vals (List.replicate k xs).flatten (List.replicate k us).flatten
  | 0 => .nil
  | k + 1 => by
    rw [List.replicate_succ, List.replicate_succ, List.flatten_cons, List.flatten_cons]
    exact Vals.append h (Vals.rep h k)
theorem len_erase {α : Type} : ∀ (l : List α) (i : Nat), (l.eraseIdx i).length ≤ l.length
  | [], _ => Nat.le_refl _
  | _ :: _, 0 => Nat.le_succ _
  | _ :: r, i + 1 => Nat.succ_le_succ (len_erase r i)
theorem foldl_rep (its : List Value) : ∀ (k : Nat) (acc : List Value),
    List.foldl (fun x1 x2 => x1 ++ x2) acc.toArray (List.replicate k its.toArray) = (acc ++ (List.replicate k its).flatten).toArray
  | 0, acc => by simp
  | k + 1, acc => by
    have e : acc.toArray ++ its.toArray = (acc ++ its).toArray := by simp
    have e2 : (acc ++ its) ++ (List.replicate k its).flatten = acc ++ (List.replicate (k + 1) its).flatten := by
      rw [List.replicate_succ, List.flatten_cons, List.append_assoc]
    rw [← e2, ← foldl_rep its k (acc ++ its), ← e, List.replicate_succ, List.foldl_cons]

section
variable {X : Cx} {pins : List (Addr × Obj)} {σ : St} {H : Hp} {s : Shared} {l b : Addr} {xs ys zs : List V}

theorem Inv.lset {its its' : List Value} {n : Nat} {f : Array Value → Array Value} {t' : Nat} (I : Inv X pins σ H s) (hH : H l = some (.lst xs))
    (e : s.heap.get? l = some { cls := .type "list", data := .seq its.toArray n }) (hf : f its.toArray = its'.toArray) (hv : Vals ys its') (hz : ys.length ≤ sizeLine) :
    Inv X pins σ (upd H l (.lst ys)) { s with heap := s.heap.update l (Obj.mapSeq f), toks := t' } := by
  have q := PySem.IsL.update e f
  rw [hf] at q
  refine I.write (x := l) (e := l) (by rw [hH]; exact trivial) (.inl rfl) (fun b' u hb hu => (Heap.get?_update_other s.heap (Obj.mapSeq f) (Ne.symm hb)).trans hu) ⟨_, q⟩ ?_
  exact ⟨hz, its', _, hv, q⟩
theorem Inv.lnew {its : List Value} {t' : Nat} (I : Inv X pins σ H s) (hv : Vals ys its) (hz : ys.length ≤ sizeLine) :
    Inv X pins σ (upd H s.heap.objs.size (.lst ys)) { s with heap := s.heap.push { cls := .type "list", data := .seq its.toArray }, toks := t' } :=
  I.laid (fun _ _ q => Heap.get?_push_of_some _ q) (Nat.le_refl _) ⟨hz, its, 0, hv, Heap.get?_push_size _ rfl⟩
theorem Inv.fresh (I : Inv X pins σ H s) : H s.heap.objs.size = none := I.hok.fresh (Nat.le_refl _)
theorem Inv.lstM (I : Inv X pins σ H s) (hH : H l = some (.lst xs)) : xs.length ≤ sizeLine ∧ ∃ (its : List Value) (n : Nat), Vals xs its ∧ xs.length = its.length ∧ s.heap.get? l = some { cls := .type "list", data := .seq its.toArray n } := by
  obtain ⟨z, its, n, r, e⟩ := I.hok l _ hH
  exact ⟨z, its, n, r, r.length, e⟩

theorem notLongL {n : Nat} (h : n ≤ sizeLine) : Builtin.List.listTooLong n = false := by
  unfold Builtin.List.listTooLong
  exact decide_eq_false (by omega)
end

section
variable {X : Cx}

def rAppend : V → List V → Hp → VK → Prop := fun x vs H Q => ∃ l xs y, x = .ref l ∧ vs = [y] ∧ H l = some (.lst xs) ∧ xs.length < sizeLine ∧ Q .non (upd H l (.lst (xs ++ [y])))
theorem mt_append : MtM X "list.append" rAppend := by
  intro pins s σ H x vs v us Q I rx rv h
  obtain ⟨l, xs, y, rfl, rfl, hH, hz, q⟩ := h
  cases rx
  obtain ⟨u, rfl, ru⟩ := rv.one
  obtain ⟨z, its, n, r, hl, e⟩ := I.lstM hH
  refine call_meets F.slot_list_append ⟨_, e, rfl⟩ F.entry_list_append (F.args_list_append_2 _ _) (PySem.list_append l its.toArray n u (by rw [List.size_toArray]; omega)) ⟨e, ?_⟩
  refine ⟨.non, _, I.lset (its' := its ++ [u]) hH e (by simp) (r.append (.cons ru .nil)) ?_, rfl, q⟩
  rw [List.length_append, List.length_singleton]
  omega

def rPopAt : V → List V → Hp → VK → Prop := fun x vs H Q => ∃ l xs i k y, x = .ref l ∧ vs = [.int i] ∧ H l = some (.lst xs) ∧ -(2 ^ 63) ≤ i ∧ i < 2 ^ 63 ∧ seqIndex? i xs.length = some k ∧ xs[k]? = some y ∧ Q y (upd H l (.lst (xs.eraseIdx k)))
theorem mt_popAt : MtM X "list.pop" rPopAt := by
  intro pins s σ H x vs v us Q I rx rv h
  obtain ⟨l, xs, i, k, y, rfl, rfl, hH, h1, h2, hk, hy, q⟩ := h
  cases rx
  obtain ⟨u, rfl, ru⟩ := rv.one
  obtain ⟨t, rfl⟩ := ru
  obtain ⟨z, its, n, r, hl, e⟩ := I.lstM hH
  obtain ⟨w, hw, rw'⟩ := r.get hy
  refine call_meets F.slot_list_pop ⟨_, e, rfl⟩ F.entry_list_pop (F.args_list_pop_2 _ _)
    (MeetsSeq.list_pop_at l its.toArray n i t k w (fitsIndex_both h1 h2) (by rw [List.size_toArray, ← hl]; exact hk) (by rw [← Array.getElem?_toList]; exact hw) (by rw [List.size_toArray]; omega)) ⟨e, ?_⟩
  refine ⟨y, _, I.lset (its' := its.eraseIdx k) hH e ?_ (r.eraseIdx k) ?_, rw', q⟩
  · show its.toArray.eraseIdxIfInBounds k = (its.eraseIdx k).toArray
    rw [List.eraseIdxIfInBounds_toArray]
  · have := len_erase xs k
    omega

def rCat : R2 := fun x y H Q => ∃ l b xs zs, x = .ref l ∧ y = .ref b ∧ H l = some (.lst xs) ∧ H b = some (.lst zs) ∧ xs.length + zs.length ≤ sizeLine ∧ ∀ p, H p = none → Q (.ref p) (upd H p (.lst (xs ++ zs)))
theorem op_cat : OpR X (binaryOp .Add) rCat := by
  intro pins s σ H x y v u Q I rx ry h
  obtain ⟨l, b, xs, zs, rfl, rfl, hH, hB, hz, q⟩ := h
  cases rx
  cases ry
  obtain ⟨z, its, n, r, hl, e⟩ := I.lstM hH
  obtain ⟨z2, its2, n2, r2, hl2, e2⟩ := I.lstM hB
  refine PySem.P.add_list e e2 ?_ (by rw [List.size_toArray, List.size_toArray]; omega)
  have ea : its.toArray ++ its2.toArray = (its ++ its2).toArray := by simp
  rw [ea]
  exact ⟨.ref _, _, I.lnew (t' := s.toks) (r.append r2) (by rw [List.length_append]; omega), rfl, q _ I.fresh⟩
def rRep : R2 := fun x y H Q => ∃ l k xs, x = .ref l ∧ y = .int k ∧ H l = some (.lst xs) ∧ -(2 ^ 63) ≤ k ∧ k < 2 ^ 63 ∧ xs.length * k.toNat ≤ sizeLine ∧
  ∀ p, H p = none → Q (.ref p) (upd H p (.lst (List.replicate k.toNat xs).flatten))
theorem len_rep {α : Type} (xs : List α) (k : Nat) : (List.replicate k xs).flatten.length = k * xs.length := by
  induction k with
  | zero => simp
  | succ k ih => rw [List.replicate_succ, List.flatten_cons, List.length_append, ih, Nat.succ_mul, Nat.add_comm]
theorem op_rep : OpR X (binaryOp .Mult) rRep := by
  intro pins s σ H x y v u Q I rx ry h
  obtain ⟨l, k, xs, rfl, rfl, hH, h1, h2, hz, q⟩ := h
  cases rx
  obtain ⟨t, rfl⟩ := ry
  obtain ⟨z, its, n, r, hl, e⟩ := I.lstM hH
  have hlen : its.toArray.size * k.toNat ≤ sizeLine := by rw [List.size_toArray, ← hl]; exact hz
  have hcap : ¬ its.toArray.size * k.toNat > (2 ^ 63 - 1) / 8 := by
    have : (sizeLine : Nat) ≤ (2 ^ 63 - 1) / 8 := by decide
    omega
  have hfit : ¬ (!Builtin.List.listFitsIndex k) = true := by
    rw [fitsIndex_both h1 h2]
    exact Bool.false_ne_true
  have hlong : ¬ Builtin.List.listTooLong (its.toArray.size * k.toNat) = true := by
    rw [notLongL hlen]
    exact Bool.false_ne_true
  have hnew : List.foldl (fun x1 x2 => x1 ++ x2) #[] (List.replicate (if its.toArray.isEmpty = true then 0 else k.toNat) its.toArray) = (List.replicate k.toNat its).flatten.toArray := by
    have f0 : ∀ m : Nat, List.foldl (fun x1 x2 => x1 ++ x2) #[] (List.replicate m its.toArray) = (List.replicate m its).flatten.toArray := fun m => by
      have := foldl_rep its m []
      rw [List.nil_append] at this
      exact this
    rw [f0]
    cases its with
    | nil => simp
    | cons a r' => rw [if_neg (by simp)]
  refine wpAny_binaryOp_repeat_ref (T := "list") (U := "int") (by decide) ⟨_, e, rfl⟩ (fun s' => typeIs_int s' k t) noFill_list_mul F.fills_int_mul F.slot_int_rmul repeat_list F.slot_int_index.lookup
    (call_meets F.slot_int_rmul (typeIs_int s k t) F.entry_int_rmul (F.args_int_rmul_2 _ _) (int___rmul___int_list k t l its.toArray n)
      ⟨e, rfl, ⟨_, e, rfl⟩, call_meets F.slot_list_mul ⟨_, e, rfl⟩ F.entry_list_mul (F.args_list_mul_2 _ _) (AutoListH.list___mul___list_int_3 l its.toArray n k t hfit hcap hlong) ⟨e, ?_⟩⟩)
  rw [hnew]
  exact ⟨.ref _, _, I.lnew (t' := s.toks) (r.rep k.toNat) (by rw [len_rep, Nat.mul_comm]; exact hz), rfl, q _ I.fresh⟩

end

section
variable {prog : Program} {w : World} {A : Around} {E : Value → Shared → Prop} {s : Shared}
set_option maxRecDepth 100000 in
end

section
variable {X : Cx}
end
end L2

namespace Att
open PySem PySem.W PySem.Calls PyProof.Rows

theorem ints_of_wellAll {P : Params} {h : Heap} : ∀ (ns : List Int) (vs : List Value), WellAll P h vs (ns.map WData.int) → IntsAre vs ns := by
  intro ns
  induction ns with
  | nil =>
    intro vs w
    rw [List.map_nil] at w
    cases w
    exact .nil
  | cons n ns ih =>
    intro vs w
    rw [List.map_cons] at w
    cases w with
    | cons a b =>
      cases a
      exact .cons _ _ (ih _ b)

theorem script_of {l : OpenLaw} {n : Nat} (hn : l.most = some n) {P : Params} {h : Heap} {args : List WData} {vals : List Value}
    (hpre : l.row.toRowW.claim.pre args = true) (hwl : WellAll P h vals args) :
    ∃ a vs ns, vals = [Value.ref a] ∧ args = [WData.list (ns.map WData.int)] ∧ h.get? a = some { cls := .type "list", data := .seq vs.toArray } ∧ IntsAre vs ns ∧ ns.length ≤ n := by
  have hsh : WShape.hasAll [] args [.list .int] = true := (pre_splitW hpre).1
  have hc : l.pre.holds [] { args := args } = true := (pre_splitW hpre).2
  obtain ⟨d, r, rfl, h1, h2⟩ := hasAllW_cons hsh
  obtain rfl := hasAllW_nil h2
  obtain ⟨xs, rfl, h3⟩ := hasW_list h1
  obtain ⟨ns, rfl⟩ := items_int h3
  have hlen : ns.length ≤ n := by
    unfold OpenLaw.pre at hc
    have h4 : (WTm.not (.lt (.lit (.int (n : Int))) (.len (.arg 0)))).holds [] { args := [.list (ns.map .int)] } = true := by
      have h4 := (holds_andW hc).1
      rw [hn] at h4
      exact h4
    have h5 := condW_of h4 (w_not (w_lt w_lit (w_len_list (w_arg rfl))))
    rw [List.length_map] at h5
    refine Nat.le_of_not_lt fun q => ?_
    have q' : (n : Int) < ((ns.length : Nat) : Int) := by omega
    first
      | (rw [decide_eq_true q'] at h5; exact absurd h5 (by decide))
      | (simp at h5; omega)
  cases hwl with
  | cons w1 w2 =>
    cases w2
    cases w1 with
    | list ho hall => exact ⟨_, _, ns, rfl, rfl, ho, ints_of_wellAll ns _ hall, hlen⟩

theorem post_true (l : OpenLaw) (args : List WData) : l.row.toRowW.claim.post args (.bool true) args = true :=
  postW_of (r := l.row.toRowW) (X := (true == true))
    (show WShape.has [] (.bool true) .bool = true by first | rfl | decide | simp [WShape.has, WShape.arms, WShape.armsAll])
    (show (WTm.eq .res (.lit (.bool true))).value [] { args := args, res := some (.bool true), after := args } = some (.bool (true == true)) from w_eq_bool (w_res rfl) w_lit) rfl

theorem attach_call {l : OpenLaw} {n : Nat} {q : Program} {loose : List Str} {XP : (Str → Option Value) → Heap → Prop} {YP : World → Heap → Prop} {d : DefRec}
    (hn : l.most = some n) (hdf : d.params.defaults = [])
    (call : ∀ (w : World) (s₀ s₁ : Shared) (mg mb : Str → Option Value) (fa : Addr) (o : Obj) (pm cd doc : Value) (a : Addr) (vs : List Value) (ns : List Int),
      Ground q loose [] XP w s₀ mg mb s₁.heap → YP w s₁.heap →
      s₁.heap.get? fa = some o → o.data = .func (docDef d.name d.params d.body d.scope pm cd doc) → s₁.heap.CodeRec cd d.name → mg d.name = some (.ref fa) →
      s₁.heap.get? a = some { cls := .type "list", data := .seq vs.toArray } → IntsAre vs ns → ns.length ≤ n → s₁.gens = #[] →
      codeAny (model l.prog w) callerA (.call (.ref fa) ⟨[.ref a], []⟩) (fun r s' => r = .ok (.ret (.bool true)) ∧ OldK s₁.heap s'.heap ∧ s'.os = s₁.os ∧ AllBare s'.gens) s₁) :
    WalkO q loose XP YP l.row.toRowW d [] (fun f vs => PySem.call f vs) := by
  intro w s₀ s₁ mg mb G Y fa o pm cd doc dV kV ho hd hcd hD hmg hg args vals as hpre hlay hrd hwl hlo
  obtain rfl : dV = .none := Dflts.none hD hdf
  obtain rfl : kV = .none := Dflts.noKw hD
  obtain ⟨a, vs, ns, rfl, rfl, hobj, hints, hlen⟩ := script_of hn hpre hwl
  refine enter_call (codeAny_mono (call w s₀ s₁ mg mb fa o pm cd doc a vs ns G Y ho (fd_plain hd) hcd hmg hobj hints hlen hg) fun r s' hq => ?_)
  obtain ⟨rfl, h2, h3, h4⟩ := hq
  exact ⟨.inl ⟨.bool true, .bool true, [], rfl, fun _ => rfl, .bool true, post_true l _, fun _ => ⟨List.Pairwise.nil, fun _ hm => (nomatch hm)⟩⟩, h2, h3, h4⟩

section
variable {prog : Program} {w : World} {A : Around} {E : Value → Shared → Prop} {s : Shared} {K : Frag}

end
end Att

namespace L2
open PySem PySem.Spec PyProof.Rows

theorem vals_ints : ∀ {vs : List Value} {ns : List Int}, IntsAre vs ns → Vals (ns.map V.int) vs
  | _, _, .nil => .nil
  | _, _, .cons n t h => .cons ⟨t, rfl⟩ (vals_ints h)

def Only (H : Hp) : Prop := ∀ b, H b = none ∨ ∃ o xs, H b = some (.frz o (.lst xs))

theorem law_call {P : Program} {w : World} {K : PySem.W.Frag} {mg mb : Str → Option Value} {CX : CXT} {k : Nat} {fa a : Addr} {fd : FuncData} {x : Str} {sp : Sp} {s₁ : Shared} {vs : List Value} {ns : List Int}
    (KX : K.In s₁.heap) (hns : s₁.heap.Ns mainGlobals mg) (hb : s₁.heap.Ns builtinsNs mb) (hbb : ∀ x : Str, x ≠ "__name__" → mb x = bootBuiltins x) (hlim : s₁.heap.NoLimit) (hg : s₁.gens = #[])
    (ha : s₁.heap.get? a = some { cls := .type "list", data := .seq vs.toArray }) (hi : IntsAre vs ns) (hl : ns.length ≤ sizeLine) (hr : Room k callerA)
    (F : ∀ base : Heap, K.In base → base.Ns mainGlobals mg → FnOk P w K mg base CX k fa fd [x] sp) (hbind : ∀ (s : Shared) (u : Value), BindsTo s fd ⟨[u], []⟩ [(x, u)])
    (hsp : ∀ H : Hp, Only H → SqL K H a (ns.map V.int) → sp [.ref a] H (fun v _ => v = .bl true) fun _ _ _ => False)
    (hCX : ∀ H e s', CX [] H s₁ (fun _ _ _ => False) e s' → False) :
    codeAny (model P w) callerA (.call (.ref fa) ⟨[.ref a], []⟩) (fun r s' => r = .ok (.ret (.bool true)) ∧ OldK s₁.heap s'.heap ∧ s'.os = s₁.os ∧ AllBare s'.gens) s₁ := by
  have rv := vals_ints hi
  have lenV := hi.length
  -- from an abstract heap in which nothing but the script may be tracked
  have core : ∀ H : Hp, Only H → SqL K H a (ns.map V.int) → HOk P w H s₁.heap → (∀ b, H b ≠ none → b = a) → (H a ≠ none → K.lookup a = none) →
      codeAny (model P w) callerA (.call (.ref fa) ⟨[.ref a], []⟩) (fun r s' => r = .ok (.ret (.bool true)) ∧ OldK s₁.heap s'.heap ∧ s'.os = s₁.os ∧ AllBare s'.gens) s₁ := by
    intro H hO hS hok hA hK
    have base_of : ∀ {b : Addr} {o : Obj}, s₁.heap.get? b = some o → H b = none → (hidT s₁.heap H).get? b = some o := fun e n => hidT_get e n
    have noA : ∀ {b : Addr} {o : Obj} {es : Array DictEntry} {ep : Nat}, s₁.heap.get? b = some o → o.data = .dict es ep → H b = none := fun {b o es ep} e d => by
      cases q : H b with
      | none => rfl
      | some u =>
        have e' : b = a := hA b (by rw [q]; simp)
        subst e'
        rw [ha] at e; cases e
        have d' : Data.seq vs.toArray _ = Data.dict es ep := d
        cases d'
    have nsK : ∀ {b : Addr} {m : Str → Option Value}, s₁.heap.Ns b m → (hidT s₁.heap H).Ns b m := fun {b m} ⟨o, es, ep, e, d, r⟩ => ⟨o, es, ep, base_of e (noA e d), d, r⟩
    have hKb : K.In (hidT s₁.heap H) := fun b o e => base_of (KX b o e) (by
      cases q : H b with
      | none => rfl
      | some u =>
        have e' : b = a := hA b (by rw [q]; simp)
        subst e'
        rw [hK (by rw [q]; simp)] at e; cases e)
    have hM : Mod K mg (hidT s₁.heap H) := ⟨hKb, nsK hns, ⟨mb, nsK hb, hbb⟩, let ⟨mc, h1, h2⟩ := hlim; ⟨mc, nsK h1, h2⟩⟩
    have e0 : Env0 P w K mg (hidT s₁.heap H) callerA [] s₁ H := ⟨rfl, hM, fun b o e => of_hidT e, Nat.le_of_eq (hidT_size _ _), trivial, fun b hb => absurd (show b ∈ ([] : List Addr) from hb) (by simp), hok, .of_eq hg⟩
    refine codeAny_mono ((F _ hKb (nsK hns)).run callerA [] s₁ H ⟨[.ref a], []⟩ [.ref a] [.ref a] _ _ hr e0 (hbind s₁ (.ref a)) (.cons rfl .nil) (hsp H hO hS)) fun r s' h => ?_
    cases r with
    | error e => exact (hCX H e s' h).elim
    | ok fl =>
      cases fl with
      | next => exact False.elim h
      | brk => exact False.elim h
      | cont => exact False.elim h
      | ret u =>
        obtain ⟨v, H', os, bare, un, hok', r', q⟩ := h
        have q' : v = .bl true := q
        subst q'
        obtain rfl : u = Value.bool true := r'
        refine ⟨rfl, OldK.of_keep fun b o e => ?_, os, bare⟩
        cases q : H b with
        | none => exact un.keep b o e q (by intro z; exact absurd (show b ∈ ([] : List Addr) from z) (by simp)) (by simp)
        | some u =>
          rcases hO b with z | ⟨ob, xs, z⟩
          · rw [q] at z; cases z
          · have z2 := un.frzs b ob _ z
            obtain ⟨e1, _⟩ := hok b _ z
            obtain ⟨e2, _⟩ := hok' b _ z2
            rw [e] at e1; cases e1
            exact e2
  cases hk : K.lookup a with
  | some o =>
    -- the script is one of the module's own objects
    have e := KX a o hk
    rw [ha] at e
    cases e
    refine core (fun _ => none) (fun _ => .inl rfl) (.inr ⟨_, vs.toArray, _, hk, rfl, rfl, rfl, by rw [List.size_toArray, lenV]; exact hl, by simpa using rv⟩) (fun b u z => by have z' : (none : Option HO) = some u := z; cases z') (fun b z => absurd rfl z) fun z => absurd rfl z
  | none =>
    refine core (fun b => if b = a then some (.frz { cls := .type "list", data := .seq vs.toArray } (.lst (ns.map V.int))) else none) (fun b => ?_) (.inl (.inr ⟨{ cls := .type "list", data := .seq vs.toArray }, if_pos rfl⟩)) (fun b u z => ?_) (fun b z => ?_) fun _ => hk
    · by_cases hb : b = a
      · exact .inr ⟨_, _, if_pos hb⟩
      · exact .inl (if_neg hb)
    · by_cases hb : b = a
      · have z' := (if_pos hb).symm.trans z
        cases z'
        subst hb
        exact ⟨ha, by rw [List.length_map]; exact hl, vs, _, rv, ha⟩
      · have z' := (if_neg hb).symm.trans z
        cases z'
    · by_cases hb : b = a
      · exact hb
      · exact absurd (if_neg hb) z
end L2

namespace L2
open PySem PySem.Spec PyProof.Rows

abbrev KOf {K : PySem.W.Frag} {h : Heap} (_ : K.In h) : PySem.W.Frag := K

theorem walk_of {l : PySem.W.OpenLaw} {n k : Nat} {q : Program} {loose : List Str} {XP : (Str → Option Value) → Heap → Prop} {YP : World → Heap → Prop} {d : DefRec} {K : Params → PySem.W.Frag} {CX : World → CXT} {sp : World → Sp} {x : Str}
    (hn : l.most = some n) (hn2 : n ≤ sizeLine) (hdf : d.params.defaults = []) (hr : Room k callerA)
    (hY : ∀ (w : World) (h : Heap), YP w h → (K w.params).In h)
    (F : ∀ (w : World) (mg : Str → Option Value) (fa : Addr) (h : Heap), (K w.params).In h → h.Ns mainGlobals mg → mg d.name = some (.ref fa) →
      ∃ fd : FuncData, (∀ (s : Shared) (u : Value), BindsTo s fd ⟨[u], []⟩ [(x, u)]) ∧
        ∀ base : Heap, (K w.params).In base → base.Ns mainGlobals mg → FnOk l.prog w (K w.params) mg base (CX w) k fa fd [x] (sp w))
    (hsp : ∀ (w : World) (H : Hp) (a : Addr) (ns : List Int), ns.length ≤ n → Only H → SqL (K w.params) H a (ns.map V.int) → sp w [.ref a] H (fun v _ => v = .bl true) fun _ _ _ => False)
    (hCX : ∀ (w : World) (H : Hp) (s : Shared) (e : Value) (s' : Shared), CX w [] H s (fun _ _ _ => False) e s' → False) :
    PySem.W.WalkO q loose XP YP l.row.toRowW d [] (fun f vs => PySem.call f vs) := by
  refine Att.attach_call hn hdf fun w s₀ s₁ mg mb fa o pm cd doc a vs ns G Y ho hd hcd hmg hobj hints hlen hg => ?_
  have KX := hY w _ Y
  obtain ⟨fd, hb, hF⟩ := F w mg fa _ KX G.T.g hmg
  exact law_call KX G.T.g G.T.b G.T.builtins G.T.nolimit hg hobj hints (Nat.le_trans hlen hn2) hr hF hb (fun H hO hS => hsp w H a ns hlen hO hS) fun H e s' => hCX w H s₁ e s'
end L2

/- THE LAST THEOREM (shape; LID, My.* are yours):
   My.Adr: a structure of the addresses that your layer names (classes, functions); My.Txt K t: a structure (Prop) of the equations over K;
   My.txt_mk : {K} {implicit addresses ..} (e1 : nsIn K mainGlobals "law" = some (some (.ref f))) (e2 : K.lookup f = some ⟨oc, od, .func (fnOf "law" "law" params body scope dV kV doc pm an cdv ct), sl⟩) (e3 : codeIn K cdv "law" = true) .. : ∃ t, My.Txt K t

set_option maxRecDepth 100000 in
set_option maxHeartbeats 0 in
theorem PySem.Challenge.cw_LID_holds : PySem.Challenge.rw_LID.Holds := by
  w_on; o_law; k_head; (case hw => w_witness2)
  k_fill
  refine L2.walk_of (l := PySem.Challenge.rw_LID) (n := 63) (k := 40) (x := "script") (CX := fun w => ..) (sp := fun _ => My.sp_law) rfl (by decide) rfl ⟨rfl, by decide, by decide⟩ (fun w h Y => PySem.W.kIn_of Y) ?F ?S ?C
  case F =>
    intro w mg fa h KX G hmg
    have T : ∃ t, My.Txt (L2.KOf KX) t := by
      dsimp only [L2.KOf]                          -- K must stand as «<heap const> w.params» for k_is
      refine' My.txt_mk ?e1 ?e2 ?e3 ..
      (case e1 => PySem.W.k_is)                    -- in the order: a name -> its address -> its object -> its parts
      (case e2 => PySem.W.k_is)
      ..
    obtain ⟨t, T⟩ := T
    have e0 := hmg.symm.trans (PySem.W.mg_of KX G T.law)
    cases e0                                       -- fa is the law's own address
    exact ⟨_, fun s u => .of_eq rfl, fun base kb nb => My.law_fn T kb nb⟩     -- if «.of_eq rfl» comes too early: refine' ⟨_, ?b, fun base kb nb => My.law_fn T kb nb⟩; exact fun s u => .of_eq rfl
  case S => exact fun w H a ns hl hO hS => ..
  case C => exact ..
(the tactic k_is has no namespace: write k_is) -/

namespace L2
open PySem PySem.Spec PyProof.Rows

def defArgs (s : Stmt) : Arguments := match s with
  | .FunctionDef _ a _ _ _ _ _ _ _ _ => a
  | _ => { posonlyargs := [], args := [], vararg := none, kwonlyargs := [], kw_defaults := [], kwarg := none, defaults := [] }
def defBody (s : Stmt) : List Stmt := match s with
  | .FunctionDef _ _ b _ _ _ _ _ _ _ => b
  | _ => []
def defScope (s : Stmt) : Scope := match s with
  | .FunctionDef _ _ _ _ _ _ sc _ _ _ => sc
  | _ => { kind := .function, names := [], isGenerator := false, isCoroutine := false }

abbrev CX0 : CXT := fun _ _ _ _ _ _ => False
abbrev E0 : XK := fun _ _ _ => False
theorem pass0 {X : Cx} : Passes CX0 X E0 := fun _ _ _ _ _ _ _ h => h.elim

structure Fun (K : PySem.W.Frag) (x qual : Str) (st : Stmt) (f : Addr) (fd : FuncData) : Prop where
  ex : ∃ (oc : Value) (od : Option Addr) (kV doc pm : Value) (an : Option Addr) (cdv ct : Value) (osl : Array (Option Value)),
    fd = PySem.W.fnOf x qual (defArgs st) (defBody st) (defScope st) .none kV doc pm an cdv ct ∧ K.lookup f = some ⟨oc, od, .func fd, osl⟩ ∧ PySem.W.codeIn K cdv qual = true
  kp : PySem.W.keepIn K (.ref f) = true
section
variable {P : Program} {w : World} {K : PySem.W.Frag} {mg : Str → Option Value} {base : Heap}
theorem Fun.ok {x qual : Str} {st : Stmt} {f : Addr} {fd : FuncData} {N ps : List Str} {k : Nat} {sp : Sp} (F : Fun K x qual st f fd) (S : FnScope N ps (defScope st)) (len : ∀ vs H Q E, sp vs H Q E → vs.length = ps.length)
    (hbody : ∀ (cdv : Value) (A : Around) (outer : List Env) (s : Shared) (H : Hp) (vs : List V) (Q : VK) (E : XK), Room k (A.deeper (envOfC qual (defScope st) s.heap.objs.size f cdv)) → sp vs H Q E →
      ∃ t, PSs (cxOf CX0 P w K mg base N qual (defScope st) f cdv A outer s H E).nox (defBody st) t ∧ t { nx := fun _ H' => Q .non H', rt := Q } (start N vs) H) : FnOk P w K mg base CX0 (k + 1) f fd ps sp := by
  obtain ⟨oc, od, kV, doc, pm, an, cdv, ct, osl, rfl, lk, hcd⟩ := F.ex
  refine fn_of lk hcd S len fun A outer s H vs Q E hr hsp => ?_
  obtain ⟨t, h, q⟩ := hbody cdv A outer s H vs Q E hr hsp
  exact ⟨t, h.nox, q⟩
theorem Fun.binds {x qual : Str} {st : Stmt} {f : Addr} {fd : FuncData} {ps : List Str} (F : Fun K x qual st f fd)
    (h : ∀ (kV doc pm : Value) (an : Option Addr) (cdv ct : Value) (us : List Value), us.length = ps.length → bindArgs (PySem.W.fnOf x qual (defArgs st) (defBody st) (defScope st) .none kV doc pm an cdv ct) ⟨us, []⟩ = pure (ps.zip us)) : Binds K fd ps [] := by
  obtain ⟨oc, od, kV, doc, pm, an, cdv, ct, osl, rfl, lk, hcd⟩ := F.ex
  exact .all (h kV doc pm an cdv ct)
theorem fun_mk {x qual : Str} {st : Stmt} {f : Addr} {oc : Value} {od an : Option Addr} {osl : Array (Option Value)} {kV doc pm cdv ct : Value} (l : K.lookup f = some ⟨oc, od, .func (PySem.W.fnOf x qual (defArgs st) (defBody st) (defScope st) .none kV doc pm an cdv ct), osl⟩)
    (c : PySem.W.codeIn K cdv qual = true) (k : PySem.W.keepIn K (.ref f) = true) : Fun K x qual st f (PySem.W.fnOf x qual (defArgs st) (defBody st) (defScope st) .none kV doc pm an cdv ct) := ⟨⟨oc, od, kV, doc, pm, an, cdv, ct, osl, rfl, l, c⟩, k⟩
end
section
variable {X : Cx}
end

theorem iteF {A B : Prop} (h : B) : if false = true then A else B := by
  rw [if_neg Bool.false_ne_true]
  exact h
theorem ite2 {c A B : Prop} [Decidable c] (h1 : c → A) (h2 : ¬ c → B) : if c then A else B := by
  by_cases h : c
  · rw [if_pos h]
    exact h1 h
  · rw [if_neg h]
    exact h2 h
def Same (H H' : Hp) : Prop := ∀ b o, H b = some o → H' b = some o
theorem Same.refl (H : Hp) : Same H H := fun _ _ h => h
theorem Same.trans {H H1 H2 : Hp} (a : Same H H1) (b : Same H1 H2) : Same H H2 := fun c o h => b c o (a c o h)
theorem Same.free {H H' : Hp} (e : Same H H') {l : Addr} (h : H' l = Option.none) : H l = Option.none := by
  cases q : H l with
  | none => rfl
  | some o =>
    rw [e l o q] at h
    cases h
theorem Same.seq {K : PySem.W.Frag} {H H' : Hp} {a : Addr} {xs : List V} (e : Same H H') (h : SqL K H a xs) : SqL K H' a xs := by
  rcases h with (h | ⟨o, h⟩) | h
  · exact .inl (.inl (e _ _ h))
  · exact .inl (.inr ⟨o, e _ _ h⟩)
  · exact .inr h

end L2

section
set_option Elab.async false
set_option maxRecDepth 100000
namespace L2
open PySem
section
variable {prog : Program} {w : World} {A : Around} {R : Result → Shared → Prop} {s : Shared}
theorem compLoop_any {elt target iter : Expr} {ifs : List Expr} {scope : Scope} {pos : Pos} {it acc : Value} {env : Env} (I : Nat → Shared → Prop)
    (turn : ∀ n s, I n s → wpAny (model prog w) A (pyNext it) (fun r s₁ => match r with
      | none => R (.ok .next) s₁
      | some v => wpAny (model prog w) A (letOwnedTupleGo target it v) (fun _ s₁' => wpAny (model prog w) A (assign target env v) (fun _ s₂ =>
          wpAny (model prog w) A (forIn ifs true fun c r => if r = true then do let ok ← isTrue c env (eval c env); pure (ForInStep.yield ok) else pure (ForInStep.yield r)) (fun ok s₃ =>
            if ok = true then wpAny (model prog w) A (eval elt env) (fun x s₄ =>
              wpAny (model prog w) A (call (.builtin "list.append") [acc, x]) (fun _ s₅ => ∃ m, m < n ∧ I m s₅) (fun _ _ => False) s₄) (fun _ _ => False) s₃
            else ∃ m, m < n ∧ I m s₃) (fun _ _ => False) s₂) (fun _ _ => False) s₁') (fun _ _ => False) s₁) (fun _ _ => False) s)
    (n : Nat) (h : I n s) :
    codeAny (model prog w) A (.compLoop (.ListComp elt [⟨target, iter, ifs, 0⟩] scope pos) 0 it acc env) R s := by
  refine codeAny_loop rfl I (fun n s hI => ?_) n h
  show wpAny _ A ((compTurn (.ListComp elt [⟨target, iter, ifs, 0⟩] scope pos) 0 it acc env).onRaise (fun x => do noteFrame x env; theTreesLotGoes x)) _ _ s
  refine wpAny_noted ?_
  rw [compTurn_list]
  refine wpAny_bind (wpAny_standAt (wpAny_bind (wpAny_mono (turn n s hI) (fun r s₁ h₁ => ?_) fun _ _ h' => h'.elim)))
  cases r with
  | none => exact wpAny_pure h₁
  | some v =>
    refine wpAny_bind (wpAny_mono h₁ (fun _ s₁' h₁' => ?_) fun _ _ h' => h'.elim)
    refine wpAny_bind (wpAny_mono h₁' (fun _ s₂ h₂ => wpAny_bind (wpAny_mono h₂ (fun ok s₃ h₃ => ?_) fun _ _ h' => h'.elim)) fun _ _ h' => h'.elim)
    cases ok with
    | false => exact wpAny_pure ⟨rfl, h₃⟩
    | true =>
      exact wpAny_bind (wpAny_bind (wpAny_mono h₃ (fun x s₄ h₄ => wpAny_bind (wpAny_mono h₄ (fun _ s₅ h₅ => wpAny_pure (wpAny_pure ⟨rfl, h₅⟩)) fun _ _ h' => h'.elim)) fun _ _ h' => h'.elim))
end
theorem closure_from {env : Env} : ∀ (names : List (Str × NameKind)) (acc : List (Str × Addr)), (∀ y ∈ names, y.2 = .free → ∃ c, env.cells.lookup y.1 = some c) → (∀ x c, acc.lookup x = some c → env.cells.lookup x = some c) →
    ∃ cl : List (Str × Addr), (forIn names acc fun (x : Str × NameKind) (r : List (Str × Addr)) => (match x with | (name, kind) => if (kind == NameKind.free) = true then do let a ← cellOf env name; pure (ForInStep.yield ((name, a) :: r)) else pure (ForInStep.yield r) : Sem (ForInStep (List (Str × Addr))))) = pure cl ∧
      (∀ x c, cl.lookup x = some c → env.cells.lookup x = some c) ∧ (∀ y ∈ names, y.2 = .free → ∃ c, cl.lookup y.1 = some c) ∧ ∀ x c, acc.lookup x = some c → ∃ c', cl.lookup x = some c'
  | [], acc, _, h => ⟨acc, rfl, h, (fun y z => by cases z), fun _ c e => ⟨c, e⟩⟩
  | (name, kind) :: r, acc, hf, h => by
    by_cases hk : kind = .free
    · subst hk
      obtain ⟨c, hc⟩ := hf (name, .free) List.mem_cons_self rfl
      have h2 : ∀ x d, ((name, c) :: acc).lookup x = some d → env.cells.lookup x = some d := fun x d e => by
        rw [List.lookup_cons] at e
        cases hx : x == name with
        | true => rw [hx] at e; cases e; rw [eq_of_beq hx]; exact hc
        | false => rw [hx] at e; exact h x d e
      obtain ⟨cl, e, h3, h4, h5⟩ := closure_from r ((name, c) :: acc) (fun y hy => hf y (List.mem_cons_of_mem _ hy)) h2
      refine ⟨cl, ?_, h3, fun y hy hyf => ?_, fun x d hx => ?_⟩
      · rw [List.forIn_cons]
        simp only [beq_self_eq_true, if_true, cellOf, hc, pure_bind]
        exact e
      · rcases List.mem_cons.mp hy with rfl | hy
        · exact h5 name c (by simp [List.lookup_cons])
        · exact h4 y hy hyf
      · cases hxn : x == name with
        | true => exact h5 x c (by rw [List.lookup_cons, hxn])
        | false => exact h5 x d (by rw [List.lookup_cons, hxn]; exact hx)
    · obtain ⟨cl, e, h3, h4, h5⟩ := closure_from r acc (fun y hy => hf y (List.mem_cons_of_mem _ hy)) h
      have hb : (kind == NameKind.free) = false := by simpa using hk
      refine ⟨cl, ?_, h3, fun y hy hyf => ?_, h5⟩
      · rw [List.forIn_cons]
        simp only [hb, Bool.false_eq_true, if_false, pure_bind]
        exact e
      · rcases List.mem_cons.mp hy with rfl | hy
        · exact absurd hyf hk
        · exact h4 y hy hyf
theorem closure_ok {env : Env} {scope : Scope} (hf : ∀ y ∈ scope.names, y.2 = .free → ∃ c, env.cells.lookup y.1 = some c) :
    ∃ cl, closureFor scope env = pure cl ∧ (∀ x c, cl.lookup x = some c → env.cells.lookup x = some c) ∧ ∀ y ∈ scope.names, y.2 = .free → ∃ c, cl.lookup y.1 = some c := by
  obtain ⟨cl, e, h1, h2, _⟩ := closure_from (env := env) scope.names [] hf (fun x c e => by simp at e)
  refine ⟨cl, ?_, h1, h2⟩
  unfold closureFor
  exact (congrArg (· >>= pure) e).trans (pure_bind _ _)
end L2
end
section
set_option Elab.async false
set_option linter.all false
set_option maxRecDepth 100000
set_option maxHeartbeats 4000000
namespace L2
open PySem PySem.Spec PyProof.Rows

abbrev Cx.block (X : Cx) (scope : Scope) (cl : List (Str × Addr)) (C : Addr) (N : List Str) (s : Shared) (H : Hp) (fp : List Addr) : Cx :=
  { X with N := N, s₀ := s, H₀ := H, env := compEnvC scope cl C X.env, outer := X.stack, ex := fp, fn := fun _ => false, pn := [], xe := fun _ _ => False }
def compOk (osc : Scope) (oN : List Str) (sc : Scope) (N : List Str) (js : List Nat) : Bool :=
  sc.names.all (fun y => y.2 != .cell) && (sc.names.all (fun y => y.2 != .local || sc.names.lookup y.1 == some .local) && (decide (js.length ≤ N.length) &&
    (sc.names.all (fun y => y.2 != .free || (osc.names.lookup y.1 == some .cell || osc.names.lookup y.1 == some .free)) &&
      (List.range js.length).all (fun i => match N[N.length - js.length + i]?, oN[js.getD i 0]? with | some x, some y => x == y && sc.names.lookup x == some .free | _, _ => false))))
structure CompSc (osc : Scope) (oN : List Str) (sc : Scope) (N : List Str) (js : List Nat) : Prop where
  nocell : ∀ y ∈ sc.names, y.2 ≠ .cell
  names : ∀ y ∈ sc.names, y.2 = .local → sc.names.lookup y.1 = some .local
  len : js.length ≤ N.length
  tk : ∀ y ∈ sc.names, y.2 = .free → osc.names.lookup y.1 = some .cell ∨ osc.names.lookup y.1 = some .free
  fr : ∀ (i j : Nat), js[i]? = some j → ∃ x, N[N.length - js.length + i]? = some x ∧ oN[j]? = some x ∧ sc.names.lookup x = some .free
theorem compOk_sc {osc : Scope} {oN : List Str} {sc : Scope} {N : List Str} {js : List Nat} (h : compOk osc oN sc N js = true) : CompSc osc oN sc N js := by
  unfold compOk at h
  simp only [Bool.and_eq_true] at h
  obtain ⟨h1, h2, h3, h4, h5⟩ := h
  refine ⟨fun y hy => ?_, fun y hy hl => ?_, of_decide_eq_true h3, fun y hy hf => ?_, fun i j hj => ?_⟩
  · have := List.all_eq_true.mp h1 y hy
    simpa using this
  · have := List.all_eq_true.mp h2 y hy
    rw [hl] at this
    simpa using this
  · have := List.all_eq_true.mp h4 y hy
    rw [hf] at this
    simpa using this
  · have hi : i < js.length := (List.getElem?_eq_some_iff.mp hj).1
    have := List.all_eq_true.mp h5 i (List.mem_range.mpr hi)
    have e : js.getD i 0 = j := by rw [List.getD_eq_getElem?_getD, hj]; rfl
    rw [e] at this
    split at this
    · rename_i x y e1 e2
      simp only [Bool.and_eq_true, beq_iff_eq] at this
      obtain ⟨rfl, h⟩ := this
      exact ⟨x, e1, e2, h⟩
    · cases this
def blk (n : Nat) (js : List Nat) (σ : St) : St := List.replicate n none ++ js.map fun j => (σ[j]?).join
theorem blk_get {n : Nat} {js : List Nat} {σ : St} {i : Nat} {v : V} (h : (blk n js σ)[i]? = some (some v)) : ∃ k j, i = n + k ∧ js[k]? = some j ∧ σ[j]? = some (some v) := by
  unfold blk at h
  by_cases hi : i < n
  · rw [List.getElem?_append_left (by simpa using hi), List.getElem?_replicate] at h
    split at h <;> cases h
  · rw [List.getElem?_append_right (by simpa using hi), List.length_replicate, List.getElem?_map] at h
    cases e : js[i - n]? with
    | none => rw [e] at h; cases h
    | some j =>
      rw [e] at h
      refine ⟨i - n, j, by omega, e, ?_⟩
      have h' : (σ[j]?).join = some v := by simpa using h
      cases q : σ[j]? with
      | none => rw [q] at h'; cases h'
      | some o =>
        rw [q] at h'
        have : o = some v := h'
        rw [this]

theorem relabel_lookup {env : Env} : ∀ {names : List (Str × NameKind)} {x : Str} {k : NameKind},
    (names.map fun (n, k) => if (k == NameKind.free && env.scope.kind == .function && env.kindOf n == some .cell) then (n, NameKind.cell) else (n, k)).lookup x = some k → k = .cell ∨ k = .free → (∀ y ∈ names, y.2 ≠ .cell) → (x, NameKind.free) ∈ names
  | [], _, _, h, _, _ => by simp at h
  | (n, k1) :: r, x, k, h, hk, hc => by
    have ih := @relabel_lookup env r x k
    have hc' : ∀ y ∈ r, y.2 ≠ .cell := fun y hy => hc y (List.mem_cons_of_mem _ hy)
    have h1 : k1 ≠ .cell := hc (n, k1) List.mem_cons_self
    have h : List.lookup x ((if (k1 == NameKind.free && env.scope.kind == .function && env.kindOf n == some .cell) = true then (n, NameKind.cell) else (n, k1)) :: _) = some k := h
    by_cases c : (k1 == NameKind.free && env.scope.kind == .function && env.kindOf n == some .cell) = true
    · rw [if_pos c, List.lookup_cons] at h
      cases hx : x == n with
      | true =>
        have e : k1 = .free := by simp only [Bool.and_eq_true, beq_iff_eq] at c; exact c.1.1
        rw [eq_of_beq hx, e]
        exact List.mem_cons_self
      | false => rw [hx] at h; exact List.mem_cons_of_mem _ (ih h hk hc')
    · rw [if_neg c, List.lookup_cons] at h
      cases hx : x == n with
      | true =>
        rw [hx] at h
        have e : k1 = k := Option.some.inj h
        have e2 : k1 = .free := by
          rcases hk with z | z
          · exact absurd (e.trans z) h1
          · exact e.trans z
        rw [eq_of_beq hx, e2]
        exact List.mem_cons_self
      | false => rw [hx] at h; exact List.mem_cons_of_mem _ (ih h hk hc')
theorem relabel_free {env : Env} : ∀ {names : List (Str × NameKind)} {x : Str}, names.lookup x = some .free →
    (names.map fun (n, k) => if (k == NameKind.free && env.scope.kind == .function && env.kindOf n == some .cell) then (n, NameKind.cell) else (n, k)).lookup x = some .cell ∨
    (names.map fun (n, k) => if (k == NameKind.free && env.scope.kind == .function && env.kindOf n == some .cell) then (n, NameKind.cell) else (n, k)).lookup x = some .free
  | [], _, h => by simp at h
  | (n, k1) :: r, x, h => by
    have ih := @relabel_free env r x
    show List.lookup x ((if (k1 == NameKind.free && env.scope.kind == .function && env.kindOf n == some .cell) = true then (n, NameKind.cell) else (n, k1)) :: _) = _ ∨ List.lookup x ((if (k1 == NameKind.free && env.scope.kind == .function && env.kindOf n == some .cell) = true then (n, NameKind.cell) else (n, k1)) :: _) = _
    rw [List.lookup_cons] at h
    by_cases c : (k1 == NameKind.free && env.scope.kind == .function && env.kindOf n == some .cell) = true
    · rw [if_pos c, List.lookup_cons]
      cases hx : x == n with
      | true => exact .inl rfl
      | false => rw [hx] at h; exact ih h
    · rw [if_neg c, List.lookup_cons]
      cases hx : x == n with
      | true => rw [hx] at h; exact .inr h
      | false => rw [hx] at h; exact ih h

def PF (X : Cx) (ifs : List Expr) (t : TT) : Prop :=
  ∀ (pins : List (Addr × Obj)) (s : Shared) (σ : St) (H : Hp) (Q : Bool → Hp → Prop), Inv X pins σ H s → t σ H Q →
    wpAny (model X.prog X.w) X.A (forIn ifs true fun c r => if r = true then do let ok ← isTrue c X.env (eval c X.env); pure (ForInStep.yield ok) else pure (ForInStep.yield r)) (TP X pins σ Q) X.xe s
def tYes : TT := fun _ H Q => Q true H
theorem pf_nil {X : Cx} : PF X [] tYes := fun _ _ _ H _ I h => wpAny_tests_nil ⟨H, I, h⟩
theorem pf_one {X : Cx} {c : Expr} {t : TT} (h : PT X c t) : PF X [c] t := fun pins s σ H Q I hw => wpAny_tests_one (h pins s σ H Q I hw)

def tComp (n : Nat) (js : List Nat) (wi : TI) (g : TG) (tt : TT) (te : TE) : TE := fun σ H Q => wi σ H fun J H1 => ∀ D, H1 D = none → ∃ W : Nat → Nat → St → Hp → List V → Prop,
  (∃ m, W 0 m (blk n js σ) (upd H1 D (.lst [])) []) ∧ ∀ i m τ H2 ys, W i m τ H2 ys → H2 D = some (.lst ys) ∧
    ((J.stop i H2 ∧ Q (.ref D) H2) ∨ (J.go i H2 ∧ ys.length < sizeLine ∧ ∃ N : St → Hp → List V → Prop, (∀ τ' H' ys', N τ' H' ys' → ∃ m', m' < m ∧ W (i + 1) m' τ' H' ys') ∧ ∀ x H3, J.yld i H2 x H3 → g x τ H3 fun τ4 H4 => tt τ4 H4 fun b H5 =>
      if b = true then te τ4 H5 fun y H6 => H6 D = some (.lst ys) ∧ N τ4 (upd H6 D (.lst (ys ++ [y]))) (ys ++ [y])
      else N τ4 H5 ys))

section
variable {X : Cx}
theorem block_inv {pins : List (Addr × Obj)} {σ : St} {H : Hp} {s : Shared} {h₁ : Heap} {tk : Nat} {scope : Scope} {N : List Str} {js : List Nat} {cl : List (Str × Addr)} {fp : List Addr}
    (I : Inv X pins σ H s) (hk : scope.kind = .function) (hN : N.Nodup) (S : CompSc X.env.scope X.N scope N js) (hcl : ∀ x c, cl.lookup x = some c → X.env.cells.lookup x = some c) (hcl2 : ∀ y ∈ scope.names, y.2 = .free → ∃ c, cl.lookup y.1 = some c)
    (hf : ∀ b ∈ fp, b < s.heap.objs.size ∧ b ≠ X.env.locals ∧ b ∉ X.fs ∧ (b ∈ X.ex ∨ X.s₀.heap.objs.size ≤ b) ∧ (∀ x c, X.env.cells.lookup x = some c → c ≠ b))
    (hns : h₁.Ns s.heap.objs.size fun _ => none) (old : ∀ b o, s.heap.get? b = some o → h₁.get? b = some o) :
    Inv (X.block scope cl s.heap.objs.size N s H fp) [] (blk (N.length - js.length) js σ) H { s with heap := h₁, toks := tk } := by
  have look : ∀ x, ((relabel scope X.env).names.lookup x = some .cell ∨ (relabel scope X.env).names.lookup x = some .free) → ∃ c, cl.lookup x = some c := fun x hx => by
    have hm : (x, NameKind.free) ∈ scope.names := by
      rcases hx with z | z
      · exact relabel_lookup z (.inl rfl) S.nocell
      · exact relabel_lookup z (.inr rfl) S.nocell
    exact hcl2 _ hm rfl
  refine ⟨⟨I.ok.mod, hk, I.ok.glob, I.ok.blt, Nat.le_refl _, fun x y c h1 h2 => I.ok.inj x y c (hcl x c h1) (hcl y c h2), look, fun x c h => (by cases h), I.ok.hd, I.ok.frames, .inl rfl, fun b hb => ?_, I.bs, Nat.le_trans I.ok.bsz I.sz, fun b o e hb => ?_, fun b hb z => ?_, I.stack, I.stkFree⟩,
    rfl, I.bare, Un.kept old, ⟨_, hns, fun i x v h1 h2 h3 => ?_⟩, fun x c h => ?_, I.hok.fresh (Nat.le_refl _), fun x c h => I.freeC x c (hcl x c h), fun p hp => absurd (show p ∈ ([] : List (Addr × Obj)) from hp) (by simp), I.hok.kept old, ?_⟩
  · exact ⟨Nat.ne_of_lt (hf b hb).1, fun x c h => (hf b hb).2.2.2.2 x c (hcl x c h)⟩
  · rcases (hf b hb).2.2.2.1 with z | z
    · exact I.ok.noex b o e z
    · exact absurd (Nat.lt_of_lt_of_le (Heap.lt_size e) (Nat.le_trans I.ok.bsz z)) (Nat.lt_irrefl _)
  · rcases List.mem_cons.mp (I.stkSub b z) with q | q
    · exact (hf b hb).2.1 q
    · exact (hf b hb).2.2.1 q
  · obtain ⟨k, j, rfl, hj, hσ⟩ := blk_get h2
    obtain ⟨x', e1, e2, e3⟩ := S.fr k j hj
    rw [e1] at h1
    have ex : x' = x := Option.some.inj h1
    subst ex
    have ok := S.tk _ (PySem.mem_of_lookup e3) rfl
    obtain ⟨m, _, hl⟩ := I.loc
    obtain ⟨u, r, l⟩ := hl j x' v e2 hσ (.inr ok)
    refine ⟨u, r, ?_⟩
    rcases l with ⟨hk', _⟩ | ⟨_, c, hc, hcell⟩
    · have hk2 : X.env.scope.names.lookup x' = some .local := hk'
      rcases ok with z | z <;> (rw [hk2] at z; cases z)
    · obtain ⟨c', hc'⟩ := hcl2 _ (PySem.mem_of_lookup e3) rfl
      have : c' = c := Option.some.inj ((hcl _ _ hc').symm.trans hc)
      subst this
      obtain ⟨o, ho, hd⟩ := hcell
      exact .inr ⟨relabel_free e3, c', hc', ⟨o, old _ _ ho, hd⟩⟩
  · obtain ⟨v, o, ho, hd⟩ := I.cell x c (hcl x c h)
    exact ⟨v, o, old _ _ ho, hd⟩
  · show (blk (N.length - js.length) js σ).length = N.length
    unfold blk
    rw [List.length_append, List.length_replicate, List.length_map]
    have := S.len
    omega

theorem comp_block {pins : List (Addr × Obj)} {σ : St} {H : Hp} {s : Shared} {elt target iter : Expr} {ifs : List Expr} {scope : Scope} {pos : Pos} {N : List Str} {js : List Nat} {cl : List (Str × Addr)} {J : It} {fp : List Addr} {it : Addr} {tn : Nat → Heap → Prop}
    {g : TG} {tt : TT} {te : TE} {E : Value → Shared → Prop} {RR : Value → Addr → Result → Shared → Prop} {Q : VK}
    (hc : X.calm = true) (I : Inv X pins σ H s) (T : Turn X.prog X.w X.K target J fp it tn) (st : tn 0 s.heap) (hf : ∀ b ∈ fp, FpOk X pins H b)
    (hk : scope.kind = .function) (hN : N.Nodup) (S : CompSc X.env.scope X.N scope N js) (hcl : ∀ x c, cl.lookup x = some c → X.env.cells.lookup x = some c) (hcl2 : ∀ y ∈ scope.names, y.2 = .free → ∃ c, cl.lookup y.1 = some c)
    (hg : ∀ cl C s H fp, PG (X.block scope cl C N s H fp) target g) (ht : ∀ cl C s H fp, PF (X.block scope cl C N s H fp) ifs tt) (he : ∀ cl C s H fp, PE (X.block scope cl C N s H fp) elt te)
    (h : ∀ D, H D = none → ∃ W : Nat → Nat → St → Hp → List V → Prop, (∃ m, W 0 m (blk (N.length - js.length) js σ) (upd H D (.lst [])) []) ∧ ∀ i m τ H2 ys, W i m τ H2 ys → H2 D = some (.lst ys) ∧
      ((J.stop i H2 ∧ Q (.ref D) H2) ∨ (J.go i H2 ∧ ys.length < sizeLine ∧ ∃ N : St → Hp → List V → Prop, (∀ τ' H' ys', N τ' H' ys' → ∃ m', m' < m ∧ W (i + 1) m' τ' H' ys') ∧ ∀ x H3, J.yld i H2 x H3 → g x τ H3 fun τ4 H4 => tt τ4 H4 fun b H5 =>
        if b = true then te τ4 H5 fun y H6 => H6 D = some (.lst ys) ∧ N τ4 (upd H6 D (.lst (ys ++ [y]))) (ys ++ [y])
        else N τ4 H5 ys)))
    (hend : ∀ D C H' s', (∃ m, s'.heap.Ns C m) → FpOk X pins H' C → Inv X pins σ H' s' → Q (.ref D) H' → RR (.ref D) C (.ok .next) s') :
    wpAny (model X.prog X.w) X.A (newList []) (fun acc s₃ => wpAny (model X.prog X.w) X.A (newFunctionEnv scope X.env.globals cl [] X.env.qual none .none (some X.env)) (fun cenv s₄ =>
      codeAny (model X.prog X.w) X.A (.compStart (.ListComp elt [⟨target, iter, ifs, 0⟩] scope pos) 0 (.ref it) acc { cenv with scope := relabel scope X.env }) (RR acc cenv.locals) s₄) E s₃) E s := by
  obtain ⟨W, ⟨m0, w0⟩, turn⟩ := h s.heap.objs.size I.fresh
  refine wpAny_newObj_type (wpAny_newFunctionEnv S.nocell (by intro y hy; simp at hy) (fun h₁ hns₁ hsb₁ => ?_) hk)
  have I3 : Inv X pins σ (upd H s.heap.objs.size (.lst [])) { s with heap := s.heap.push { cls := .type "list", dict := none, data := .seq ([] : List Value).toArray } } := I.lnew (its := []) (ys := []) (t' := s.toks) .nil (Nat.zero_le _)
  have hF3 : ∀ b ∈ fp, b < s.heap.objs.size := fun b hb => by
    obtain ⟨o, e, _⟩ := T.obj 0 s.heap st b hb
    exact Heap.lt_size e
  have st3 : tn 0 (s.heap.push { cls := .type "list", dict := none, data := .seq ([] : List Value).toArray }) := T.keep 0 _ _ st fun b hb o e => Heap.get?_push_of_some _ e
  generalize hs3 : ({ s with heap := s.heap.push { cls := .type "list", dict := none, data := .seq ([] : List Value).toArray } } : Shared) = s3 at I3 hns₁ hsb₁ ⊢
  have e3 : s3.heap = s.heap.push { cls := .type "list", dict := none, data := .seq ([] : List Value).toArray } := by rw [← hs3]
  rw [← e3] at st3
  have z3 : s.heap.objs.size ≤ s3.heap.objs.size := by rw [e3, Heap.size_push]; exact Nat.le_succ _
  have old : ∀ b o, s3.heap.get? b = some o → h₁.get? b = some o := fun b o e => hsb₁.extBut b o (Nat.ne_of_lt (Heap.lt_size e)) (Heap.get?_push_of_some _ e)
  have hf3 : ∀ b ∈ fp, b < s3.heap.objs.size ∧ b ≠ X.env.locals ∧ b ∉ X.fs ∧ (b ∈ X.ex ∨ X.s₀.heap.objs.size ≤ b) ∧ (∀ x c, X.env.cells.lookup x = some c → c ≠ b) := fun b hb =>
    let ⟨_, q1, q2, q3, q4, _⟩ := hf b hb
    ⟨Nat.lt_of_lt_of_le (hF3 b hb) z3, q1, q2, q3, q4⟩
  have nD : ∀ b ∈ fp, upd H s.heap.objs.size (.lst []) b = none := fun b hb => by
    rw [upd_ne (Nat.ne_of_lt (hF3 b hb))]
    exact (hf b hb).1
  have I4 : Inv (X.block scope cl s3.heap.objs.size N s3 (upd H s.heap.objs.size (.lst [])) fp) [] (blk (N.length - js.length) js σ) (upd H s.heap.objs.size (.lst [])) { s3 with heap := h₁, toks := s3.toks + ([] : List (Str × Value)).length } :=
    block_inv I3 hk hN S hcl hcl2 hf3 hns₁ old
  have st4 : tn 0 h₁ := T.keep 0 _ _ st3 fun b hb o e => old b o e
  have hg' := hg cl s3.heap.objs.size s3 (upd H s.heap.objs.size (.lst [])) fp
  have ht' := ht cl s3.heap.objs.size s3 (upd H s.heap.objs.size (.lst [])) fp
  have he' := he cl s3.heap.objs.size s3 (upd H s.heap.objs.size (.lst [])) fp
  -- what stays true of the iterator's objects
  have stat : ∀ {H' : Hp}, (∀ b ∈ fp, H' b = none) → ∀ b ∈ fp, FpOk (X.block scope cl s3.heap.objs.size N s3 (upd H s.heap.objs.size (.lst [])) fp) [] H' b := fun hn b hb =>
    ⟨hn b hb, (I4.ok.exf b hb).1, I4.ok.exfs b hb, .inl hb, (I4.ok.exf b hb).2, fun p hp => absurd (show p ∈ ([] : List (Addr × Obj)) from hp) (by simp)⟩
  have loop : codeAny (model X.prog X.w) X.A (.compLoop (.ListComp elt [⟨target, iter, ifs, 0⟩] scope pos) 0 (.ref it) (.ref s.heap.objs.size) (compEnvC scope cl s3.heap.objs.size X.env)) (RR (.ref s.heap.objs.size) s3.heap.objs.size) { s3 with heap := h₁, toks := s3.toks + ([] : List (Str × Value)).length } := by
    refine compLoop_any (fun n s' => ∃ i τ H' ys, Inv (X.block scope cl s3.heap.objs.size N s3 (upd H s.heap.objs.size (.lst [])) fp) [] τ H' s' ∧ tn i s'.heap ∧ (∀ b ∈ fp, H' b = none) ∧ W i n τ H' ys) ?_ m0 ⟨0, _, _, [], I4, st4, nD, w0⟩
    rintro n s5 ⟨i, τ, H5, ys, I5, st5, fr5, w5⟩
    obtain ⟨hD, hw⟩ := turn i n τ H5 ys w5
    rcases hw with ⟨stop, qn⟩ | ⟨go, hz, M, hM, step⟩
    · refine thn (T.done (X.block scope cl s3.heap.objs.size N s3 (upd H s.heap.objs.size (.lst [])) fp) rfl rfl rfl hc i [] s5 τ H5 (fun _ _ => False) I5 (stat fr5) st5 stop) fun r s6 ⟨hr, I6⟩ => ?_
      subst hr
      refine hend _ _ H5 s6 (let ⟨m, hn, _⟩ := I6.loc; ⟨m, hn⟩) (I3.fpOk (Nat.le_refl _) I6.free) ?_ qn
      exact I3.call' (ch := fp) I6.os I6.base I6.hok I6.bare fun b hb => ⟨(hf b hb).2.2.2.1, (hf b hb).2.1, (hf b hb).2.2.2.2.1, (hf b hb).2.2.2.2.2⟩
    · refine thn (T.item (X.block scope cl s3.heap.objs.size N s3 (upd H s.heap.objs.size (.lst [])) fp) rfl rfl rfl hc i [] s5 τ H5 (fun _ _ => False) I5 (stat fr5) st5 go) fun r s6 ⟨u, hr, h6⟩ => ?_
      subst hr
      refine thn h6 fun _ s7 ⟨x, H7, I7, r7, y7, st7, fr7⟩ => ?_
      have I7' := I7.pinned (stat fr7) (T.obj _ _ st7)
      refine thn (hg' _ s7 τ H7 x u _ I7' r7 (step x H7 y7)) fun _ s8 ⟨τ8, H8, I8, q8⟩ => ?_
      refine thn (ht' _ s8 τ8 H8 _ I8 q8) fun b s9 ⟨H9, I9, q9⟩ => ?_
      have again : ∀ {τ' : St} {H' : Hp} {s' : Shared} {ys' : List V}, Inv (X.block scope cl s3.heap.objs.size N s3 (upd H s.heap.objs.size (.lst [])) fp) ([] ++ pinsAt fp s7.heap) τ' H' s' → M τ' H' ys' →
          ∃ m, m < n ∧ ∃ i τ H' ys, Inv (X.block scope cl s3.heap.objs.size N s3 (upd H s.heap.objs.size (.lst [])) fp) [] τ H' s' ∧ tn i s'.heap ∧ (∀ b ∈ fp, H' b = none) ∧ W i m τ H' ys := fun {τ' H' s' ys'} I' hm' => by
        obtain ⟨m', hm, w'⟩ := hM _ _ _ hm'
        refine ⟨m', hm, i + 1, τ', H', ys', I'.unpinned, T.keep _ _ _ st7 fun b hb o e => (I'.pin (b, o) (List.mem_append_right _ (List.mem_append_right _ (mem_pinsAt hb e)))).1, fun b hb => ?_, w'⟩
        obtain ⟨o, e, d⟩ := T.obj _ _ st7 b hb
        exact (I'.pin (b, o) (List.mem_append_right _ (List.mem_append_right _ (mem_pinsAt hb e)))).2.1
      cases b with
      | false => exact again I9 q9
      | true =>
        refine thn (he' _ s9 τ8 H9 _ I9 q9) fun y s10 ⟨v10, H10, I10, r10, hD10, q10⟩ => ?_
        refine thn (mt_append (X := X.block scope cl s3.heap.objs.size N s3 (upd H s.heap.objs.size (.lst [])) fp) _ s10 τ8 H10 (.ref s.heap.objs.size) [v10] (.ref s.heap.objs.size) [y] (fun _ H' => M τ8 H' (ys ++ [v10])) I10 rfl (.cons r10 .nil) ⟨_, ys, v10, rfl, rfl, hD10, hz, q10⟩) fun _ s11 ⟨_, H11, I11, _, q11⟩ => ?_
        exact again I11 q11
  exact codeAny_compStart_list loop (T.self X.A 0 _ _ _ st4 loop)

variable {elt target iter : Expr} {ifs : List Expr} {scope : Scope} {pos spos : Pos} {wi : TI} {g : TG} {tt : TT} {te : TE}
theorem pe_comp (N : List Str) (js : List Nat) (hok : compOk X.env.scope X.N scope N js = true) (hN : N.Nodup) (hc : X.calm = true) (hi : PI X target iter wi)
    (hg : ∀ cl C s H fp, PG (X.block scope cl C N s H fp) target g) (ht : ∀ cl C s H fp, PF (X.block scope cl C N s H fp) ifs tt) (he : ∀ cl C s H fp, PE (X.block scope cl C N s H fp) elt te)
    (hk : scope.kind = .function := by rfl) (hs : ∀ x, foldedSetIterable iter X.env x = pure x := by intro _; rfl) :
    PE X (.ListComp elt [⟨target, iter, ifs, 0⟩] scope pos) (tComp (N.length - js.length) js wi g tt te) := by
  intro pins s σ H Q I h
  have S := compOk_sc hok
  obtain ⟨cl, hclos, hcl, hcl2⟩ := closure_ok (env := X.env) (scope := scope) fun y hy hf => I.ok.has _ (S.tk y hy hf)
  rw [eval_ListComp]
  refine wpAny_comprehension_free (use := none) rfl hs hclos hk S.names (thn (hi pins s σ H _ I h) fun v s1 h1 => thn h1 fun itv s2 h2 => ?_)
  obtain ⟨it, fp, tn, J, H2, e, I2, T, st2, f2, hw⟩ := h2
  subst e
  refine comp_block (RR := fun acc C => compPost (model X.prog X.w) X.A X.xe none (EP X pins σ Q) acc C) (Q := Q) hc I2 T st2 f2 hk hN S hcl hcl2 hg ht he hw ?_
  rintro D C H' s' ⟨m, hn⟩ ⟨c0, c1, c2, c3, c4, c5⟩ I' q
  exact ⟨m, hn, fun h' hs' => ⟨.ref D, H', I'.turned (t' := s'.toks) (fun b o hb e => (hs'.2 b hb).trans e) c0 c1 c3 c4 c5, rfl, q⟩⟩
theorem ps_setComp {i : Nat} {y : Str} {py : Pos} (N : List Str) (js : List Nat) (hok : compOk X.env.scope X.N scope N js = true) (hN : N.Nodup) (hc : X.calm = true) (hXN : X.N.Nodup) (hyi : X.N[i]? = some y) (hy : Loc X.env.scope y) (hi : PI X target iter wi)
    (hg : ∀ cl C s H fp, PG (X.block scope cl C N s H fp) target g) (ht : ∀ cl C s H fp, PF (X.block scope cl C N s H fp) ifs tt) (he : ∀ cl C s H fp, PE (X.block scope cl C N s H fp) elt te)
    (hsw : swapsWith (.ListComp elt [⟨target, iter, ifs, 0⟩] scope pos) (some (.Name y py)) spos.line X.env = pure true := by rfl)
    (hk : scope.kind = .function := by rfl) (hs : ∀ x, foldedSetIterable iter X.env x = pure x := by intro _; rfl) (hf : X.fn y = true ∨ X.env.scope.names.lookup y = some .local := by first | exact .inl rfl | exact .inr rfl | assumption) :
    PS X (.Assign [.Name y py] (.ListComp elt [⟨target, iter, ifs, 0⟩] scope pos) spos) (tAsg (tComp (N.length - js.length) js wi g tt te) (gName i)) := by
  intro pins s σ H D I h
  have S := compOk_sc hok
  obtain ⟨cl, hclos, hcl, hcl2⟩ := closure_ok (env := X.env) (scope := scope) fun y hy hf => I.ok.has _ (S.tk y hy hf)
  rw [exec_Assign_Name_used _ _ _ _ hsw]
  refine wpAny_bind (wpAny_standAt (wpAny_bind ?_))
  show wpAny _ X.A (do let _ ← comprehension (.ListComp elt [⟨target, iter, ifs, 0⟩] scope pos) scope X.env _ (newList []) false (eval iter X.env) (some (assign (.Name y py) X.env))) _ _ s
  refine wpAny_bind (wpAny_mono (wpAny_comprehension_free (use := some (assign (.Name y py) X.env)) (Q := fun _ s' => SP X pins D .next s') rfl hs hclos hk S.names
    (thn (hi pins s σ H _ I h) fun v s1 h1 => thn h1 fun itv s2 h2 => ?_)) (fun _ s' hq => wpAny_pure (wpAny_pure hq)) fun _ _ e => e)
  obtain ⟨it, fp, tn, J, H2, e, I2, T, st2, f2, hw⟩ := h2
  subst e
  refine comp_block (RR := fun acc C => compPost (model X.prog X.w) X.A X.xe (some (assign (.Name y py) X.env)) (fun _ s' => SP X pins D .next s') acc C) (Q := fun v H' => D.nx (σ.set i (some v)) H') hc I2 T st2 f2 hk hN S hcl hcl2 hg ht he hw ?_
  rintro E C H' s' ⟨m, hn⟩ ⟨c0, c1, c2, c3, c4, c5⟩ I' q
  show wpAny _ X.A (assign (.Name y py) X.env (.ref E)) _ _ _
  obtain ⟨oC, es, ep, hoC, hdC, hrC⟩ := id hn
  have I2' : Inv X (pins ++ [(C, oC)]) σ H' s' := I'.pins_of fun p hp => (List.mem_append.mp hp).elim (fun z => I'.pin p (List.mem_append_right _ z)) fun z => by
    have e : p = (C, oC) := by simpa using z
    subst e
    exact ⟨hoC, c0, c1, c2, fun v z => by rw [hdC] at z; cases z⟩
  refine wpAny_assign_Name (store_ok I2' hXN hyi hy (v := .ref E) rfl (fun s'' I'' => ?_) hf)
  have hC2 := (I''.pin (C, oC) (List.mem_append_right _ (List.mem_append_right _ (by simp)))).1
  have I3 : Inv X pins (σ.set i (some (.ref E))) H' s'' := I''.unpinned
  exact ⟨m, ⟨oC, es, ep, hC2, hdC, hrC⟩, fun h' hs' => ⟨_, H', I3.turned (t' := s''.toks) (fun b o hb e => (hs'.2 b hb).trans e) c0 c1 c3 c4 c5, q⟩⟩
end

structure ItOk (J : It) (xs : List V) (ok : Hp → Prop) : Prop where
  stop : ∀ H, ok H → J.stop xs.length H
  go : ∀ i H, ok H → i < xs.length → J.go i H
  yld : ∀ i H x H', ok H → i < xs.length → J.yld i H x H' → H' = H ∧ xs[i]? = some x
theorem it_list (K : PySem.W.Frag) (a : Addr) (xs : List V) : ItOk (Itl K a) xs fun H => SqL K H a xs :=
  ⟨fun H h => ⟨xs, h, Nat.le_refl _⟩, fun i H h hi => ⟨xs, xs[i], h, by simp [hi]⟩, fun i H x H' h hi y => ⟨y.1, y.2 xs h⟩⟩
theorem it_range (lo : Int) (n : Nat) : ItOk (Itr lo n) ((List.range n).map fun i => V.int (lo + (i : Nat))) fun _ => True :=
  ⟨fun H _ => by show n ≤ _; simp, fun i H _ hi => (by show i < n; simpa using hi), fun i H x H' _ hi y => ⟨y.1, by
    have hi' : i < n := by simpa using hi
    obtain ⟨_, rfl⟩ := y
    simp [hi']⟩⟩
theorem comp_by {J : It} {D : Addr} {xs : List V} {ok : Hp → Prop} {g : TG} {tt : TT} {te : TE} {Q : Hp → Prop} {τ : St} {H : Hp} (IO : ItOk J xs ok) (Pv : Nat → St → Hp → List V → Prop) (hz : xs.length ≤ sizeLine) (h0 : Pv 0 τ H [])
    (hl : ∀ i τ H ys, i ≤ xs.length → Pv i τ H ys → ok H ∧ H D = some (.lst ys) ∧ ys.length ≤ i)
    (hs : ∀ i x τ H ys, i < xs.length → xs[i]? = some x → Pv i τ H ys → g x τ H fun τ4 H4 => tt τ4 H4 fun b H5 =>
      if b = true then te τ4 H5 fun y H6 => H6 D = some (.lst ys) ∧ Pv (i + 1) τ4 (upd H6 D (.lst (ys ++ [y]))) (ys ++ [y]) else Pv (i + 1) τ4 H5 ys)
    (hd : ∀ τ H ys, Pv xs.length τ H ys → Q H) :
    ∃ W : Nat → Nat → St → Hp → List V → Prop, (∃ m, W 0 m τ H []) ∧ ∀ i m τ H2 ys, W i m τ H2 ys → H2 D = some (.lst ys) ∧
      ((J.stop i H2 ∧ Q H2) ∨ (J.go i H2 ∧ ys.length < sizeLine ∧ ∃ N : St → Hp → List V → Prop, (∀ τ' H' ys', N τ' H' ys' → ∃ m', m' < m ∧ W (i + 1) m' τ' H' ys') ∧ ∀ x H3, J.yld i H2 x H3 → g x τ H3 fun τ4 H4 => tt τ4 H4 fun b H5 =>
        if b = true then te τ4 H5 fun y H6 => H6 D = some (.lst ys) ∧ N τ4 (upd H6 D (.lst (ys ++ [y]))) (ys ++ [y])
        else N τ4 H5 ys)) := by
  refine ⟨fun i m τ H ys => m = xs.length - i ∧ i ≤ xs.length ∧ Pv i τ H ys, ⟨xs.length, by simp, Nat.zero_le _, h0⟩, ?_⟩
  rintro i m τ H ys ⟨rfl, hi, p⟩
  obtain ⟨q, hD, hy⟩ := hl i τ H ys hi p
  refine ⟨hD, ?_⟩
  by_cases hlt : i < xs.length
  · refine .inr ⟨IO.go i H q hlt, by omega, Pv (i + 1), fun τ' H' ys' p' => ⟨xs.length - (i + 1), by omega, rfl, hlt, p'⟩, fun x H' y => ?_⟩
    obtain ⟨e, hx⟩ := IO.yld i H x H' q hlt y
    subst e
    exact hs i x τ _ ys hlt hx p
  · have e : i = xs.length := by omega
    subst e
    exact .inl ⟨IO.stop H q, hd τ H ys p⟩
theorem for_by {J : It} {xs : List V} {ok : Hp → Prop} {g : TG} {tb : TS} {D : Ends} {σ : St} {H : Hp} (IO : ItOk J xs ok) (Pv : Nat → St → Hp → Prop) (h0 : Pv 0 σ H) (hl : ∀ i σ H, i ≤ xs.length → Pv i σ H → ok H)
    (hs : ∀ i x σ H, i < xs.length → xs[i]? = some x → Pv i σ H → g x σ H fun σ2 H2 => tb { D with nx := Pv (i + 1), ct := Pv (i + 1), bk := D.nx } σ2 H2) (hd : ∀ σ H, Pv xs.length σ H → D.nx σ H) :
    ∃ W : Nat → Nat → St → Hp → Prop, (∃ m, W 0 m σ H) ∧ ∀ i m σ H, W i m σ H →
      (J.stop i H ∧ D.nx σ H) ∨ (J.go i H ∧ ∃ N : St → Hp → Prop, (∀ σ' H', N σ' H' → ∃ m', m' < m ∧ W (i + 1) m' σ' H') ∧ ∀ x H', J.yld i H x H' → g x σ H' fun σ2 H2 => tb { D with nx := N, ct := N, bk := D.nx } σ2 H2) := by
  refine ⟨fun i m σ H => m = xs.length - i ∧ i ≤ xs.length ∧ Pv i σ H, ⟨xs.length, by simp, Nat.zero_le _, h0⟩, ?_⟩
  rintro i m σ H ⟨rfl, hi, p⟩
  have q := hl i σ H hi p
  by_cases hlt : i < xs.length
  · refine .inr ⟨IO.go i H q hlt, Pv (i + 1), fun σ' H' p' => ⟨xs.length - (i + 1), by omega, rfl, hlt, p'⟩, fun x H' y => ?_⟩
    obtain ⟨e, hx⟩ := IO.yld i H x H' q hlt y
    subst e
    exact hs i x σ _ hlt hx p
  · have e : i = xs.length := by omega
    subst e
    exact .inl ⟨IO.stop H q, hd σ H p⟩
end L2
end
section
set_option Elab.async false
set_option linter.all false
set_option maxRecDepth 100000
set_option maxHeartbeats 4000000
namespace L2
open PySem PySem.Spec PyProof.Rows

section
variable {X : Cx}
def tyN (H : Hp) : V → Option String
  | .non => some "NoneType"
  | .bl _ => some "bool"
  | .int _ => some "int"
  | .str _ => some "str"
  | .ref a => match H a with
    | some (.lst _) => some "list"
    | some (.tup _) => some "tuple"
    | some (.dK _) => some "dict"
    | _ => none
  | _ => none
theorem call_isinst : CallR X (.builtin "isinstance") (fun xs H Q => ∃ x T Tx, xs = [x, .ty T] ∧ tyN H x = some Tx ∧ T ∈ ["int", "bool", "list", "tuple", "str"] ∧ Q (.bl (Tx == T || (Tx == "bool" && T == "int"))) H) := by
  intro pins s σ H xs us Q I r h
  obtain ⟨x, T, Tx, rfl, hT, hm, q⟩ := h
  obtain ⟨u, w', rfl, r1, r2⟩ := vals2 r
  obtain rfl : w' = .type T := r2
  have no : ∀ {b : Bool}, b = (Tx == T || (Tx == "bool" && T == "int")) → ∀ tk, EP X pins σ Q (.bool b) { s with toks := tk } := fun {b} hb tk => ⟨.bl b, H, I.tok _, rfl, by rw [hb]; exact q⟩
  have ye : ∀ {b : Bool}, b = (Tx == T || (Tx == "bool" && T == "int")) → EP X pins σ Q (.bool b) s := fun {b} hb => ⟨.bl b, H, I, rfl, by rw [hb]; exact q⟩
  simp only [List.mem_cons, List.not_mem_nil, or_false] at hm
  cases x with
  | int i =>
    obtain ⟨t, rfl⟩ := r1
    cases hT
    rcases hm with rfl | rfl | rfl | rfl | rfl
    · exact IsiPair.int_int (ye (by decide))
    · exact IsiPair.int_bool (no (by decide) _)
    · exact IsiPair.int_list (no (by decide) _)
    · exact IsiPair.int_tuple (no (by decide) _)
    · exact IsiPair.int_str (no (by decide) _)
  | str i =>
    obtain ⟨t, rfl⟩ := r1
    cases hT
    rcases hm with rfl | rfl | rfl | rfl | rfl
    · exact IsiPair.str_int (no (by decide) _)
    · exact IsiPair.str_bool (no (by decide) _)
    · exact IsiPair.str_list (no (by decide) _)
    · exact IsiPair.str_tuple (no (by decide) _)
    · exact IsiPair.str_str (ye (by decide))
  | bl i =>
    cases r1
    cases hT
    rcases hm with rfl | rfl | rfl | rfl | rfl
    · exact IsiPair.bool_int (ye (by decide))
    · exact IsiPair.bool_bool (ye (by decide))
    · exact IsiPair.bool_list (no (by decide) _)
    · exact IsiPair.bool_tuple (no (by decide) _)
    · exact IsiPair.bool_str (no (by decide) _)
  | ref a =>
    cases r1
    cases hH : H a with
    | none => simp [tyN, hH] at hT
    | some o =>
      cases o with
      | lst ys =>
        simp [tyN, hH] at hT
        subst hT
        obtain ⟨_, its, n, _, e⟩ := I.hok a _ hH
        have hx : ∃ o, s.heap.get? a = some o ∧ o.cls = .type "list" := ⟨_, e, rfl⟩
        rcases hm with rfl | rfl | rfl | rfl | rfl
        · exact call_isinstance (isinstance_false_list (by decide +kernel) F.isi_meta_int F.sub_list_int) ⟨hx, no (by decide) _⟩
        · exact call_isinstance (isinstance_false_list (by decide +kernel) F.isi_meta_bool F.sub_list_bool) ⟨hx, no (by decide) _⟩
        · exact call_isinstance (isinstance_true (Tx := "list") F.isi_meta_list F.sub_list_list) ⟨⟨_, e, rfl⟩, ye (by decide)⟩
        · exact call_isinstance (isinstance_false_list (by decide +kernel) F.isi_meta_tuple F.sub_list_tuple) ⟨hx, no (by decide) _⟩
        · exact call_isinstance (isinstance_false_list (by decide +kernel) F.isi_meta_str F.sub_list_str) ⟨hx, no (by decide) _⟩
      | tup ys =>
        simp [tyN, hH] at hT
        subst hT
        obtain ⟨_, its, _, o, e, hc, _⟩ := I.hok a _ hH
        have hx : ∃ o, s.heap.get? a = some o ∧ o.cls = .type "tuple" := ⟨_, e, hc⟩
        rcases hm with rfl | rfl | rfl | rfl | rfl
        · exact call_isinstance (isinstance_false_tuple (by decide +kernel) F.isi_meta_int F.sub_tuple_int) ⟨hx, no (by decide) _⟩
        · exact call_isinstance (isinstance_false_tuple (by decide +kernel) F.isi_meta_bool F.sub_tuple_bool) ⟨hx, no (by decide) _⟩
        · exact call_isinstance (isinstance_false_tuple (by decide +kernel) F.isi_meta_list F.sub_tuple_list) ⟨hx, no (by decide) _⟩
        · exact call_isinstance (isinstance_true (Tx := "tuple") F.isi_meta_tuple F.sub_tuple_tuple) ⟨⟨_, e, hc⟩, ye (by decide)⟩
        · exact call_isinstance (isinstance_false_tuple (by decide +kernel) F.isi_meta_str F.sub_tuple_str) ⟨hx, no (by decide) _⟩
      | dK ys =>
        simp [tyN, hH] at hT
        subst hT
        obtain ⟨_, _, vs, _, dd⟩ := I.hok a _ hH
        obtain ⟨o, es, ep, e, hc, _⟩ := dd
        have hx : ∃ o, s.heap.get? a = some o ∧ o.cls = .type "dict" := ⟨o, e, hc.1⟩
        rcases hm with rfl | rfl | rfl | rfl | rfl
        · exact call_isinstance (isinstance_false_dict (by decide +kernel) F.isi_meta_int F.sub_dict_int) ⟨hx, no (by decide) _⟩
        · exact call_isinstance (isinstance_false_dict (by decide +kernel) F.isi_meta_bool F.sub_dict_bool) ⟨hx, no (by decide) _⟩
        · exact call_isinstance (isinstance_false_dict (by decide +kernel) F.isi_meta_list F.sub_dict_list) ⟨hx, no (by decide) _⟩
        · exact call_isinstance (isinstance_false_dict (by decide +kernel) F.isi_meta_tuple F.sub_dict_tuple) ⟨hx, no (by decide) _⟩
        · exact call_isinstance (isinstance_false_dict (by decide +kernel) F.isi_meta_str F.sub_dict_str) ⟨hx, no (by decide) _⟩
      | _ => simp [tyN, hH] at hT
  | non =>
    cases r1
    cases hT
    rcases hm with rfl | rfl | rfl | rfl | rfl
    · exact IsiPair.NoneType_int (no (by decide) _)
    · exact IsiPair.NoneType_bool (no (by decide) _)
    · exact IsiPair.NoneType_list (no (by decide) _)
    · exact IsiPair.NoneType_tuple (no (by decide) _)
    · exact IsiPair.NoneType_str (no (by decide) _)
  | _ => cases hT

theorem vals_bools : ∀ {bs : List Bool} {us : List Value}, Vals (bs.map V.bl) us → us = bs.map Value.bool
  | [], us, r => by cases r; rfl
  | b :: bs, us, r => by
    cases r with
    | cons r1 r2 =>
      cases r1
      rw [vals_bools r2]; rfl
theorem all_range (bs : List Bool) : (List.range bs.length).all (fun i => bs.getD i true) = bs.all id := by
  rw [Bool.eq_iff_iff, List.all_eq_true, List.all_eq_true]
  constructor
  · intro h b hb
    obtain ⟨i, hi, rfl⟩ := List.mem_iff_getElem.mp hb
    have := h i (List.mem_range.mpr hi)
    rw [List.getD_eq_getElem?_getD, List.getElem?_eq_getElem hi] at this
    exact this
  · intro h i hi
    have hi := List.mem_range.mp hi
    rw [List.getD_eq_getElem?_getD, List.getElem?_eq_getElem hi]
    exact h _ (List.getElem_mem hi)
theorem call_all (hc : X.calm = true) : CallR X (.builtin "all") (fun xs H Q => ∃ (p : Addr) (bs : List Bool), xs = [.ref p] ∧ H p = some (.lst (bs.map V.bl)) ∧ Q (.bl (bs.all id)) H) := by
  intro pins s σ H xs us Q I r h
  obtain ⟨p, bs, rfl, hH, q⟩ := h
  obtain ⟨u, rfl, r1⟩ := vals1 r
  cases r1
  obtain ⟨z, its, n, rv, e⟩ := I.hok p _ hH
  have ei := vals_bools rv
  subst ei
  have hl : s.heap.IsList p (bs.map Value.bool).toArray := ⟨_, e, rfl, _, rfl⟩
  have hp : p < s.heap.objs.size := Heap.lt_size e
  refine call_all_walk (wpAny_pyIter_list hl ?_)
  refine ⟨s.heap.objs.size, _, [s.heap.objs.size], _, _, _, (fun i => bs.getD i true), rfl, Walks.list (A := X.A.in1) (I.ok.hd hc) s.heap.objs.size p (Nat.ne_of_lt hp) (bs.map Value.bool).toArray, ⟨⟨_, Heap.get?_push_size _ rfl, rfl, rfl⟩, hl.push _⟩, ?_, fun h' tk hk => ?_⟩
  · intro i v s' Q' E' hP hQ
    have hP : (bs.map Value.bool).toArray[i]? = some v := hP
    have hb : ∃ b, bs[i]? = some b ∧ v = .bool b := by
      rw [List.getElem?_toArray, List.getElem?_map] at hP
      cases e : bs[i]? with
      | none => rw [e] at hP; cases hP
      | some b => rw [e] at hP; exact ⟨b, rfl, (Option.some.inj hP).symm⟩
    obtain ⟨b, hb, rfl⟩ := hb
    have e : bs.getD i true = b := by rw [List.getD_eq_getElem?_getD, hb]; rfl
    dsimp only at hQ
    rw [e] at hQ
    exact wpAny_truthy_bool hQ
  · have hn : (bs.map Value.bool).toArray.size = bs.length := by simp
    rw [hn, all_range]
    exact ⟨.bl (bs.all id), H, I.kept fun b o e => hk b o (fun hm => by
      have : b = s.heap.objs.size := by simpa using hm
      exact absurd (this ▸ Heap.lt_size e) (Nat.lt_irrefl _)) (Heap.get?_push_of_some _ e), rfl, q⟩

theorem vals_strs : ∀ {ws : List Str} {us : List Value}, Vals (ws.map V.str) us → StrsAre us ws
  | [], us, r => by cases r; exact .nil
  | w :: ws, us, r => by
    cases r with
    | cons r1 r2 =>
      obtain ⟨t, rfl⟩ := r1
      exact .cons w t (vals_strs r2)
theorem mt_join : MtM X "str.join" (fun x vs H Q => ∃ (sep : Str) (p : Addr) (ws : List Str), x = .str sep ∧ vs = [.ref p] ∧ H p = some (.lst (ws.map V.str)) ∧ (ws.map (·.length)).sum + ws.length * sep.length ≤ 16777216 ∧ Q (.str (Txt.join sep ws)) H) := by
  intro pins s σ H x vs v us Q I rx rv h
  obtain ⟨sep, p, ws, rfl, rfl, hH, hz, q⟩ := h
  obtain ⟨t, rfl⟩ := rx
  obtain ⟨u, rfl, ru⟩ := rv.one
  cases ru
  obtain ⟨z, its, n, r, e⟩ := I.hok p _ hH
  exact join_list (items := its.toArray) ⟨_, e, rfl, _, rfl⟩ (vals_strs r) hz fun t' k => ⟨.str _, H, I.tok _, ⟨_, rfl⟩, q⟩
theorem mt_strip : MtM X "str.strip" (fun x vs H Q => ∃ z y, x = .str z ∧ vs = [.str y] ∧ z.length ≤ sizeLine ∧ Q (.str (Txt.stripChars z y)) H) := by
  intro pins s σ H x vs v us Q I rx rv h
  obtain ⟨z, y, rfl, rfl, hz, q⟩ := h
  obtain ⟨t, rfl⟩ := rx
  obtain ⟨u, rfl, t', rfl⟩ := rv.one
  exact SC.stripChars (fun t' k => ⟨.str _, H, I.tok _, ⟨_, rfl⟩, q⟩) hz
theorem mt_bitlen : MtM X "int.bit_length" (fun x vs H Q => ∃ i, x = .int i ∧ vs = [] ∧ Q (.int (Builtin.Int.intBits i)) H) := by
  intro pins s σ H x vs v us Q I rx rv h
  obtain ⟨i, rfl, rfl, q⟩ := h
  obtain ⟨t, rfl⟩ := rx
  obtain rfl := rv.zero
  exact call_int_bit_length ⟨.int _, H, I.tok _, ⟨_, rfl⟩, q⟩
theorem sl_str : SlR X (fun x lo hi H Q => ∃ z, x = .str z ∧ z.length ≤ sizeLine ∧ Q (.str (Txt.slice z lo hi)) H) := by
  intro pins s σ H x v vl vu lo hi sl Q I rx hs pl pu h
  obtain ⟨z, rfl, hz, q⟩ := h
  obtain ⟨t, rfl⟩ := rx
  have fin : ∀ t' k, EP X pins σ Q (.str (Txt.slice z lo hi) t') { s with toks := k } := fun t' k => ⟨.str _, H, I.tok _, ⟨_, rfl⟩, q⟩
  refine ⟨"str", _, F.slot_str_getitem.lookup, typeIs_str _ _ _, ?_⟩
  cases pl with
  | none =>
    cases pu with
    | none => exact wpAny_getItem_str_slice (l := none) (u := none) (st := none) hs rfl (post_val_or_str ⟨Nat.le_trans (Txt.slice_le z _ _) hz, fin⟩)
    | int j uj => exact wpAny_getItem_str_slice (l := none) (u := some (j, uj)) (st := none) hs rfl (post_val_or_str ⟨Nat.le_trans (Txt.slice_le z _ _) hz, fin⟩)
  | int i ui =>
    cases pu with
    | none => exact wpAny_getItem_str_slice (l := some (i, ui)) (u := none) (st := none) hs rfl (post_val_or_str ⟨Nat.le_trans (Txt.slice_le z _ _) hz, fin⟩)
    | int j uj => exact wpAny_getItem_str_slice (l := some (i, ui)) (u := some (j, uj)) (st := none) hs rfl (post_val_or_str ⟨Nat.le_trans (Txt.slice_le z _ _) hz, fin⟩)
theorem call_int_bit : CallR X (.type "int") (fun xs H Q => ∃ b : Bool, xs = [.str (if b then ("1" : Str) else "0")] ∧ Q (.int (if b then 1 else 0)) H) := by
  intro pins s σ H xs us Q I r h
  obtain ⟨b, rfl, q⟩ := h
  obtain ⟨u, rfl, t, rfl⟩ := vals1 r
  cases b with
  | true => exact PySem.W.KIN.call_text (x := ("1" : Str)) (n := 1) (by decide +kernel) (by decide +kernel) ⟨.int 1, H, I.tok _, ⟨_, rfl⟩, q⟩
  | false => exact PySem.W.KIN.call_text (x := ("0" : Str)) (n := 0) (by decide +kernel) (by decide +kernel) ⟨.int 0, H, I.tok _, ⟨_, rfl⟩, q⟩
end
end L2
end
section
set_option Elab.async false
set_option linter.all false
set_option maxRecDepth 100000
set_option maxHeartbeats 4000000
namespace L2
open PySem PySem.Spec PyProof.Rows

mutual
inductive DV (H : Hp) : V → PyData → Prop
  | non : DV H .non .none
  | bl (b : Bool) : DV H (.bl b) (.bool b)
  | int (i : Int) : DV H (.int i) (.int i)
  | str (x : Str) : DV H (.str x) (.str x)
  | lst {a : Addr} {xs : List V} {ds : List PyData} : H a = some (.lst xs) → DVs H xs ds → DV H (.ref a) (.list ds)
  | tup {a : Addr} {xs : List V} {ds : List PyData} : H a = some (.tup xs) → DVs H xs ds → DV H (.ref a) (.tuple ds)
  | dic {a : Addr} : H a = some (.dK []) → DV H (.ref a) (.dict [])
inductive DVs (H : Hp) : List V → List PyData → Prop
  | nil : DVs H [] []
  | cons {x : V} {d : PyData} {xs : List V} {ds : List PyData} : DV H x d → DVs H xs ds → DVs H (x :: xs) (d :: ds)
end
mutual
theorem DV.mono {H H' : Hp} (k : Same H H') : ∀ {v : V} {d : PyData}, DV H v d → DV H' v d
  | _, _, .non => .non
  | _, _, .bl b => .bl b
  | _, _, .int i => .int i
  | _, _, .str x => .str x
  | _, _, .lst h r => .lst (k _ _ h) (DVs.mono k r)
  | _, _, .tup h r => .tup (k _ _ h) (DVs.mono k r)
  | _, _, .dic h => .dic (k _ _ h)
theorem DVs.mono {H H' : Hp} (k : Same H H') : ∀ {vs : List V} {ds : List PyData}, DVs H vs ds → DVs H' vs ds
  | _, _, .nil => .nil
  | _, _, .cons h r => .cons (DV.mono k h) (DVs.mono k r)
end
section
variable {X : Cx} {pins : List (Addr × Obj)} {σ : St} {H : Hp} {s : Shared}
mutual
theorem DV.reads (I : Inv X pins σ H s) : ∀ {v : V} {d : PyData} {u : Value}, DV H v d → d.canLay0 = true → RelV v u → ∃ as, Reads s.heap u d as
  | _, _, _, .non, _, r => by cases r; exact ⟨_, .none⟩
  | _, _, _, .bl b, _, r => by cases r; exact ⟨_, .bool b⟩
  | _, _, _, .int i, _, r => by obtain ⟨t, rfl⟩ := r; exact ⟨_, .int i t⟩
  | _, _, _, .str x, _, r => by obtain ⟨t, rfl⟩ := r; exact ⟨_, .str x t⟩
  | _, _, _, .lst h rr, c, r => by
    cases r
    obtain ⟨_, its, n, rv, e⟩ := I.hok _ _ h
    obtain ⟨as, q⟩ := DVs.reads I rr (by simpa [PyData.canLay0] using c) rv
    exact ⟨_, .list e rfl rfl (by simpa using q)⟩
  | _, _, _, .tup h rr, c, r => by
    cases r
    obtain ⟨_, its, rv, o, e, hc, n, hd⟩ := I.hok _ _ h
    obtain ⟨as, q⟩ := DVs.reads I rr (by simpa [PyData.canLay0] using c) rv
    exact ⟨_, .tuple e hc hd (by simpa using q)⟩
  | _, _, _, .dic h, c, r => by simp [PyData.canLay0] at c
theorem DVs.reads (I : Inv X pins σ H s) : ∀ {vs : List V} {ds : List PyData} {us : List Value}, DVs H vs ds → PyData.canLayAll0 ds = true → Vals vs us → ∃ as, ReadsAll s.heap us ds as
  | _, _, _, .nil, _, r => by cases r; exact ⟨_, .nil⟩
  | _, _, _, .cons h rr, c, r => by
    have c' := by simpa [PyData.canLayAll0] using c
    cases r with
    | cons r1 r2 =>
      obtain ⟨as, q⟩ := DV.reads I h c'.1 r1
      obtain ⟨bs, p⟩ := DVs.reads I rr c'.2 r2
      exact ⟨_, .cons q p⟩
end
end
section
variable {X : Cx}
theorem op_eqD (hu : X.A.units + 64 < cLine) : OpR X (compareOp .Eq) (fun x y H Q => ∃ d e, DV H x d ∧ DV H y e ∧ SeqAt.shaped d = true ∧ SeqAt.shaped e = true ∧ Q (.bl (PyData.eqv d e)) H) := by
  intro pins s σ H x y v u Q I rx ry h
  obtain ⟨d, e, hd, he, sd, se, q⟩ := h
  obtain ⟨as, ra⟩ := hd.reads I (SeqAt.canLay_of_shaped sd) rx
  obtain ⟨bs, rb⟩ := he.reads I (SeqAt.canLay_of_shaped se) ry
  exact eq_dataH ra rb sd se hu ⟨.bl _, H, I, rfl, q⟩
theorem op_neD (hu : X.A.units + 64 < cLine) : OpR X (compareOp .NotEq) (fun x y H Q => ∃ d e, DV H x d ∧ DV H y e ∧ SeqAt.shaped d = true ∧ SeqAt.shaped e = true ∧ Q (.bl (!PyData.eqv d e)) H) := by
  intro pins s σ H x y v u Q I rx ry h
  obtain ⟨d, e, hd, he, sd, se, q⟩ := h
  obtain ⟨as, ra⟩ := hd.reads I (SeqAt.canLay_of_shaped sd) rx
  obtain ⟨bs, rb⟩ := he.reads I (SeqAt.canLay_of_shaped se) ry
  exact ne_dataH ra rb sd se hu ⟨.bl _, H, I, rfl, q⟩
end
mutual
theorem eqv_refl : ∀ d : PyData, d.canLay0 = true → PyData.eqv d d = true
  | .none, _ => by simp [PyData.eqv]
  | .bool b, _ => by simp [PyData.eqv]
  | .int i, _ => by simp [PyData.eqv]
  | .str x, _ => by simp [PyData.eqv]
  | .list xs, h => by rw [PyData.eqv]; exact eqvAll_refl xs (by simpa [PyData.canLay0] using h)
  | .tuple xs, h => by rw [PyData.eqv]; exact eqvAll_refl xs (by simpa [PyData.canLay0] using h)
  | .dict xs, h => by simp [PyData.canLay0] at h
theorem eqvAll_refl : ∀ ds : List PyData, PyData.canLayAll0 ds = true → PyData.eqvAll ds ds = true
  | [], _ => by simp [PyData.eqvAll]
  | d :: ds, h => by
    have h' : d.canLay0 = true ∧ PyData.canLayAll0 ds = true := by simpa [PyData.canLayAll0] using h
    rw [PyData.eqvAll, eqv_refl d h'.1, eqvAll_refl ds h'.2]; rfl
end
def sg (b : Bool) : Nat := if b then 49 else 48
def bs (w : List Bool) : Str := ⟨(w.map sg).toArray⟩
theorem bs_len (w : List Bool) : (bs w).length = w.length := by show ((w.map sg).toArray).size = _; simp
theorem sg_inj {a b : Bool} (h : sg a = sg b) : a = b := by cases a <;> cases b <;> first | rfl | cases h
theorem bs_inj {v w : List Bool} (h : bs v = bs w) : v = w := by
  have h1 : (v.map sg).toArray = (w.map sg).toArray := congrArg Str.cps h
  have h2 : v.map sg = w.map sg := by simpa using congrArg Array.toList h1
  clear h h1
  induction v generalizing w with
  | nil => cases w <;> simp_all
  | cons a v ih =>
    cases w with
    | nil => simp at h2
    | cons b w =>
      simp only [List.map_cons, List.cons.injEq] at h2
      rw [sg_inj h2.1, ih h2.2]
theorem bs_app (v w : List Bool) : bs v ++ bs w = bs (v ++ w) := by
  show (⟨(v.map sg).toArray ++ (w.map sg).toArray⟩ : Str) = ⟨((v ++ w).map sg).toArray⟩
  simp
theorem bs_nil : ("" : Str) = bs [] := by decide +kernel
theorem bs_if (b : Bool) : bs [b] = (if b then ("1" : Str) else "0") := by cases b <;> decide +kernel
end L2
end
section
set_option Elab.async false
set_option linter.all false
set_option maxRecDepth 100000
set_option maxHeartbeats 4000000
namespace L2
open PySem PySem.Spec PyProof.Rows

section
variable {X : Cx} {a b c e o : Expr} {es : List Expr} {pos : Pos}
theorem PE.of {t t' : TE} (h : PE X e t) (k : ∀ σ H Q, t' σ H Q → t σ H Q) : PE X e t' := fun pins s σ H Q I q => h pins s σ H Q I (k _ _ _ q)
theorem OpR.of {f : Value → Value → Sem Value} {r r' : R2} (h : OpR X f r) (k : ∀ x y H Q, r' x y H Q → r x y H Q) : OpR X f r' := fun pins s σ H x y v u Q I rx ry q => h pins s σ H x y v u Q I rx ry (k _ _ _ _ q)
def tV (i : Nat) : TE := fun σ H Q => match σ[i]? with
  | some (some v) => Q v H
  | _ => False
theorem vr (i : Nat) {x : Str} (hN : X.N[i]? = some x := by rfl) (hv : Vis X.env.scope x := by first | exact Or.inl rfl | exact Or.inr (Or.inl rfl) | exact Or.inr (Or.inr rfl)) (hd : (x == ("__debug__" : Str)) = false := by decide)
    (hcd : (x == ("__classdict__" : Str)) = false := by decide) : PE X (.Name x pos) (tV i) := (pe_var hN hv hd hcd).of fun σ H Q q => by
  unfold tV at q
  split at q
  · exact ⟨_, by assumption, q⟩
  · exact q.elim
def rN (C : Int → Int → Prop) (g : Int → Int → V) : R2 := fun x y H Q => match x, y with
  | .int i, .int j => C i j ∧ Q (g i j) H
  | _, _ => False
def rN0 (g : Int → Int → V) : R2 := fun x y H Q => match x, y with
  | .int i, .int j => Q (g i j) H
  | _, _ => False
theorem OpR.n {f : Value → Value → Sem Value} {C : Int → Int → Prop} {g : Int → Int → V} (h : OpR X f (rI C g)) : OpR X f (rN C g) := h.of fun x y H Q q => by
  unfold rN at q
  split at q
  · exact ⟨_, _, rfl, rfl, q⟩
  · exact q.elim
theorem OpR.n0 {f : Value → Value → Sem Value} {g : Int → Int → V} (h : OpR X f (rI0 g)) : OpR X f (rN0 g) := h.of fun x y H Q q => by
  unfold rN0 at q
  split at q
  · exact ⟨_, _, rfl, rfl, q⟩
  · exact q.elim
def rAddU : R2 := fun x y H Q => match x, y with
  | .int i, .int j => Q (.int (i + j)) H
  | .str i, .str j => i.length + j.length ≤ sizeLine ∧ Q (.str (i ++ j)) H
  | .ref p, .ref q => ∃ xs zs, H p = some (.lst xs) ∧ H q = some (.lst zs) ∧ xs.length + zs.length ≤ sizeLine ∧ ∀ n, H n = none → Q (.ref n) (upd H n (.lst (xs ++ zs)))
  | _, _ => False
theorem op_addU : OpR X (binaryOp .Add) rAddU := (op_add.or (op_add_str.or op_cat)).of fun x y H Q q => by
  unfold rAddU at q
  split at q
  · exact .inl ⟨_, _, rfl, rfl, q⟩
  · exact .inr (.inl ⟨_, _, rfl, rfl, q⟩)
  · obtain ⟨xs, zs, h1, h2, h3, h4⟩ := q
    exact .inr (.inr ⟨_, _, xs, zs, rfl, rfl, h1, h2, h3, h4⟩)
  · exact q.elim
def rMulU : R2 := fun x y H Q => match x, y with
  | .int i, .int j => CMul i j ∧ Q (.int (i * j)) H
  | .ref p, .int k => ∃ xs, H p = some (.lst xs) ∧ -(2 ^ 63) ≤ k ∧ k < 2 ^ 63 ∧ xs.length * k.toNat ≤ sizeLine ∧ ∀ n, H n = none → Q (.ref n) (upd H n (.lst (List.replicate k.toNat xs).flatten))
  | _, _ => False
theorem op_mulU : OpR X (binaryOp .Mult) rMulU := (op_mul.or op_rep).of fun x y H Q q => by
  unfold rMulU at q
  split at q
  · exact .inl ⟨_, _, rfl, rfl, q⟩
  · obtain ⟨xs, h1, h2, h3, h4, h5⟩ := q
    exact .inr ⟨_, _, xs, rfl, rfl, h1, h2, h3, h4, h5⟩
  · exact q.elim
def rEqU : R2 := fun x y H Q => match x, y with
  | .int i, .int j => Q (.bl (decide (i = j))) H
  | .str i, .str j => Q (.bl (decide (i = j))) H
  | .bl i, .bl j => Q (.bl (decide (i = j))) H
  | .ref p, .ref q => ∃ d e, DV H (.ref p) d ∧ DV H (.ref q) e ∧ SeqAt.shaped d = true ∧ SeqAt.shaped e = true ∧ Q (.bl (PyData.eqv d e)) H
  | _, _ => False
theorem vint_dec (i j : Int) : decide (V.int i = V.int j) = decide (i = j) := by simp
theorem vstr_dec (i j : Str) : decide (V.str i = V.str j) = decide (i = j) := by simp
theorem vbl_dec (i j : Bool) : decide (V.bl i = V.bl j) = decide (i = j) := by simp
theorem op_eqU (hu : X.A.units + 64 < cLine) : OpR X (compareOp .Eq) rEqU := (op_eq.or (op_eqD hu)).of fun x y H Q q => by
  unfold rEqU at q
  split at q
  · exact .inl ⟨rfl, by rw [vint_dec]; exact q⟩
  · exact .inl ⟨rfl, by rw [vstr_dec]; exact q⟩
  · exact .inl ⟨rfl, by rw [vbl_dec]; exact q⟩
  · exact .inr q
  · exact q.elim
def rNeU : R2 := fun x y H Q => rEqU x y H fun v H' => match v with
  | .bl k => Q (.bl (!k)) H'
  | _ => False
theorem op_neU (hu : X.A.units + 64 < cLine) : OpR X (compareOp .NotEq) rNeU := (op_ne.or (op_neD hu)).of fun x y H Q q => by
  unfold rNeU rEqU at q
  split at q
  · exact .inl ⟨rfl, by rw [vint_dec]; exact q⟩
  · exact .inl ⟨rfl, by rw [vstr_dec]; exact q⟩
  · exact .inl ⟨rfl, by rw [vbl_dec]; exact q⟩
  · exact .inr q
  · exact q.elim
def getV (H : Hp) (x : V) (i : Int) : Option V := match x with
  | .ref p => match H p with
    | some (.lst xs) => atI xs i
    | some (.tup xs) => atI xs i
    | some (.frz _ (.lst xs)) => atI xs i
    | _ => none
  | .str z => if z.length ≤ sizeLine then (atI z.cps.toList i).map fun c => V.str ⟨#[c]⟩ else none
  | _ => none
theorem getV_lst {H : Hp} {p : Addr} {xs : List V} {i : Int} (h : H p = some (.lst xs)) : getV H (.ref p) i = atI xs i := by simp [getV, h]
theorem getV_tup {H : Hp} {p : Addr} {xs : List V} {i : Int} (h : H p = some (.tup xs)) : getV H (.ref p) i = atI xs i := by simp [getV, h]
def rIxU : R2 := fun x y H Q => match y with
  | .int i => ∃ v, getV H x i = some v ∧ Q v H
  | _ => False
theorem ixU : IxR X rIxU := by
  intro value slice pins s σ H x y v u Q I rx ry q hs
  refine ix_seq value slice pins s σ H x y v u Q I rx ry ?_ hs
  unfold rIxU at q
  split at q
  · obtain ⟨z, hz, q⟩ := q
    unfold getV at hz
    split at hz
    · split at hz
      · rename_i xs hx
        exact .inl ⟨_, xs, _, z, rfl, rfl, SqL.of hx, hz, q⟩
      · rename_i xs hx
        exact .inr (.inl ⟨_, xs, _, z, rfl, rfl, SqT.of hx, hz, q⟩)
      · rename_i oo xs hx
        exact .inl ⟨_, xs, _, z, rfl, rfl, .inl (.inr ⟨_, hx⟩), hz, q⟩
      · cases hz
    · split at hz
      · rename_i hl
        obtain ⟨c, hc, rfl⟩ := Option.map_eq_some_iff.mp hz
        exact .inr (.inr ⟨_, _, c, rfl, rfl, hl, hc, q⟩)
      · cases hz
    · cases hz
  · exact q.elim
def rSlU : V → Option Int → Option Int → Hp → VK → Prop := fun x lo hi H Q => match x with
  | .ref p => ∃ xs, H p = some (.lst xs) ∧ ∀ n, H n = none → Q (.ref n) (upd H n (.lst (cutV xs lo hi)))
  | .str z => z.length ≤ sizeLine ∧ Q (.str (Txt.slice z lo hi)) H
  | _ => False
theorem slU : SlR X rSlU := by
  intro pins s σ H x v vl vu lo hi sl Q I rx hs pl pu q
  refine (sl_list.or sl_str) pins s σ H x v vl vu lo hi sl Q I rx hs pl pu ?_
  unfold rSlU at q
  split at q
  · obtain ⟨xs, h, q⟩ := q
    exact .inl ⟨_, xs, rfl, SqL.of h, q⟩
  · exact .inr ⟨_, rfl, q⟩
  · exact q.elim
def tPartU (t : TE) : TO := fun σ H Q => t σ H fun x H1 => match x with
  | .int i => Q (some i) H1
  | _ => False
theorem po_someU {te : TE} (h : PE X e te) : PO X (some e) (tPartU te) := by
  intro pins s σ H Q I hw
  rw [evalPart_some]
  refine thn (h pins s σ H _ I hw) fun u s1 ⟨x, H1, I1, r1, q1⟩ => ?_
  dsimp only at q1
  split at q1
  · obtain ⟨t, rfl⟩ := r1
    exact ⟨some _, H1, I1, .int _ t, q1⟩
  · exact q1.elim
def tBU (t : TE) : TT := fun σ H Q => t σ H fun x H1 => match x with
  | .bl c => Q c H1
  | _ => False
theorem bu_of {Q : Bool → Hp → Prop} {x : V} {H1 : Hp} (q : match x with | .bl c => Q c H1 | _ => False) : ∃ c, x = .bl c ∧ Q c H1 := by
  split at q
  · exact ⟨_, rfl, q⟩
  · exact q.elim
theorem pt_cmpU {op : CmpOp} {r : R2} {ta tb : TE} (ho : OpR X (compareOp op) r) (ha : PE X a ta) (hb : PE X b tb) (hm : behindInMarks op b = false := by first | exact nomark _ | rfl | (with_unfolding_all rfl)) : PT X (.Compare a [op] [b] pos) (tBU (tOp r ta tb)) := by
  intro pins s σ H Q I h
  refine wpAny_isTrue_Compare1 (thn (ha pins s σ H _ I h) fun v s1 ⟨x, H1, I1, r1, q1⟩ => thn (hb pins s1 σ H1 _ I1 q1) fun u s2 ⟨y, H2, I2, r2, q2⟩ =>
    thn (ho pins s2 σ H2 x y v u _ I2 r1 r2 q2) fun c s3 ⟨z, H3, I3, r3, q3⟩ => ?_) hm
  obtain ⟨k, e, q3⟩ := bu_of q3
  subst e
  cases r3
  exact wpAny_truthy_bool ⟨H3, I3, q3⟩
theorem pe_cmpU {op : CmpOp} {r : R2} {ta tb : TE} (ho : OpR X (compareOp op) r) (ha : PE X a ta) (hb : PE X b tb) (hm : behindInMarks op b = false := by first | exact nomark _ | rfl | (with_unfolding_all rfl)) : PE X (.Compare a [op] [b] pos) (tOp r ta tb) := pe_cmpR ho ha hb hm
def tAndU (ta tb : TE) : TE := fun σ H Q => ta σ H fun x H1 => match x with
  | .bl c => if c = true then tb σ H1 Q else Q (.bl false) H1
  | _ => False
def tNotU (ta : TE) : TE := fun σ H Q => ta σ H fun x H1 => match x with
  | .bl c => Q (.bl (!c)) H1
  | _ => False
variable {ta tb tc : TE} {rest : List Expr}
theorem pe_andU (ha : PE X a ta) (hb : PE X (.BoolOp .And (b :: rest) pos) tb) : PE X (.BoolOp .And (a :: b :: rest) pos) (tAndU ta tb) := by
  intro pins s σ H Q I h
  refine BoolOp_and (thn (ha pins s σ H _ I h) fun v s1 ⟨x, H1, I1, r1, q1⟩ => ?_)
  dsimp only at q1
  split at q1
  · rename_i c
    cases r1
    refine wpAny_truthy_bool ?_
    cases c with
    | true => exact hb pins s1 σ H1 Q I1 q1
    | false => exact ⟨.bl false, H1, I1, rfl, q1⟩
  · exact q1.elim
theorem pe_notU (ha : PE X a ta) : PE X (.UnaryOp .Not a pos) (tNotU ta) := by
  intro pins s σ H Q I h
  refine UnaryOp_ (thn (ha pins s σ H _ I h) fun v s1 ⟨x, H1, I1, r1, q1⟩ => ?_)
  dsimp only at q1
  split at q1
  · cases r1
    exact not_of (wpAny_truthy_bool ⟨.bl _, H1, I1, rfl, q1⟩)
  · exact q1.elim
theorem CallR.of {f : Value} {r r' : List V → Hp → VK → Prop} (h : CallR X f r) (k : ∀ xs H Q, r' xs H Q → r xs H Q) : CallR X f r' := fun pins s σ H xs us Q I rx q => h pins s σ H xs us Q I rx (k _ _ _ q)
theorem MtM.of {id : String} {r r' : V → List V → Hp → VK → Prop} (h : MtM X id r) (k : ∀ x xs H Q, r' x xs H Q → r x xs H Q) : MtM X id r' := fun pins s σ H x xs v us Q I rx rs q => h pins s σ H x xs v us Q I rx rs (k _ _ _ _ q)
def lenV (H : Hp) (x : V) : Option Nat := match x with
  | .str z => if z.length ≤ sizeLine then some z.length else none
  | .ref p => match H p with
    | some (.lst xs) => some xs.length
    | some (.tup xs) => some xs.length
    | some (.frz _ (.lst xs)) => some xs.length
    | _ => none
  | _ => none
def rLen : List V → Hp → VK → Prop := fun vs H Q => match vs with
  | [x] => ∃ k : Nat, lenV H x = some k ∧ Q (.int k) H
  | _ => False
theorem call_lenU : CallR X (.builtin "len") rLen := (call_len_seq.or call_len_str).of fun xs H Q q => by
  unfold rLen at q
  split at q
  · obtain ⟨k, hk, q⟩ := q
    unfold lenV at hk
    split at hk
    · split at hk
      · rename_i hl
        cases hk
        exact .inr ⟨_, rfl, hl, q⟩
      · cases hk
    · split at hk
      · cases hk; exact .inl ⟨_, _, rfl, .inl (SqL.of (by assumption)), q⟩
      · cases hk; exact .inl ⟨_, _, rfl, .inr (SqT.of (by assumption)), q⟩
      · cases hk; exact .inl ⟨_, _, rfl, .inl (.inl (.inr ⟨_, by assumption⟩)), q⟩
      · cases hk
    · cases hk
  · exact q.elim
def rListOf : List V → Hp → VK → Prop := fun vs H Q => match vs with
  | [.ref p] => ∃ xs, (H p = some (.lst xs) ∨ H p = some (.tup xs)) ∧ ∀ l, H l = none → Q (.ref l) (upd H l (.lst xs))
  | _ => False
theorem call_listU : CallR X (.type "list") rListOf := call_list_of.of fun xs H Q q => by
  unfold rListOf at q
  split at q
  · obtain ⟨ys, h, q⟩ := q
    exact ⟨_, ys, rfl, h.elim (fun z => .inl (SqL.of z)) (fun z => .inr (SqT.of z)), q⟩
  · exact q.elim
def rMax : List V → Hp → VK → Prop := fun vs H Q => match vs with
  | [.int i, .int j] => Q (.int (if j > i then j else i)) H
  | _ => False
theorem call_maxU (hc : X.calm = true) : CallR X (.builtin "max") rMax := (call_max2 hc).of fun xs H Q q => by
  unfold rMax at q
  split at q
  · exact ⟨_, _, rfl, q⟩
  · exact q.elim
def rMin : List V → Hp → VK → Prop := fun vs H Q => match vs with
  | [.int i, .int j] => Q (.int (if j < i then j else i)) H
  | _ => False
theorem call_minU (hc : X.calm = true) : CallR X (.builtin "min") rMin := (call_min2 hc).of fun xs H Q q => by
  unfold rMin at q
  split at q
  · exact ⟨_, _, rfl, q⟩
  · exact q.elim
def rIntOf : List V → Hp → VK → Prop := fun vs H Q => match vs with
  | [.int i] => Q (.int i) H
  | [.bl k] => Q (.int (if k then 1 else 0)) H
  | [.str z] => ∃ k : Bool, z = bs [k] ∧ Q (.int (if k then 1 else 0)) H
  | _ => False
theorem call_intU : CallR X (.type "int") rIntOf := (call_int1.or call_int_bit).of fun xs H Q q => by
  unfold rIntOf at q
  split at q
  · exact .inl (.inl ⟨_, rfl, q⟩)
  · exact .inl (.inr ⟨_, rfl, q⟩)
  · obtain ⟨k, h, q⟩ := q
    exact .inr ⟨k, by rw [h, bs_if], q⟩
  · exact q.elim
def rIsI : List V → Hp → VK → Prop := fun vs H Q => match vs with
  | [x, .ty T] => ∃ Tx, tyN H x = some Tx ∧ T ∈ ["int", "bool", "list", "tuple", "str"] ∧ Q (.bl (Tx == T || (Tx == "bool" && T == "int"))) H
  | _ => False
theorem call_isU : CallR X (.builtin "isinstance") rIsI := call_isinst.of fun xs H Q q => by
  unfold rIsI at q
  split at q
  · obtain ⟨Tx, h1, h2, q⟩ := q
    exact ⟨_, _, Tx, rfl, h1, h2, q⟩
  · exact q.elim
def rAll : List V → Hp → VK → Prop := fun vs H Q => match vs with
  | [.ref p] => ∃ bl : List Bool, H p = some (.lst (bl.map V.bl)) ∧ Q (.bl (bl.all id)) H
  | _ => False
theorem call_allU (hc : X.calm = true) : CallR X (.builtin "all") rAll := (call_all hc).of fun xs H Q q => by
  unfold rAll at q
  split at q
  · obtain ⟨bl, h, q⟩ := q
    exact ⟨_, bl, rfl, h, q⟩
  · exact q.elim

def rApp : V → List V → Hp → VK → Prop := fun x vs H Q => match x, vs with
  | .ref l, [y] => ∃ xs, H l = some (.lst xs) ∧ xs.length < sizeLine ∧ Q .non (upd H l (.lst (xs ++ [y])))
  | _, _ => False
theorem mt_appU : MtM X "list.append" rApp := mt_append.of fun x xs H Q q => by
  unfold rApp at q
  split at q
  · obtain ⟨ys, h1, h2, q⟩ := q
    exact ⟨_, ys, _, rfl, rfl, h1, h2, q⟩
  · exact q.elim
def rPopI : V → List V → Hp → VK → Prop := fun x vs H Q => match x, vs with
  | .ref l, [.int i] => ∃ xs y, H l = some (.lst xs) ∧ 0 ≤ i ∧ i < 2 ^ 62 ∧ xs[i.toNat]? = some y ∧ Q y (upd H l (.lst (xs.eraseIdx i.toNat)))
  | _, _ => False
theorem mt_popU : MtM X "list.pop" rPopI := mt_popAt.of fun x xs H Q q => by
  unfold rPopI at q
  split at q
  · rename_i l i
    obtain ⟨ys, y, h1, h2, h3, h4, q⟩ := q
    have hlt : i.toNat < ys.length := (List.getElem?_eq_some_iff.mp h4).1
    have hi : seqIndex? i ys.length = some i.toNat := seqIndex_of h2 (by omega)
    exact ⟨l, ys, i, i.toNat, y, rfl, rfl, h1, by omega, by omega, hi, h4, q⟩
  · exact q.elim
def rJoin : V → List V → Hp → VK → Prop := fun x vs H Q => match x, vs with
  | .str sep, [.ref p] => ∃ ws : List Str, H p = some (.lst (ws.map V.str)) ∧ (ws.map (·.length)).sum + ws.length * sep.length ≤ 16777216 ∧ Q (.str (Txt.join sep ws)) H
  | _, _ => False
theorem mt_joinU : MtM X "str.join" rJoin := mt_join.of fun x xs H Q q => by
  unfold rJoin at q
  split at q
  · obtain ⟨ws, h1, h2, q⟩ := q
    exact ⟨_, _, ws, rfl, rfl, h1, h2, q⟩
  · exact q.elim
def rStrip : V → List V → Hp → VK → Prop := fun x vs H Q => match x, vs with
  | .str z, [.str y] => z.length ≤ sizeLine ∧ Q (.str (Txt.stripChars z y)) H
  | _, _ => False
theorem mt_stripU : MtM X "str.strip" rStrip := mt_strip.of fun x xs H Q q => by
  unfold rStrip at q
  split at q
  · exact ⟨_, _, rfl, rfl, q⟩
  · exact q.elim
def rBits : V → List V → Hp → VK → Prop := fun x vs H Q => match x, vs with
  | .int i, [] => Q (.int (Builtin.Int.intBits i)) H
  | _, _ => False
theorem mt_bitsU : MtM X "int.bit_length" rBits := mt_bitlen.of fun x xs H Q q => by
  unfold rBits at q
  split at q
  · exact ⟨_, rfl, rfl, q⟩
  · exact q.elim
def tyU (H : Hp) (T : String) : V → Prop
  | .str _ => T = "str"
  | .int _ => T = "int"
  | .ref p => ∃ xs, T = "list" ∧ H p = some (.lst xs)
  | _ => False
theorem tyU_of {K : PySem.W.Frag} {H : Hp} {T : String} {x : V} (h : tyU H T x) : tyV K T x H := by
  cases x with
  | str z => exact h
  | int z => exact h
  | ref p => obtain ⟨xs, h1, h2⟩ := h; exact .inl ⟨h1, xs, SqL.of h2⟩
  | _ => exact h.elim
end
theorem le_line {n : Nat} (h : n ≤ 1000) : n ≤ sizeLine := Nat.le_trans h (by decide)
theorem lt_line {n : Nat} (h : n ≤ 1000) : n < sizeLine := Nat.lt_of_le_of_lt h (by decide)
theorem Same.upd {H : Hp} {p : Addr} {o : HO} (h : H p = none) : Same H (upd H p o) := fun b u e => by rw [upd_ne (ne_of_none e h)]; exact e
theorem atI_int {α : Type} {xs : List α} {i : Int} {v : α} (h0 : 0 ≤ i) (h : xs[i.toNat]? = some v) : atI xs i = some v := by
  have e : i = (i.toNat : Int) := by omega
  rw [e]
  exact atI_nat h
theorem gl {H : Hp} {p : Addr} {xs : List V} {i : Int} {v : V} (h : H p = some (.lst xs)) (h0 : 0 ≤ i) (hv : xs[i.toNat]? = some v) : getV H (.ref p) i = some v := by rw [getV_lst h]; exact atI_int h0 hv
theorem gt {H : Hp} {p : Addr} {xs : List V} {i : Int} {v : V} (h : H p = some (.tup xs)) (h0 : 0 ≤ i) (hv : xs[i.toNat]? = some v) : getV H (.ref p) i = some v := by rw [getV_tup h]; exact atI_int h0 hv
theorem lenL {H : Hp} {p : Addr} {xs : List V} (h : H p = some (.lst xs)) : lenV H (.ref p) = some xs.length := by simp [lenV, h]
theorem gs {H : Hp} {w : List Bool} {i : Int} {b : Bool} (hz : w.length ≤ sizeLine) (h0 : 0 ≤ i) (hv : w[i.toNat]? = some b) : getV H (.str (bs w)) i = some (.str (bs [b])) := by
  show (if (bs w).length ≤ sizeLine then (atI (bs w).cps.toList i).map fun c => V.str ⟨#[c]⟩ else none) = _
  rw [if_pos (by rw [bs_len]; exact hz)]
  have : atI (bs w).cps.toList i = some (sg b) := atI_int h0 (by show ((w.map sg).toArray.toList)[i.toNat]? = _; simp [hv])
  rw [this]
  rfl
theorem lenS {H : Hp} {w : List Bool} (hz : w.length ≤ sizeLine) : lenV H (.str (bs w)) = some w.length := by
  show (if (bs w).length ≤ sizeLine then some (bs w).length else none) = _
  rw [if_pos (by rw [bs_len]; exact hz), bs_len]
end L2
end
section
namespace L2
open PySem
theorem small_some {a b c : Int} (ha : -(2 ^ 30) ≤ a) (ha' : a < 2 ^ 30) (hb : -(2 ^ 30) ≤ b) (hb' : b < 2 ^ 30) (hc : c ≠ 0) (hc1 : -(2 ^ 30) < c) (hc2 : c < 2 ^ 30) : Builtin.Range.small a b c = true := by
  have h2 : (0 : Int) ≤ Builtin.Range.rangeSize a b c ∧ Builtin.Range.rangeSize a b c ≤ 2 ^ 32 := by
    unfold Builtin.Range.rangeSize
    split
    · split
      · have h1 : 0 ≤ (b - a - 1) / c := Int.ediv_nonneg (by omega) (by omega)
        have h3 : (b - a - 1) / c ≤ b - a - 1 := Int.ediv_le_self _ (by omega)
        omega
      · omega
    · split
      · have h1 : 0 ≤ (a - b - 1) / (-c) := Int.ediv_nonneg (by omega) (by omega)
        have h3 : (a - b - 1) / (-c) ≤ a - b - 1 := Int.ediv_le_self _ (by omega)
        omega
      · omega
  unfold Builtin.Range.small
  simp only [Builtin.Range.rangeFitsLong, Bool.and_eq_true, Bool.or_eq_true, decide_eq_true_eq, beq_iff_eq]
  refine ⟨by omega, .inr ?_⟩
  split <;> (simp only [Bool.and_eq_true, decide_eq_true_eq]; omega)
end L2
end
section
set_option Elab.async false
set_option linter.all false
set_option maxRecDepth 100000
set_option maxHeartbeats 4000000
namespace L2
open PySem PySem.Spec PyProof.Rows

def FnX (K : PySem.W.Frag) (mg : Str → Option Value) (x : Str) (st : Stmt) (ps : List Str) : Prop := ∃ f fd, Fun K x x st f fd ∧ mg x = some (.ref f) ∧ Binds K fd ps []
def Can (P : Program) (w : World) (K : PySem.W.Frag) (mg : Str → Option Value) (base : Heap) (x : Str) (k : Nat) (ps : List Str) (sp : Sp) : Prop :=
  ∃ f fd, FnOk P w K mg base CX0 k f fd ps sp ∧ mg x = some (.ref f) ∧ PySem.W.keepIn K (.ref f) = true ∧ Binds K fd ps []
section
variable {P : Program} {w : World} {K : PySem.W.Frag} {mg : Str → Option Value} {base : Heap}
theorem can_fn {x : Str} {st : Stmt} {N ps : List Str} {k : Nat} {sp : Sp} (D : FnX K mg x st ps) (S : FnScope N ps (defScope st)) (len : ∀ vs H Q E, sp vs H Q E → vs.length = ps.length)
    (hbody : ∀ (f : Addr) (cdv : Value) (A : Around) (outer : List Env) (s : Shared) (H : Hp) (vs : List V) (Q : VK) (E : XK), Room k (A.deeper (envOfC x (defScope st) s.heap.objs.size f cdv)) → sp vs H Q E →
      ∃ t, PSs (cxOf CX0 P w K mg base N x (defScope st) f cdv A outer s H E).nox (defBody st) t ∧ t { nx := fun _ H' => Q .non H', rt := Q } (start N vs) H) : Can P w K mg base x (k + 1) ps sp := by
  obtain ⟨f, fd, F, hm, hb⟩ := D
  exact ⟨f, fd, F.ok S len fun cdv A outer s H vs Q E hr h => hbody f cdv A outer s H vs Q E hr h, hm, F.kp, hb⟩
end
section
variable {X : Cx} {x : Str} {p pos apos : Pos} {e o : Expr} {es : List Expr} {t : TA} {te to ti : TE} {k : Nat} {ps : List Str} {sp : Sp}
def tCan (sp : Sp) (t : TA) : TE := fun σ H Q => t σ H fun vs H1 => sp vs H1 Q E0
theorem PA.of {t t' : TA} (h : PA X es t) (k : ∀ σ H Q, t' σ H Q → t σ H Q) : PA X es t' := fun pos pins s σ H Q I q => h pos pins s σ H Q I (k _ _ _ q)
theorem pe_can (C : Can X.prog X.w X.K X.mg X.base x k ps sp) (hr : Room k X.A) (ha : PA X (e :: es) t) (hg : Gl X x := by rfl)
    (hdb : (x == ("__debug__" : Str)) = false := by decide) (he : starEach (e :: es) X.env = (false, eval e X.env) :: starEach es X.env := by rfl) (hpl : (backTo pos (starEach es X.env)).any (·.1) = false := by rfl) :
    PE X (.Call (.Name x p) (e :: es) [] pos) (tCan sp t) := by
  obtain ⟨f, fd, F, hm, hk, hb⟩ := C
  have h := pe_call (pos := pos) (p := p) F hr hg hm hk hb .nil pass0 ha hdb he hpl
  intro pins s σ H Q I q
  refine thn (h pins s σ H Q I ?_) fun _ _ z => z
  have ee : tCall sp [] E0 t = tCan sp t := by funext σ H Q; unfold tCall tCan; simp only [List.append_nil]
  rw [ee]
  exact q
theorem pe_len (hm : X.mg "len" = none) (ha : PA X (e :: es) t) (hg : Gl X "len" := by rfl) (he : starEach (e :: es) X.env = (false, eval e X.env) :: starEach es X.env := by rfl) (hpl : (backTo pos (starEach es X.env)).any (·.1) = false := by rfl) :
    PE X (.Call (.Name "len" p) (e :: es) [] pos) (tCB rLen t) := pe_callB call_lenU hg hm PySem.boot_len ha (he := he) (hpl := hpl)
theorem pe_isinst (hm : X.mg "isinstance" = none) (ha : PA X (e :: es) t) (hg : Gl X "isinstance" := by rfl) (he : starEach (e :: es) X.env = (false, eval e X.env) :: starEach es X.env := by rfl) (hpl : (backTo pos (starEach es X.env)).any (·.1) = false := by rfl) :
    PE X (.Call (.Name "isinstance" p) (e :: es) [] pos) (tCB rIsI t) := pe_callB call_isU hg hm PyProof.Rows.boot_isinstance ha (he := he) (hpl := hpl)
theorem pe_all (hc : X.calm = true) (hm : X.mg "all" = none) (ha : PA X (e :: es) t) (hg : Gl X "all" := by rfl) (he : starEach (e :: es) X.env = (false, eval e X.env) :: starEach es X.env := by rfl) (hpl : (backTo pos (starEach es X.env)).any (·.1) = false := by rfl) :
    PE X (.Call (.Name "all" p) (e :: es) [] pos) (tCB rAll t) := pe_callB (call_allU hc) hg hm PyProof.Rows.boot_all ha (he := he) (hpl := hpl)
theorem pe_max (hc : X.calm = true) (hm : X.mg "max" = none) (ha : PA X (e :: es) t) (hg : Gl X "max" := by rfl) (he : starEach (e :: es) X.env = (false, eval e X.env) :: starEach es X.env := by rfl) (hpl : (backTo pos (starEach es X.env)).any (·.1) = false := by rfl) :
    PE X (.Call (.Name "max" p) (e :: es) [] pos) (tCB rMax t) := pe_callB (call_maxU hc) hg hm PyProof.Rows.boot_max ha (he := he) (hpl := hpl)
theorem pe_min (hc : X.calm = true) (hm : X.mg "min" = none) (ha : PA X (e :: es) t) (hg : Gl X "min" := by rfl) (he : starEach (e :: es) X.env = (false, eval e X.env) :: starEach es X.env := by rfl) (hpl : (backTo pos (starEach es X.env)).any (·.1) = false := by rfl) :
    PE X (.Call (.Name "min" p) (e :: es) [] pos) (tCB rMin t) := pe_callB (call_minU hc) hg hm PyProof.Rows.boot_min ha (he := he) (hpl := hpl)
theorem pe_intf (hm : X.mg "int" = none) (ha : PA X (e :: es) t) (hg : Gl X "int" := by rfl) (he : starEach (e :: es) X.env = (false, eval e X.env) :: starEach es X.env := by rfl) (hpl : (backTo pos (starEach es X.env)).any (·.1) = false := by rfl) :
    PE X (.Call (.Name "int" p) (e :: es) [] pos) (tCB rIntOf t) := pe_callTy call_intU hg hm PyProof.Rows.boot_int ha (he := he) (hpl := hpl)
theorem pe_ty {T : String} (hb : bootBuiltins x = some (.type T)) (hm : X.mg x = none) (hg : Gl X x := by rfl) (hn : x ≠ "__name__" := by decide) (hd : (x == ("__debug__" : Str)) = false := by decide) : PE X (.Name x pos) (tC (.ty T)) := pe_bltn hg hm hb rfl hn hd

def tMt (T : String) (r : V → List V → Hp → VK → Prop) (to : TE) (t : TA) : TE := fun σ H Q => to σ H fun x H1 => tyU H1 T x ∧ t σ H1 fun xs H2 => r x xs H2 Q
theorem pe_mt {T id : String} {name : Str} {cpos : Pos} {r : V → List V → Hp → VK → Prop} (pa : PlainAttrs T) (slot : Slot T name id) (hty : typeOf (.builtin id) = pure (.type "method_descriptor")) (hm : MtM X id r) (ho : PE X o to) (ha : PA X (e :: es) t)
    (hbase : attributeBase o name X.env (eval o X.env) = eval o X.env := by rfl)
    (hfew : ((backTo cpos (starEach (e :: es) X.env)).all (fun x => !x.1) && (backToKw cpos (keywordEach [] X.env)).all (fun x => x.1.isSome)
      && decide ((e :: es).length + ([] : List Keyword).length + (if ([] : List Keyword).isEmpty then 0 else 1) < 30)) = true := by rfl)
    (hline : (apos.endLine == cpos.line) = true := by rfl) (hs : starEach (e :: es) X.env = (false, eval e X.env) :: starEach es X.env := by rfl) (hplain : (backTo cpos (starEach es X.env)).any (·.1) = false := by rfl) :
    PE X (.Call (.Attribute o name apos) (e :: es) [] cpos) (tMt T r to t) := by
  intro pins s σ H Q I h
  refine wpAny_Call_method_late hbase hfew hline rfl (thn (ho pins s σ H _ I h) fun v s1 ⟨x, H1, I1, r1, ty, q1⟩ => ?_)
  obtain ⟨h1, h2⟩ := tyV_is I1 r1 (tyU_of ty)
  refine ⟨T, id, pa, slot, hty, h1, h2, ?_⟩
  have hA := ha cpos pins s1 σ H1 _ I1 q1
  rw [hs] at hA ⊢
  refine Calls.callWith_builtin (by show (false || (backTo cpos (starEach es X.env)).any (·.1)) = false; rw [hplain] <;> rfl) (Calls.evalArgs_plain ?_)
  exact thn hA fun us s2 ⟨vs, H2, I2, r2, q2⟩ => hm pins s2 σ H2 x vs v us Q I2 r1 r2 q2
theorem pe_mt0 {T id : String} {name : Str} {cpos : Pos} {r : V → List V → Hp → VK → Prop} (pa : PlainAttrs T) (slot : Slot T name id) (hty : typeOf (.builtin id) = pure (.type "method_descriptor")) (hm : MtM X id r) (ho : PE X o to)
    (hbase : attributeBase o name X.env (eval o X.env) = eval o X.env := by rfl) (hline : (apos.endLine == cpos.line) = true := by rfl) : PE X (.Call (.Attribute o name apos) [] [] cpos) (tMt T r to tNil) := by
  intro pins s σ H Q I h
  refine wpAny_Call_method0_late hbase hline (thn (ho pins s σ H _ I h) fun v s1 ⟨x, H1, I1, r1, ty, q1⟩ => ?_)
  obtain ⟨h1, h2⟩ := tyV_is I1 r1 (tyU_of ty)
  exact ⟨T, id, pa, slot, hty, h1, h2, Calls.callWith_builtin rfl (PySem.evalArgs_none (hm pins s1 σ H1 x [] v [] Q I1 r1 .nil q1))⟩

def rSetU : V → V → V → Hp → (Hp → Prop) → Prop := fun o i v H Q => match o, i with
  | .ref p, .int k => ∃ xs j, H p = some (.lst xs) ∧ ixN xs.length k = some j ∧ Q (upd H p (.lst (xs.set j v)))
  | _, _ => False
theorem setU : PSet X rSetU := by
  intro pins s σ H o i v ov iv u Q I ro ri rv q
  refine set_list pins s σ H o i v ov iv u Q I ro ri rv ?_
  unfold rSetU at q
  split at q
  · obtain ⟨xs, j, h1, h2, q⟩ := q
    exact ⟨_, xs, _, j, rfl, rfl, h1, h2, q⟩
  · exact q.elim
def gTupU (K : PySem.W.Frag) (n : Nat) (t : TGs) : TG := fun v σ H Q => match v with
  | .ref a => ∃ xs, H a = some (.tup xs) ∧ xs.length = n ∧ t xs σ H Q
  | _ => False
def gConsU (t : TG) (u : TGs) : TGs := fun vs σ H Q => match vs with
  | v :: r => t v σ H fun σ' H' => u r σ' H' Q
  | [] => False
theorem pgs_consU {es : List Expr} {t : TG} {u : TGs} (h1 : PG X e t) (h2 : PGs X es u)
    (hs : (assignEach (e :: es) X.env).map (·.2) = assign e X.env :: (assignEach es X.env).map (·.2) := by rfl) : PGs X (e :: es) (gConsU t u) := by
  intro pins s σ H vs us Q I r hw
  refine pgs_cons h1 h2 hs pins s σ H vs us Q I r ?_
  unfold gConsU at hw
  split at hw
  · exact ⟨_, _, rfl, hw⟩
  · exact hw.elim
variable {tg : Expr}
def iLst (K : PySem.W.Frag) (tl : TE) : TI := fun σ H R => tl σ H fun x H1 => match x with
  | .ref a => (∃ xs, SqL K H1 a xs) ∧ R (Itl K a) H1
  | _ => False
theorem pi_lst {l : Expr} {tl : TE} (hl : PE X l tl) : PI X tg l (iLst X.K tl) := by
  intro pins s σ H R I h
  refine thn (hl pins s σ H _ I h) fun v s1 ⟨x, H1, I1, r1, q1⟩ => ?_
  dsimp only at q1
  split at q1
  · rename_i a
    obtain ⟨⟨xs, hq⟩, q⟩ := q1
    cases r1
    obtain ⟨its, rv, p, hz⟩ := I1.list hq
    refine wpAny_pyIter_list p.isList ?_
    refine ⟨s1.heap.objs.size, [s1.heap.objs.size], _, _, H1, rfl, I1.kept (t' := s1.toks) fun b o e => Heap.get?_push_of_some _ e, turn_list a _, ⟨_, Heap.get?_push_size _ rfl, rfl, rfl⟩, fun b hb => ?_, q⟩
    have e : b = s1.heap.objs.size := by simpa using hb
    subst e
    exact I1.fpOk (Nat.le_refl _) (I1.hok.fresh (Nat.le_refl _))
  · exact q1.elim
def iR1 (ta : TA) : TI := fun σ H R => ta σ H fun vs H1 => match vs with
  | [.int j] => -(2 ^ 62) ≤ j ∧ j < 2 ^ 62 ∧ R (Itr 0 j.toNat) H1
  | _ => False
theorem PI.of {iter : Expr} {w w' : TI} (h : PI X tg iter w) (k : ∀ σ H R, w' σ H R → w σ H R) : PI X tg iter w' := fun pins s σ H R I q => h pins s σ H R I (k _ _ _ q)
theorem pi_r1 {a : Expr} {ta : TA} (hm : X.mg "range" = none) (ha : PA X [a] ta) (hg : Gl X "range" := by rfl) (hs : starEach [a] X.env = [(false, eval a X.env)] := by rfl) : PI X tg (.Call (.Name "range" p) [a] [] pos) (iR1 ta) := by
  intro pins s σ H R I h
  refine Call_ (ld_blt I hg hm boot_range (PyProof.Rows.callWith_type1 (thn (ha pos pins s σ H _ I h) fun us s1 ⟨vs, H1, I1, r1, q1⟩ => ?_) hs rfl))
  dsimp only at q1
  split at q1
  · obtain ⟨q1, q2, q⟩ := q1
    obtain ⟨u, rfl, t, rfl⟩ := vals1 r1
    exact call_range_1 (range_it I1 (by omega) (by omega) q1 q2 (by simpa using q))
  · exact q1.elim
def iR2 (ta : TA) : TI := fun σ H R => ta σ H fun vs H1 => match vs with
  | [.int i, .int j] => (-(2 ^ 62) ≤ i ∧ i < 2 ^ 62 ∧ -(2 ^ 62) ≤ j ∧ j < 2 ^ 62) ∧ R (Itr i (j - i).toNat) H1
  | _ => False
theorem pi_r2 {a b : Expr} {ta : TA} (hm : X.mg "range" = none) (ha : PA X [a, b] ta) (hg : Gl X "range" := by rfl) (hs : starEach [a, b] X.env = [(false, eval a X.env), (false, eval b X.env)] := by rfl) (hs2 : starEach [b] X.env = [(false, eval b X.env)] := by rfl) :
    PI X tg (.Call (.Name "range" p) [a, b] [] pos) (iR2 ta) := by
  intro pins s σ H R I h
  refine Call_ (ld_blt I hg hm boot_range (PyProof.Rows.callWith_type1 (thn (ha pos pins s σ H _ I h) fun us s1 ⟨vs, H1, I1, r1, q1⟩ => ?_) (by rw [hs, hs2]) (by rw [hs2]; rfl)))
  dsimp only at q1
  split at q1
  · obtain ⟨⟨q1, q2, q3, q4⟩, q⟩ := q1
    obtain ⟨u, u2, rfl, ⟨t, rfl⟩, ⟨t', rfl⟩⟩ := vals2 r1
    exact call_range_2 (range_it I1 q1 q2 q3 q4 q)
  · exact q1.elim
def Itrs (lo st : Int) (n : Nat) : It := ⟨fun i _ => i < n, fun i H x H' => H' = H ∧ x = .int (lo + (i : Nat) * st), fun i _ => n ≤ i⟩
theorem it_rangeS (lo st : Int) (n : Nat) : ItOk (Itrs lo st n) ((List.range n).map fun i => V.int (lo + (i : Nat) * st)) fun _ => True :=
  ⟨fun H _ => by show n ≤ _; simp, fun i H _ hi => (by show i < n; simpa using hi), fun i H x H' _ hi y => ⟨y.1, by
    have hi' : i < n := by simpa using hi
    obtain ⟨_, rfl⟩ := y
    simp [hi']⟩⟩
theorem turn_rangeS {P : Program} {w : World} {K : PySem.W.Frag} {tg : Expr} (it : Addr) (lo st : Int) (n : Nat) : Turn P w K tg (Itrs lo st n) [it] it (fun i h => IsRangeIter h it (lo + (i : Nat) * st) ((n : Int) - (i : Nat)) st) where
  mem := by simp
  obj := fun i h st b hb => by
    have e : b = it := by simpa using hb
    subst e
    exact ⟨_, st, fun v z => by
      have z' : Data.fields _ = Data.cell v := z
      cases z'⟩
  keep := fun i h h' st k => k it (by simp) _ st
  item := by
    intro X hP hw hK hc i pins s σ H E I hf st' hg
    subst hP hw hK
    obtain ⟨f0, f1, f2, f3, f4, f5⟩ := hf it (by simp)
    have W := Walks.range (prog := X.prog) (w := X.w) (I.ok.hd hc) it lo st n
    refine W.item i s _ _ hg st' fun v h' tk hv st'' kk => ?_
    obtain ⟨t, rfl⟩ := hv
    have I1 : Inv X pins σ H { s with heap := h', toks := tk } := I.turned (fun b o hb e => kk b o (by simpa using hb) e) f0 f1 f3 f4 f5
    exact ⟨_, rfl, go_of (s := { s with heap := h', toks := tk }) (n := "range_iterator") st'' rfl rfl (by decide) ⟨.int (lo + (i : Nat) * st), H, I1, ⟨t, rfl⟩, ⟨rfl, rfl⟩, st'', fun b hb => (hf b hb).1⟩⟩
  done := by
    intro X hP hw hK hc i pins s σ H E I hf st' hg
    subst hP hw hK
    obtain ⟨f0, f1, f2, f3, f4, f5⟩ := hf it (by simp)
    exact wpAny_pyNext_range_end (I.ok.hd hc) st' (by have : n ≤ i := hg; omega) fun h' eb => ⟨rfl, I.turned (t' := s.toks) (fun b o hb e => eb b o hb e) f0 f1 f3 f4 f5⟩
  self := fun _ _ _ _ _ st h => wpAny_pyIter_rangeiter st h
def iR3 (ta : TA) : TI := fun σ H R => ta σ H fun vs H1 => match vs with
  | [.int i, .int j, .int c] => (-(2 ^ 30) ≤ i ∧ i < 2 ^ 30 ∧ -(2 ^ 30) ≤ j ∧ j < 2 ^ 30 ∧ c ≠ 0 ∧ -(2 ^ 30) < c ∧ c < 2 ^ 30) ∧ R (Itrs i c (Builtin.Range.rangeSize i j c).toNat) H1
  | _ => False
theorem rangeSize_nonneg (a b c : Int) : 0 ≤ Builtin.Range.rangeSize a b c := by
  unfold Builtin.Range.rangeSize
  split
  · split
    · have : 0 ≤ (b - a - 1) / c := Int.ediv_nonneg (by omega) (by omega)
      omega
    · omega
  · split
    · have : 0 ≤ (a - b - 1) / (-c) := Int.ediv_nonneg (by omega) (by omega)
      omega
    · omega
theorem pi_r3 {a b c : Expr} {ta : TA} (hm : X.mg "range" = none) (ha : PA X [a, b, c] ta) (hg : Gl X "range" := by rfl) (hs : starEach [a, b, c] X.env = [(false, eval a X.env), (false, eval b X.env), (false, eval c X.env)] := by rfl) (hs2 : starEach [b, c] X.env = [(false, eval b X.env), (false, eval c X.env)] := by rfl) :
    PI X tg (.Call (.Name "range" p) [a, b, c] [] pos) (iR3 ta) := by
  intro pins s σ H R I h
  refine Call_ (ld_blt I hg hm boot_range (PyProof.Rows.callWith_type1 (thn (ha pos pins s σ H _ I h) fun us s1 ⟨vs, H1, I1, r1, q1⟩ => ?_) (by rw [hs, hs2]) (by rw [hs2]; rfl)))
  dsimp only at q1
  split at q1
  · rename_i i j c'
    obtain ⟨⟨q1, q2, q3, q4, q5, q6, q7⟩, q⟩ := q1
    cases r1 with
    | cons ra r1 =>
      obtain ⟨u2, u3, e, ⟨t2, e2⟩, ⟨t3, e3⟩⟩ := vals2 r1
      obtain ⟨t1, e1⟩ := ra
      subst e1 e e2 e3
      refine call_range_3 q5 ?_ (.inl (PyProof.noPylong_small (by omega)))
      refine wpAny_pyIter_range (IsRange.new ..) (small_some q1 q2 q3 q4 q5 q6 q7) ?_
      have I2 := I1.kept (t' := s1.toks) (h' := s1.heap.push { cls := .type "range", data := .fields #[.int i t1, .int j t2, .int c' t3] }) fun b o e => Heap.get?_push_of_some _ e
      refine ⟨_, [_], _, _, H1, rfl, I2.kept (t' := s1.toks) fun b o e => Heap.get?_push_of_some _ e, turn_rangeS _ i c' (Builtin.Range.rangeSize i j c').toNat, ?_, fun b hb => ?_, q⟩
      · have e1 : i + ((0 : Nat) : Int) * c' = i := by simp
        have e2 : (((Builtin.Range.rangeSize i j c').toNat : Nat) : Int) - ((0 : Nat) : Int) = Builtin.Range.rangeSize i j c' := by have := rangeSize_nonneg i j c'; omega
        show IsRangeIter _ _ (i + ((0 : Nat) : Int) * c') ((((Builtin.Range.rangeSize i j c').toNat : Nat) : Int) - ((0 : Nat) : Int)) c'
        rw [e1, e2]
        exact Heap.get?_push_size _ rfl
      · have e : b = (s1.heap.push { cls := .type "range", data := .fields #[.int i t1, .int j t2, .int c' t3] }).objs.size := by simpa using hb
        subst e
        exact I2.fpOk (Nat.le_refl _) (I2.hok.fresh (Nat.le_refl _))
  · exact q1.elim
end
end L2
end
section
set_option Elab.async false
set_option linter.all false
set_option maxRecDepth 100000
set_option maxHeartbeats 4000000
namespace L2
open PySem PySem.Spec PyProof.Rows
def visB (sc : Scope) (x : Str) : Bool := (match sc.names.lookup x with
  | some .local => true
  | some .cell => true
  | some .free => true
  | _ => false) && (!(x == ("__debug__" : Str)) && !(x == ("__classdict__" : Str)))
theorem vis_of {sc : Scope} {x : Str} (h : visB sc x = true) : Vis sc x ∧ (x == ("__debug__" : Str)) = false ∧ (x == ("__classdict__" : Str)) = false := by
  unfold visB at h
  simp only [Bool.and_eq_true, Bool.not_eq_true'] at h
  obtain ⟨h1, h2, h3⟩ := h
  refine ⟨?_, h2, h3⟩
  split at h1
  · exact .inl (by assumption)
  · exact .inr (.inl (by assumption))
  · exact .inr (.inr (by assumption))
  · cases h1
def locB (sc : Scope) (x : Str) : Bool := match sc.names.lookup x with
  | some .local => true
  | some .cell => true
  | _ => false
theorem loc_of {sc : Scope} {x : Str} (h : locB sc x = true) : Loc sc x := by
  unfold locB at h
  split at h
  · exact .inl (by assumption)
  · exact .inr (by assumption)
  · cases h
section
variable {X : Cx} {x : Str} {pos : Pos}
theorem vk (i : Nat) (hN : X.N[i]? = some x := by rfl) (hv : visB X.env.scope x = true := by kernel_rfl) : PE X (.Name x pos) (tV i) :=
  vr i hN (vis_of hv).1 (vis_of hv).2.1 (vis_of hv).2.2
theorem gk (i : Nat) (hN : X.N.Nodup) (hi : X.N[i]? = some x := by rfl) (hx : locB X.env.scope x = true := by kernel_rfl) (hf : (X.fn x || X.env.scope.names.lookup x == some .local) = true := by kernel_rfl) : PG X (.Name x pos) (gName i) :=
  pg_name hN hi (loc_of hx) (by
    rw [Bool.or_eq_true] at hf
    exact hf.elim .inl fun z => .inr (eq_of_beq z))
theorem vn (x : Str) (i : Nat) (hN : X.N[i]? = some x := by with_unfolding_all rfl) (hv : visB X.env.scope x = true := by kernel_rfl) : PE X (.Name x pos) (tV i) := vk i hN hv
theorem gn (x : Str) (i : Nat) (hN : X.N.Nodup) (hi : X.N[i]? = some x := by with_unfolding_all rfl) (hx : locB X.env.scope x = true := by kernel_rfl) (hf : (X.fn x || X.env.scope.names.lookup x == some .local) = true := by kernel_rfl) : PG X (.Name x pos) (gName i) := gk i hN hi hx hf
def gB (X : Cx) (x : Str) : Bool := X.env.scope.names.lookup x == some .globalImplicit
theorem gl_of (h : gB X x = true) : Gl X x := eq_of_beq h
variable {p apos : Pos} {e o : Expr} {es : List Expr} {t : TA} {te to ti : TE} {k : Nat} {ps : List Str} {sp : Sp} {tg : Expr}
theorem fn_can (x : Str) {P' : Program} {w' : World} {K' : PySem.W.Frag} {mg' : Str → Option Value} {base' : Heap} (C : Can P' w' K' mg' base' x k ps sp) (hX : X.prog = P' ∧ X.w = w' ∧ X.K = K' ∧ X.mg = mg' ∧ X.base = base') (hr : Room k X.A) (ha : PA X (e :: es) t) (hg : gB X x = true := by kernel_rfl)
    (hdb : (x == ("__debug__" : Str)) = false := by kernel_rfl) (he : starEach (e :: es) X.env = (false, eval e X.env) :: starEach es X.env := by kernel_rfl) (hpl : (backTo pos (starEach es X.env)).any (·.1) = false := by kernel_rfl) :
    PE X (.Call (.Name x p) (e :: es) [] pos) (tCan sp t) := by
  obtain ⟨rfl, rfl, rfl, rfl, rfl⟩ := hX
  exact pe_can C hr ha (gl_of hg) hdb he hpl
theorem fn_len {mg' : Str → Option Value} (hm : mg' "len" = none) (hX : X.mg = mg') (ha : PA X (e :: es) t) (hg : gB X "len" = true := by kernel_rfl) (he : starEach (e :: es) X.env = (false, eval e X.env) :: starEach es X.env := by kernel_rfl) (hpl : (backTo pos (starEach es X.env)).any (·.1) = false := by kernel_rfl) :
    PE X (.Call (.Name "len" p) (e :: es) [] pos) (tCB rLen t) := pe_len (by rw [hX]; exact hm) ha (gl_of hg) he hpl
theorem fn_isinst {mg' : Str → Option Value} (hm : mg' "isinstance" = none) (hX : X.mg = mg') (ha : PA X (e :: es) t) (hg : gB X "isinstance" = true := by kernel_rfl) (he : starEach (e :: es) X.env = (false, eval e X.env) :: starEach es X.env := by kernel_rfl) (hpl : (backTo pos (starEach es X.env)).any (·.1) = false := by kernel_rfl) :
    PE X (.Call (.Name "isinstance" p) (e :: es) [] pos) (tCB rIsI t) := pe_isinst (by rw [hX]; exact hm) ha (gl_of hg) he hpl
theorem fn_all {mg' : Str → Option Value} (hm : mg' "all" = none) (hX : X.mg = mg') (ha : PA X (e :: es) t) (hc : X.calm = true := by kernel_rfl) (hg : gB X "all" = true := by kernel_rfl) (he : starEach (e :: es) X.env = (false, eval e X.env) :: starEach es X.env := by kernel_rfl) (hpl : (backTo pos (starEach es X.env)).any (·.1) = false := by kernel_rfl) :
    PE X (.Call (.Name "all" p) (e :: es) [] pos) (tCB rAll t) := pe_all hc (by rw [hX]; exact hm) ha (gl_of hg) he hpl
theorem fn_max {mg' : Str → Option Value} (hm : mg' "max" = none) (hX : X.mg = mg') (ha : PA X (e :: es) t) (hc : X.calm = true := by kernel_rfl) (hg : gB X "max" = true := by kernel_rfl) (he : starEach (e :: es) X.env = (false, eval e X.env) :: starEach es X.env := by kernel_rfl) (hpl : (backTo pos (starEach es X.env)).any (·.1) = false := by kernel_rfl) :
    PE X (.Call (.Name "max" p) (e :: es) [] pos) (tCB rMax t) := pe_max hc (by rw [hX]; exact hm) ha (gl_of hg) he hpl
theorem fn_min {mg' : Str → Option Value} (hm : mg' "min" = none) (hX : X.mg = mg') (ha : PA X (e :: es) t) (hc : X.calm = true := by kernel_rfl) (hg : gB X "min" = true := by kernel_rfl) (he : starEach (e :: es) X.env = (false, eval e X.env) :: starEach es X.env := by kernel_rfl) (hpl : (backTo pos (starEach es X.env)).any (·.1) = false := by kernel_rfl) :
    PE X (.Call (.Name "min" p) (e :: es) [] pos) (tCB rMin t) := pe_min hc (by rw [hX]; exact hm) ha (gl_of hg) he hpl
theorem fn_int {mg' : Str → Option Value} (hm : mg' "int" = none) (hX : X.mg = mg') (ha : PA X (e :: es) t) (hg : gB X "int" = true := by kernel_rfl) (he : starEach (e :: es) X.env = (false, eval e X.env) :: starEach es X.env := by kernel_rfl) (hpl : (backTo pos (starEach es X.env)).any (·.1) = false := by kernel_rfl) :
    PE X (.Call (.Name "int" p) (e :: es) [] pos) (tCB rIntOf t) := pe_intf (by rw [hX]; exact hm) ha (gl_of hg) he hpl
theorem ty_int {mg' : Str → Option Value} (hm : mg' "int" = none) (hX : X.mg = mg') (hg : gB X "int" = true := by kernel_rfl) : PE X (.Name "int" pos) (tC (.ty "int")) := pe_ty PyProof.Rows.boot_int (by rw [hX]; exact hm) (gl_of hg)
theorem ty_bool {mg' : Str → Option Value} (hm : mg' "bool" = none) (hX : X.mg = mg') (hg : gB X "bool" = true := by kernel_rfl) : PE X (.Name "bool" pos) (tC (.ty "bool")) := pe_ty PyProof.Rows.boot_bool (by rw [hX]; exact hm) (gl_of hg)
theorem ty_list {mg' : Str → Option Value} (hm : mg' "list" = none) (hX : X.mg = mg') (hg : gB X "list" = true := by kernel_rfl) : PE X (.Name "list" pos) (tC (.ty "list")) := pe_ty PyProof.Rows.boot_list (by rw [hX]; exact hm) (gl_of hg)
theorem ty_str {mg' : Str → Option Value} (hm : mg' "str" = none) (hX : X.mg = mg') (hg : gB X "str" = true := by kernel_rfl) : PE X (.Name "str" pos) (tC (.ty "str")) := pe_ty PyProof.Rows.boot_str (by rw [hX]; exact hm) (gl_of hg)
theorem it_r1 {a : Expr} {ta : TA} {mg' : Str → Option Value} (hm : mg' "range" = none) (hX : X.mg = mg') (ha : PA X [a] ta) (hg : gB X "range" = true := by kernel_rfl) (hs : starEach [a] X.env = [(false, eval a X.env)] := by kernel_rfl) : PI X tg (.Call (.Name "range" p) [a] [] pos) (iR1 ta) := pi_r1 (by rw [hX]; exact hm) ha (gl_of hg) hs
theorem it_r2 {a b : Expr} {ta : TA} {mg' : Str → Option Value} (hm : mg' "range" = none) (hX : X.mg = mg') (ha : PA X [a, b] ta) (hg : gB X "range" = true := by kernel_rfl) (hs : starEach [a, b] X.env = [(false, eval a X.env), (false, eval b X.env)] := by kernel_rfl) (hs2 : starEach [b] X.env = [(false, eval b X.env)] := by kernel_rfl) :
    PI X tg (.Call (.Name "range" p) [a, b] [] pos) (iR2 ta) := pi_r2 (by rw [hX]; exact hm) ha (gl_of hg) hs hs2
theorem it_r3 {a b c : Expr} {ta : TA} {mg' : Str → Option Value} (hm : mg' "range" = none) (hX : X.mg = mg') (ha : PA X [a, b, c] ta) (hg : gB X "range" = true := by kernel_rfl) (hs : starEach [a, b, c] X.env = [(false, eval a X.env), (false, eval b X.env), (false, eval c X.env)] := by kernel_rfl) (hs2 : starEach [b, c] X.env = [(false, eval b X.env), (false, eval c X.env)] := by kernel_rfl) :
    PI X tg (.Call (.Name "range" p) [a, b, c] [] pos) (iR3 ta) := pi_r3 (by rw [hX]; exact hm) ha (gl_of hg) hs hs2
theorem ix_at {a b : Expr} {ta tb : TE} (ha : PE X a ta) (hb : PE X b tb) (hs : ∀ o i, subscripted b false o i = operate [o, i] (getItem o i) := by intro _ _; kernel_rfl) : PE X (.Subscript a b pos) (tOp rIxU ta tb) := pe_ix ixU ha hb hs
theorem a_cons {e : Expr} {es : List Expr} {te : TE} {t : TA} (ha : PE X e te) (hr : PA X es t) (hs : starEach (e :: es) X.env = (false, eval e X.env) :: starEach es X.env := by kernel_rfl) : PA X (e :: es) (tCons te t) := pa_cons ha hr hs
theorem t_cmp {op : CmpOp} {r : R2} {a b : Expr} {ta tb : TE} (ho : OpR X (compareOp op) r) (ha : PE X a ta) (hb : PE X b tb) (hm : behindInMarks op b = false := by kernel_rfl) : PT X (.Compare a [op] [b] pos) (tBU (tOp r ta tb)) := pt_cmpU ho ha hb hm
theorem e_cmp {op : CmpOp} {r : R2} {a b : Expr} {ta tb : TE} (ho : OpR X (compareOp op) r) (ha : PE X a ta) (hb : PE X b tb) (hm : behindInMarks op b = false := by kernel_rfl) : PE X (.Compare a [op] [b] pos) (tOp r ta tb) := pe_cmpU ho ha hb hm
theorem s_asg {tg e : Expr} {te : TE} {g : TG} (he : PE X e te) (hg : PG X tg g) (hs : swapsWithSole [tg] e pos.line X.env = pure false := by kernel_rfl) (hw : swappedStores [tg] e X.env = pure none := by kernel_rfl)
    (h1 : (assignEach [tg] X.env).map (·.2) = [assign tg X.env] := by kernel_rfl) : PS X (.Assign [tg] e pos) (tAsg te g) := ps_asg he hg hs hw h1
theorem s_expr {e : Expr} {te : TE} (he : PE X e te) (hs : swapsWith e none pos.line X.env = pure false := by kernel_rfl) : PS X (.Expr e pos) (tDrop te) := ps_expr he hs
theorem s_for {iter : Expr} {body : List Stmt} {wi : TI} {g : TG} {tb : TS} (hi : PI X tg iter wi) (hg : PG X tg g) (hb : PSs X body tb) (hp : PassesOwn (model X.prog X.w) X.A X.env X.xe := by exact PassesOwn.never) (hc : X.calm = true := by kernel_rfl)
    (hs : ∀ x, foldedSetIterable iter X.env x = pure x := by intro _; kernel_rfl) : PS X (.For tg iter body [] pos) (tFor wi g tb) := ps_for hp hc hi hg hb hs
theorem s_while {c : Expr} {body : List Stmt} {tc : TT} {tb : TS} (hc : PT X c tc) (hb : PSs X body tb) (hp : PassesOwn (model X.prog X.w) X.A X.env X.xe := by exact PassesOwn.never) : PS X (.While c body [] pos) (tWhile tc tb) := ps_while hp hc hb
theorem s_raise {a b : Option Expr} : PS X (.Raise a b pos) tNever := ps_never
theorem gs_cons {es : List Expr} {t : TG} {u : TGs} (h1 : PG X e t) (h2 : PGs X es u)
    (hs : (assignEach (e :: es) X.env).map (·.2) = assign e X.env :: (assignEach es X.env).map (·.2) := by kernel_rfl) : PGs X (e :: es) (gConsU t u) := pgs_consU h1 h2 hs
theorem g_sub {o i : Expr} {to ti : TE} (ho : PE X o to) (hi : PE X i ti) (ha : ∀ v, assign (.Subscript o i pos) X.env v = (do
      let ov ← holding [v] (eval o X.env)
      let iv ← holding [v, ov] (eval i X.env)
      standAt pos
      holding [v, ov, iv] (setItem ov iv v)
      release [v, ov, iv] []) := by intro _; kernel_rfl) : PG X (.Subscript o i pos) (gSub to ti rSetU) := pg_sub ho hi setU ha
theorem m_append {cpos : Pos} (ho : PE X o to) (ha : PA X (e :: es) t)
    (hbase : attributeBase o "append" X.env (eval o X.env) = eval o X.env := by kernel_rfl)
    (hfew : ((backTo cpos (starEach (e :: es) X.env)).all (fun x => !x.1) && (backToKw cpos (keywordEach [] X.env)).all (fun x => x.1.isSome)
      && decide ((e :: es).length + ([] : List Keyword).length + (if ([] : List Keyword).isEmpty then 0 else 1) < 30)) = true := by kernel_rfl)
    (hline : (apos.endLine == cpos.line) = true := by kernel_rfl) (hs : starEach (e :: es) X.env = (false, eval e X.env) :: starEach es X.env := by kernel_rfl) (hplain : (backTo cpos (starEach es X.env)).any (·.1) = false := by kernel_rfl) :
    PE X (.Call (.Attribute o "append" apos) (e :: es) [] cpos) (tMt "list" rApp to t) := pe_mt PySem.F.plainAttrs_list PySem.F.slot_list_append PySem.F.type_list_append mt_appU ho ha hbase hfew hline hs hplain
theorem m_pop {cpos : Pos} (ho : PE X o to) (ha : PA X (e :: es) t)
    (hbase : attributeBase o "pop" X.env (eval o X.env) = eval o X.env := by kernel_rfl)
    (hfew : ((backTo cpos (starEach (e :: es) X.env)).all (fun x => !x.1) && (backToKw cpos (keywordEach [] X.env)).all (fun x => x.1.isSome)
      && decide ((e :: es).length + ([] : List Keyword).length + (if ([] : List Keyword).isEmpty then 0 else 1) < 30)) = true := by kernel_rfl)
    (hline : (apos.endLine == cpos.line) = true := by kernel_rfl) (hs : starEach (e :: es) X.env = (false, eval e X.env) :: starEach es X.env := by kernel_rfl) (hplain : (backTo cpos (starEach es X.env)).any (·.1) = false := by kernel_rfl) :
    PE X (.Call (.Attribute o "pop" apos) (e :: es) [] cpos) (tMt "list" rPopI to t) := pe_mt PySem.F.plainAttrs_list PySem.F.slot_list_pop PySem.F.type_list_pop mt_popU ho ha hbase hfew hline hs hplain
theorem m_join {cpos : Pos} (ho : PE X o to) (ha : PA X (e :: es) t)
    (hbase : attributeBase o "join" X.env (eval o X.env) = eval o X.env := by kernel_rfl)
    (hfew : ((backTo cpos (starEach (e :: es) X.env)).all (fun x => !x.1) && (backToKw cpos (keywordEach [] X.env)).all (fun x => x.1.isSome)
      && decide ((e :: es).length + ([] : List Keyword).length + (if ([] : List Keyword).isEmpty then 0 else 1) < 30)) = true := by kernel_rfl)
    (hline : (apos.endLine == cpos.line) = true := by kernel_rfl) (hs : starEach (e :: es) X.env = (false, eval e X.env) :: starEach es X.env := by kernel_rfl) (hplain : (backTo cpos (starEach es X.env)).any (·.1) = false := by kernel_rfl) :
    PE X (.Call (.Attribute o "join" apos) (e :: es) [] cpos) (tMt "str" rJoin to t) := pe_mt PySem.F.plainAttrs_str PySem.F.slot_str_join PySem.F.type_str_join mt_joinU ho ha hbase hfew hline hs hplain
theorem m_strip {cpos : Pos} (ho : PE X o to) (ha : PA X (e :: es) t)
    (hbase : attributeBase o "strip" X.env (eval o X.env) = eval o X.env := by kernel_rfl)
    (hfew : ((backTo cpos (starEach (e :: es) X.env)).all (fun x => !x.1) && (backToKw cpos (keywordEach [] X.env)).all (fun x => x.1.isSome)
      && decide ((e :: es).length + ([] : List Keyword).length + (if ([] : List Keyword).isEmpty then 0 else 1) < 30)) = true := by kernel_rfl)
    (hline : (apos.endLine == cpos.line) = true := by kernel_rfl) (hs : starEach (e :: es) X.env = (false, eval e X.env) :: starEach es X.env := by kernel_rfl) (hplain : (backTo cpos (starEach es X.env)).any (·.1) = false := by kernel_rfl) :
    PE X (.Call (.Attribute o "strip" apos) (e :: es) [] cpos) (tMt "str" rStrip to t) := pe_mt PySem.F.plainAttrs_str PySem.F.slot_str_strip PySem.F.type_str_strip mt_stripU ho ha hbase hfew hline hs hplain
theorem m_bits {cpos : Pos} (ho : PE X o to) (hbase : attributeBase o "bit_length" X.env (eval o X.env) = eval o X.env := by kernel_rfl) (hline : (apos.endLine == cpos.line) = true := by kernel_rfl) : PE X (.Call (.Attribute o "bit_length" apos) [] [] cpos) (tMt "int" rBits to tNil) := pe_mt0 PySem.F.plainAttrs_int PySem.F.slot_int_bit_length PySem.F.type_int_bit_length mt_bitsU ho hbase hline
theorem c_comp (N : List Str) (js : List Nat) {elt target iter : Expr} {ifs : List Expr} {scope : Scope} {wi : TI} {g : TG} {tt : TT} {te : TE} (hN : N.Nodup) (hi : PI X target iter wi)
    (hg : ∀ cl C s H fp, PG (X.block scope cl C N s H fp) target g) (ht : ∀ cl C s H fp, PF (X.block scope cl C N s H fp) ifs tt) (he : ∀ cl C s H fp, PE (X.block scope cl C N s H fp) elt te)
    (hok : compOk X.env.scope X.N scope N js = true := by kernel_rfl) (hc : X.calm = true := by kernel_rfl) (hk : scope.kind = .function := by kernel_rfl) (hs : ∀ x, foldedSetIterable iter X.env x = pure x := by intro _; kernel_rfl) :
    PE X (.ListComp elt [⟨target, iter, ifs, 0⟩] scope pos) (tComp (N.length - js.length) js wi g tt te) := pe_comp N js hok hN hc hi hg ht he hk hs
theorem s_comp (y : Str) (i : Nat) (N : List Str) (js : List Nat) {elt target iter : Expr} {ifs : List Expr} {scope : Scope} {wi : TI} {g : TG} {tt : TT} {te : TE} {py spos : Pos} (hN : N.Nodup) (hXN : X.N.Nodup) (hi : PI X target iter wi)
    (hg : ∀ cl C s H fp, PG (X.block scope cl C N s H fp) target g) (ht : ∀ cl C s H fp, PF (X.block scope cl C N s H fp) ifs tt) (he : ∀ cl C s H fp, PE (X.block scope cl C N s H fp) elt te)
    (hyi : X.N[i]? = some y := by with_unfolding_all rfl) (hy : locB X.env.scope y = true := by kernel_rfl)
    (hok : compOk X.env.scope X.N scope N js = true := by kernel_rfl) (hc : X.calm = true := by kernel_rfl) (hk : scope.kind = .function := by kernel_rfl) (hs : ∀ x, foldedSetIterable iter X.env x = pure x := by intro _; kernel_rfl)
    (hsw : swapsWith (.ListComp elt [⟨target, iter, ifs, 0⟩] scope pos) (some (.Name y py)) spos.line X.env = pure true := by kernel_rfl) (hf : (X.fn y || X.env.scope.names.lookup y == some .local) = true := by kernel_rfl) :
    PS X (.Assign [.Name y py] (.ListComp elt [⟨target, iter, ifs, 0⟩] scope pos) spos) (tAsg (tComp (N.length - js.length) js wi g tt te) (gName i)) :=
  ps_setComp N js hok hN hc hXN hyi (loc_of hy) hi hg ht he hsw hk hs (by
    rw [Bool.or_eq_true] at hf
    exact hf.elim .inl fun z => .inr (eq_of_beq z))
end
theorem iteP {c A B : Prop} [Decidable c] (hc : c) (h : A) : if c then A else B := by rw [if_pos hc]; exact h
end L2
end
section
set_option Elab.async false
set_option linter.all false
set_option maxRecDepth 100000
set_option maxHeartbeats 4000000
namespace L2
open PySem PySem.Spec PyProof.Rows
def Off (F : Addr → Prop) (H H' : Hp) : Prop := ∀ b o, H b = some o → ¬ F b → H' b = some o
structure Deck (F : Addr → Prop) (H : Hp) (a : Addr) : Prop where
  ex : ∃ (p : Addr) (qs : List Addr) (n : Int), H a = some (.lst [.ref p, .int n]) ∧ H p = some (.lst (qs.map V.ref)) ∧ 0 < qs.length ∧ qs.length ≤ 63 ∧ (∀ q ∈ qs, ∃ c f m, H q = some (.lst [.int c, .int f, .int m])) ∧ ∀ b, F b ↔ b = a ∨ b = p ∨ b ∈ qs
theorem Off.refl {F : Addr → Prop} {H : Hp} : Off F H H := fun _ _ e _ => e
theorem Off.trans {F : Addr → Prop} {H H1 H2 : Hp} (h : Off F H H1) (k : Off F H1 H2) : Off F H H2 := fun b o e n => k b o (h b o e n) n
theorem Same.off {F : Addr → Prop} {H H1 : Hp} (h : Same H H1) : Off F H H1 := fun b o e _ => h b o e
theorem Deck.same {F : Addr → Prop} {H H1 : Hp} {a : Addr} (h : Deck F H a) (k : Same H H1) : Deck F H1 a := by
  obtain ⟨p, qs, n, h1, h2, h3, h4, h5, h6⟩ := h.ex
  exact ⟨p, qs, n, k _ _ h1, k _ _ h2, h3, h4, fun q hq => let ⟨c, f, m, e⟩ := h5 q hq; ⟨c, f, m, k _ _ e⟩, h6⟩
theorem Deck.there {F : Addr → Prop} {H : Hp} {a b : Addr} (h : Deck F H a) (hb : F b) : ∃ o, H b = some o := by
  obtain ⟨p, qs, n, h1, h2, h3, h4, h5, h6⟩ := h.ex
  rcases (h6 b).mp hb with rfl | rfl | z
  · exact ⟨_, h1⟩
  · exact ⟨_, h2⟩
  · obtain ⟨c, f, m, e⟩ := h5 b z
    exact ⟨_, e⟩
theorem Deck.new {F : Addr → Prop} {H : Hp} {a b : Addr} (h : Deck F H a) (hb : H b = none) : ¬ F b := fun z => by
  obtain ⟨o, e⟩ := h.there z
  rw [hb] at e
  cases e
end L2
namespace L2
open PySem PySem.Spec PyProof.Rows
section
variable {H : Hp}
theorem DV.lst_inv {v : V} {ds : List PyData} (h : DV H v (.list ds)) : ∃ a xs, v = .ref a ∧ H a = some (.lst xs) ∧ DVs H xs ds := by
  cases h with
  | lst h r => exact ⟨_, _, rfl, h, r⟩
theorem DV.tup_inv {v : V} {ds : List PyData} (h : DV H v (.tuple ds)) : ∃ a xs, v = .ref a ∧ H a = some (.tup xs) ∧ DVs H xs ds := by
  cases h with
  | tup h r => exact ⟨_, _, rfl, h, r⟩
theorem DV.int_inv {v : V} {i : Int} (h : DV H v (.int i)) : v = .int i := by cases h; rfl
theorem DV.str_inv {v : V} {x : Str} (h : DV H v (.str x)) : v = .str x := by cases h; rfl
theorem DVs.length : ∀ {xs : List V} {ds : List PyData}, DVs H xs ds → xs.length = ds.length
  | _, _, .nil => rfl
  | _, _, .cons _ r => by rw [List.length_cons, List.length_cons, DVs.length r]
theorem DVs.get : ∀ {xs : List V} {ds : List PyData} {i : Nat} {d : PyData}, DVs H xs ds → ds[i]? = some d → ∃ x, xs[i]? = some x ∧ DV H x d
  | _, _, _, _, .nil, h => by simp at h
  | _, _, 0, _, .cons h _, e => by
    simp at e
    subst e
    exact ⟨_, rfl, h⟩
  | _, _, i + 1, d, .cons _ r, e => by
    obtain ⟨x, h1, h2⟩ := DVs.get (i := i) (d := d) r (by simpa using e)
    exact ⟨x, by simpa using h1, h2⟩
theorem DVs.app : ∀ {xs ys : List V} {ds es : List PyData}, DVs H xs ds → DVs H ys es → DVs H (xs ++ ys) (ds ++ es)
  | _, _, _, _, .nil, s => s
  | _, _, _, _, .cons h r, s => .cons h (DVs.app r s)
theorem DVs.ints : ∀ (ns : List Int), DVs H (ns.map V.int) (ns.map PyData.int)
  | [] => .nil
  | n :: r => .cons (.int n) (DVs.ints r)
theorem DVs.strs : ∀ (ws : List Str), DVs H (ws.map V.str) (ws.map PyData.str)
  | [] => .nil
  | n :: r => .cons (.str n) (DVs.strs r)
end
end L2
end
section
namespace Om
abbrev Rows := List (List (List Bool × Nat))
structure CodeOk (k n : Nat) (rows : Rows) : Prop where
  k1 : 1 ≤ k
  k3 : k ≤ 3
  n1 : 1 ≤ n
  n6 : n ≤ 6
  s1 : 1 ≤ rows.length
  s8 : rows.length ≤ 8
  len : ∀ st ∈ rows, st.length = 2 ^ k
  row : ∀ st ∈ rows, ∀ r ∈ st, r.1.length = n ∧ r.2 < rows.length
def step (rows : Rows) (s l : Nat) : List Bool × Nat := (rows.getD s []).getD l ([], 0)
def send (rows : Rows) : Nat → List Nat → List Bool × Nat
  | s, [] => ([], s)
  | s, l :: r => ((step rows s l).1 ++ (send rows (step rows s l).2 r).1, (send rows (step rows s l).2 r).2)
theorem send_app (rows : Rows) : ∀ (a b : List Nat) (s : Nat), send rows s (a ++ b) = ((send rows s a).1 ++ (send rows (send rows s a).2 b).1, (send rows (send rows s a).2 b).2)
  | [], b, s => rfl
  | l :: a, b, s => by
    show ((step rows s l).1 ++ (send rows (step rows s l).2 (a ++ b)).1, (send rows (step rows s l).2 (a ++ b)).2) = _
    rw [send_app rows a b]
    simp [send]
theorem step_get {k n : Nat} {rows : Rows} (c : CodeOk k n rows) {s l : Nat} (hs : s < rows.length) (hl : l < 2 ^ k) : ∃ st, rows[s]? = some st ∧ st[l]? = some (step rows s l) ∧ (step rows s l).1.length = n ∧ (step rows s l).2 < rows.length := by
  have h1 : rows[s]? = some rows[s] := List.getElem?_eq_getElem hs
  have hm : rows[s] ∈ rows := List.getElem_mem hs
  have hl' : l < rows[s].length := by rw [c.len _ hm]; exact hl
  have h2 : rows[s][l]? = some rows[s][l] := List.getElem?_eq_getElem hl'
  have e : step rows s l = rows[s][l] := by
    unfold step
    have e1 : rows.getD s [] = rows[s] := by rw [List.getD_eq_getElem?_getD, h1]; rfl
    rw [e1, List.getD_eq_getElem?_getD, h2]
    rfl
  rw [e]
  have := c.row _ hm _ (List.getElem_mem hl')
  exact ⟨rows[s], h1, h2, this.1, this.2⟩
theorem send_ok {k n : Nat} {rows : Rows} (c : CodeOk k n rows) : ∀ (t : List Nat) (s : Nat), s < rows.length → (∀ l ∈ t, l < 2 ^ k) → (send rows s t).1.length = n * t.length ∧ (send rows s t).2 < rows.length
  | [], s, hs, _ => ⟨by simp [send], hs⟩
  | l :: t, s, hs, ht => by
    obtain ⟨st, _, _, h1, h2⟩ := step_get c hs (ht l List.mem_cons_self)
    obtain ⟨h3, h4⟩ := send_ok c t (step rows s l).2 h2 fun x hx => ht x (List.mem_cons_of_mem _ hx)
    refine ⟨?_, h4⟩
    show ((step rows s l).1 ++ (send rows (step rows s l).2 t).1).length = _
    rw [List.length_append, h1, h3, List.length_cons, Nat.mul_add, Nat.mul_one, Nat.add_comm]

end Om
end
section
set_option Elab.async false
set_option linter.all false
set_option maxRecDepth 100000
set_option maxHeartbeats 4000000
namespace L2
open PySem PySem.Spec PyProof.Rows
theorem bits_le {i : Int} {k : Nat} (h0 : 0 ≤ i) (h : i < 2 ^ k) : ((Builtin.Int.intBits i : Nat) : Int) ≤ (k : Int) := by
  unfold Builtin.Int.intBits
  by_cases hi : i = 0
  · subst hi; simp
  · have hb : (i == 0) = false := by simpa using hi
    rw [hb]
    simp only [Bool.false_eq_true, if_false]
    have hn : i.natAbs ≠ 0 := by omega
    have h2 : i.natAbs < 2 ^ k := by
      have e : ((i.natAbs : Nat) : Int) = i := by omega
      have : ((i.natAbs : Nat) : Int) < ((2 ^ k : Nat) : Int) := by rw [e]; simpa using h
      exact_mod_cast this
    have := (Nat.log2_lt hn).mpr h2
    omega
theorem tw_all {α : Type} {p : α → Bool} : ∀ {l : List α}, (∀ x ∈ l, p x = true) → l.takeWhile p = l
  | [], _ => rfl
  | a :: l, h => by rw [List.takeWhile_cons, if_pos (h a List.mem_cons_self), tw_all fun x hx => h x (List.mem_cons_of_mem _ hx)]
theorem strip01 (w : List Bool) : Txt.stripChars (bs w) ("01" : Str) = bs [] := by
  unfold Txt.stripChars
  rw [stripBy_eq]
  have hg : ∀ b : Bool, (("01" : Str).cps.contains (sg b)) = true := by intro b; cases b <;> decide +kernel
  have hlo : stripLo ("01" : Str).cps.contains true (bs w) = w.length := by
    unfold stripLo
    rw [if_pos rfl]
    have e : (bs w).cps.toList = w.map sg := by show (w.map sg).toArray.toList = _; simp
    rw [e]
    have : (w.map sg).takeWhile ("01" : Str).cps.contains = w.map sg := tw_all fun x hx => by
      obtain ⟨b, _, rfl⟩ := List.mem_map.mp hx
      exact hg b
    rw [this, List.length_map]
  rw [hlo]
  show (⟨((w.map sg).toArray).extract w.length _⟩ : Str) = bs []
  have : ∀ j, ((w.map sg).toArray).extract w.length j = #[] := fun j => by
    apply Array.ext'
    simp
  rw [this]
  rfl
theorem bs_join (ws : List (List Bool)) : Txt.join ("" : Str) (ws.map bs) = bs ws.flatten := by
  rw [eq_of_beq (join_plain_closes _ _)]
  have e0 : ("" : Str) = (⟨#[]⟩ : Str) := by decide +kernel
  rw [e0]
  induction ws with
  | nil => rfl
  | cons w ws ih => rw [List.map_cons, join_nil_cons, ih, bs_app, List.flatten_cons]
def rowD (r : List Bool × Nat) : PyData := .tuple [.str (bs r.1), .int (r.2 : Nat)]
def stateD (st : List (List Bool × Nat)) : PyData := .list (st.map rowD)
def codeD (k n : Nat) (rows : Om.Rows) : PyData := .tuple [.int (k : Nat), .int (n : Nat), .list (rows.map stateD)]
end L2
namespace L2
open PySem PySem.Spec PyProof.Rows
theorem comp_map1 {J : It} {D : Addr} {xs : List V} {ok : Hp → Prop} {te : TE} {Q : Hp → Prop} {v0 : Option V} {fr : St} {H : Hp} (IO : ItOk J xs ok) (f : V → V) (hz : xs.length ≤ sizeLine) (hok : ∀ o, ok (upd H D o))
    (hs : ∀ (i : Nat) (x : V) (ys : List V), xs[i]? = some x → ∀ C : VK, C (f x) (upd H D (.lst ys)) → te (some x :: fr) (upd H D (.lst ys)) C)
    (hd : Q (upd H D (.lst (xs.map f)))) :
    ∃ W : Nat → Nat → St → Hp → List V → Prop, (∃ m, W 0 m (v0 :: fr) (upd H D (.lst [])) []) ∧ ∀ i m τ H2 ys, W i m τ H2 ys → H2 D = some (.lst ys) ∧
      ((J.stop i H2 ∧ Q H2) ∨ (J.go i H2 ∧ ys.length < sizeLine ∧ ∃ N : St → Hp → List V → Prop, (∀ τ' H' ys', N τ' H' ys' → ∃ m', m' < m ∧ W (i + 1) m' τ' H' ys') ∧ ∀ x H3, J.yld i H2 x H3 → gName 0 x τ H3 fun τ4 H4 => tYes τ4 H4 fun b H5 =>
        if b = true then te τ4 H5 fun y H6 => H6 D = some (.lst ys) ∧ N τ4 (upd H6 D (.lst (ys ++ [y]))) (ys ++ [y])
        else N τ4 H5 ys)) := by
  refine comp_by IO (fun i τ H2 ys => (∃ v, τ = v :: fr) ∧ H2 = upd H D (.lst ys) ∧ ys = (xs.take i).map f ∧ i ≤ xs.length) hz ⟨⟨v0, rfl⟩, rfl, rfl, Nat.zero_le _⟩ ?_ ?_ ?_
  · rintro i τ H2 ys hi ⟨_, rfl, rfl, _⟩
    exact ⟨hok _, upd_same, by simp [List.length_take]; omega⟩
  · rintro i x τ H2 ys hi hx ⟨⟨v, rfl⟩, rfl, rfl, _⟩
    refine hs i x _ hx _ ⟨upd_same, ⟨_, rfl⟩, upd_upd, ?_, hi⟩
    rw [List.take_add_one, hx, List.map_append]
    rfl
  · rintro τ H2 ys ⟨_, rfl, rfl, _⟩
    rw [List.take_length]
    exact hd
theorem SqL.upd {K : PySem.W.Frag} {H : Hp} {a D : Addr} {xs : List V} {o : HO} (h : H a = some (.lst xs)) (hD : H D = none) : SqL K (upd H D o) a xs := SqL.of (Same.upd hD _ _ h)
theorem all_id (n : Nat) {l : List Bool} (h : ∀ b ∈ l, b = true) : l.all id = true := List.all_eq_true.mpr fun b hb => h b hb
end L2
end
section
set_option Elab.async false
set_option linter.all false
set_option maxRecDepth 100000
set_option maxHeartbeats 4000000
namespace L2
open PySem PySem.Spec PyProof.Rows
section
variable {prog : Program} {w : World} {A : Around} {E : Value → Shared → Prop}
theorem draw_list {it l : Addr} {items : Array Value} (hne : l ≠ it) : ∀ (n i : Nat) (s : Shared) (Q : List Value → Shared → Prop), s.heap.IsListIter it l i → s.heap.IsList l items → i + n ≤ items.size →
    (∀ h', h'.IsListIter it l (i + n) → Heap.SameBut it s.heap h' → Q ((items.toList.drop i).take n) { s with heap := h' }) → wpAny (model prog w) A (draw (.ref it) n) Q E s
  | 0, i, s, Q, hit, _, _, hQ => by
    show wpAny _ _ (pure []) Q E s
    exact wpAny_pure (by simpa using hQ s.heap hit (Heap.SameBut.refl ..))
  | n + 1, i, s, Q, hit, ht, hle, hQ => by
    have hlt : i < items.size := by omega
    show wpAny _ _ (pyNext (.ref it) >>= _) Q E s
    refine wpAny_bind (wpAny_pyNext_list_item hit ht (x := items[i]) (by simp [hlt]) fun h₁ hit₁ hs₁ => ?_)
    refine wpAny_bind (wpAny_holding (draw_list hne n (i + 1) _ _ hit₁ (ht.extBut hs₁.extBut hne) (by omega) fun h₂ hit₂ hs₂ => wpAny_pure ?_))
    have hd : items.toList.drop i = items[i] :: items.toList.drop (i + 1) := by simp [List.drop_eq_getElem_cons, hlt]
    have := hQ h₂ (by rw [show i + (n + 1) = i + 1 + n by omega]; exact hit₂) (hs₁.trans hs₂)
    rw [hd, List.take_succ_cons] at this
    exact this
theorem unpackItems_list {s : Shared} {t : Addr} {items : Array Value} {Q : List Value → Shared → Prop} (hh : A.handled = none) (ht : s.heap.IsList t items)
    (hQ : ∀ h', Heap.ExtBut s.heap.objs.size s.heap h' → Q items.toList { s with heap := h' }) : wpAny (model prog w) A (unpackItems (.ref t) items.size none) Q E s := by
  have hlt : t ≠ s.heap.objs.size := by obtain ⟨o, ho, _⟩ := ht; exact Nat.ne_of_lt (Heap.lt_size ho)
  unfold unpackItems
  refine wpAny_bind ?_
  · unfold notIterableAtAll
    refine wpAny_bind (wpAny_specialOf ht.typeIs slot_list_iter.lookup ?_)
    refine wpAny_pure ?_
    simp only [Bool.false_eq_true, if_false]
    refine wpAny_bind (wpAny_holding (wpAny_pyIter_list ht ?_))
    refine wpAny_bind (wpAny_holding (draw_list hlt items.size 0 _ _ ⟨_, Heap.get?_push_size _ rfl, rfl, rfl⟩ (ht.push _) (by omega) fun h₁ hit₁ hs₁ => ?_))
    have hall : List.take items.size (List.drop 0 items.toList) = items.toList := by
      rw [List.drop_zero]; exact List.take_of_length_le (by simp)
    rw [hall]
    rw [if_neg (by simp)]
    have ht₁ : h₁.IsList t items := (ht.push _).extBut hs₁.extBut hlt
    refine wpAny_bind (wpAny_holding (wpAny_pyNext_list_end hh hit₁ ht₁ (by simp) fun h₂ he₂ => ?_))
    simp only [Option.isSome_none, Bool.false_eq_true, if_false]
    refine wpAny_pure (hQ h₂ fun b o hb e => he₂ b o hb (hs₁.extBut b o hb (Heap.get?_push_of_some _ e)))
theorem assign_Tuple_list {s : Shared} {env : Env} {elts : List Expr} {x1} {pos : Pos} {t : Addr} {items : Array Value} {Q : Unit → Shared → Prop} (hh : A.handled = none) (ht : s.heap.IsList t items)
    (hn : (assignEach elts env).length = items.size) (hstar : (assignEach elts env).findIdx? (·.1) = none)
    (h : ∀ h', Heap.ExtBut s.heap.objs.size s.heap h' → wpAny (model prog w) A (assignInOrder ((assignEach elts env).map (·.2)) items.toList) Q E { s with heap := h' }) :
    wpAny (model prog w) A (assign (.Tuple elts x1 pos) env (.ref t)) Q E s := by
  rw [assign_Tuple]
  refine wpAny_bind (wpAny_standAt ?_)
  unfold unpack
  rw [hn, hstar]
  exact wpAny_bind (wpAny_holding (unpackItems_list hh ht h))
end
section
variable {X : Cx} {pos : Pos}
def gTupL (K : PySem.W.Frag) (n : Nat) (t : TGs) : TG := fun v σ H Q => match v with
  | .ref a => ∃ xs, (H a = some (.tup xs) ∨ H a = some (.lst xs)) ∧ xs.length = n ∧ t xs σ H Q
  | _ => False
theorem g_tupL {es : List Expr} {k : Nat} {t : TGs} (h : PGs X es t) (hc : X.calm = true := by kernel_rfl)
    (hst : (assignEach es X.env).findIdx? (·.1) = none := by kernel_rfl) : PG X (.Tuple es k pos) (gTupL X.K (assignEach es X.env).length t) := by
  intro pins s σ H v u Q I r hw
  unfold gTupL at hw
  split at hw
  · obtain ⟨xs, h1 | h1, h2, hw⟩ := hw
    · exact pg_tup hc h rfl hst pins s σ H _ u Q I r ⟨_, xs, rfl, SqT.of h1, h2, hw⟩
    · cases r
      obtain ⟨its, rv, p, hz⟩ := I.list (SqL.of h1)
      refine assign_Tuple_list (I.ok.hd hc) p.isList (by simp [← rv.length, h2]) hst fun h' hx => ?_
      have I1 : Inv X pins σ H { s with heap := h' } := I.kept (t' := s.toks) fun b o e => hx b o (Nat.ne_of_lt (Heap.lt_size e)) e
      exact h pins _ σ H xs _ Q I1 (by simpa using rv) hw
  · exact hw.elim
theorem op_isB : OpR X (compareOp .Is) (fun x y H Q => match x, y with
    | .bl a, .bl b => Q (.bl (a == b)) H
    | _, _ => False) := by
  intro pins s σ H x y v u Q I rx ry h
  split at h
  · cases rx
    cases ry
    exact is_bool ⟨.bl _, H, I, rfl, h⟩
  · exact h.elim
end
section
variable {X : Cx}
def tTru (t : TE) : TT := fun σ H Q => t σ H fun x H1 => match x with
  | .bl c => Q c H1
  | .ref p => ∃ xs, H1 p = some (.lst xs) ∧ Q (!xs.isEmpty) H1
  | _ => False
theorem t_tru {e : Expr} {t : TE} (h : PE X e t) (he : ∀ whole, isTrue e X.env whole = (do let v ← whole; standAt e.pos; holding [v] (truthy v)) := by intro _; kernel_rfl) : PT X e (tTru t) := by
  intro pins s σ H Q I hw
  refine isTrue_plain (thn (h pins s σ H _ I hw) fun v s1 ⟨x, H1, I1, r1, q1⟩ => ?_) (he _)
  refine tru_ok pins s1 σ H1 x v Q I1 r1 ?_
  dsimp only at q1
  split at q1
  · exact ⟨_, rfl, q1⟩
  · obtain ⟨xs, h1, q⟩ := q1
    exact ⟨_, .inl ⟨xs, SqL.of h1, rfl⟩, q⟩
  · exact q1.elim
end
section
variable {X : Cx}
def rNeg : V → Hp → VK → Prop := fun x H Q => match x with
  | .int i => Q (.int (-i)) H
  | _ => False
theorem e_neg {a : Expr} {ta : TE} {pos : Pos} (ha : PE X a ta) : PE X (.UnaryOp .USub a pos) (tUn rNeg ta) := by
  refine pe_un (fun pins s σ H x v Q I rx q => ?_) ha
  unfold rNeg at q
  split at q
  · exact un_neg pins s σ H _ v Q I rx ⟨_, rfl, q⟩
  · exact q.elim
end
theorem cut_nat (xs : List V) (a b : Nat) (h : a ≤ b) (hb : b ≤ xs.length) : cutV xs (some (a : Int)) (some (b : Int)) = (xs.drop a).take (b - a) := by
  unfold cutV
  have e1 : min a xs.length = a := Nat.min_eq_left (by omega)
  have e2 : min b xs.length = b := Nat.min_eq_left hb
  rw [HT.sIx_nat, HT.sIx_nat, e1, e2]
section
variable {H : Hp}
def ni (ls : List Nat) : List Int := ls.map fun l : Nat => (l : Int)
theorem code_inv {cv : V} {k n : Nat} {rows : Om.Rows} (h : DV H cv (codeD k n rows)) : ∃ a b ss, cv = .ref a ∧ H a = some (.tup [.int k, .int n, .ref b]) ∧ H b = some (.lst ss) ∧ DVs H ss (rows.map stateD) := by
  obtain ⟨a, xs, rfl, ha, hx⟩ := h.tup_inv
  cases hx with
  | cons h1 hx =>
    cases hx with
    | cons h2 hx =>
      cases hx with
      | cons h3 hx =>
        cases hx
        obtain rfl := h1.int_inv
        obtain rfl := h2.int_inv
        obtain ⟨b, ss, rfl, hb, hs⟩ := h3.lst_inv
        exact ⟨a, b, ss, rfl, ha, hb, hs⟩
theorem state_at {ss : List V} {rows : Om.Rows} (h : DVs H ss (rows.map stateD)) {s : Nat} {st : List (List Bool × Nat)} (hs : rows[s]? = some st) : ∃ q rs, ss[s]? = some (.ref q) ∧ H q = some (.lst rs) ∧ DVs H rs (st.map rowD) := by
  obtain ⟨x, hx, d⟩ := h.get (i := s) (d := stateD st) (by rw [List.getElem?_map, hs]; rfl)
  obtain ⟨q, rs, rfl, hq, hr⟩ := d.lst_inv
  exact ⟨q, rs, hx, hq, hr⟩
theorem row_at {rs : List V} {st : List (List Bool × Nat)} (h : DVs H rs (st.map rowD)) {l : Nat} {r : List Bool × Nat} (hl : st[l]? = some r) : ∃ p, rs[l]? = some (.ref p) ∧ H p = some (.tup [.str (bs r.1), .int (r.2 : Nat)]) := by
  obtain ⟨x, hx, d⟩ := h.get (i := l) (d := rowD r) (by rw [List.getElem?_map, hl]; rfl)
  obtain ⟨p, xs, rfl, hp, hd⟩ := d.tup_inv
  cases hd with
  | cons h1 hd =>
    cases hd with
    | cons h2 hd =>
      cases hd
      obtain rfl := h1.str_inv
      obtain rfl := h2.int_inv
      exact ⟨p, hx, hp⟩
end
end L2
namespace Om
def words (rows : Rows) : Nat → List Nat → List (List Bool)
  | _, [] => []
  | s, l :: r => (step rows s l).1 :: words rows (step rows s l).2 r
theorem words_flat (rows : Rows) : ∀ (t : List Nat) (s : Nat), (words rows s t).flatten = (send rows s t).1
  | [], _ => rfl
  | l :: t, s => by rw [words, List.flatten_cons, words_flat rows t]; rfl
theorem words_len (rows : Rows) : ∀ (t : List Nat) (s : Nat), (words rows s t).length = t.length
  | [], _ => rfl
  | l :: t, s => by rw [words, List.length_cons, words_len rows t, List.length_cons]
theorem words_snoc (rows : Rows) : ∀ (t : List Nat) (s l : Nat), words rows s (t ++ [l]) = words rows s t ++ [(step rows (send rows s t).2 l).1]
  | [], _, _ => rfl
  | x :: t, s, l => by
    show (step rows s x).1 :: words rows (step rows s x).2 (t ++ [l]) = _
    rw [words_snoc rows t]
    rfl
theorem send_snoc (rows : Rows) (t : List Nat) (s l : Nat) : (send rows s (t ++ [l])).2 = (step rows (send rows s t).2 l).2 := by rw [send_app]; rfl
end Om
end
section
set_option Elab.async false
set_option linter.all false
set_option maxRecDepth 100000
set_option maxHeartbeats 4000000
namespace L2
open PySem PySem.Spec PyProof.Rows
section
variable {X : Cx} {x : Str} {p pos : Pos} {e : Expr} {es : List Expr} {t : TA}
def rLenS (K : PySem.W.Frag) : List V → Hp → VK → Prop := fun vs H Q => match vs with
  | [.ref a] => ∃ ys, SqL K H a ys ∧ Q (.int (ys.length : Nat)) H
  | _ => False
theorem fn_lenS {mg' : Str → Option Value} (hm : mg' "len" = none) (hX : X.mg = mg') (ha : PA X (e :: es) t) (hg : gB X "len" = true := by kernel_rfl) (he : starEach (e :: es) X.env = (false, eval e X.env) :: starEach es X.env := by kernel_rfl) (hpl : (backTo pos (starEach es X.env)).any (·.1) = false := by kernel_rfl) :
    PE X (.Call (.Name "len" p) (e :: es) [] pos) (tCB (rLenS X.K) t) := pe_callB (call_len_seq.of fun xs H Q q => by
      unfold rLenS at q
      split at q
      · obtain ⟨ys, h, q⟩ := q
        exact ⟨_, ys, rfl, .inl h, q⟩
      · exact q.elim) (gl_of hg) (by rw [hX]; exact hm) PySem.boot_len ha (he := he) (hpl := hpl)
def rIxS' (K : PySem.W.Frag) : R2 := fun x y H Q => match x, y with
  | .ref a, .int i => ∃ ys v, SqL K H a ys ∧ atI ys i = some v ∧ Q v H
  | _, _ => False
theorem ix_atS {a b : Expr} {ta tb : TE} (ha : PE X a ta) (hb : PE X b tb) (hs : ∀ o i, subscripted b false o i = operate [o, i] (getItem o i) := by intro _ _; kernel_rfl) : PE X (.Subscript a b pos) (tOp (rIxS' X.K) ta tb) :=
  pe_ix (fun value slice pins s σ H x y v u Q I rx ry q hs => ix_list value slice pins s σ H x y v u Q I rx ry (by
    unfold rIxS' at q
    split at q
    · obtain ⟨ys, z, h1, h2, q⟩ := q
      exact ⟨_, ys, _, z, rfl, rfl, h1, h2, q⟩
    · exact q.elim) hs) ha hb hs
end
theorem SqL.same {K : PySem.W.Frag} {H H' : Hp} {a : Addr} {xs : List V} (h : SqL K H a xs) (s : Same H H') : SqL K H' a xs := s.seq h
theorem bs_01 : ("01" : Str) = bs [false, true] := by decide +kernel
theorem g01 {H : Hp} {r : Int} (h0 : 0 ≤ r) (h1 : r < 2) : getV H (.str ("01" : Str)) r = some (.str (bs [decide (r = 1)])) := by
  rw [bs_01]
  refine gs (le_line (Nat.le_of_ble_eq_true rfl)) h0 ?_
  have : r = 0 ∨ r = 1 := by omega
  rcases this with rfl | rfl <;> rfl
theorem Off.upd_new {F : Addr → Prop} {H H' : Hp} {p : Addr} {o : HO} (h : Off F H H') (hp : H' p = none) : Off F H (upd H' p o) := h.trans (Same.upd hp).off
theorem Off.upd_own {F : Addr → Prop} {H H' : Hp} {p : Addr} {o : HO} (h : Off F H H') (hp : H p = none) : Off F H (upd H' p o) := fun b u e n => by
  rw [upd_ne (ne_of_none e hp)]
  exact h b u e n
theorem Deck.own {F : Addr → Prop} {H : Hp} {a p : Addr} {o : HO} (h : Deck F H a) (hp : ¬ F p) : Deck F (upd H p o) a := by
  obtain ⟨q, qs, n, h1, h2, h3, h4, h5, h6⟩ := h.ex
  refine ⟨q, qs, n, ?_, ?_, h3, h4, fun x hx => ?_, h6⟩
  · rw [upd_ne (fun z => hp ((h6 p).mpr (.inl z.symm)))]; exact h1
  · rw [upd_ne (fun z => hp ((h6 p).mpr (.inr (.inl z.symm))))]; exact h2
  · obtain ⟨c, f, m, e⟩ := h5 x hx
    have np : x ≠ p := fun z => hp ((h6 p).mpr (.inr (.inr (by rw [← z]; exact hx))))
    exact ⟨c, f, m, by rw [upd_ne np]; exact e⟩
end L2
end
section
set_option Elab.async false
set_option linter.all false
set_option maxRecDepth 100000
set_option maxHeartbeats 4000000
namespace L2
open PySem PySem.Spec PyProof.Rows
theorem seq_by {t u : TS} {D : Ends} {σ : St} {H : Hp} (M : St → Hp → Prop) (fin : ∀ σ' H', M σ' H' → u D σ' H') (h : (∀ σ' H', M σ' H' → u D σ' H') → t { D with nx := u D } σ H) : tSeq t u D σ H := h fin
def WS (ws : List (List Bool)) : HO := .lst (ws.map fun w => V.str (bs w))
theorem ws_len {ws : List (List Bool)} : (ws.map fun w => V.str (bs w)).length = ws.length := by simp
theorem ws_get {ws : List (List Bool)} {i : Nat} {w : List Bool} (h : ws[i]? = some w) : (ws.map fun w => V.str (bs w))[i]? = some (.str (bs w)) := by rw [List.getElem?_map, h]; rfl
theorem lay_all : ∀ {ds : List PyData}, (∀ d ∈ ds, d.canLay0 = true) → PyData.canLayAll0 ds = true
  | [], _ => rfl
  | d :: ds, h => by rw [PyData.canLayAll0, h d List.mem_cons_self, lay_all fun x hx => h x (List.mem_cons_of_mem _ hx)]; rfl
theorem depth_all {k : Nat} : ∀ {ds : List PyData}, (∀ d ∈ ds, d.depth ≤ k) → PyData.depthAll ds ≤ k
  | [], _ => Nat.zero_le _
  | d :: ds, h => by
    rw [PyData.depthAll]
    exact Nat.max_le.mpr ⟨h d List.mem_cons_self, depth_all fun x hx => h x (List.mem_cons_of_mem _ hx)⟩
theorem shaped_list {k : Nat} {ds : List PyData} (h1 : ∀ d ∈ ds, d.canLay0 = true) (h2 : ∀ d ∈ ds, d.depth ≤ k) (hk : k < 64) : SeqAt.shaped (.list ds) = true := by
  unfold SeqAt.shaped
  rw [Bool.and_eq_true]
  refine ⟨by rw [PyData.canLay0]; exact lay_all h1, decide_eq_true ?_⟩
  have := depth_all h2
  rw [PyData.depth]
  omega
end L2
namespace L2
open PySem PySem.Spec PyProof.Rows
end L2
end
section
set_option Elab.async false
set_option linter.all false
set_option maxRecDepth 100000
set_option maxHeartbeats 4000000
namespace L2
open PySem PySem.Spec PyProof.Rows
structure Sub (F : Addr → Prop) (st : Addr) (G H : Hp) : Prop where
  s : Same G H
  n : G st = none
  f : ∀ b, F b → G b = none
theorem ne_F {F : Addr → Prop} {b p : Addr} (hb : F b) (hp : ¬ F p) : b ≠ p := fun z => hp (by rw [← z]; exact hb)
section
variable {F : Addr → Prop} {st p : Addr} {G H H' : Hp} {o : HO}
theorem Sub.off (h : Sub F st G H) (k : Off F H H') : Sub F st G H' := ⟨fun b u e => k b u (h.s b u e) (fun z => by rw [h.f b z] at e; cases e), h.n, h.f⟩
theorem Sub.more (h : Sub F st G H) (hp : H p = none) : Sub F st G (upd H p o) := ⟨h.s.trans (Same.upd hp), h.n, h.f⟩
theorem Sub.write (h : Sub F st G H) : Sub F st G (upd H st o) := ⟨fun b u e => by rw [upd_ne (ne_of_none e h.n)]; exact h.s b u e, h.n, h.f⟩
theorem Sub.new (h : Sub F st G H) (hp : H p = none) (hst : st ≠ p) (hF : ¬ F p) : Sub F st (upd G p o) (upd H p o) := by
  refine ⟨fun b u e => ?_, by rw [upd_ne hst]; exact h.n, fun b hb => by rw [upd_ne (ne_F hb hF)]; exact h.f b hb⟩
  by_cases hb : b = p
  · subst hb
    rw [upd_same] at e ⊢
    exact e
  · rw [upd_ne hb] at e ⊢
    exact h.s b u e
theorem Sub.free (h : Sub F st G H) (hp : H p = none) : G p = none := h.s.free hp
theorem Sub.grow (h : Sub F st G H) (hp : H p = none) : Same G (upd G p o) := Same.upd (h.free hp)
theorem Off.free (h : Off F H H') {a : Addr} (d : Deck F H' a) (hp : H' p = none) : H p = none := by
  cases e : H p with
  | none => rfl
  | some u =>
    by_cases hf : F p
    · obtain ⟨o', e'⟩ := d.there hf
      rw [hp] at e'; cases e'
    · rw [h _ _ e hf] at hp; cases hp
end
end L2
end
section
set_option Elab.async false
set_option linter.all false
set_option maxRecDepth 100000
set_option maxHeartbeats 4000000
namespace L2
open PySem PySem.Spec PyProof.Rows
end L2
namespace Om
section
variable {ord : List Nat} {rows : Rows} {k n : Nat}
end
end Om
end
section
set_option Elab.async false
set_option linter.all false
set_option maxRecDepth 100000
set_option maxHeartbeats 4000000
namespace L2
open PySem PySem.Spec PyProof.Rows
theorem ints_shaped (ns : List Int) : SeqAt.shaped (.list (ns.map PyData.int)) = true := by
  refine shaped_list (k := 0) (fun d hd => ?_) (fun d hd => ?_) (by decide)
  · obtain ⟨n, _, rfl⟩ := List.mem_map.mp hd; rfl
  · obtain ⟨n, _, rfl⟩ := List.mem_map.mp hd; exact Nat.le_refl _
theorem ints_DV {H : Hp} {p : Addr} {ns : List Int} (h : H p = some (.lst (ns.map V.int))) : DV H (.ref p) (.list (ns.map PyData.int)) := .lst h (DVs.ints ns)
theorem Deck.not_tup {F : Addr → Prop} {H : Hp} {a b : Addr} {xs : List V} (h : Deck F H a) (hb : H b = some (.tup xs)) : ¬ F b := fun z => by
  obtain ⟨p, qs, n, h1, h2, h3, h4, h5, h6⟩ := h.ex
  rcases (h6 b).mp z with rfl | rfl | z
  · rw [h1] at hb; cases hb
  · rw [h2] at hb; cases hb
  · obtain ⟨c, f, m, e⟩ := h5 b z
    rw [e] at hb; cases hb
end L2
end
section
set_option Elab.async false
set_option linter.all false
set_option maxRecDepth 100000
set_option maxHeartbeats 4000000
namespace L2
open PySem PySem.Spec PyProof.Rows
section
variable {X : Cx} {pins : List (Addr × Obj)} {σ : List (Option V)} {H : Hp} {s : Shared} {h' : Heap}
theorem Inv.turnedL {t' : Nat} {ch : List Addr} (I : Inv X pins σ H s) (hch : ∀ b ∈ ch, FpOk X pins H b) (k : ∀ b o, b ∉ ch → s.heap.get? b = some o → h'.get? b = some o) : Inv X pins σ H { s with heap := h', toks := t' } := by
  have nit : ∀ b u, H b = some u → b ∉ ch := fun b u e z => by rw [(hch b z).1] at e; cases e
  refine I.step (g' := s.gens) (d' := s.drawn) (ch := ch) (fun b hb => ?_) (fun b o _ _ hc e _ => k b o hc e) (fun b o _ _ hc e _ => ⟨o.slots, k b o hc e⟩) (fun _ _ _ _ n => n)
    (fun b o hc e => ⟨o, k b o hc e⟩) (fun _ _ e => e) (fun _ _ _ e => e) (fun b ps e => ⟨#[], by rw [e]; simp⟩) (fun m hm => ?_) (fun b u e => ?_) I.bare
  · obtain ⟨_, q1, _, q3, q4, q5⟩ := hch b hb
    exact ⟨q3, q1, q4, q5⟩
  · obtain ⟨o, es, ep, ho, r⟩ := hm
    exact ⟨o, es, ep, k _ o (fun z => (hch _ z).2.1 rfl) ho, r⟩
  · refine (I.hok b u e).stay (fun c v hc q => k c v ?_ q) (fun _ q => q) fun _ _ q => q
    rcases hc with z | z
    · rw [z]; exact nit b u e
    · exact nit c _ z
theorem Inv.turnLaid {t' : Nat} {ch : List Addr} {a : Addr} {o' : HO} (I : Inv X pins σ H s) (hch : ∀ b ∈ ch, FpOk X pins H b) (k : ∀ b o, b ∉ ch → s.heap.get? b = some o → h'.get? b = some o)
    (hp : s.heap.objs.size ≤ a) (new : ObjOk X.prog X.w (upd H a o') h' a o') : Inv X pins σ (upd H a o') { s with heap := h', toks := t' } := by
  have nit : ∀ b u, H b = some u → b ∉ ch := fun b u e z => by rw [(hch b z).1] at e; cases e
  have ha : H a = none := I.hok.fresh hp
  have na : ∀ b o, s.heap.get? b = some o → b ≠ a := fun b o e z => absurd (Nat.lt_of_lt_of_le (Heap.lt_size e) hp) (by rw [z]; exact Nat.lt_irrefl _)
  refine I.step (g' := s.gens) (d' := s.drawn) (ch := ch) (fun b hb => ?_) (fun b o _ _ hc e _ => k b o hc e) (fun b o _ _ hc e _ => ⟨o.slots, k b o hc e⟩) (fun b o _ e n => by rw [upd_ne (na b o e)]; exact n)
    (fun b o hc e => ⟨o, k b o hc e⟩) (fun b xs e => by rw [upd_ne (ne_of_none e ha)]; exact e) (fun b o u e => by rw [upd_ne (ne_of_none e ha)]; exact e) (fun b ps e => ⟨#[], by rw [upd_ne (ne_of_none e ha), e]; simp⟩) (fun m hm => ?_) (fun b u e => ?_) I.bare
  · obtain ⟨_, q1, _, q3, q4, q5⟩ := hch b hb
    exact ⟨q3, q1, q4, q5⟩
  · obtain ⟨o, es, ep, ho, r⟩ := hm
    exact ⟨o, es, ep, k _ o (fun z => (hch _ z).2.1 rfl) ho, r⟩
  · by_cases hb : b = a
    · subst hb
      rw [upd_same] at e
      cases e
      exact new
    · rw [upd_ne hb] at e
      refine (I.hok b u e).stay (fun c v hc q => k c v ?_ q) (fun c q => by rw [upd_ne (ne_of_none q ha)]; exact q) fun c xs q => by rw [upd_ne (ne_of_none q ha)]; exact q
      rcases hc with z | z
      · rw [z]; exact nit b u e
      · exact nit c _ z
end
def Ite (K : PySem.W.Frag) (a : Addr) : It :=
  ⟨fun i H => ∃ xs x, SqL K H a xs ∧ xs[i]? = some x, fun i H x H' => ∃ t y, (∀ xs, SqL K H a xs → xs[i]? = some y) ∧ H t = none ∧ x = .ref t ∧ H' = upd H t (.tup [.int (i : Nat), y]), fun i H => ∃ xs, SqL K H a xs ∧ xs.length ≤ i⟩
theorem turn_enum {P : Program} {w : World} {K : PySem.W.Frag} {es : List Expr} {k : Nat} {pos : Pos} (a it e : Addr) (hne : e ≠ it) : Turn P w K (.Tuple es k pos) (Ite K a) [e, it] e (fun i h => (∃ old, IsEnum h e it (i : Nat) old) ∧ h.IsListIter it a i) where
  mem := by simp
  obj := fun i h st b hb => by
    obtain ⟨⟨old, he⟩, o, ho, c, d⟩ := st
    have hb' : b = e ∨ b = it := by simpa using hb
    rcases hb' with rfl | rfl
    · exact ⟨_, he, fun v z => by cases z⟩
    · exact ⟨o, ho, fun v z => by rw [d] at z; cases z⟩
  keep := fun i h h' st k => ⟨let ⟨old, he⟩ := st.1; ⟨old, k e (by simp) _ he⟩, st.2.at fun o e => k it (by simp) o e⟩
  item := by
    intro X hP hw hK hc i pins s σ H E I hf st hg
    subst hP hw hK
    obtain ⟨xs, x, hq, hx⟩ := hg
    obtain ⟨its, rv, p, hz⟩ := I.list hq
    obtain ⟨u, hu, ru⟩ := rv.get hx
    obtain ⟨⟨old, he⟩, hit⟩ := st
    have helt : e < s.heap.objs.size := Heap.lt_size he
    have hilt : it < s.heap.objs.size := by obtain ⟨_, x, _⟩ := hit; exact Heap.lt_size x
    have fT := I.fresh
    refine wpAny_pyNext_enum_item he hit p.isList (x := u) (by simpa using hu) hne fun h' ho hit' hT hsz hk => ⟨_, rfl, ?_⟩
    refine wpAny_letOwnedTupleGo_enum ho fun h2 he2 hs2 => ?_
    have hs2 : Heap.SameBut e h' h2 := hs2
    have up : ∀ b o, b ∉ [e, it] → s.heap.get? b = some o → h2.get? b = some o := fun b o hb ee => by
      have h1 : b ≠ e := fun z => hb (by simp [z])
      have h2' : b ≠ it := fun z => hb (by simp [z])
      exact (hs2.2 b h1).trans (hk b o h1 h2' ee)
    have hT2 : h2.get? s.heap.objs.size = some { cls := .type "tuple", data := .seq #[.int (i : Nat) s.toks, u] } := (hs2.2 _ (Nat.ne_of_gt helt)).trans hT
    refine ⟨.ref s.heap.objs.size, upd H s.heap.objs.size (.tup [.int (i : Nat), x]), ?_, rfl, ⟨_, x, fun ys hy => by rw [I.list_inj hy hq]; exact hx, fT, rfl, rfl⟩, ⟨⟨_, by simpa using he2⟩, hit'.at fun o y => (hs2.2 it hne.symm).trans y⟩, fun b hb => ?_⟩
    · exact I.turnLaid (t' := s.toks + 1) hf up (Nat.le_refl _) ⟨Nat.le_of_ble_eq_true rfl, [.int (i : Nat) s.toks, u], .cons ⟨_, rfl⟩ (.cons ru .nil), ⟨_, hT2, rfl, 0, rfl⟩⟩
    · have hb' : b = e ∨ b = it := by simpa using hb
      rcases hb' with rfl | rfl
      · rw [upd_ne (Nat.ne_of_lt helt)]; exact (hf _ hb).1
      · rw [upd_ne (Nat.ne_of_lt hilt)]; exact (hf _ hb).1
  done := by
    intro X hP hw hK hc i pins s σ H E I hf st hg
    subst hP hw hK
    obtain ⟨xs, hq, hx⟩ := hg
    obtain ⟨its, rv, p, hz⟩ := I.list hq
    have hl := rv.length
    obtain ⟨⟨old, he⟩, hit⟩ := st
    exact wpAny_pyNext_enum_end (I.ok.hd hc) he hit p.isList (by simp; omega) fun h' eb => ⟨rfl, I.turnedL (t' := s.toks) hf fun b o hb e' => eb b o (fun z => hb (by simp [z])) e'⟩
  self := fun _ _ _ _ _ st h => let ⟨_, he⟩ := st.1; wpAny_pyIter_enum he h
section
variable {X : Cx} {p pos tpos : Pos} {a b : Expr} {es : List Expr} {tk : Nat}
def iEnum (K : PySem.W.Frag) (ta : TA) : TI := fun σ H R => ta σ H fun vs H1 => match vs with
  | [.ref l] => (∃ xs, SqL K H1 l xs) ∧ R (Ite K l) H1
  | _ => False
theorem it_enum {ta : TA} {mg' : Str → Option Value} (hm : mg' "enumerate" = none) (hX : X.mg = mg') (ha : PA X [a] ta) (hg : gB X "enumerate" = true := by kernel_rfl) (hs : starEach [a] X.env = [(false, eval a X.env)] := by kernel_rfl) :
    PI X (.Tuple es tk tpos) (.Call (.Name "enumerate" p) [a] [] pos) (iEnum X.K ta) := by
  intro pins s σ H R I h
  refine Call_ (ld_blt I (gl_of hg) (by rw [hX]; exact hm) boot_enumerate (PyProof.Rows.callWith_type1 (thn (ha pos pins s σ H _ I h) fun us s1 ⟨vs, H1, I1, r1, q1⟩ => ?_) hs rfl))
  dsimp only at q1
  split at q1
  · rename_i l
    obtain ⟨⟨xs, hq⟩, q⟩ := q1
    obtain ⟨u, rfl, r⟩ := vals1 r1
    cases r
    obtain ⟨its, rv, pl, hz⟩ := I1.list hq
    refine call_enumerate_list pl.isList fun h' hE hI hsz hk => wpAny_pyIter_enum hE ?_
    refine ⟨s1.heap.objs.size + 1, [s1.heap.objs.size + 1, s1.heap.objs.size], _, _, H1, rfl, I1.kept (t' := s1.toks) hk, turn_enum l s1.heap.objs.size (s1.heap.objs.size + 1) (Nat.succ_ne_self _), ⟨⟨_, hE⟩, hI⟩, fun c hc => ?_, q⟩
    have hb' : c = s1.heap.objs.size + 1 ∨ c = s1.heap.objs.size := by simpa using hc
    have hle : s1.heap.objs.size ≤ c := by rcases hb' with rfl | rfl <;> first | exact Nat.le_refl _ | exact Nat.le_add_right _ _
    exact I1.fpOk hle (I1.hok.fresh hle)
  · exact q1.elim
structure ItPr (J : It) (n : Nat) (row : Nat → List V) (ok : Hp → Prop) : Prop where
  stop : ∀ H, ok H → J.stop n H
  go : ∀ i H, ok H → i < n → J.go i H
  yld : ∀ i H x H', ok H → i < n → J.yld i H x H' → ∃ t, H t = none ∧ x = .ref t ∧ H' = upd H t (.tup (row i))
theorem for_pr {J : It} {n : Nat} {row : Nat → List V} {ok : Hp → Prop} {g : TG} {tb : TS} {D : Ends} {σ : St} {H : Hp} (IO : ItPr J n row ok) (Pv : Nat → St → Hp → Prop) (h0 : Pv 0 σ H) (hl : ∀ i σ H, i ≤ n → Pv i σ H → ok H)
    (hs : ∀ i t σ H, i < n → Pv i σ H → H t = none → g (.ref t) σ (upd H t (.tup (row i))) fun σ2 H2 => tb { D with nx := Pv (i + 1), ct := Pv (i + 1), bk := D.nx } σ2 H2) (hd : ∀ σ H, Pv n σ H → D.nx σ H) :
    ∃ W : Nat → Nat → St → Hp → Prop, (∃ m, W 0 m σ H) ∧ ∀ i m σ H, W i m σ H →
      (J.stop i H ∧ D.nx σ H) ∨ (J.go i H ∧ ∃ N : St → Hp → Prop, (∀ σ' H', N σ' H' → ∃ m', m' < m ∧ W (i + 1) m' σ' H') ∧ ∀ x H', J.yld i H x H' → g x σ H' fun σ2 H2 => tb { D with nx := N, ct := N, bk := D.nx } σ2 H2) := by
  refine ⟨fun i m σ H => m = n - i ∧ i ≤ n ∧ Pv i σ H, ⟨n, by simp, Nat.zero_le _, h0⟩, ?_⟩
  rintro i m σ H ⟨rfl, hi, p⟩
  have q := hl i σ H hi p
  by_cases hlt : i < n
  · refine .inr ⟨IO.go i H q hlt, Pv (i + 1), fun σ' H' p' => ⟨n - (i + 1), by omega, rfl, hlt, p'⟩, fun x H' y => ?_⟩
    obtain ⟨t, ht, rfl, rfl⟩ := IO.yld i H x H' q hlt y
    exact hs i t σ _ hlt p ht
  · have e : i = n := by omega
    subst e
    exact .inl ⟨IO.stop H q, hd σ H p⟩
theorem it_enumP (K : PySem.W.Frag) (a : Addr) (xs : List V) : ItPr (Ite K a) xs.length (fun i => [.int (i : Nat), xs.getD i .non]) fun H => H a = some (.lst xs) :=
  ⟨fun H h => ⟨xs, SqL.of h, Nat.le_refl _⟩, fun i H h hi => ⟨xs, xs[i], SqL.of h, by simp [hi]⟩, fun i H x H' h hi y => by
    obtain ⟨t, y', hq, ht, e1, e2⟩ := y
    have hy := hq xs (SqL.of h)
    have e3 : xs.getD i .non = y' := by rw [List.getD_eq_getElem?_getD, hy]; rfl
    exact ⟨t, ht, e1, by rw [e2, e3]⟩⟩
end
end L2
end
section
set_option Elab.async false
set_option linter.all false
set_option maxRecDepth 100000
set_option maxHeartbeats 4000000
namespace L2
open PySem PySem.Spec PyProof.Rows
section
variable {X : Cx} {a b c d e o : Expr} {es : List Expr} {pos apos : Pos} {ta tb tc td te to : TE}
def tChainT (r r' : R2) (ta tb tc : TE) : TT := fun σ H Q => ta σ H fun x H1 => tb σ H1 fun y H2 => r x y H2 fun z H3 => match z with
  | .bl k => if k = true then tc σ H3 fun w' H4 => r' y w' H4 fun z' H5 => match z' with
      | .bl k' => Q k' H5
      | _ => False
    else Q false H3
  | _ => False
def rIsU : R2 := fun x y H Q => match y with
  | .non => Q (.bl (decide (x = .non))) H
  | .bl b => match x with
    | .bl a => Q (.bl (a == b)) H
    | _ => False
  | _ => False
theorem op_isU : OpR X (compareOp .Is) rIsU := (op_isN.or op_isB).of fun x y H Q q => by
  unfold rIsU at q
  split at q
  · exact .inl ⟨rfl, q⟩
  · split at q
    · exact .inr q
    · exact q.elim
  · exact q.elim
def rIsNotU : R2 := fun x y H Q => match y with
  | .non => Q (.bl (!decide (x = .non))) H
  | _ => False
theorem op_isNotU : OpR X (compareOp .IsNot) rIsNotU := op_notN.of fun x y H Q q => by
  unfold rIsNotU at q
  split at q
  · exact ⟨rfl, q⟩
  · exact q.elim
theorem mt_count : MtM X "str.count" (fun x vs H Q => match x, vs with
    | .str z, [.str y] => Q (.int (Txt.count z y)) H
    | _, _ => False) := by
  intro pins s σ H x vs v us Q I rx rv h
  split at h
  · obtain ⟨t, rfl⟩ := rx
    obtain ⟨u, rfl, t', rfl⟩ := rv.one
    exact SC.count ⟨.int _, H, I.tok _, ⟨_, rfl⟩, h⟩
  · exact h.elim
def rCount : V → List V → Hp → VK → Prop := fun x vs H Q => match x, vs with
    | .str z, [.str y] => Q (.int (Txt.count z y)) H
    | _, _ => False
theorem m_count {cpos : Pos} {t : TA} (ho : PE X o to) (ha : PA X (e :: es) t)
    (hbase : attributeBase o "count" X.env (eval o X.env) = eval o X.env := by kernel_rfl)
    (hfew : ((backTo cpos (starEach (e :: es) X.env)).all (fun x => !x.1) && (backToKw cpos (keywordEach [] X.env)).all (fun x => x.1.isSome)
      && decide ((e :: es).length + ([] : List Keyword).length + (if ([] : List Keyword).isEmpty then 0 else 1) < 30)) = true := by kernel_rfl)
    (hline : (apos.endLine == cpos.line) = true := by kernel_rfl) (hs : starEach (e :: es) X.env = (false, eval e X.env) :: starEach es X.env := by kernel_rfl) (hplain : (backTo cpos (starEach es X.env)).any (·.1) = false := by kernel_rfl) :
    PE X (.Call (.Attribute o "count" apos) (e :: es) [] cpos) (tMt "str" rCount to t) := pe_mt PySem.F.plainAttrs_str PySem.F.slot_str_count PySem.F.type_str_count mt_count ho ha hbase hfew hline hs hplain
end
abbrev At (a : Addr) : Addr → Prop := fun b => b = a
def Sto (H : Hp) (a : Addr) : Prop := ∃ g b c : Int, H a = some (.lst [.int g, .int b, .int c])
section
variable {H H' G : Hp} {a p : Addr} {o : HO}
theorem Sto.same (h : Sto H a) (k : Same H H') : Sto H' a := let ⟨g, b, c, e⟩ := h; ⟨g, b, c, k _ _ e⟩
theorem Sto.own (h : Sto H a) (hp : p ≠ a) : Sto (upd H p o) a := let ⟨g, b, c, e⟩ := h; ⟨g, b, c, by rw [upd_ne (Ne.symm hp)]; exact e⟩
theorem Sto.ne (h : Sto H a) (hp : H p = none) : p ≠ a := fun z => by obtain ⟨g, b, c, e⟩ := h; rw [← z, hp] at e; cases e
theorem Sto.new (h : Sto H a) (hp : H p = none) : Sto (upd H p o) a := h.own (h.ne hp)
theorem Off.freeS (h : Off (At a) H H') (d : Sto H' a) (hp : H' p = none) : H p = none := by
  cases e : H p with
  | none => rfl
  | some u =>
    have hf : ¬ At a p := d.ne hp
    rw [h _ _ e hf] at hp; cases hp
theorem Same.offS (h : Same G H) (hG : G a = none) (k : Off (At a) H H') : Same G H' := fun b u e => k b u (h b u e) (ne_of_none e hG)
theorem Same.own (h : Same G H) (hG : G p = none) : Same G (L2.upd H p o) := fun b u e => by rw [upd_ne (ne_of_none e hG)]; exact h b u e
theorem Sto.tup {xs : List V} (h : Sto H a) (hp : H p = some (.tup xs)) : p ≠ a := fun z => by obtain ⟨g, b, c, e⟩ := h; rw [← z, hp] at e; cases e
end
def spTake : Sp := fun vs H Q _ => match vs with
  | [.ref a, .int many] => Sto H a ∧ 0 < many ∧ many < 1073741824 ∧ ∀ r H', 0 ≤ r → r < many → Sto H' a → Off (At a) H H' → Q (.int r) H'
  | _ => False
def spWordN : Sp := fun vs H Q _ => match vs with
  | [.int _, .int n] => 0 ≤ n ∧ n ≤ 1000 ∧ ∀ w : List Bool, (w.length : Int) = n → Q (.str (bs w)) H
  | _ => False
end L2
end
section
set_option Elab.async false
set_option linter.all false
set_option maxRecDepth 100000
set_option maxHeartbeats 4000000
namespace L2
open PySem PySem.Spec PyProof.Rows
structure Gh (G H0 H : Hp) (a : Addr) : Prop where
  s : Same G H
  ga : G a = none
  st : Sto H a
  o : Off (At a) H0 H
section
variable {G H0 H H' : Hp} {a p : Addr} {o : HO}
theorem Gh.take (h : Gh G H0 H a) (d : Sto H' a) (k : Off (At a) H H') : Gh G H0 H' a := ⟨h.s.offS h.ga k, h.ga, d, h.o.trans k⟩
theorem Gh.new (h : Gh G H0 H a) (hp : H p = none) : Gh G H0 (upd H p o) a := h.take (h.st.new hp) (Same.upd hp).off
theorem Gh.same (h : Gh G H0 H a) (k : Same H H') : Gh G H0 H' a := h.take (h.st.same k) k.off
theorem Gh.freeG (h : Gh G H0 H a) (hp : H p = none) : G p = none := h.s.free hp
theorem Gh.free0 (h : Gh G H0 H a) (hp : H p = none) : H0 p = none := h.o.freeS h.st hp
theorem Gh.ne (h : Gh G H0 H a) (hp : H p = none) : p ≠ a := h.st.ne hp
theorem Gh.own (h : Gh G H0 H a) (hG : G p = none) (h0 : H0 p = none) (hp : p ≠ a) : Gh G H0 (upd H p o) a := ⟨h.s.own hG, h.ga, h.st.own hp, h.o.upd_own h0⟩
theorem Gh.grow (h : Gh G H0 H a) (hp : H p = some o) (hn : p ≠ a) : Gh (upd G p o) H0 H a := by
  refine ⟨fun b u e => ?_, by rw [upd_ne (Ne.symm hn)]; exact h.ga, h.st, h.o⟩
  by_cases hb : b = p
  · subst hb
    rw [upd_same] at e
    rw [hp]; exact e
  · rw [upd_ne hb] at e
    exact h.s b u e
theorem Gh.start (h : Sto H a) : Gh (fun _ => none) H H a := ⟨fun _ _ e => (by cases e), rfl, h, Off.refl⟩
end
theorem upd_none {G : Hp} {p q : Addr} {o : HO} (h : G q = none) (hn : q ≠ p) : upd G p o q = none := by rw [upd_ne hn]; exact h
theorem upd_some {G : Hp} {p q : Addr} {o u : HO} (h : G q = some u) (hn : q ≠ p) : upd G p o q = some u := by rw [upd_ne hn]; exact h
end L2
end
section
set_option Elab.async false
set_option linter.all false
set_option maxRecDepth 100000
set_option maxHeartbeats 4000000
namespace L2
open PySem PySem.Spec PyProof.Rows
def pairD (x : Nat × Nat) : PyData := .tuple [.int (x.1 : Nat), .int (x.2 : Nat)]
def stepD (s : (Nat × Nat) × (Nat × Nat)) : PyData := .tuple [.int (s.1.1 : Nat), .int (s.1.2 : Nat), pairD s.2]
theorem pairD_lay (x : Nat × Nat) : (pairD x).canLay0 = true := rfl
theorem pairD_depth (x : Nat × Nat) : (pairD x).depth ≤ 1 := by
  rw [pairD, PyData.depth]
  have := depth_all (k := 0) (ds := [.int (x.1 : Nat), .int (x.2 : Nat)]) (fun d hd => by
    rcases List.mem_cons.mp hd with rfl | hd
    · exact Nat.le_refl _
    · rw [List.mem_singleton.mp hd]; exact Nat.le_refl _)
  omega
theorem pairs_shaped (ss : List (Nat × Nat)) : SeqAt.shaped (.list (ss.map pairD)) = true := shaped_list (k := 1) (fun d hd => by
    obtain ⟨x, _, rfl⟩ := List.mem_map.mp hd
    exact pairD_lay x) (fun d hd => by
    obtain ⟨x, _, rfl⟩ := List.mem_map.mp hd
    exact pairD_depth x) (by decide)
theorem pair_inv {H : Hp} {v : V} {x : Nat × Nat} (h : DV H v (pairD x)) : ∃ p, v = .ref p ∧ H p = some (.tup [.int (x.1 : Nat), .int (x.2 : Nat)]) := by
  obtain ⟨p, xs, rfl, hp, hd⟩ := h.tup_inv
  cases hd with
  | cons h1 hd =>
    cases hd with
    | cons h2 hd =>
      cases hd
      obtain rfl := h1.int_inv
      obtain rfl := h2.int_inv
      exact ⟨p, rfl, hp⟩
theorem pair_DV {H : Hp} {p : Addr} {x : Nat × Nat} (h : H p = some (.tup [.int (x.1 : Nat), .int (x.2 : Nat)])) : DV H (.ref p) (pairD x) := .tup h (.cons (.int _) (.cons (.int _) .nil))
theorem step_inv {H : Hp} {v : V} {s : (Nat × Nat) × (Nat × Nat)} (h : DV H v (stepD s)) : ∃ p r, v = .ref p ∧ H p = some (.tup [.int (s.1.1 : Nat), .int (s.1.2 : Nat), .ref r]) ∧ H r = some (.tup [.int (s.2.1 : Nat), .int (s.2.2 : Nat)]) := by
  obtain ⟨p, xs, rfl, hp, hd⟩ := h.tup_inv
  cases hd with
  | cons h1 hd =>
    cases hd with
    | cons h2 hd =>
      cases hd with
      | cons h3 hd =>
        cases hd
        obtain rfl := h1.int_inv
        obtain rfl := h2.int_inv
        obtain ⟨r, rfl, hr⟩ := pair_inv h3
        exact ⟨p, r, rfl, hp, hr⟩
theorem DVs.take {H : Hp} : ∀ {xs : List V} {ds : List PyData} (n : Nat), DVs H xs ds → DVs H (xs.take n) (ds.take n)
  | _, _, 0, _ => .nil
  | _, _, _ + 1, .nil => .nil
  | _, _, n + 1, .cons h r => .cons h (DVs.take n r)
structure Gr (G H0 H : Hp) (L : Addr) (vs : List V) : Prop where
  s : Same G H
  s0 : Same H0 G
  gL : G L = none
  hL : H L = some (.lst vs)
section
variable {G H0 H : Hp} {L p : Addr} {vs : List V} {o : HO}
theorem Gr.all (h : Gr G H0 H L vs) : Same H0 H := h.s0.trans h.s
theorem Gr.ne (h : Gr G H0 H L vs) (hp : H p = none) : L ≠ p := ne_of_none h.hL hp
theorem Gr.new (h : Gr G H0 H L vs) (hp : H p = none) : Gr G H0 (upd H p o) L vs := ⟨h.s.trans (Same.upd hp), h.s0, h.gL, upd_some h.hL (h.ne hp)⟩
theorem Gr.put (h : Gr G H0 H L vs) (hp : H p = none) : Gr (upd G p o) H0 (upd H p o) L vs := by
  have gp : G p = none := h.s.free hp
  refine ⟨fun b u e => ?_, h.s0.trans (Same.upd gp), upd_none h.gL (h.ne hp), upd_some h.hL (h.ne hp)⟩
  by_cases hb : b = p
  · subst hb
    rw [upd_same] at e ⊢
    exact e
  · rw [upd_ne hb] at e ⊢
    exact h.s b u e
theorem Gr.set {ws : List V} (h : Gr G H0 H L vs) : Gr G H0 (upd H L (.lst ws)) L ws := ⟨h.s.own h.gL, h.s0, h.gL, upd_same⟩
theorem Gr.start (hp : H0 L = none) : Gr H0 H0 (upd H0 L (.lst [])) L [] := ⟨Same.upd hp, Same.refl _, hp, upd_same⟩
theorem Gr.up (h : Gr G H0 H L vs) (hp : H p = none) : Same G (upd G p o) := Same.upd (h.s.free hp)
end
end L2
end
section
set_option Elab.async false
set_option linter.all false
set_option maxRecDepth 100000
set_option maxHeartbeats 4000000
namespace L2
open PySem PySem.Spec PyProof.Rows
theorem DVs.imp {H H' : Hp} : ∀ {xs : List V} {ds : List PyData}, (∀ x d, d ∈ ds → DV H x d → DV H' x d) → DVs H xs ds → DVs H' xs ds
  | _, _, _, .nil => .nil
  | _, _, f, .cons h r => .cons (f _ _ List.mem_cons_self h) (DVs.imp (fun x d hd => f x d (List.mem_cons_of_mem _ hd)) r)
section
variable {H H' : Hp} {a l : Addr}
end
section
variable {G H H2 H3 : Hp} {a T U L p : Addr} {xs ys : List Int} {vs : List V} {ps : List (Nat × Nat)} {m : Nat} {o : HO}
end
end L2
end
section
set_option Elab.async false
set_option linter.all false
set_option maxRecDepth 100000
set_option maxHeartbeats 4000000
namespace Om
def pst (rows : Rows) (x y : Nat) (ls ms : List Nat) (i : Nat) : Nat × Nat := ((send rows x (ls.take i)).2, (send rows y (ms.take i)).2)
def Alike (rows : Rows) (x y : Nat) (ls ms : List Nat) (j : Nat) : Prop := (step rows (pst rows x y ls ms j).1 (ls.getD j 0)).1 = (step rows (pst rows x y ls ms j).2 (ms.getD j 0)).1
theorem take_succ_getD {ls : List Nat} {i : Nat} (h : i < ls.length) : ls.take (i + 1) = ls.take i ++ [ls.getD i 0] := by
  rw [List.take_add_one, List.getD_eq_getElem?_getD, List.getElem?_eq_getElem h]; rfl
theorem pst_succ {rows : Rows} {x y : Nat} {ls ms : List Nat} {i : Nat} (h : i < ls.length) (h' : i < ms.length) :
    pst rows x y ls ms (i + 1) = ((step rows (pst rows x y ls ms i).1 (ls.getD i 0)).2, (step rows (pst rows x y ls ms i).2 (ms.getD i 0)).2) := by
  unfold pst
  rw [take_succ_getD h, take_succ_getD h', send_snoc, send_snoc]
def nats (xs : List Int) : List Nat := xs.map Int.toNat
theorem nats_len (xs : List Int) : (nats xs).length = xs.length := by unfold nats; simp
def InR (k : Nat) (xs : List Int) : Prop := ∀ l ∈ xs, 0 ≤ l ∧ l < 2 ^ k
theorem nats_lt {k : Nat} {xs : List Int} (h : InR k xs) : ∀ l ∈ nats xs, l < 2 ^ k := fun l hl => by
  obtain ⟨x, hx, rfl⟩ := List.mem_map.mp hl
  obtain ⟨h0, h1⟩ := h x hx
  have : ((x.toNat : Nat) : Int) < ((2 ^ k : Nat) : Int) := by rw [Int.toNat_of_nonneg h0]; simpa using h1
  exact_mod_cast this
def Shows (k : Nat) (rows : Rows) (one other b e : Int) (xs ys : List Int) : Prop :=
  xs.length = ys.length ∧ (0 ≤ b ∧ b < e ∧ e ≤ xs.length) ∧ (0 ≤ one ∧ one < rows.length) ∧ (0 ≤ other ∧ other < rows.length) ∧ InR k xs ∧ InR k ys ∧
    (∀ j, j < xs.length → Alike rows one.toNat other.toNat (nats xs) (nats ys) j) ∧ pst rows one.toNat other.toNat (nats xs) (nats ys) b.toNat = pst rows one.toNat other.toNat (nats xs) (nats ys) e.toNat ∧
    (pst rows one.toNat other.toNat (nats xs) (nats ys) xs.length).1 ≠ (pst rows one.toNat other.toNat (nats xs) (nats ys) xs.length).2
end Om
namespace L2
open PySem PySem.Spec PyProof.Rows
end L2
end
section
set_option Elab.async false
set_option linter.all false
set_option maxRecDepth 100000
set_option maxHeartbeats 4000000
namespace L2
open PySem PySem.Spec PyProof.Rows
section
variable {G H0 H : Hp} {p : Addr}
end
section
variable {G H H' : Hp} {a T U p : Addr} {xs ys : List Int} {m : Nat} {o : HO}
end
end L2
end
section
set_option Elab.async false
set_option linter.all false
set_option maxRecDepth 100000
set_option maxHeartbeats 4000000
namespace L2
open PySem
def DefIn (K : PySem.W.Frag) (x : Str) (st : Stmt) : Prop := ∃ (f : Addr) (oc : Value) (od an : Option Addr) (osl : Array (Option Value)) (kV dc pm cd ct : Value), PySem.W.nsIn K mainGlobals x = some (some (.ref f)) ∧
  K.lookup f = some ⟨oc, od, .func (PySem.W.fnOf x x (defArgs st) (defBody st) (defScope st) .none kV dc pm an cd ct), osl⟩ ∧ PySem.W.codeIn K cd x = true ∧ PySem.W.keepIn K (.ref f) = true
theorem DefIn.mk {K : PySem.W.Frag} {x : Str} {st : Stmt} {f : Addr} {oc : Value} {od an : Option Addr} {osl : Array (Option Value)} {kV dc pm cd ct : Value} (a : PySem.W.nsIn K mainGlobals x = some (some (.ref f)))
    (l : K.lookup f = some ⟨oc, od, .func (PySem.W.fnOf x x (defArgs st) (defBody st) (defScope st) .none kV dc pm an cd ct), osl⟩) (c : PySem.W.codeIn K cd x = true) (k : PySem.W.keepIn K (.ref f) = true) : DefIn K x st := ⟨f, oc, od, an, osl, kV, dc, pm, cd, ct, a, l, c, k⟩
theorem DefIn.fnX {K : PySem.W.Frag} {h : Heap} {mg : Str → Option Value} {x : Str} {st : Stmt} {ps : List Str} (D : DefIn K x st) (X : K.In h) (G : h.Ns mainGlobals mg)
    (hb : ∀ (kV doc pm : Value) (an : Option Addr) (cdv ct : Value) (us : List Value), us.length = ps.length → bindArgs (PySem.W.fnOf x x (defArgs st) (defBody st) (defScope st) .none kV doc pm an cdv ct) ⟨us, []⟩ = pure (ps.zip us)) : FnX K mg x st ps := by
  obtain ⟨f, oc, od, an, osl, kV, dc, pm, cd, ct, h1, h2, h3, h4⟩ := D
  have F := fun_mk (st := st) h2 h3 h4
  exact ⟨f, _, F, PySem.W.mg_of X G h1, F.binds hb⟩
end L2
end
section
set_option Elab.async false
set_option linter.all false
set_option maxRecDepth 100000
set_option maxHeartbeats 4000000
namespace L2
open PySem PySem.Spec PyProof.Rows
def strI (i : Int) : Str := Str.ofString (toString i)
section
variable {X : Cx} {p pos : Pos} {e : Expr} {es : List Expr} {t : TA}
def rStrOf : List V → Hp → VK → Prop := fun vs H Q => match vs with
  | [.int i] => i.natAbs.log2 < 1920 ∧ Q (.str (strI i)) H
  | _ => False
theorem vals_intsA : ∀ {ns : List Int} {us : List Value}, Vals (ns.map V.int) us → IntsAre us ns
  | [], us, r => by cases r; exact .nil
  | n :: ns, us, r => by
    cases r with
    | cons r1 r2 =>
      obtain ⟨t, rfl⟩ := r1
      exact .cons n t (vals_intsA r2)
theorem ints_vals : ∀ {us : List Value} {ns : List Int}, IntsAre us ns → Vals (ns.map V.int) us
  | _, _, .nil => .nil
  | _, _, .cons n t r => .cons ⟨t, rfl⟩ (ints_vals r)
def rSorted : List V → Hp → VK → Prop := fun vs H Q => match vs with
  | [.ref p] => ∃ ns : List Int, H p = some (.lst (ns.map V.int)) ∧ ns.length < 64 ∧ ∀ (l : Addr) (ns' : List Int), H l = none → ns'.Perm ns → ns'.Pairwise (· ≤ ·) → Q (.ref l) (upd H l (.lst (ns'.map V.int)))
  | _ => False
theorem call_sortedU : CallR X (.builtin "sorted") rSorted := by
  intro pins s σ H xs us Q I r h
  unfold rSorted at h
  split at h
  · rename_i p
    obtain ⟨ns, hH, hl, q⟩ := h
    obtain ⟨u, rfl, r1⟩ := vals1 r
    cases r1
    obtain ⟨z, its, n, rv, e⟩ := I.hok p _ hH
    have hI := vals_intsA rv
    have hlen : its.length = ns.length := by have := rv.length; simpa using this.symm
    refine sorted_ints (vs := its) ⟨_, e, rfl, _, rfl⟩ hI (by omega) fun out ns' a1 a2 a3 => ?_
    obtain ⟨ep, he⟩ := sortedAll_at s.heap its out
    have hz : (ns'.map V.int).length ≤ sizeLine := by rw [List.length_map, a2.length_eq]; exact le_line (by omega)
    refine ⟨.ref (s.heap.objs.size + 1), upd H (s.heap.objs.size + 1) (.lst (ns'.map V.int)), I.laid (t' := s.toks) (fun b u hb => sortedAll_old hb) (Nat.le_succ _) ⟨hz, out.toList, ep, ints_vals a1, ?_⟩, rfl, q _ _ (I.hok.fresh (Nat.le_succ _)) a2 a3⟩
    exact he
  · exact h.elim
def rInL (neg : Bool) : R2 := fun x y H Q => match x, y with
  | .int i, .ref p => ∃ ns : List Int, H p = some (.lst (ns.map V.int)) ∧ Q (.bl (if neg then !decide (i ∈ ns) else decide (i ∈ ns))) H
  | _, _ => False
theorem flat_ints (ns : List Int) : (ns.map V.int).all flatV = true := by
  rw [List.all_map, List.all_eq_true]
  intro x _
  rfl
theorem inV_ints (i : Int) (ns : List Int) : inV (.int i) (ns.map V.int) = decide (i ∈ ns) := by
  unfold inV
  rw [Bool.eq_iff_iff, List.any_eq_true, decide_eq_true_eq]
  constructor
  · rintro ⟨x, hx, e⟩
    obtain ⟨n, hn, rfl⟩ := List.mem_map.mp hx
    have : n = i := by simpa [eqV] using e
    rw [← this]; exact hn
  · intro h
    exact ⟨.int i, List.mem_map_of_mem h, by simp [eqV]⟩
theorem op_inL : OpR X (compareOp .In) (rInL false) := op_in_seq.of fun x y H Q q => by
  unfold rInL at q
  split at q
  · obtain ⟨ns, h, q⟩ := q
    refine ⟨_, _, rfl, .inl (SqL.of h), rfl, flat_ints ns, ?_⟩
    simp only [Bool.false_eq_true, if_false] at q ⊢
    rw [inV_ints]; exact q
  · exact q.elim
theorem op_notInL : OpR X (compareOp .NotIn) (rInL true) := op_notIn_seq.of fun x y H Q q => by
  unfold rInL at q
  split at q
  · obtain ⟨ns, h, q⟩ := q
    refine ⟨_, _, rfl, .inl (SqL.of h), rfl, flat_ints ns, ?_⟩
    simp only [if_true] at q ⊢
    rw [inV_ints]; exact q
  · exact q.elim
end
end L2
end
section
set_option Elab.async false
set_option linter.all false
set_option maxRecDepth 100000
set_option maxHeartbeats 4000000
namespace L2
open PySem PySem.Spec PyProof.Rows
end L2
end
section
set_option Elab.async false
set_option linter.all false
set_option maxRecDepth 100000
set_option maxHeartbeats 4000000
namespace Om
end Om
namespace L2
open PySem PySem.Spec PyProof.Rows
theorem le_lineB {n : Nat} (h : n ≤ 100000) : n ≤ sizeLine := Nat.le_trans h (by decide)
section
variable {F : Addr → Prop} {H0 H H' : Hp} {a p : Addr} {ob : HO}
end
theorem eqvAll_ints : ∀ xs ys : List Int, PyData.eqvAll (xs.map PyData.int) (ys.map PyData.int) = decide (xs = ys)
  | [], [] => by simp [PyData.eqvAll]
  | [], _ :: _ => by simp [PyData.eqvAll]
  | _ :: _, [] => by simp [PyData.eqvAll]
  | x :: xs, y :: ys => by
    rw [List.map_cons, List.map_cons, PyData.eqvAll, eqvAll_ints xs ys, PyData.eqv, Bool.eq_iff_iff, Bool.and_eq_true]
    simp
theorem eqv_ints (xs ys : List Int) : PyData.eqv (.list (xs.map PyData.int)) (.list (ys.map PyData.int)) = decide (xs = ys) := by rw [PyData.eqv, eqvAll_ints]
end L2
end
section
set_option Elab.async false
set_option linter.all false
set_option maxRecDepth 100000
set_option maxHeartbeats 4000000
namespace L2
open PySem PySem.Spec PyProof.Rows
theorem cut_1 (x : V) (xs : List V) : cutV (x :: xs) (some 1) none = xs := by
  unfold cutV
  have e1 : HT.sIx (x :: xs).length 0 (some 1) = 1 := by
    have := HT.sIx_nat (x :: xs).length 0 1
    have h2 : min 1 (x :: xs).length = 1 := by simp
    rw [h2] at this
    exact this
  have e2 : HT.sIx (x :: xs).length (x :: xs).length none = (x :: xs).length := rfl
  rw [e1, e2]
  simp
end L2
end
section
set_option Elab.async false
set_option linter.all false
set_option maxRecDepth 100000
set_option maxHeartbeats 4000000
namespace Om
def par (ts : List Int) (f : Nat → Bool) (i : Nat) : Bool := ts.foldr (fun t acc => xor (decide (0 ≤ (i : Int) - t) && f ((i : Int) - t).toNat) acc) false
def put (x P : List Int) : List Int := (List.range x.length).map fun i => (x.getD i 0 + (if ((i : Nat) : Int) ∈ P then 1 else 0)) % 2
def unlike (x y : List Int) : List Int := ((List.range x.length).filter fun i => decide (x.getD i 0 ≠ y.getD i 0)).map fun i : Nat => (i : Int)
section
variable {most : Int} {ts bits : List Int}
end
end Om
end
section
set_option Elab.async false
set_option linter.all false
set_option maxRecDepth 100000
set_option maxHeartbeats 4000000
namespace Om
section
variable {most : Int} {ts bits : List Int}
end
end Om
namespace L2
open PySem PySem.Spec PyProof.Rows
end L2
end
section
set_option Elab.async false
namespace L2
open PySem PySem.Spec PyProof.Rows

section
variable {κ : Type} [DecidableEq κ]
def valV (kvs : List (κ × V)) (k : κ) : Option V := (kvs.find? fun kv => decide (kv.1 = k)).map (·.2)
def putK (kvs : List (κ × V)) (k : κ) (v : V) : List (κ × V) :=
  if (kvs.any fun kv => decide (kv.1 = k)) = true then kvs.map (fun kv => if kv.1 = k then (kv.1, v) else kv) else kvs ++ [(k, v)]
def dropK (kvs : List (κ × V)) (k : κ) : List (κ × V) := kvs.filter fun kv => decide (kv.1 ≠ k)

theorem valV_nil {k : κ} : valV ([] : List (κ × V)) k = none := rfl
theorem valV_pos {p : κ × V} {r : List (κ × V)} {k : κ} (e : p.1 = k) : valV (p :: r) k = some p.2 := by simp [valV, List.find?_cons, e]
theorem valV_neg {p : κ × V} {r : List (κ × V)} {k : κ} (e : ¬ p.1 = k) : valV (p :: r) k = valV r k := by simp [valV, List.find?_cons, e]
theorem valV_any (k : κ) : ∀ kvs : List (κ × V), (kvs.any fun kv => decide (kv.1 = k)) = (valV kvs k).isSome
  | [] => rfl
  | p :: r => by
    rw [List.any_cons]
    by_cases e : p.1 = k
    · simp only [valV_pos e, decide_eq_true e, Bool.true_or, Option.isSome_some]
    · rw [valV_neg e, decide_eq_false e, Bool.false_or]; exact valV_any k r
theorem valV_map (k j : κ) (y : V) : ∀ kvs : List (κ × V), valV (kvs.map fun kv => if kv.1 = k then (kv.1, y) else kv) j = (valV kvs j).map fun x => if j = k then y else x
  | [] => rfl
  | p :: r => by
    have ih := valV_map k j y r
    rw [List.map_cons]
    by_cases h : p.1 = k
    · rw [if_pos h]
      by_cases e : p.1 = j
      · rw [valV_pos (p := (p.1, y)) e, valV_pos e, Option.map_some, if_pos (e.symm.trans h)]
      · rw [valV_neg (p := (p.1, y)) e, valV_neg e, ih]
    · rw [if_neg h]
      by_cases e : p.1 = j
      · rw [valV_pos (p := p) e, valV_pos e, Option.map_some, if_neg (fun z => h (e.trans z))]
      · rw [valV_neg (p := p) e, valV_neg e, ih]
theorem valV_snoc (k j : κ) (y : V) : ∀ kvs : List (κ × V), valV kvs k = none → valV (kvs ++ [(k, y)]) j = if j = k then some y else valV kvs j
  | [], _ => by
    by_cases e : k = j
    · rw [if_pos e.symm]; exact valV_pos (p := (k, y)) e
    · rw [if_neg (fun z => e z.symm)]; exact valV_neg (p := (k, y)) e
  | p :: r, hn => by
    rw [List.cons_append]
    have hk : ¬ p.1 = k := fun z => by rw [valV_pos z] at hn; cases hn
    rw [valV_neg hk] at hn
    have ih := valV_snoc k j y r hn
    by_cases e : p.1 = j
    · rw [valV_pos e, valV_pos e, if_neg (fun z => hk (e.trans z))]
    · rw [valV_neg e, valV_neg e, ih]
theorem valV_put (kvs : List (κ × V)) (k j : κ) (y : V) : valV (putK kvs k y) j = if j = k then some y else valV kvs j := by
  unfold putK
  by_cases a : (kvs.any fun kv => decide (kv.1 = k)) = true
  · rw [if_pos a, valV_map]
    rw [valV_any] at a
    by_cases e : j = k
    · obtain ⟨x, hx⟩ := Option.isSome_iff_exists.mp a
      rw [if_pos e, e, hx, Option.map_some, if_pos rfl]
    · rw [if_neg e]
      cases valV kvs j with
      | none => rfl
      | some x => rw [Option.map_some, if_neg e]
  · rw [if_neg a]
    refine valV_snoc k j y kvs ?_
    rw [valV_any] at a
    cases q : valV kvs k with
    | none => rfl
    | some x => rw [q] at a; exact (a rfl).elim
theorem length_putK (kvs : List (κ × V)) (k : κ) (v : V) : (putK kvs k v).length ≤ kvs.length + 1 := by
  unfold putK
  split
  · rw [List.length_map]; omega
  · rw [List.length_append, List.length_cons, List.length_nil]; omega
theorem putK_new {kvs : List (κ × V)} {k : κ} (v : V) (h : valV kvs k = none) : putK kvs k v = kvs ++ [(k, v)] := by
  unfold putK
  rw [valV_any, h]
  exact if_neg (by decide)

theorem RelO.isSome_eq {o : Option V} {u : Option Value} (r : RelO o u) : o.isSome = u.isSome := by
  cases o with
  | none => cases u with
    | none => rfl
    | some _ => exact (show False from r).elim
  | some _ => cases u with
    | none => exact (show False from r).elim
    | some _ => rfl
theorem RelO.getD {o : Option V} {u : Option Value} {d : V} {d' : Value} (r : RelO o u) (rd : RelV d d') : RelV (o.getD d) (u.getD d') := by
  cases o with
  | none => cases u with
    | none => exact rd
    | some _ => exact (show False from r).elim
  | some _ => cases u with
    | none => exact (show False from r).elim
    | some _ => exact r

theorem KV.val {kvs : List (κ × V)} {vs : List (κ × Value)} (r : KV kvs vs) (k : κ) : RelO (valV kvs k) (valueAt vs k) := by
  unfold KV at r
  induction r with
  | nil => exact True.intro
  | @cons p q ps qs h t ih =>
    obtain ⟨h1, h2⟩ := h
    by_cases e : p.1 = k
    · have e' : q.1 = k := h1.symm.trans e
      have b : valueAt (q :: qs) k = some q.2 := by simp [valueAt, List.find?_cons, e']
      rw [valV_pos e, b]; exact h2
    · have e' : ¬ q.1 = k := fun z => e (h1.trans z)
      have b : valueAt (q :: qs) k = valueAt qs k := by simp [valueAt, List.find?_cons, e']
      rw [valV_neg e, b]; exact ih
theorem KV.any {kvs : List (κ × V)} {vs : List (κ × Value)} (r : KV kvs vs) (k : κ) : (kvs.any fun kv => decide (kv.1 = k)) = vs.any fun kv => decide (kv.1 = k) := by
  unfold KV at r
  induction r with
  | nil => rfl
  | cons h t ih => rw [List.any_cons, List.any_cons, ih, h.1]
theorem KV.repl {kvs : List (κ × V)} {vs : List (κ × Value)} (r : KV kvs vs) (k : κ) {y : V} {u : Value} (ry : RelV y u) :
    KV (kvs.map fun kv => if kv.1 = k then (kv.1, y) else kv) (vs.map fun kv => if kv.1 = k then (kv.1, u) else kv) := by
  unfold KV at r ⊢
  induction r with
  | nil => exact .nil
  | @cons p q ps qs h t ih =>
    rw [List.map_cons, List.map_cons]
    refine .cons ?_ ih
    obtain ⟨h1, h2⟩ := h
    by_cases e : p.1 = k
    · rw [if_pos e, if_pos (h1.symm.trans e)]; exact ⟨h1, ry⟩
    · rw [if_neg e, if_neg (fun z => e (h1.trans z))]; exact ⟨h1, h2⟩
theorem KV.put {kvs : List (κ × V)} {vs : List (κ × Value)} (r : KV kvs vs) (k : κ) {y : V} {u : Value} (ry : RelV y u) : KV (putK kvs k y) (stored vs k u) := by
  unfold putK stored
  rw [r.any k]
  by_cases e : (vs.any fun kv => decide (kv.1 = k)) = true
  · rw [if_pos e, if_pos e]; exact r.repl k ry
  · rw [if_neg e, if_neg e]; exact Paired.snoc r ⟨rfl, ry⟩
theorem KV.drop {kvs : List (κ × V)} {vs : List (κ × Value)} (r : KV kvs vs) (k : κ) : KV (dropK kvs k) (without vs k) := by
  unfold KV at r ⊢
  unfold dropK without
  induction r with
  | nil => exact .nil
  | @cons p q ps qs h t ih =>
    obtain ⟨h1, h2⟩ := h
    rw [List.filter_cons, List.filter_cons]
    by_cases e : p.1 = k
    · have a : ¬ decide (p.1 ≠ k) = true := by simp [e]
      have b : ¬ decide (q.1 ≠ k) = true := by simp [h1.symm.trans e]
      rw [if_neg a, if_neg b]; exact ih
    · have e' : ¬ q.1 = k := fun z => e (h1.trans z)
      have a : decide (p.1 ≠ k) = true := by simp [e]
      have b : decide (q.1 ≠ k) = true := by simp [e']
      rw [if_pos a, if_pos b]; exact .cons ⟨h1, h2⟩ ih
theorem KV.keys {kvs : List (κ × V)} {vs : List (κ × Value)} (r : KV kvs vs) : kvs.map (·.1) = vs.map (·.1) := by
  unfold KV at r
  induction r with
  | nil => rfl
  | cons h t ih => rw [List.map_cons, List.map_cons, ih, h.1]
theorem KV.length {kvs : List (κ × V)} {vs : List (κ × Value)} (r : KV kvs vs) : kvs.length = vs.length := Paired.length r
end


theorem kV_is {P : Program} {w : World} {k : Key} {u : Value} (r : RelV (kV k) u) : (mixKind P w).is k u = true := by
  cases k with
  | inl i => obtain ⟨t, e⟩ := (show ∃ t, u = Value.int i t from r); subst e; exact mixKind_int P w i t
  | inr x => obtain ⟨t, e⟩ := (show ∃ t, u = Value.str x t from r); subst e; exact mixKind_str P w x t
theorem items_are {P : Program} {w : World} : ∀ {ks : List Key} {us : List Value}, Vals (ks.map kV) us → ItemsAre (mixKind P w) ks us
  | [], _, r => by rw [List.map_nil] at r; cases r; exact .nil
  | k :: ks, _, r => by
    rw [List.map_cons] at r
    cases r with
    | cons h t => exact .cons (kV_is h) (items_are t)

abbrev KT (H : Hp) : List (List Key × V) → List (List Key × Addr × Value) → Prop := Paired fun p q => p.1 = q.1 ∧ H q.2.1 = some (.tup (p.1.map kV)) ∧ RelV p.2 q.2.2
theorem KT.val {H : Hp} {kvs : List (List Key × V)} {xs : List (List Key × Addr × Value)} (r : KT H kvs xs) (k : List Key) : RelO (valV kvs k) ((atKey xs k).map (·.2)) := by
  induction r with
  | nil => exact True.intro
  | @cons p q ps qs h t ih =>
    obtain ⟨h1, _, h2⟩ := h
    by_cases e : p.1 = k
    · have e' : q.1 = k := h1.symm.trans e
      have b : atKey (q :: qs) k = some q.2 := by simp [atKey, List.find?_cons, e']
      rw [valV_pos e, b]; exact h2
    · have e' : ¬ q.1 = k := fun z => e (h1.trans z)
      have b : atKey (q :: qs) k = atKey qs k := by simp [atKey, List.find?_cons, e']
      rw [valV_neg e, b]; exact ih
theorem KT.repl {H : Hp} {kvs : List (List Key × V)} {xs : List (List Key × Addr × Value)} (r : KT H kvs xs) (k : List Key) {y : V} {u : Value} (ry : RelV y u) :
    KT H (kvs.map fun kv => if kv.1 = k then (kv.1, y) else kv) (xs.map (putAt k u)) := by
  induction r with
  | nil => exact .nil
  | @cons p q ps qs h t ih =>
    rw [List.map_cons, List.map_cons]
    refine .cons ?_ ih
    obtain ⟨h1, h2, h3⟩ := h
    unfold putAt
    by_cases e : p.1 = k
    · rw [if_pos e, if_pos (h1.symm.trans e)]; exact ⟨h1, h2, ry⟩
    · rw [if_neg e, if_neg (fun z => e (h1.trans z))]; exact ⟨h1, h2, h3⟩
theorem KT.put {H : Hp} {kvs : List (List Key × V)} {xs : List (List Key × Addr × Value)} (r : KT H kvs xs) (k : List Key) {b : Addr} {y : V} {u : Value} (hb : H b = some (.tup (k.map kV))) (ry : RelV y u) :
    KT H (putK kvs k y) (storedH xs k b u) := by
  have e : (kvs.any fun kv => decide (kv.1 = k)) = (atKey xs k).isSome := by
    rw [valV_any, (r.val k).isSome_eq, Option.isSome_map]
  unfold putK storedH
  rw [e]
  by_cases q : (atKey xs k).isSome = true
  · rw [if_pos q, if_pos q]; exact r.repl k ry
  · rw [if_neg q, if_neg q]; exact Paired.snoc r ⟨rfl, hb, ry⟩
theorem KT.keeps {H H' : Hp} {kvs : List (List Key × V)} {xs : List (List Key × Addr × Value)} (r : KT H kvs xs) (ht : ∀ b ys, H b = some (.tup ys) → H' b = some (.tup ys)) : KT H' kvs xs :=
  Paired.mapP r fun _ _ z => ⟨z.1, ht _ _ z.2.1, z.2.2⟩

section
variable {P : Program} {w : World} {H : Hp} {h : Heap} {a : Addr}
theorem rd_of {u : HO} (ok : HOk P w H h) (e : Rd H a u) : ObjOk P w H h a u := e.ok ok
theorem dk_rd {kvs : List (Key × V)} (ok : HOk P w H h) (e : Rd H a (.dK kvs)) : kvs.length ≤ sizeLine ∧ (a == sysModules) = false ∧ ∃ vs, KV kvs vs ∧ h.DictOf (mixKind P w) a vs :=
  show ObjOk P w H h a (.dK kvs) from rd_of ok e
theorem dk_of {kvs : List (Key × V)} (ok : HOk P w H h) (e : H a = some (.dK kvs)) : kvs.length ≤ sizeLine ∧ (a == sysModules) = false ∧ ∃ vs, KV kvs vs ∧ h.DictOf (mixKind P w) a vs := dk_rd ok (.inl e)
theorem key_of {ks : List Key} (ok : HOk P w H h) (e : H a = some (.tup (ks.map kV))) : (tupleKind (mixKind P w)).is h ks a := by
  obtain ⟨_, its, r, o, h1, h2, n, h3⟩ := (show ObjOk P w H h a (.tup (ks.map kV)) from ok a _ e)
  exact ⟨o, its.toArray, n, h1, h2, h3, by simpa using items_are r⟩
theorem dt_rd {kvs : List (List Key × V)} (ok : HOk P w H h) (e : Rd H a (.dT kvs)) : kvs.length ≤ sizeLine ∧ (a == sysModules) = false ∧
    ∃ xs, KT H kvs xs ∧ h.DictOfH (tupleKind (mixKind P w)) a xs := by
  obtain ⟨z, y, xs, r, o, es, ep, h1, h2, h3, h4, h5⟩ := (show ObjOk P w H h a (.dT kvs) from rd_of ok e)
  refine ⟨z, y, xs, r, o, es, ep, h1, h2, h3, h4, fun x hx => ?_, h5⟩
  have all : ∀ {l : List (List Key × V)} {m : List (List Key × Addr × Value)}, KT H l m → ∀ x ∈ m, (tupleKind (mixKind P w)).is h x.1 x.2.1 := by
    intro l m q
    induction q with
    | nil => intro x hx; exact nomatch hx
    | @cons p q ps qs hq t ih =>
      intro x hx
      rcases List.mem_cons.mp hx with e | hx
      · subst e
        exact key_of ok (by rw [← hq.1]; exact hq.2.1)
      · exact ih x hx
  exact all r x hx
theorem dt_of {kvs : List (List Key × V)} (ok : HOk P w H h) (e : H a = some (.dT kvs)) : kvs.length ≤ sizeLine ∧ (a == sysModules) = false ∧
    ∃ xs, KT H kvs xs ∧ h.DictOfH (tupleKind (mixKind P w)) a xs := dt_rd ok (.inl e)
end

def DGet (H : Hp) (a : Addr) (y : V) (r : Option V) : Prop :=
  (∃ kvs k, Rd H a (.dK kvs) ∧ y = kV k ∧ r = valV kvs k) ∨ ∃ kvs k b, Rd H a (.dT kvs) ∧ y = .ref b ∧ H b = some (.tup (k.map kV)) ∧ r = valV kvs k
def DPut (H : Hp) (a : Addr) (y v : V) (H' : Hp) : Prop :=
  (∃ kvs k, H a = some (.dK kvs) ∧ y = kV k ∧ kvs.length < sizeLine ∧ H' = upd H a (.dK (putK kvs k v))) ∨
  ∃ kvs k b, H a = some (.dT kvs) ∧ y = .ref b ∧ H b = some (.tup (k.map kV)) ∧ kvs.length < sizeLine ∧ H' = upd H a (.dT (putK kvs k v))
theorem DGet.k {H : Hp} {a : Addr} {kvs : List (Key × V)} {k : Key} (e : H a = some (.dK kvs)) : DGet H a (kV k) (valV kvs k) := .inl ⟨kvs, k, .inl e, rfl, rfl⟩
theorem DGet.t {H : Hp} {a b : Addr} {kvs : List (List Key × V)} {k : List Key} (e : H a = some (.dT kvs)) (eb : H b = some (.tup (k.map kV))) : DGet H a (.ref b) (valV kvs k) := .inr ⟨kvs, k, b, .inl e, rfl, eb, rfl⟩
theorem DPut.k {H : Hp} {a : Addr} {kvs : List (Key × V)} {k : Key} {v : V} (e : H a = some (.dK kvs)) (hl : kvs.length < sizeLine) : DPut H a (kV k) v (upd H a (.dK (putK kvs k v))) := .inl ⟨kvs, k, e, rfl, hl, rfl⟩
theorem DPut.t {H : Hp} {a b : Addr} {kvs : List (List Key × V)} {k : List Key} {v : V} (e : H a = some (.dT kvs)) (eb : H b = some (.tup (k.map kV))) (hl : kvs.length < sizeLine) :
    DPut H a (.ref b) v (upd H a (.dT (putK kvs k v))) := .inr ⟨kvs, k, b, e, rfl, eb, hl, rfl⟩


section
variable {X : Cx} {pins : List (Addr × Obj)} {σ : St} {H : Hp} {s : Shared} {a : Addr} {y v : V} {u r : Value} {o : Option V} {A : Around} {E : Value → Shared → Prop}

theorem Inv.big (I : Inv X pins σ H s) : sysModules < s.heap.objs.size := by
  have h : mainGlobals < s.heap.objs.size := (I.mod.glob.keeps I.bk).lt
  exact Nat.lt_trans (by decide) h

theorem d_getItem {Q : Value → Shared → Prop} (hu : A.units + 1 < cLine) (I : Inv X pins σ H s) (g : DGet H a y (some v)) (ry : RelV y u) (h : ∀ w' s', Inv X pins σ H s' → RelV v w' → Q w' s') :
    wpAny (model X.prog X.w) A (getItem (.ref a) u) Q E s := by
  rcases g with ⟨kvs, k, e, ey, l⟩ | ⟨kvs, k, b, e, ey, eb, l⟩
  · subst ey
    obtain ⟨z, hd, vs, rel, dd⟩ := dk_rd I.hok e
    obtain ⟨w', hw, rw'⟩ := RelO.some_of (v := v) (o := valueAt vs k) (by rw [l]; exact rel.val k)
    exact wpAny_getItem_of (kV_is ry) dd.mapOf hw (h w' _ (I.tok _) rw')
  · subst ey
    cases (show u = Value.ref b from ry)
    obtain ⟨z, hd, xs, rel, dd⟩ := dt_rd I.hok e
    obtain ⟨w', hw, rw'⟩ := RelO.some_of (v := v) (o := (atKey xs k).map (·.2)) (by rw [l]; exact rel.val k)
    obtain ⟨p, hp, hp2⟩ := Option.map_eq_some_iff.mp hw
    refine wpAny_getItem_heap (tupleKind_room_in1 hu) (key_of I.hok eb) dd hp ?_
    rw [hp2]
    exact h w' _ (I.tok _) rw'
theorem d_in {Q : Value → Shared → Prop} (hu : A.units + 1 < cLine) (I : Inv X pins σ H s) (g : DGet H a y o) (ry : RelV y u) (h : ∀ s', Inv X pins σ H s' → Q (.bool o.isSome) s') :
    wpAny (model X.prog X.w) A (compareOp .In u (.ref a)) Q E s := by
  rcases g with ⟨kvs, k, e, ey, l⟩ | ⟨kvs, k, b, e, ey, eb, l⟩
  · subst ey
    obtain ⟨z, hd, vs, rel, dd⟩ := dk_rd I.hok e
    refine wpAny_in_of (kV_is ry) hd dd.mapOf ?_
    rw [← (rel.val k).isSome_eq, ← l]
    exact h _ (I.tok _)
  · subst ey
    cases (show u = Value.ref b from ry)
    obtain ⟨z, hd, xs, rel, dd⟩ := dt_rd I.hok e
    refine wpAny_in_heap (tupleKind_room_in1 hu) (key_of I.hok eb) hd dd ?_
    have q := (rel.val k).isSome_eq
    rw [Option.isSome_map] at q
    rw [← q, ← l]
    exact h _ (I.tok _)
theorem d_notIn {Q : Value → Shared → Prop} (hu : A.units + 1 < cLine) (I : Inv X pins σ H s) (g : DGet H a y o) (ry : RelV y u) (h : ∀ s', Inv X pins σ H s' → Q (.bool (!o.isSome)) s') :
    wpAny (model X.prog X.w) A (compareOp .NotIn u (.ref a)) Q E s := by
  rcases g with ⟨kvs, k, e, ey, l⟩ | ⟨kvs, k, b, e, ey, eb, l⟩
  · subst ey
    obtain ⟨z, hd, vs, rel, dd⟩ := dk_rd I.hok e
    refine wpAny_notIn_of (kV_is ry) hd dd.mapOf ?_
    rw [← (rel.val k).isSome_eq, ← l]
    exact h _ (I.tok _)
  · subst ey
    cases (show u = Value.ref b from ry)
    obtain ⟨z, hd, xs, rel, dd⟩ := dt_rd I.hok e
    refine wpAny_notIn_heap (tupleKind_room_in1 hu) (key_of I.hok eb) hd dd ?_
    have q := (rel.val k).isSome_eq
    rw [Option.isSome_map] at q
    rw [← q, ← l]
    exact h _ (I.tok _)
theorem d_write {h' : Heap} {t' : Nat} {ob : HO} (I : Inv X pins σ H s) (mu : Mut (H a)) (hs : Heap.SameBut a s.heap h') (he : ∃ q, h'.get? a = some q) (new : ObjOk X.prog X.w (upd H a ob) h' a ob) :
    Inv X pins σ (upd H a ob) { s with heap := h', toks := t' } :=
  I.write (x := a) (e := a) mu (.inl rfl) (fun b q hb z => (hs.2 b hb).trans z) he new
theorem dk_new {P : Program} {w : World} {H' : Hp} {h' : Heap} {kvs : List (Key × V)} {vs : List (Key × Value)} (z : kvs.length ≤ sizeLine) (hd : (a == sysModules) = false) (rel : KV kvs vs) (dd : h'.DictOf (mixKind P w) a vs) :
    ObjOk P w H' h' a (.dK kvs) := ⟨z, hd, vs, rel, dd⟩
theorem d_setItem {H' : Hp} {Q : Unit → Shared → Prop} (hu : A.units + 1 < cLine) (I : Inv X pins σ H s) (g : DPut H a y v H') (ry : RelV y u) (rv : RelV v r) (h : ∀ s', Inv X pins σ H' s' → Q () s') :
    wpAny (model X.prog X.w) A (setItem (.ref a) u r) Q E s := by
  rcases g with ⟨kvs, k, e, ey, l, eH⟩ | ⟨kvs, k, b, e, ey, eb, l, eH⟩
  · subst ey eH
    obtain ⟨z, hd, vs, rel, dd⟩ := dk_of I.hok e
    have hz : vs.length ≤ sizeLine := by rw [← rel.length]; exact z
    have hl : (putK kvs k v).length ≤ sizeLine := by have := length_putK kvs k v; omega
    refine wpAny_setItem_pairs (hsz := hz) (kV_is ry) dd fun h' dd' hs => h _ ?_
    have he : ∃ q, h'.get? a = some q := let ⟨q, _, _, hq, _⟩ := dd'; ⟨q, hq⟩
    exact d_write I (by rw [e]; exact True.intro) hs he (dk_new hl hd (rel.put k rv) dd')
  · subst ey eH
    cases (show u = Value.ref b from ry)
    obtain ⟨z, hd, xs, rel, dd⟩ := dt_of I.hok e
    have hz : xs.length ≤ sizeLine := by rw [← Paired.length rel]; exact z
    have hl : (putK kvs k v).length ≤ sizeLine := by have := length_putK kvs k v; omega
    refine wpAny_setItem_heap (hsz := hz) (tupleKind_room_in1 hu) (key_of I.hok eb) dd fun h' dd' hs => h _ ?_
    obtain ⟨q, es, ep, hq, h2, h3, h4, _, h5⟩ := dd'
    refine d_write I (by rw [e]; exact True.intro) hs ⟨q, hq⟩ ⟨hl, hd, _, (rel.put k eb rv).keeps fun c ys ec => ?_, q, es, ep, hq, h2, h3, h4, h5⟩
    rw [upd_ne (ne_of ec e (fun z => nomatch z))]
    exact ec
end

section
variable {X : Cx} {pins : List (Addr × Obj)} {σ : St} {H : Hp} {s : Shared} {a : Addr} {kvs : List (Key × V)} {k : Key} {u : Value} {A : Around} {E : Value → Shared → Prop}
theorem d_truth {Q : Bool → Shared → Prop} (I : Inv X pins σ H s) (e : Rd H a (.dK kvs)) (h : ∀ s', Inv X pins σ H s' → Q (!kvs.isEmpty) s') : wpAny (model X.prog X.w) A (truthy (.ref a)) Q E s := by
  obtain ⟨z, hd, vs, rel, dd⟩ := dk_rd I.hok e
  refine wpAny_truthy_dict hd dd (by rw [← rel.length]; rw [sizeLine_eq] at z; omega) ?_
  have q : kvs.isEmpty = vs.isEmpty := by cases rel <;> rfl
  rw [← q]
  exact h _ (I.tok _)
end


theorem dict_typeIs {X : Cx} {pins : List (Addr × Obj)} {σ : St} {H : Hp} {s : Shared} {a : Addr} {y : V} {o : Option V} (I : Inv X pins σ H s) (g : DGet H a y o) : s.TypeIs (.ref a) "dict" := by
  rcases g with ⟨kvs, k, e, _, _⟩ | ⟨kvs, k, b, e, _, _, _⟩
  · obtain ⟨_, _, vs, _, dd⟩ := dk_rd I.hok e
    exact dd.typeIs
  · obtain ⟨_, _, xs, _, dd⟩ := dt_rd I.hok e
    exact dd.typeIs
section
variable {X : Cx} {o i e value : Expr} {pos pos' tpos : Pos} {td ty tv : TE}
end


theorem dk_empty {P : Program} {w : World} {H : Hp} (h : Heap) (hb : sysModules < h.objs.size) : ObjOk P w H (h.push { cls := .type "dict", data := .dict #[] }) h.objs.size (.dK []) :=
  ⟨Nat.zero_le _, beq_eq_false_iff_ne.mpr (Ne.symm (Nat.ne_of_lt hb)), [], .nil, Heap.DictOf.new h⟩
theorem dt_empty {P : Program} {w : World} {H : Hp} (h : Heap) (hb : sysModules < h.objs.size) : ObjOk P w H (h.push { cls := .type "dict", data := .dict #[] }) h.objs.size (.dT []) :=
  ⟨Nat.zero_le _, beq_eq_false_iff_ne.mpr (Ne.symm (Nat.ne_of_lt hb)), [], .nil, _, #[], 0, Heap.get?_push_size _ rfl, ⟨rfl, rfl, rfl⟩, rfl, rfl, List.nodup_nil⟩
def tDNewK : TE := fun _ H Q => ∀ p, H p = none → Q (.ref p) (upd H p (.dK []))
def tDNewT : TE := fun _ H Q => ∀ p, H p = none → Q (.ref p) (upd H p (.dT []))
section
variable {X : Cx} {pos : Pos}
theorem pe_dnewK : PE X (.Dict [] [] pos) tDNewK := fun pins s σ H Q I h =>
  wpAny_Dict_empty ⟨.ref s.heap.objs.size, _, I.laid (a := s.heap.objs.size) (o := .dK []) (t' := s.toks) (fun _ _ q => Heap.get?_push_of_some _ q) (Nat.le_refl _) (dk_empty s.heap I.big), rfl, h _ (I.hok.fresh (Nat.le_refl _))⟩
theorem pe_dnewT : PE X (.Dict [] [] pos) tDNewT := fun pins s σ H Q I h =>
  wpAny_Dict_empty ⟨.ref s.heap.objs.size, _, I.laid (a := s.heap.objs.size) (o := .dT []) (t' := s.toks) (fun _ _ q => Heap.get?_push_of_some _ q) (Nat.le_refl _) (dt_empty s.heap I.big), rfl, h _ (I.hok.fresh (Nat.le_refl _))⟩
end

structure M1 (X : Cx) (o : Expr) (m : Str) (apos : Pos) (e : Expr) (cpos : Pos) : Prop where
  base : attributeBase o m X.env (eval o X.env) = eval o X.env
  few : ((backTo cpos (starEach [e] X.env)).all (fun x => !x.1) && (backToKw cpos (keywordEach [] X.env)).all (fun x => x.1.isSome)
    && decide (([e] : List Expr).length + ([] : List Keyword).length + (if ([] : List Keyword).isEmpty then 0 else 1) < 30)) = true
  line : (apos.endLine == cpos.line) = true
  trees : backTo cpos (starEach [e] X.env) = [(false, eval e X.env)]
structure M2 (X : Cx) (o : Expr) (m : Str) (apos : Pos) (e f : Expr) (cpos : Pos) : Prop where
  base : attributeBase o m X.env (eval o X.env) = eval o X.env
  few : ((backTo cpos (starEach [e, f] X.env)).all (fun x => !x.1) && (backToKw cpos (keywordEach [] X.env)).all (fun x => x.1.isSome)
    && decide (([e, f] : List Expr).length + ([] : List Keyword).length + (if ([] : List Keyword).isEmpty then 0 else 1) < 30)) = true
  line : (apos.endLine == cpos.line) = true
  trees : backTo cpos (starEach [e, f] X.env) = [(false, eval e X.env), (false, eval f X.env)]

section
variable {X : Cx} {pins : List (Addr × Obj)} {σ : St} {H : Hp} {s : Shared} {a : Addr} {y d : V} {u r : Value} {o : Option V} {A : Around} {E : Value → Shared → Prop}
end

section
variable {X : Cx} {o e f : Expr} {apos cpos : Pos} {td ty tx : TE}
end

section
variable {X : Cx} {pins : List (Addr × Obj)} {σ : St} {H : Hp} {s : Shared} {a : Addr} {kvs : List (Key × V)} {A : Around} {E : Value → Shared → Prop}
end


section
variable {X : Cx} {pins : List (Addr × Obj)} {σ : St} {H : Hp} {s : Shared} {a : Addr} {y : V} {u : Value} {A : Around} {E : Value → Shared → Prop}
end
end L2
end
section
set_option Elab.async false
set_option linter.all false
set_option maxRecDepth 100000
set_option maxHeartbeats 4000000
namespace L2
open PySem PySem.Spec PyProof.Rows
def tyD : PyData → String
  | .none => "NoneType"
  | .bool _ => "bool"
  | .int _ => "int"
  | .str _ => "str"
  | .list _ => "list"
  | .tuple _ => "tuple"
  | .dict _ => "dict"
theorem DV.ty {H : Hp} {v : V} {d : PyData} (h : DV H v d) : tyN H v = some (tyD d) := by
  cases h with
  | non => rfl
  | bl b => rfl
  | int i => rfl
  | str x => rfl
  | lst e _ => simp [tyN, e, tyD]
  | tup e _ => simp [tyN, e, tyD]
  | dic e => simp [tyN, e, tyD]
mutual
def smallD : PyData → Bool
  | .str z => decide (z.length ≤ 1000)
  | .list xs => decide (xs.length ≤ 1000) && smallAllD xs
  | .tuple xs => decide (xs.length ≤ 1000) && smallAllD xs
  | _ => true
def smallAllD : List PyData → Bool
  | [] => true
  | d :: ds => smallD d && smallAllD ds
end
def leafV : V → Prop
  | .non | .bl _ | .int _ | .str _ => True
  | _ => False
mutual
inductive Tw (H : Hp) : Nat → V → V → Prop
  | leaf {n : Nat} {x : V} : leafV x → Tw H n x x
  | dic {n : Nat} {a : Addr} : H a = some (.dK []) → Tw H n (.ref a) (.ref a)
  | lst {n : Nat} {a b : Addr} {xs ys : List V} : H a = some (.lst xs) → H b = some (.lst ys) → Tws H n xs ys → Tw H (n + 1) (.ref a) (.ref b)
  | tup {n : Nat} {a b : Addr} {xs ys : List V} : H a = some (.tup xs) → H b = some (.tup ys) → Tws H n xs ys → Tw H (n + 1) (.ref a) (.ref b)
inductive Tws (H : Hp) : Nat → List V → List V → Prop
  | nil {n : Nat} : Tws H n [] []
  | cons {n : Nat} {x y : V} {xs ys : List V} : Tw H n x y → Tws H n xs ys → Tws H n (x :: xs) (y :: ys)
end
mutual
theorem Tw.mono {H H' : Hp} (k : Same H H') : ∀ {n : Nat} {x y : V}, Tw H n x y → Tw H' n x y
  | _, _, _, .leaf h => .leaf h
  | _, _, _, .dic h => .dic (k _ _ h)
  | _, _, _, .lst h h' r => .lst (k _ _ h) (k _ _ h') (Tws.mono k r)
  | _, _, _, .tup h h' r => .tup (k _ _ h) (k _ _ h') (Tws.mono k r)
theorem Tws.mono {H H' : Hp} (k : Same H H') : ∀ {n : Nat} {xs ys : List V}, Tws H n xs ys → Tws H' n xs ys
  | _, _, _, .nil => .nil
  | _, _, _, .cons h r => .cons (Tw.mono k h) (Tws.mono k r)
end
theorem Tws.length {H : Hp} : ∀ {n : Nat} {xs ys : List V}, Tws H n xs ys → xs.length = ys.length
  | _, _, _, .nil => rfl
  | _, _, _, .cons _ r => by rw [List.length_cons, List.length_cons, r.length]
theorem Tws.app {H : Hp} : ∀ {n : Nat} {xs ys xs' ys' : List V}, Tws H n xs ys → Tws H n xs' ys' → Tws H n (xs ++ xs') (ys ++ ys')
  | _, _, _, _, _, .nil, k => k
  | _, _, _, _, _, .cons h r, k => .cons h (Tws.app r k)
theorem Tws.get {H : Hp} : ∀ {n : Nat} {xs ys : List V} {j : Nat} {x y : V}, Tws H n xs ys → xs[j]? = some x → ys[j]? = some y → Tw H n x y
  | _, _, _, 0, _, _, .cons h _, e, e' => by simp at e e'; subst e; subst e'; exact h
  | _, _, _, j + 1, _, _, .cons _ r, e, e' => Tws.get r (by simpa using e) (by simpa using e')
section
variable {X : Cx} {pins : List (Addr × Obj)} {σ : St} {H : Hp} {s : Shared} {A : Around}
end
section
variable {X : Cx}
end
end L2
end
section
set_option Elab.async false
set_option linter.all false
set_option maxRecDepth 100000
set_option maxHeartbeats 4000000
namespace L2
open PySem PySem.Spec PyProof.Rows
namespace Om
def whole : PyData → Bool
  | .int _ => true
  | _ => false
end Om
end L2
end
section
set_option Elab.async false
set_option linter.all false
set_option maxRecDepth 100000
set_option maxHeartbeats 4000000
namespace L2
open PySem PySem.Spec PyProof.Rows
section
variable {X : Cx} {p pos : Pos} {e : Expr} {es : List Expr} {t : TA}
end
end L2
end
section
set_option Elab.async false
set_option maxRecDepth 100000
namespace L2
open PySem PySem.Spec PyProof.Rows

section
variable {prog : Program} {w : World} {A : Around} {E : Value → Shared → Prop} {s : Shared}
theorem keyIter {d : Addr} {ep : Nat} {od : Obj} {es : Array DictEntry} {Q : Value → Shared → Prop} (hd : (d == sysModules) = false) (hT : s.TypeIs (.ref d) "dict") (ho : s.heap.get? d = some od) (hdat : od.data = .dict es ep)
    (hQ : Q (.ref s.heap.objs.size) { s with heap := s.heap.push { cls := .type "dict_keyiterator", data := .fields #[.ref d, .int 0 0, .int es.size 0, .int ep 0] } }) : wpAny (model prog w) A (pyIter (.ref d)) Q E s := by
  refine wpAny_pyIter_slot hT F.slot_dict_iter (wpAny_call_entry F.slot_dict_iter hT F.entry_dict_iter ?_ (F.args_dict_iter_1 _))
  unfold Builtin.«dict.__iter__» Builtin.Dict.dictSlotNone
  refine wpAny_bind (wpAny_bind (wpAny_notOrdered_dict hT ?_))
  refine wpAny_pure ?_
  show wpAny _ _ (Builtin.Dict.showsAll d >>= _) _ _ s
  unfold Builtin.Dict.showsAll
  rw [if_neg (by rw [hd]; exact Bool.false_ne_true)]
  refine wpAny_bind (wpAny_pure (wpAny_bind (wpAny_dictEntries ho hdat (wpAny_bind (wpAny_dictEpoch ho hdat ?_)))))
  refine wpAny_bind (wpAny_newObj_type (wpAny_pure ⟨_, rfl, "dict_keyiterator", _, ⟨_, Heap.get?_push_size _ rfl, rfl⟩, F.slot_dict_keyiterator_next.lookup, ?_⟩))
  simpa [rawInt] using hQ
theorem keyNext {it d : Addr} {i ep : Nat} {od : Obj} {es : Array DictEntry} {e : DictEntry} {Q : Option Value → Shared → Prop} (hit : s.heap.IsKeyIter it d i es.size ep) (hod : s.heap.get? d = some od) (hdd : od.data = .dict es ep) (he : es[i]? = some e)
    (hQ : ∀ h', h'.IsKeyIter it d (i + 1) es.size ep → Heap.SameBut it s.heap h' → Q (some e.key) { s with heap := h' }) : wpAny (model prog w) A (pyNext (.ref it)) Q E s := by
  obtain ⟨o, ho, hc, hd⟩ := id hit
  unfold pyNext
  refine wpAny_bind (wpAny_attempt (wpAny_callSpecial?_slot (name := Str.ofString "__next__") hit.typeIs F.slot_dict_keyiterator_next
    (wpAny_call_entry F.slot_dict_keyiterator_next hit.typeIs F.entry_dict_keyiterator_next ?_ (F.args_dict_keyiterator_next_1 _))))
  refine wpAny_bind (wpAny_pure (wpAny_bind (wpAny_bind ?_)))
  first | refine wpAny_bind (wpAny_typeNameOfWhole_keyiter hit.typeIs (wpAny_pure ?_)) | refine wpAny_bind (wpAny_typeNameOf_keyiter hit.typeIs (wpAny_pure ?_))
  refine wpAny_bind (wpAny_fieldsOf ho hd ?_)
  simp only [show Builtin.Dict_items.ownsTuple "dict_keyiterator" = false from by decide, Bool.false_eq_true, if_false]
  show wpAny _ _ (if (Value.ref d == Value.none) = true then _ else _) _ _ s
  rw [if_neg (show ¬ ((Value.ref d == Value.none) = true) from Bool.false_ne_true)]
  refine wpAny_bind (wpAny_pure (wpAny_bind (wpAny_dictEntries hod hdd ?_)))
  rw [if_neg (by simp)]
  refine wpAny_bind (wpAny_pure (wpAny_bind (wpAny_dictEpoch hod hdd ?_)))
  rw [if_neg (by simp)]
  refine wpAny_pure ?_
  simp only [show ¬ ((i : Int) < 0) from by omega, if_false, Int.toNat_natCast, he]
  refine wpAny_bind ?_
  first | refine wpAny_bind (wpAny_typeNameOfWhole_keyiter hit.typeIs (wpAny_pure ?_)) | refine wpAny_bind (wpAny_typeNameOf_keyiter hit.typeIs (wpAny_pure ?_))
  refine wpAny_bind (wpAny_isOneOf_keyiter hit.typeIs ?_)
  show wpAny _ _ (setField (.ref it) 1 (rawInt ((i : Int) + 1)) >>= _) _ _ s
  refine wpAny_bind (wpAny_setField ho hd (by simp) ?_)
  have hit' : (s.heap.update it (Obj.mapFields (·.setIfInBounds 1 (rawInt ((i : Int) + 1))))).IsKeyIter it d (i + 1) es.size ep :=
    ⟨_, Heap.get?_update_self _ ho (Obj.isFreed_of_fields (Obj.data_mapFields hd _)), (Obj.cls_mapFields ..).trans hc, by rw [Obj.data_mapFields hd]; simp [rawInt]⟩
  refine wpAny_bind (wpAny_holding ?_)
  refine wpAny_bind (wpAny_isOneOf_keyiter (s := { s with heap := s.heap.update it (Obj.mapFields (·.setIfInBounds 1 (rawInt ((i : Int) + 1)))) }) hit'.typeIs ?_)
  show wpAny _ _ (pure e.key) _ _ _
  exact wpAny_pure (wpAny_pure ⟨_, rfl, wpAny_pure (hQ _ hit' (Heap.SameBut.update ..))⟩)
theorem keyEnd {it d : Addr} {i ep : Nat} {od : Obj} {es : Array DictEntry} {Q : Option Value → Shared → Prop} (hh : A.handled = none) (hit : s.heap.IsKeyIter it d i es.size ep) (hod : s.heap.get? d = some od) (hdd : od.data = .dict es ep) (hge : es.size ≤ i)
    (hQ : ∀ h', Heap.ExtBut it s.heap h' → Q none { s with heap := h' }) : wpAny (model prog w) A (pyNext (.ref it)) Q E s := by
  obtain ⟨o, ho, hc, hd⟩ := id hit
  unfold pyNext
  refine wpAny_bind (wpAny_attempt (wpAny_callSpecial?_slot (name := Str.ofString "__next__") hit.typeIs F.slot_dict_keyiterator_next
    (wpAny_call_entry F.slot_dict_keyiterator_next hit.typeIs F.entry_dict_keyiterator_next ?_ (F.args_dict_keyiterator_next_1 _))))
  refine wpAny_bind (wpAny_pure (wpAny_bind (wpAny_bind ?_)))
  first | refine wpAny_bind (wpAny_typeNameOfWhole_keyiter hit.typeIs (wpAny_pure ?_)) | refine wpAny_bind (wpAny_typeNameOf_keyiter hit.typeIs (wpAny_pure ?_))
  refine wpAny_bind (wpAny_fieldsOf ho hd ?_)
  simp only [show Builtin.Dict_items.ownsTuple "dict_keyiterator" = false from by decide, Bool.false_eq_true, if_false]
  show wpAny _ _ (if (Value.ref d == Value.none) = true then _ else _) _ _ s
  rw [if_neg (show ¬ ((Value.ref d == Value.none) = true) from Bool.false_ne_true)]
  refine wpAny_bind (wpAny_pure (wpAny_bind (wpAny_dictEntries hod hdd ?_)))
  rw [if_neg (by simp)]
  refine wpAny_bind (wpAny_pure (wpAny_bind (wpAny_dictEpoch hod hdd ?_)))
  rw [if_neg (by simp)]
  refine wpAny_pure ?_
  simp only [show ¬ ((i : Int) < 0) from by omega, if_false, Int.toNat_natCast, Array.getElem?_eq_none hge]
  refine wpAny_bind ?_
  first | refine wpAny_bind (wpAny_typeNameOfWhole_keyiter hit.typeIs (wpAny_pure ?_)) | refine wpAny_bind (wpAny_typeNameOf_keyiter hit.typeIs (wpAny_pure ?_))
  show wpAny _ _ (setField (.ref it) 0 .none >>= _) _ _ s
  refine wpAny_bind (wpAny_setField ho hd (by simp) ?_)
  show wpAny _ _ (newExc (.type "StopIteration") [] >>= _) _ _ _
  refine wpAny_bind ?_
  simp only [newExc, newTuple]
  refine wpAny_bind (wpAny_newObj_type ?_ (by size_fits))
  refine wpAny_bind (m := firstArgMember _ _) (wpAny_of_eq (a := Value.none) (by first | rfl | (simp only [firstArgMember]; rfl)) ?_)
  refine wpAny_newObj_type ?_ (by size_fits)
  simp only [raiseNew]
  refine wpAny_bind (wpAny_handled ?_)
  rw [show A.in1.handled = none from hh]
  refine wpAny_bind (wpAny_pure (wpAny_throw ?_))
  refine wpAny_bind (wpAny_isInstance (T := "StopIteration") (b := true) ⟨_, Heap.get?_push_size _ rfl, rfl⟩ isSubtype_stop ?_)
  exact wpAny_pure (hQ _ (((Heap.SameBut.update ..).extBut.push _).push _))
end
end L2
end
section
set_option Elab.async false
set_option maxRecDepth 100000
namespace L2
open PySem PySem.Spec PyProof.Rows

section
variable {X : Cx} {pins : List (Addr × Obj)} {σ : St} {H : Hp} {s : Shared} {a : Addr} {u : HO} {o : Obj}
theorem Inv.freeze (I : Inv X pins σ H s) (e : H a = some u) (mu : Mut (some u)) (ho : s.heap.get? a = some o) : Inv X pins σ (upd H a (.frz o u)) s := by
  have nown : ∀ c y, H c = some (.own y) → c ≠ a := fun c y r z => by subst z; rw [r] at e; cases e; exact mu
  have ntup : ∀ c xs, H c = some (.tup xs) → c ≠ a := fun c xs r z => by subst z; rw [r] at e; cases e; exact mu
  exact I.write (t' := s.toks) (h' := s.heap) (x := a) (e := a) (by rw [e]; exact mu) (.inl rfl) (fun _ _ _ q => q) ⟨o, ho⟩
    ⟨ho, (I.hok a u e).stay (fun _ _ _ q => q) (fun b q => by rw [upd_ne (nown b a q)]; exact q) fun b xs q => by rw [upd_ne (ntup b xs q)]; exact q⟩
theorem Inv.frozen (I : Inv X pins σ H s) (e : H a = some (.frz o u)) : s.heap.get? a = some o := (I.hok a _ e).1
theorem Inv.obj (I : Inv X pins σ H s) (e : H a = some u) : ∃ o, s.heap.get? a = some o := by
  have l := (I.hok a u e).lt
  cases u with
  | lst xs => obtain ⟨_, _, _, _, q⟩ := I.hok a _ e; exact ⟨_, q⟩
  | dK kvs => obtain ⟨_, _, _, _, o, _, _, q, _⟩ := I.hok a _ e; exact ⟨_, q⟩
  | dT kvs => obtain ⟨_, _, _, _, o, _, _, q, _⟩ := I.hok a _ e; exact ⟨_, q⟩
  | tup xs => obtain ⟨_, _, _, o, q, _⟩ := I.hok a _ e; exact ⟨_, q⟩
  | set S n => obtain ⟨o, _, _, _, q, _⟩ := I.hok a _ e; exact ⟨_, q⟩
  | ins C dx fs => obtain ⟨_, _, _, q, _⟩ := I.hok a _ e; exact ⟨_, q⟩
  | own y => obtain ⟨_, q⟩ := I.hok a _ e; exact ⟨_, q⟩
  | xd fs => obtain ⟨_, ⟨_, _, _, q, _⟩, _⟩ := I.hok a _ e; exact ⟨_, q⟩
  | rng lo hi => obtain ⟨_, _, _, q⟩ := I.hok a _ e; exact ⟨_, q⟩
  | frz ob u => obtain ⟨q, _⟩ := I.hok a _ e; exact ⟨_, q⟩
  | tbl ps => exact ⟨_, I.hok a _ e⟩
  | met f y => exact ⟨_, I.hok a _ e⟩
  | ext φ => obtain ⟨_, q, _⟩ := I.hok a _ e; exact q
end
section
variable {X : Cx} {e : Expr} {te : TE} {pos : Pos}
def tRetF (te : TE) : TS := fun D σ H => te σ H fun x H1 => match x with
  | .ref a => (∃ u, H1 a = some u ∧ Mut (some u) ∧ ∀ o, D.rt (.ref a) (upd H1 a (.frz o u))) ∨ D.rt (.ref a) H1
  | x => D.rt x H1
theorem s_retF (he : PE X e te) : PS X (.Return (some e) pos) (tRetF te) := by
  intro pins s σ H D I h
  refine wpAny_Return_some (thn (he pins s σ H _ I h) fun v s1 ⟨x, H1, I1, r1, q1⟩ => ?_)
  cases x with
  | ref a =>
    rcases q1 with ⟨u, e, mu, q⟩ | q
    · obtain ⟨o, ho⟩ := I1.obj e
      exact ⟨.ref a, σ, _, I1.freeze e mu ho, r1, q o⟩
    · exact ⟨.ref a, σ, H1, I1, r1, q⟩
  | _ => exact ⟨_, σ, H1, I1, r1, q1⟩
end

abbrev KeysAt (H : Hp) : List (List Key × V) → List Addr → Prop := Paired fun p b => H b = some (.tup (p.1.map kV))
def Itk (a : Addr) (o : Obj) (xs : List V) : It :=
  ⟨fun i H => i < xs.length ∧ ∃ u, H a = some (.frz o u), fun i H x H' => H' = H ∧ xs[i]? = some x, fun i H => xs.length ≤ i ∧ ∃ u, H a = some (.frz o u)⟩
theorem it_keys (a : Addr) (o : Obj) (xs : List V) : ItOk (Itk a o xs) xs fun H => ∃ u, H a = some (.frz o u) :=
  ⟨fun _ h => ⟨Nat.le_refl _, h⟩, fun _ _ h hi => ⟨hi, h⟩, fun _ _ _ _ _ _ y => y⟩
theorem turn_keys {P : Program} {w : World} {K : PySem.W.Frag} {tg : Expr} {a it : Addr} {o : Obj} {es : Array DictEntry} {ep : Nat} {xs : List V} (hd : o.data = .dict es ep) (rel : Vals xs (es.toList.map (·.key))) :
    Turn P w K tg (Itk a o xs) [it] it (fun i h => h.IsKeyIter it a i es.size ep) where
  mem := by simp
  obj := fun i h st b hb => by
    have e : b = it := by simpa using hb
    subst e
    obtain ⟨o, e, c, d⟩ := st
    exact ⟨o, e, fun v z => by rw [d] at z; cases z⟩
  keep := fun i h h' st k => st.at fun o e => k it (by simp) o e
  item := by
    intro X hP hw hK hc i pins s σ H E I hf st hg
    subst hP hw hK
    obtain ⟨hi, u, hu⟩ := hg
    have hx : xs[i]? = some xs[i] := by simp [hi]
    obtain ⟨v, hv, rv⟩ := rel.get hx
    obtain ⟨e, he, ev⟩ : ∃ e, es[i]? = some e ∧ e.key = v := by
      rw [List.getElem?_map] at hv
      obtain ⟨e, h1, h2⟩ := Option.map_eq_some_iff.mp hv
      exact ⟨e, by simpa using h1, h2⟩
    obtain ⟨f0, f1, f2, f3, f4, f5⟩ := hf it (by simp)
    refine keyNext st (I.frozen hu) hd he fun h' st' sb => ?_
    have I1 : Inv X pins σ H { s with heap := h' } := I.turned (t' := s.toks) (fun b o hb e => (sb.2 b hb).trans e) f0 f1 f3 f4 f5
    refine ⟨e.key, rfl, letGo_keyiter st' ⟨xs[i], H, I1, by rw [ev]; exact rv, ⟨rfl, hx⟩, st', fun b hb => (hf b hb).1⟩⟩
  done := by
    intro X hP hw hK hc i pins s σ H E I hf st hg
    subst hP hw hK
    obtain ⟨hi, u, hu⟩ := hg
    have hl : es.size ≤ i := by
      have := rel.length
      simp at this
      omega
    obtain ⟨f0, f1, f2, f3, f4, f5⟩ := hf it (by simp)
    exact keyEnd (I.ok.hd hc) st (I.frozen hu) hd hl fun h' eb => ⟨rfl, I.turned (t' := s.toks) (fun b o hb e => eb b o hb e) f0 f1 f3 f4 f5⟩
  self := fun _ _ _ _ _ st h => wpAny_pyIter_keyiter st h

section
variable {X : Cx} {tg : Expr}
def iLstD (K : PySem.W.Frag) (tl : TE) : TI := fun σ H R => tl σ H fun x H1 => match x with
  | .ref a => ((∃ xs, SqL K H1 a xs) ∧ R (Itl K a) H1) ∨ (∃ o kvs, H1 a = some (.frz o (.dT kvs)) ∧ ∀ bs, KeysAt H1 kvs bs → R (Itk a o (bs.map V.ref)) H1) ∨
      ∃ o kvs, H1 a = some (.frz o (.dK kvs)) ∧ R (Itk a o (kvs.map fun p => kV p.1)) H1
  | _ => False
theorem keys_tup {H : Hp} {kvs : List (List Key × V)} {xs : List (List Key × Addr × Value)} (r : KT H kvs xs) : KeysAt H kvs (xs.map (·.2.1)) := by
  induction r with
  | nil => exact .nil
  | cons h _ ih => exact .cons h.2.1 ih
theorem keys_mix {P : Program} {w : World} {kvs : List (Key × V)} : ∀ {es : List DictEntry} {vs : List (Key × Value)}, KV kvs vs → Pairs (mixKind P w) es vs → Vals (kvs.map fun p => kV p.1) (es.map (·.key)) := by
  intro es vs r q
  unfold KV at r
  induction r generalizing es with
  | nil => cases q; exact .nil
  | @cons p v ps vs' h t ih =>
    cases q with
    | cons h1 h2 h3 =>
      refine .cons ?_ (ih h3)
      dsimp only
      rw [h.1]
      rcases keyIs_shape h1 with ⟨i, t, e1, e2⟩ | ⟨x, t, e1, e2⟩
      · rw [e1, e2]; exact ⟨t, rfl⟩
      · rw [e1, e2]; exact ⟨t, rfl⟩
theorem pi_lstD {l : Expr} {tl : TE} (hl : PE X l tl) : PI X tg l (iLstD X.K tl) := by
  intro pins s σ H R I h
  refine thn (hl pins s σ H _ I h) fun v s1 ⟨x, H1, I1, r1, q1⟩ => ?_
  dsimp only at q1
  split at q1
  · rename_i a
    cases r1
    rcases q1 with ⟨⟨xs, hq⟩, q⟩ | ⟨o, kvs, hq, q⟩ | ⟨o, kvs, hq, q⟩
    · obtain ⟨its, rv, p, hz⟩ := I1.list hq
      refine wpAny_pyIter_list p.isList ?_
      refine ⟨s1.heap.objs.size, [s1.heap.objs.size], _, _, H1, rfl, I1.kept (t' := s1.toks) fun b o e => Heap.get?_push_of_some _ e, turn_list a _, ⟨_, Heap.get?_push_size _ rfl, rfl, rfl⟩, fun b hb => ?_, q⟩
      have e : b = s1.heap.objs.size := by simpa using hb
      subst e
      exact I1.fpOk (Nat.le_refl _) (I1.hok.fresh (Nat.le_refl _))
    · have ho := I1.frozen hq
      obtain ⟨_, z, hd, xs, r, o', es, ep, h1, h2, h3, h4, h5⟩ := I1.hok a _ hq
      rw [ho] at h1; cases h1
      have hT : s1.TypeIs (.ref a) "dict" := let ⟨_, _, _, _, dd⟩ := dt_rd I1.hok (.inr ⟨o, hq⟩); dd.typeIs
      have rel : Vals ((xs.map (·.2.1)).map V.ref) (es.toList.map (·.key)) := by
        rw [h4]
        clear h4 h5 r
        induction xs with
        | nil => exact .nil
        | cons x xs ih => exact .cons rfl ih
      refine keyIter hd hT ho h3 ?_
      refine ⟨s1.heap.objs.size, [s1.heap.objs.size], _, _, H1, rfl, I1.kept (t' := s1.toks) fun b o e => Heap.get?_push_of_some _ e, turn_keys h3 rel, ⟨_, Heap.get?_push_size _ rfl, rfl, rfl⟩, fun b hb => ?_, q _ (keys_tup r)⟩
      have e : b = s1.heap.objs.size := by simpa using hb
      subst e
      exact I1.fpOk (Nat.le_refl _) (I1.hok.fresh (Nat.le_refl _))
    · have ho := I1.frozen hq
      obtain ⟨_, z, hd, vs, r, o', es, ep, h1, h2, h3, h4, h5, h6⟩ := I1.hok a _ hq
      rw [ho] at h1; cases h1
      have hT : s1.TypeIs (.ref a) "dict" := let ⟨_, _, _, _, dd⟩ := dk_rd I1.hok (.inr ⟨o, hq⟩); dd.typeIs
      refine keyIter hd hT ho h3 ?_
      refine ⟨s1.heap.objs.size, [s1.heap.objs.size], _, _, H1, rfl, I1.kept (t' := s1.toks) fun b o e => Heap.get?_push_of_some _ e, turn_keys h3 (keys_mix r h5), ⟨_, Heap.get?_push_size _ rfl, rfl, rfl⟩, fun b hb => ?_, q⟩
      have e : b = s1.heap.objs.size := by simpa using hb
      subst e
      exact I1.fpOk (Nat.le_refl _) (I1.hok.fresh (Nat.le_refl _))
  · exact q1.elim
end
end L2
end
section
set_option Elab.async false
set_option maxRecDepth 100000
namespace L2
open PySem PySem.Spec PyProof.Rows

section
variable {X : Cx} {pos : Pos}
def rDGet : R2 := fun x y H Q => ∃ a v, x = .ref a ∧ DGet H a y (some v) ∧ Q v H
def rDIn : R2 := fun y x H Q => ∃ a o, x = .ref a ∧ DGet H a y o ∧ Q (.bl o.isSome) H
def rDNotIn : R2 := fun y x H Q => ∃ a o, x = .ref a ∧ DGet H a y o ∧ Q (.bl (!o.isSome)) H
def rDPut : V → V → V → Hp → (Hp → Prop) → Prop := fun o i v H Q => ∃ a H', o = .ref a ∧ DPut H a i v H' ∧ Q H'
theorem ix_dict (hu : X.A.units + 64 < cLine) : IxR X rDGet := by
  intro value slice pins s σ H x y v u Q I rx ry ⟨a, z, ex, g, q⟩ hs
  subst ex
  obtain rfl : v = Value.ref a := rx
  have hT := dict_typeIs I g
  unfold subscriptTail
  refine wpAny_bind ?_
  rw [getitemInPython_of_ne hT.not_modules]
  refine wpAny_bind (wpAny_specialOf hT PySem.F.slot_dict_getitem.lookup ?_)
  have fin : wpAny (model X.prog X.w) X.A (subscripted slice false (.ref a) u) (fun r s₃ => wpAny (model X.prog X.w) X.A (letTemporaryGo value (.ref a) r >>= fun _ => pure r) (EP X pins σ Q) X.xe s₃) X.xe s := by
    rw [hs]
    exact wpAny_operating (d_getItem (by omega) I g ry fun w' s3 I3 rw' => wpAny_bind (wpAny_letTemporaryGo (wpAny_pure ⟨z, H, I3, rw', q⟩)))
  first
    | exact wpAny_pure (wpAny_bind fin)
    | exact wpAny_bind (wpAny_pure (wpAny_bind fin))
    | exact wpAny_bind fin
theorem op_inDict (hu : X.A.units + 64 < cLine) : OpR X (compareOp .In) rDIn := by
  intro pins s σ H y x u v Q I ry rx ⟨a, o, ex, g, q⟩
  subst ex
  obtain rfl : v = Value.ref a := rx
  exact d_in (by omega) I g ry fun s3 I3 => ⟨.bl o.isSome, H, I3, rfl, q⟩
theorem op_notInDict (hu : X.A.units + 64 < cLine) : OpR X (compareOp .NotIn) rDNotIn := by
  intro pins s σ H y x u v Q I ry rx ⟨a, o, ex, g, q⟩
  subst ex
  obtain rfl : v = Value.ref a := rx
  exact d_notIn (by omega) I g ry fun s3 I3 => ⟨.bl (!o.isSome), H, I3, rfl, q⟩
theorem set_dict (hu : X.A.units + 64 < cLine) : PSet X rDPut := by
  intro pins s σ H o i v ov iv u Q I ro ri rv ⟨a, H', eo, g, q⟩
  subst eo
  obtain rfl : ov = Value.ref a := ro
  exact d_setItem (by omega) I g ri rv fun s4 I4 => ⟨H', I4, q⟩
def rIxD : R2 := fun x y H Q => rIxU x y H Q ∨ rDGet x y H Q
def rSetD : V → V → V → Hp → (Hp → Prop) → Prop := fun o i v H Q => rSetU o i v H Q ∨ rDPut o i v H Q
theorem ix_atD {a b : Expr} {ta tb : TE} (hu : X.A.units + 64 < cLine) (ha : PE X a ta) (hb : PE X b tb) (hs : ∀ o i, subscripted b false o i = operate [o, i] (getItem o i) := by intro _ _; kernel_rfl) : PE X (.Subscript a b pos) (tOp rIxD ta tb) :=
  pe_ix (ixU.or (ix_dict hu)) ha hb hs
theorem g_subD {o i : Expr} {to ti : TE} (hu : X.A.units + 64 < cLine) (ho : PE X o to) (hi : PE X i ti) (ha : ∀ v, assign (.Subscript o i pos) X.env v = (do
      let ov ← holding [v] (eval o X.env)
      let iv ← holding [v, ov] (eval i X.env)
      standAt pos
      holding [v, ov, iv] (setItem ov iv v)
      release [v, ov, iv] []) := by intro _; kernel_rfl) : PG X (.Subscript o i pos) (gSub to ti rSetD) :=
  pg_sub ho hi (fun pins s σ H o i v ov iv u Q I ro ri rv q => by
    rcases q with q | q
    · exact setU pins s σ H o i v ov iv u Q I ro ri rv q
    · exact set_dict hu pins s σ H o i v ov iv u Q I ro ri rv q) ha

end
section
variable {prog : Program} {w : World} {A : Around} {E : Value → Shared → Prop} {s : Shared}
theorem truthy_entries {d : Addr} {o : Obj} {es : Array DictEntry} {ep : Nat} {Q : Bool → Shared → Prop} (hd : (d == sysModules) = false) (hT : s.TypeIs (.ref d) "dict") (ho : s.heap.get? d = some o) (hdat : o.data = .dict es ep) (hfit : (es.size : Int) < 2 ^ 63)
    (h : Q (decide (es.size ≠ 0)) { s with toks := s.toks + 1 + 1 }) : wpAny (model prog w) A (truthy (.ref d)) Q E s := by
  have hne : ((es.size : Int) != 0) = decide (es.size ≠ 0) := by
    by_cases z : es.size = 0
    · simp [z]
    · simp [z]
  have len1 : MeetsIn prog w (Builtin.«dict.__len__» ⟨[.ref d], []⟩) (fun _ R s => s.heap.get? d = some o ∧ R (.ok (.ret (.int es.size s.toks))) { s with toks := s.toks + 1 }) :=
    .of_wp fun A R s ⟨ho, h⟩ => by
      show wpAny _ _ (dictSize d >>= _) _ _ s
      unfold dictSize
      refine wpAny_bind (wpAny_bind (wpAny_dictEntries ho hdat (wpAny_pure ?_)))
      show wpAny _ _ (Builtin.Dict.pendingCount d >>= _) _ _ s
      refine wpAny_bind (wpAny_pendingCount_other hd ?_)
      refine wpAny_ret_mkInt ?_
      rw [Nat.add_zero]; exact h
  have key : wpAny (model prog w) A (runValue (.builtin "len" ⟨[.ref d], []⟩)) (fun r s' => r = .int es.size (s.toks + 1) ∧ Q (decide (es.size ≠ 0)) s') E s := by
    refine wpAny_runValue (codeAny_builtin entry_len ?_)
    rw [Around.under_plainId plain_len _]
    unfold Builtin.«len»
    refine wpAny_bind (m := oneArg "len" _) (wpAny_pure ?_)
    refine wpAny_bind (m := callSpecial? (.ref d) (Str.ofString "__len__")) (wpAny_callSpecial?_slot (name := Str.ofString "__len__") hT F.slot_dict_len
      (call_meetsIn F.slot_dict_len hT F.entry_dict_len (F.args_dict_len_1 _) len1 ⟨ho, ?_⟩))
    show wpAny _ _ _ _ _ { s with toks := s.toks + 1 }
    refine wpAny_bind (wpAny_holding (wpAny_pure ?_))
    refine wpAny_bind (wpAny_letGo ?_)
    show wpAny _ _ (if ((es.size : Nat) : Int) < 0 then _ else _) _ _ _
    rw [if_neg (by omega)]
    show wpAny _ _ (if ((es.size : Nat) : Int) ≥ 2 ^ 63 then _ else _) _ _ _
    rw [if_neg (by omega)]
    exact wpAny_bind (wpAny_mkInt (wpAny_pure ⟨rfl, h⟩))
  unfold truthy
  first
    | refine wpAny_bind (wpAny_callSpecial?_none (name := Str.ofString "__bool__") hT noBool_dict ?_)
    | refine wpAny_bind (wpAny_pure (wpAny_bind (wpAny_callSpecial?_none (name := Str.ofString "__bool__") hT noBool_dict ?_)))
  first
    | refine wpAny_bind (wpAny_specialOf (name := Str.ofString "__len__") hT F.slot_dict_len.lookup ?_)
    | refine wpAny_bind (wpAny_pure (wpAny_bind (wpAny_specialOf (name := Str.ofString "__len__") hT F.slot_dict_len.lookup ?_)))
  first
    | exact wpAny_bind (wpAny_mono key (fun r s' h' => by obtain ⟨rfl, hq⟩ := h'; exact wpAny_pure (hne ▸ hq)) fun _ _ e => e)
    | exact wpAny_bind (wpAny_pure (wpAny_bind (wpAny_mono key (fun r s' h' => by obtain ⟨rfl, hq⟩ := h'; exact wpAny_pure (hne ▸ hq)) fun _ _ e => e)))
end
section
variable {X : Cx} {pins : List (Addr × Obj)} {σ : St} {H : Hp} {s : Shared} {a : Addr} {A : Around} {E : Value → Shared → Prop}
theorem d_truthT {kvs : List (List Key × V)} {Q : Bool → Shared → Prop} (I : Inv X pins σ H s) (e : Rd H a (.dT kvs)) (h : ∀ s', Inv X pins σ H s' → Q (!kvs.isEmpty) s') : wpAny (model X.prog X.w) A (truthy (.ref a)) Q E s := by
  obtain ⟨z, hd, xs, rel, dd⟩ := dt_rd I.hok e
  have hT : s.TypeIs (.ref a) "dict" := dd.typeIs
  obtain ⟨o, es, ep, h1, h2, h3, h4, _⟩ := dd
  have hl : es.size = kvs.length := by
    have := congrArg List.length h4
    simp at this
    rw [this, Paired.length rel]
  refine truthy_entries hd hT h1 h3 (by rw [hl]; rw [sizeLine_eq] at z; omega) ?_
  have q : decide (es.size ≠ 0) = !kvs.isEmpty := by rw [hl]; cases kvs <;> simp
  rw [q]
  exact h _ ((I.tok _).tok _)
end
section
variable {X : Cx} {pos : Pos}
def rTruD (_K : PySem.W.Frag) (x : V) (H : Hp) (Q : Bool → Hp → Prop) : Prop := match x with
  | .bl c => Q c H
  | .ref p => (∃ xs, H p = some (.lst xs) ∧ Q (!xs.isEmpty) H) ∨ (∃ kvs, Rd H p (.dK kvs) ∧ Q (!kvs.isEmpty) H) ∨ ∃ kvs, Rd H p (.dT kvs) ∧ Q (!kvs.isEmpty) H
  | _ => False
def tTruD (K : PySem.W.Frag) (t : TE) : TT := fun σ H Q => t σ H fun x H1 => rTruD K x H1 Q
theorem truD {pins : List (Addr × Obj)} {s : Shared} {σ : St} {H : Hp} {x : V} {v : Value} {Q : Bool → Hp → Prop} (I : Inv X pins σ H s) (rx : RelV x v) (q : rTruD X.K x H Q) :
    wpAny (model X.prog X.w) X.A (truthy v) (fun b s' => ∃ H', Inv X pins σ H' s' ∧ Q b H') X.xe s := by
  unfold rTruD at q
  split at q
  · exact tru_ok pins s σ H _ v Q I rx ⟨_, rfl, q⟩
  · rcases q with ⟨xs, h1, q⟩ | ⟨kvs, h1, q⟩ | ⟨kvs, h1, q⟩
    · exact tru_ok pins s σ H _ v Q I rx ⟨_, .inl ⟨xs, SqL.of h1, rfl⟩, q⟩
    · obtain rfl := (show v = Value.ref _ from rx)
      exact d_truth I h1 fun s' I' => ⟨H, I', q⟩
    · obtain rfl := (show v = Value.ref _ from rx)
      exact d_truthT I h1 fun s' I' => ⟨H, I', q⟩
  · exact q.elim
theorem t_truD {e : Expr} {t : TE} (h : PE X e t) (he : ∀ whole, isTrue e X.env whole = (do let v ← whole; standAt e.pos; holding [v] (truthy v)) := by intro _; kernel_rfl) : PT X e (tTruD X.K t) := by
  intro pins s σ H Q I hw
  exact isTrue_plain (thn (h pins s σ H _ I hw) fun v s1 ⟨x, H1, I1, r1, q1⟩ => truD I1 r1 q1) (he _)
end

section
variable {X : Cx} {o e : Expr} {es : List Expr} {to : TE} {t : TA} {apos : Pos}
end
end L2
end
section
set_option Elab.async false
set_option linter.all false
set_option maxRecDepth 100000
set_option maxHeartbeats 4000000
namespace L2
open PySem PySem.Spec PyProof.Rows
section
variable {X : Cx} {p pos : Pos} {a b e : Expr} {es : List Expr} {t : TA}
end
end L2
namespace Om
end Om
end
section
set_option Elab.async false
set_option maxRecDepth 100000
namespace Om
abbrev Stp := (Nat × Nat) × (Nat × Nat)
abbrev R2n := Nat → Nat → Prop
def St (rows : Rows) (x y : Nat) (s : Stp) : Prop :=
  s.1.1 < (rows.getD x []).length ∧ s.1.2 < (rows.getD y []).length ∧ (step rows x s.1.1).1 = (step rows y s.1.2).1 ∧ s.2 = ((step rows x s.1.1).2, (step rows y s.1.2).2)
def nextR (E : Nat → Nat → Stp → Prop) (R : R2n) : R2n := fun x' y' => ∃ x y s, R x y ∧ E x y s ∧ s.2 = (x', y')
def iterR (E : Nat → Nat → Stp → Prop) (R : R2n) : Nat → R2n
  | 0 => R
  | m + 1 => nextR E (iterR E R m)
def AllR (rows : Rows) : R2n := fun x y => x < rows.length ∧ y < rows.length
inductive Pth (rows : Rows) : Nat → List Nat → List Bool → Nat → Prop
  | nil {s : Nat} : s < rows.length → Pth rows 0 [] [] s
  | snoc {m : Nat} {t : List Nat} {w : List Bool} {p i : Nat} : Pth rows m t w p → i < (rows.getD p []).length → Pth rows (m + 1) (t ++ [i]) (w ++ (step rows p i).1) (step rows p i).2
section
variable {k n : Nat} {rows : Rows}
theorem CodeOk.stp (ok : CodeOk k n rows) {p i : Nat} (hi : i < (rows.getD p []).length) : p < rows.length ∧ (step rows p i).1.length = n ∧ (step rows p i).2 < rows.length := by
  by_cases hp : p < rows.length
  · have e : rows.getD p [] = rows[p] := by simp [List.getD_eq_getElem?_getD, hp]
    rw [e] at hi
    have e2 : step rows p i = rows[p][i] := by unfold step; rw [e]; simp [List.getD_eq_getElem?_getD, hi]
    rw [e2]
    have := ok.row _ (List.getElem_mem hp) _ (List.getElem_mem hi)
    exact ⟨hp, this.1, this.2⟩
  · have : rows.getD p [] = [] := by simp [List.getD_eq_getElem?_getD, List.getElem?_eq_none (Nat.le_of_not_lt hp)]
    rw [this] at hi
    simp at hi
theorem Pth.len {m : Nat} {t : List Nat} {w : List Bool} {p : Nat} (h : Pth rows m t w p) : t.length = m := by
  induction h with
  | nil => rfl
  | snoc _ _ ih => simp [ih]
theorem Pth.lt {m : Nat} {t : List Nat} {w : List Bool} {p : Nat} (ok : CodeOk k n rows) (h : Pth rows m t w p) : p < rows.length := by
  cases h with
  | nil h => exact h
  | snoc _ hi => exact (ok.stp hi).2.2
theorem Pth.inv {m : Nat} {t : List Nat} {w : List Bool} {p : Nat} (h : Pth rows (m + 1) t w p) : ∃ t1 w1 p1 i, Pth rows m t1 w1 p1 ∧ i < (rows.getD p1 []).length ∧ t = t1 ++ [i] ∧ w = w1 ++ (step rows p1 i).1 ∧ p = (step rows p1 i).2 := by
  cases h with
  | snoc h hi => exact ⟨_, _, _, _, h, hi, rfl, rfl, rfl⟩
theorem two_inv (ok : CodeOk k n rows) {m : Nat} {t t' : List Nat} {w : List Bool} {x y : Nat} (h : Pth rows (m + 1) t w x) (h' : Pth rows (m + 1) t' w y) :
    ∃ t1 t1' w1 x1 y1 s, Pth rows m t1 w1 x1 ∧ Pth rows m t1' w1 y1 ∧ St rows x1 y1 s ∧ s.2 = (x, y) ∧ t = t1 ++ [s.1.1] ∧ t' = t1' ++ [s.1.2] := by
  obtain ⟨t1, w1, p1, i, a1, a2, a3, a4, a5⟩ := h.inv
  obtain ⟨t2, w2, p2, j, b1, b2, b3, b4, b5⟩ := h'.inv
  have l1 := (ok.stp a2).2.1
  have l2 := (ok.stp b2).2.1
  have e : w1 ++ (step rows p1 i).1 = w2 ++ (step rows p2 j).1 := by rw [← a4, ← b4]
  obtain ⟨e1, e2⟩ := List.append_inj' e (by rw [l1, l2])
  subst e1
  exact ⟨t1, t2, w1, p1, p2, ((i, j), ((step rows p1 i).2, (step rows p2 j).2)), a1, b1, ⟨a2, b2, e2, rfl⟩, by rw [a5, b5], a3, b3⟩
theorem iter_iff (ok : CodeOk k n rows) : ∀ (m x y : Nat), iterR (St rows) (AllR rows) m x y ↔ ∃ t t' w, Pth rows m t w x ∧ Pth rows m t' w y
  | 0, x, y => by
    constructor
    · rintro ⟨hx, hy⟩
      exact ⟨[], [], [], .nil hx, .nil hy⟩
    · rintro ⟨t, t', w, h, h'⟩
      exact ⟨h.lt ok, h'.lt ok⟩
  | m + 1, x, y => by
    constructor
    · rintro ⟨x1, y1, s, h, e, es⟩
      obtain ⟨t, t', w, a, b⟩ := (iter_iff ok m x1 y1).mp h
      obtain ⟨e1, e2, e3, e4⟩ := e
      have c := Pth.snoc b e2
      rw [← e3] at c
      rw [e4] at es
      cases es
      exact ⟨_, _, _, a.snoc e1, c⟩
    · rintro ⟨t, t', w, h, h'⟩
      obtain ⟨t1, t1', w1, x1, y1, s, a, b, e, es, _, _⟩ := two_inv ok h h'
      exact ⟨x1, y1, s, (iter_iff ok m x1 y1).mpr ⟨_, _, _, a, b⟩, e, es⟩
def Clash (rows : Rows) (b m : Nat) (x y : Nat) : Prop := ∃ t t' w, Pth rows m t w x ∧ Pth rows m t' w y ∧ t.getD b 0 ≠ t'.getD b 0
end
end Om
end
section
set_option Elab.async false
set_option linter.all false
set_option maxRecDepth 100000
set_option maxHeartbeats 4000000
namespace L2
open PySem PySem.Spec PyProof.Rows
def kk (p : Nat × Nat) : List Key := [.inl ((p.1 : Nat) : Int), .inl ((p.2 : Nat) : Int)]
theorem kk_inj {p q : Nat × Nat} (h : kk p = kk q) : p = q := by
  obtain ⟨a, b⟩ := p
  obtain ⟨c, d⟩ := q
  unfold kk at h
  simp at h
  obtain ⟨h1, h2⟩ := h
  have : a = c := by omega
  have : b = d := by omega
  subst_vars; rfl
structure KD (ks : List (Nat × Nat)) (kvs : List (List Key × V)) : Prop where
  keys : kvs.map (·.1) = ks.map kk
  nd : ks.Nodup
  lt : ∀ p ∈ ks, p.1 < 8 ∧ p.2 < 8
section
variable {ks : List (Nat × Nat)} {kvs : List (List Key × V)} {p : Nat × Nat} {v : V}
theorem KD.nil : KD [] [] := ⟨rfl, List.nodup_nil, by simp⟩
def all64 : List (Nat × Nat) := (List.range 8).flatMap fun x => (List.range 8).map fun y => (x, y)
theorem KD.le (h : KD ks kvs) : ks.length ≤ 64 := by
  have : ks ⊆ all64 := fun p hp => by
    obtain ⟨h1, h2⟩ := h.lt p hp
    unfold all64
    rw [List.mem_flatMap]
    exact ⟨p.1, List.mem_range.mpr h1, List.mem_map.mpr ⟨p.2, List.mem_range.mpr h2, rfl⟩⟩
  have := List.Nodup.length_le_of_subset h.nd this
  have e : all64.length = 64 := by decide +kernel
  omega
theorem KD.len (h : KD ks kvs) : kvs.length = ks.length := by
  have := congrArg List.length h.keys
  simpa using this
theorem KD.lt_line (h : KD ks kvs) : kvs.length < sizeLine := by
  rw [h.len, sizeLine_eq]; have := h.le; omega
theorem valV_isSome_iff : ∀ {kvs : List (List Key × V)} {k : List Key}, (valV kvs k).isSome = true ↔ k ∈ kvs.map (·.1)
  | [], k => by simp [valV_nil]
  | q :: r, k => by
    by_cases e : q.1 = k
    · rw [valV_pos e]; simp [e]
    · rw [valV_neg e, valV_isSome_iff]
      simp only [List.map_cons, List.mem_cons]
      constructor
      · exact fun h => .inr h
      · rintro (h | h)
        · exact absurd h.symm e
        · exact h
theorem KD.mem (h : KD ks kvs) : (valV kvs (kk p)).isSome = true ↔ p ∈ ks := by
  rw [valV_isSome_iff, h.keys, List.mem_map]
  constructor
  · rintro ⟨q, hq, e⟩; rw [← kk_inj e]; exact hq
  · exact fun h => ⟨p, h, rfl⟩
theorem KD.none (h : KD ks kvs) (n : p ∉ ks) : valV kvs (kk p) = none := by
  cases e : valV kvs (kk p) with
  | none => rfl
  | some v => exact absurd (h.mem.mp (by rw [e]; rfl)) n
theorem KD.put (h : KD ks kvs) (n : p ∉ ks) (l1 : p.1 < 8) (l2 : p.2 < 8) : KD (ks ++ [p]) (putK kvs (kk p) v) := by
  rw [putK_new v (h.none n)]
  refine ⟨by simp [h.keys], ?_, fun q hq => ?_⟩
  · rw [List.nodup_append]
    refine ⟨h.nd, by simp, fun a ha b hb => ?_⟩
    have : b = p := by simpa using hb
    subst this
    exact fun e => n (e ▸ ha)
  · rcases List.mem_append.mp hq with hq | hq
    · exact h.lt q hq
    · have : q = p := by simpa using hq
      subst this; exact ⟨l1, l2⟩
theorem KD.at (h : KD ks kvs) {i : Nat} (hi : i < ks.length) : ∃ v, kvs[i]? = some (kk ks[i], v) := by
  have hi' : i < kvs.length := by rw [h.len]; exact hi
  have e := congrArg (fun l => l[i]?) h.keys
  simp only [List.getElem?_map, List.getElem?_eq_getElem hi, List.getElem?_eq_getElem hi', Option.map_some] at e
  exact ⟨kvs[i].2, by rw [List.getElem?_eq_getElem hi', ← Option.some.inj e]⟩
theorem Paired.getP {α β : Type} {F : α → β → Prop} : ∀ {l₁ : List α} {l₂ : List β}, Paired F l₁ l₂ → ∀ {i : Nat} {a : α}, l₁[i]? = some a → ∃ b, l₂[i]? = some b ∧ F a b
  | _, _, .nil, _, _, e => by simp at e
  | _, _, .cons r _, 0, _, e => by simp at e; subst e; exact ⟨_, rfl, r⟩
  | _, _, .cons _ t, i + 1, _, e => by
    obtain ⟨b, h1, h2⟩ := Paired.getP t (i := i) (by simpa using e)
    exact ⟨b, by simpa using h1, h2⟩
theorem KD.key {H : Hp} {bs : List Addr} (h : KD ks kvs) (hb : KeysAt H kvs bs) {i : Nat} {x : V} (hi : i < ks.length) (hx : (bs.map V.ref)[i]? = some x) : ∃ b, x = .ref b ∧ H b = some (.tup ((kk ks[i]).map kV)) := by
  obtain ⟨v, hv⟩ := h.at hi
  obtain ⟨b, h1, h2⟩ := Paired.getP hb hv
  rw [List.getElem?_map, h1] at hx
  exact ⟨b, (Option.some.inj hx).symm, h2⟩
theorem KD.blen {H : Hp} {bs : List Addr} (h : KD ks kvs) (hb : KeysAt H kvs bs) : (bs.map V.ref).length = ks.length := by
  rw [List.length_map, ← Paired.length hb, h.len]
end
def sD (s : Om.Stp) : PyData := .tuple [pairD s.1, pairD s.2]
def StL (H : Hp) (l : Addr) (ss : List Om.Stp) : Prop := DV H (.ref l) (.list (ss.map sD))
theorem StL.mono {H H' : Hp} {l : Addr} {ss : List Om.Stp} (h : StL H l ss) (s : Same H H') : StL H' l ss := (show DV H (.ref l) (.list (ss.map sD)) from h).mono s
theorem sD_inv {H : Hp} {v : V} {s : Om.Stp} (h : DV H v (sD s)) : ∃ p a b, v = .ref p ∧ H p = some (.tup [.ref a, .ref b]) ∧ H a = some (.tup [.int (s.1.1 : Nat), .int (s.1.2 : Nat)]) ∧ H b = some (.tup [.int (s.2.1 : Nat), .int (s.2.2 : Nat)]) := by
  obtain ⟨p, xs, rfl, hp, hd⟩ := h.tup_inv
  cases hd with
  | cons h1 hd =>
    cases hd with
    | cons h2 hd =>
      cases hd
      obtain ⟨a, rfl, ha⟩ := pair_inv h1
      obtain ⟨b, rfl, hb⟩ := pair_inv h2
      exact ⟨p, a, b, rfl, hp, ha, hb⟩
structure Gd (G H0 H : Hp) (D : Addr) (kvs : List (List Key × V)) : Prop where
  s : Same G H
  s0 : Same H0 G
  gD : G D = none
  hD : H D = some (.dT kvs)
section
variable {G H0 H : Hp} {D p : Addr} {kvs : List (List Key × V)} {o : HO}
theorem Gd.start (h : H0 D = none) : Gd H0 H0 (upd H0 D (.dT [])) D [] := ⟨Same.upd h, Same.refl _, h, upd_same⟩
theorem Gd.all (g : Gd G H0 H D kvs) : Same H0 H := g.s0.trans g.s
theorem Gd.put (g : Gd G H0 H D kvs) (h : H p = none) : Gd (upd G p o) H0 (upd H p o) D kvs := by
  have pD : D ≠ p := ne_of_none g.hD h
  refine ⟨fun x u e => ?_, g.s0.trans (Same.upd (g.s.free h)), by rw [upd_ne pD]; exact g.gD, by rw [upd_ne pD]; exact g.hD⟩
  by_cases hx : x = p
  · subst hx; rw [upd_same] at e ⊢; exact e
  · rw [upd_ne hx] at e ⊢; exact g.s _ _ e
theorem Gd.up (g : Gd G H0 H D kvs) (h : H p = none) : Same G (upd G p o) := Same.upd (g.s.free h)
theorem Gd.set {kvs' : List (List Key × V)} (g : Gd G H0 H D kvs) : Gd G H0 (upd H D (.dT kvs')) D kvs' := by
  refine ⟨fun x u e => ?_, g.s0, g.gD, upd_same⟩
  have : x ≠ D := ne_of_none e g.gD
  rw [upd_ne this]; exact g.s _ _ e
theorem Gd.frz {ob : Obj} (g : Gd G H0 H D kvs) : Same G (upd H D (.frz ob (.dT kvs))) := fun x u e => by
  have : x ≠ D := ne_of_none e g.gD
  rw [upd_ne this]; exact g.s _ _ e
theorem Gd.free (g : Gd G H0 H D kvs) : H0 D = none := g.s0.free g.gD
theorem Gd.call {H' : Hp} (g : Gd G H0 H D kvs) (s : Same H H') : ∃ G', Gd G' H0 H' D kvs ∧ Same G G' ∧ ∀ x, x ≠ D → G' x = H' x := by
  refine ⟨fun x => if x = D then none else H' x, ⟨fun x u e => ?_, fun x u e => ?_, if_pos rfl, s _ _ g.hD⟩, fun x u e => ?_, fun x hx => if_neg hx⟩
  · by_cases hx : x = D
    · rw [if_pos hx] at e; cases e
    · rw [if_neg hx] at e; exact e
  · have hx : x ≠ D := ne_of_none (g.s0 _ _ e) g.gD
    show (if x = D then none else H' x) = some u
    rw [if_neg hx]; exact s _ _ (g.all _ _ e)
  · have hx : x ≠ D := ne_of_none e g.gD
    show (if x = D then none else H' x) = some u
    rw [if_neg hx]; exact s _ _ (g.s _ _ e)
end
end L2
end
section
set_option Elab.async false
set_option linter.all false
set_option maxRecDepth 100000
set_option maxHeartbeats 4000000
namespace L2
open PySem PySem.Spec PyProof.Rows
section
variable {X : Cx} {a : Expr} {p pos : Pos} {ta : TA}
def tRng1 (ta : TA) : TE := fun σ H Q => ta σ H fun vs H1 => match vs with
  | [.int j] => 0 ≤ j ∧ j < 2 ^ 24 ∧ ∀ q, H1 q = none → Q (.ref q) (upd H1 q (.rng 0 j))
  | _ => False
theorem e_rng1 {mg' : Str → Option Value} (hm : mg' "range" = none) (hX : X.mg = mg') (ha : PA X [a] ta) (hg : gB X "range" = true := by kernel_rfl) (hs : starEach [a] X.env = [(false, eval a X.env)] := by kernel_rfl) :
    PE X (.Call (.Name "range" p) [a] [] pos) (tRng1 ta) := by
  intro pins s σ H Q I h
  refine Call_ (ld_blt I (gl_of hg) (by rw [hX]; exact hm) boot_range (PyProof.Rows.callWith_type1 (thn (ha pos pins s σ H _ I h) fun us s1 ⟨vs, H1, I1, r1, q1⟩ => ?_) hs rfl))
  dsimp only at q1
  split at q1
  · obtain ⟨q1, q2, q⟩ := q1
    obtain ⟨u, rfl, t, rfl⟩ := vals1 r1
    refine call_range_1 ?_
    exact ⟨.ref s1.heap.objs.size, _, I1.laid (o := .rng 0 _) (fun _ _ q => Heap.get?_push_of_some _ q) (Nat.le_refl _) ⟨_, _, _, Heap.get?_push_size _ rfl⟩, rfl, q _ (I1.hok.fresh (Nat.le_refl _))⟩
  · exact q1.elim
def rListR : List V → Hp → VK → Prop := fun vs H Q => match vs with
  | [.ref p] => (∃ j : Nat, H p = some (.rng 0 j) ∧ j ≤ 2 ^ 24 ∧ ∀ l, H l = none → Q (.ref l) (upd H l (.lst ((List.range j).map fun i => V.int (i : Nat))))) ∨ rListOf vs H Q
  | _ => False
theorem vals_of : ∀ {xs : List V} {us : List Value}, xs.length = us.length → (∀ (i : Nat) (x : V) (u : Value), xs[i]? = some x → us[i]? = some u → RelV x u) → Vals xs us
  | [], [], _, _ => .nil
  | [], _ :: _, h, _ => by simp at h
  | _ :: _, [], h, _ => by simp at h
  | x :: xs, u :: us, h, r => .cons (r 0 x u rfl rfl) (vals_of (by simpa using h) fun i y v h1 h2 => r (i + 1) y v (by simpa using h1) (by simpa using h2))
theorem items_vals {acc : Array Value} {n : Nat} (h : ItemsOf (fun i v => ∃ t, v = .int (0 + (i : Nat) * 1) t) acc n) : Vals ((List.range n).map fun i => V.int (i : Nat)) acc.toList := by
  refine vals_of (by simp [h.1]) fun i x u hx hu => ?_
  have hu' : acc[i]? = some u := by simpa using hu
  obtain ⟨t, rfl⟩ := h.2 i u hu'
  rw [List.getElem?_map] at hx
  obtain ⟨j, h1, rfl⟩ := Option.map_eq_some_iff.mp hx
  have hj : j = i := by
    have hlt : i < n := by
      have := List.getElem?_eq_some_iff.mp h1
      obtain ⟨hl, _⟩ := this
      simpa using hl
    rw [List.getElem?_range hlt] at h1
    exact (Option.some.inj h1).symm
  subst hj
  exact ⟨t, by simp⟩
theorem call_listR (hc : X.calm = true) : CallR X (.type "list") rListR := by
  intro pins s σ H xs us Q I r h
  unfold rListR at h
  split at h
  · rcases h with ⟨j, hp, hj, q⟩ | h
    · obtain ⟨u, rfl, rx⟩ := vals1 r
      cases rx
      obtain ⟨t, u, v, e⟩ := I.hok _ _ hp
      refine call_list_range (I.ok.hd hc) e (small_one (by omega) (by omega) (by omega) (by omega)) (n := j) (by rw [rangeSize_one]; split <;> omega) hj fun h' tk acc' c' kp e' it => ?_
      have hv := items_vals it
      have hl : ((List.range j).map fun i => V.int (i : Nat)).length ≤ sizeLine := by rw [List.length_map, List.length_range, sizeLine_eq]; omega
      exact ⟨.ref s.heap.objs.size, _, I.laid (t' := tk) kp (Nat.le_refl _) (show ObjOk X.prog X.w _ h' _ (.lst _) from ⟨hl, acc'.toList, c', hv, by simpa using e'⟩), rfl, q _ (I.hok.fresh (Nat.le_refl _))⟩
    · exact call_listU pins s σ H _ us Q I r h
  · exact h.elim
theorem fn_listR {e : Expr} {es : List Expr} {t : TA} {mg' : Str → Option Value} (hm : mg' "list" = none) (hX : X.mg = mg') (ha : PA X (e :: es) t) (hc : X.calm = true := by kernel_rfl) (hg : gB X "list" = true := by kernel_rfl) (he : starEach (e :: es) X.env = (false, eval e X.env) :: starEach es X.env := by kernel_rfl) (hpl : (backTo pos (starEach es X.env)).any (·.1) = false := by kernel_rfl) :
    PE X (.Call (.Name "list" p) (e :: es) [] pos) (tCB rListR t) := pe_callTy (call_listR hc) (gl_of hg) (by rw [hX]; exact hm) PyProof.Rows.boot_list ha (he := he) (hpl := hpl)
end
end L2
end
section
set_option Elab.async false
set_option linter.all false
set_option maxRecDepth 100000
namespace L2
open PySem PySem.Spec PyProof.Rows
structure Lt (H H' : Hp) : Prop where
  l : ∀ a xs, H a = some (.lst xs) → H' a = some (.lst xs)
  t : ∀ a xs, H a = some (.tup xs) → H' a = some (.tup xs)
  d : ∀ a, H a = some (.dK []) → H' a = some (.dK [])
mutual
theorem DV.lt {H H' : Hp} (k : Lt H H') : ∀ {v : V} {d : PyData}, DV H v d → DV H' v d
  | _, _, .non => .non
  | _, _, .bl b => .bl b
  | _, _, .int i => .int i
  | _, _, .str x => .str x
  | _, _, .lst h r => .lst (k.l _ _ h) (DVs.lt k r)
  | _, _, .tup h r => .tup (k.t _ _ h) (DVs.lt k r)
  | _, _, .dic h => .dic (k.d _ h)
theorem DVs.lt {H H' : Hp} (k : Lt H H') : ∀ {vs : List V} {ds : List PyData}, DVs H vs ds → DVs H' vs ds
  | _, _, .nil => .nil
  | _, _, .cons h r => .cons (DV.lt k h) (DVs.lt k r)
end
theorem Lt.but {H G : Hp} {D : Addr} {kvs : List (List Key × V)} (hD : H D = some (.dT kvs)) (h : ∀ x, x ≠ D → G x = H x) : Lt H G :=
  ⟨fun a xs e => by rw [h a (ne_of e hD (fun z => nomatch z))]; exact e, fun a xs e => by rw [h a (ne_of e hD (fun z => nomatch z))]; exact e, fun a e => by rw [h a (ne_of e hD (fun z => nomatch z))]; exact e⟩
end L2
end
section
set_option Elab.async false
set_option linter.all false
set_option maxRecDepth 100000
namespace Om
abbrev Rw := List Nat × List Bool × Nat
def ext (rows : Rows) (r : Rw) : List Rw := (List.range (rows.getD r.2.2 []).length).map fun l => (r.1 ++ [l], r.2.1 ++ (step rows r.2.2 l).1, (step rows r.2.2 l).2)
section
variable {k n : Nat} {rows : Rows}
end
end Om
namespace L2
open PySem PySem.Spec PyProof.Rows
end L2
end
section
set_option Elab.async false
set_option linter.all false
set_option maxRecDepth 100000
set_option maxHeartbeats 4000000
namespace L2
open PySem PySem.Spec PyProof.Rows
section
variable {prog : Program} {w : World} {A : Around} {E : Value → Shared → Prop} {s : Shared}
theorem walksKeys (hh : A.handled = none) (I d : Addr) (hne : d ≠ I) {od : Obj} {es : Array DictEntry} {ep : Nat} (hdat : od.data = .dict es ep) :
    Walks prog w A I [I, d] [I] es.size (fun i v => ∃ e, es[i]? = some e ∧ v = e.key) (fun i h => h.IsKeyIter I d i es.size ep ∧ h.get? d = some od) where
  sub := fun b hb => by simp at hb; simp [hb]
  frame := fun _ _ _ st hk => ⟨st.1.at fun o e => hk I (by simp) o e, hk d (by simp) _ st.2⟩
  item := fun i s Q E hi st hQ => by
    have he : es[i]? = some es[i] := by simp [hi]
    refine keyNext st.1 st.2 hdat he fun h' hit' hs' => ?_
    exact hQ _ h' s.toks ⟨_, he, rfl⟩ ⟨hit', hs'.extBut d _ hne st.2⟩ fun b o hb e => hs'.extBut b o (fun h => hb (by simp [h])) e
  done := fun s Q E st hQ => keyEnd hh st.1 st.2 hdat (Nat.le_refl _) fun h' he' => hQ h' s.toks fun b o hb e => he' b o (fun h => hb (by simp [h])) e
  self := fun _ _ _ _ st hQ => wpAny_pyIter_keyiter st.1 hQ
theorem hint_dict {d : Addr} {Q : Bool → Shared → Prop} (hT : s.TypeIs (.ref d) "dict") (h : Q false s) : wpAny (model prog w) A (Builtin.List.listLengthHint (.ref d)) Q E s := by
  unfold Builtin.List.listLengthHint
  refine wpAny_bind (wpAny_specialOf hT F.slot_dict_len.lookup ?_)
  generalize hid : ("dict.__len__" : String) = id0
  wp_delta
  rw [show splitId id0 = some ("dict", "__len__") from by subst hid; decide +kernel]
  subst hid
  refine wpAny_bind (wpAny_isInstance (T := "dict") (b := true) hT (by rw [isSubtype_type]; kernel_rfl) ?_)
  refine wpAny_ite_split (fun hab => absurd hab (by decide)) (fun _ => ?_)
  refine wpAny_ite_split (fun _ => ?_) (fun hab => absurd (by decide +kernel) hab)
  refine wpAny_bind (wpAny_typeOf (T := "dict") hT ?_)
  exact wpAny_pure h
theorem extend_dict {R : Result → Shared → Prop} {d : Addr} {od : Obj} {es : Array DictEntry} {ep : Nat} (hh : A.handled = none) (hd : (d == sysModules) = false) (hT : s.TypeIs (.ref d) "dict") (ho : s.heap.get? d = some od) (hdat : od.data = .dict es ep) (hlen : es.size ≤ sizeLine) (S : Addr) (res : Value) (c₀ : Nat) (hS : s.heap.get? S = some { cls := .type "list", data := .seq #[] c₀ })
    (hR : ∀ h' tk acc' c', (∀ b o, b ≠ S → s.heap.get? b = some o → h'.get? b = some o) → h'.get? S = some { cls := .type "list", dict := none, data := .seq acc' c', slots := #[] } →
      ItemsOf (fun i v => ∃ e, es[i]? = some e ∧ v = e.key) acc' es.size → R (.ok (.ret res)) { s with heap := h', toks := tk }) :
    wpAny (model prog w) A.in1 (Builtin.List.listExtendWith (.ref S) (.ref d) res)
      (fun fin s' => match fin with | .done f => R (.ok f) s' | .again c' => c'.quiet = true ∧ codeAny (model prog w) A c' R s') (fun e s' => R (.error e) s') s := by
  have hSr : S ≠ d := fun e => by rw [e, ho] at hS; cases hS; cases hdat
  have hSlt : S < s.heap.objs.size := Heap.lt_size hS
  have hSI : S ≠ s.heap.objs.size := Nat.ne_of_lt hSlt
  have hdI : d ≠ s.heap.objs.size := Nat.ne_of_lt (Heap.lt_size ho)
  have hSf : S ∉ [s.heap.objs.size, d] := fun hm => by simp at hm; rcases hm with h | h; exact hSI h; exact hSr h
  have W := (walksKeys (prog := prog) (w := w) (A := A.in1) hh s.heap.objs.size d hdI hdat).toS
  unfold Builtin.List.listExtendWith
  refine wpAny_bind (wpAny_typeOf (T := "dict") hT ?_)
  have h1 : Builtin.List.listSameRef (.ref S) (.ref d) = false := by simp [Builtin.List.listSameRef, hSr]
  have h2 : (Value.type "dict" == Value.type "list") = false := by decide
  have h3 : (Value.type "dict" == Value.type "tuple") = false := by decide
  simp only [h1, h2, h3, Bool.or_false, Bool.false_eq_true, if_false]
  refine wpAny_bind (keyIter hd hT ho hdat ?_)
  have hT1 : (⟨s.heap.push { cls := .type "dict_keyiterator", data := .fields #[.ref d, .int 0 0, .int es.size 0, .int ep 0] }, s.gens, s.drawn, s.toks, s.os⟩ : Shared).TypeIs (.ref d) "dict" := by
    obtain ⟨o, e1, e2⟩ := hT
    exact ⟨o, Heap.get?_push_of_some _ e1, e2⟩
  refine wpAny_bind (wpAny_holding (hint_dict hT1 ?_))
  have hit₁ : (s.heap.push { cls := .type "dict_keyiterator", data := .fields #[.ref d, .int 0 0, .int es.size 0, .int ep 0] }).IsKeyIter s.heap.objs.size d 0 es.size ep := ⟨_, Heap.get?_push_size _ rfl, rfl, rfl⟩
  have hS₁ := Heap.get?_push_of_some { cls := .type "dict_keyiterator", data := .fields #[.ref d, .int 0 0, .int es.size 0, .int ep 0] } hS
  have hd₁ := Heap.get?_push_of_some { cls := .type "dict_keyiterator", data := .fields #[.ref d, .int 0 0, .int es.size 0, .int ep 0] } ho
  have key : ∀ (h : Heap) (c₁ tk : Nat), h.IsKeyIter s.heap.objs.size d 0 es.size ep → h.get? d = some od → (∀ b o, b ≠ S → s.heap.get? b = some o → h.get? b = some o) →
      h.get? S = some { cls := .type "list", data := .seq #[] c₁ } → codeAny (model prog w) A (.builtin "list.extend.loop" ⟨[.ref S, .ref s.heap.objs.size, res], []⟩) R { s with heap := h, toks := tk } := by
    intro h c₁ tk hit hdd hk hS₁
    refine codeAny_extend_loopS W hlen S hSf res es.size 0 _ #[] c₁ rfl (Nat.zero_le _) ⟨hit, hdd⟩ hS₁ (ItemsOf.nil _) fun s' acc' c' hm hS' hacc => ?_
    rw [Moved.eq_with hm]
    refine hR s'.heap s'.toks acc' c' (fun b o hb e => hm.heap b o (fun hmem => ?_) (hk b o hb e)) hS' hacc
    rcases List.mem_cons.mp hmem with e' | hmem
    · exact hb e'
    · exact absurd (Heap.lt_size e) (by rw [List.mem_singleton.mp hmem]; exact Nat.lt_irrefl _)
  refine wpAny_ite_split (fun _ => ?_) (fun _ => wpAny_pure ⟨plainId_quiet F.plain_extend_loop _, key _ c₀ _ hit₁ hd₁ (fun b o _ e => Heap.get?_push_of_some _ e) hS₁⟩)
  refine wpAny_bind (wpAny_rule ?_)
  refine wpAny_bind ?_
  show wpAny _ _ (updateSeq S (·.push .none) >>= fun _ => updateSeq S (·.pop)) _ _ _
  refine wpAny_bind (wpAny_updateSeq hS₁ rfl ?_)
  have hS₂ := Heap.get?_update_self (Obj.mapSeq (·.push Value.none)) hS₁ rfl
  refine wpAny_updateSeq (hz := by seq_fits) hS₂ rfl ?_
  have hS₃ := Heap.get?_update_self (Obj.mapSeq (·.pop)) hS₂ rfl
  refine wpAny_pure ⟨plainId_quiet F.plain_extend_loop _, key _ _ _ ?_ ?_ (fun b o hb e => ?_) hS₃⟩
  · exact hit₁.at fun o e => (Heap.get?_update_other _ _ hSI).trans ((Heap.get?_update_other _ _ hSI).trans e)
  · exact (Heap.get?_update_other _ _ hSr).trans ((Heap.get?_update_other _ _ hSr).trans hd₁)
  · exact (Heap.get?_update_other _ _ (Ne.symm hb)).trans ((Heap.get?_update_other _ _ (Ne.symm hb)).trans (Heap.get?_push_of_some _ e))
theorem call_list_dict {Q : Value → Shared → Prop} {d : Addr} {od : Obj} {es : Array DictEntry} {ep : Nat} (hh : A.handled = none) (hd : (d == sysModules) = false) (hT : s.TypeIs (.ref d) "dict") (ho : s.heap.get? d = some od) (hdat : od.data = .dict es ep) (hlen : es.size ≤ sizeLine)
    (hQ : ∀ h' tk acc' c', (∀ b o, s.heap.get? b = some o → h'.get? b = some o) →
      h'.get? s.heap.objs.size = some { cls := .type "list", dict := none, data := .seq acc' c', slots := #[] } → ItemsOf (fun i v => ∃ e, es[i]? = some e ∧ v = e.key) acc' es.size → Q (.ref s.heap.objs.size) { s with heap := h', toks := tk }) :
    wpAny (model prog w) A (call (.type "list") [.ref d]) Q E s := by
  refine callType_codes (Q₁ := fun obj s₁ => obj = .ref s.heap.objs.size ∧ s₁ = { s with heap := s.heap.push { cls := .type "list", data := .seq #[] } }) F.called_list (F.typeCall_list_1 _) F.entry_list_init
    (code_list_new _ ⟨rfl, rfl⟩) fun obj s₁ h₁ => ?_
  obtain ⟨rfl, rfl⟩ := h₁
  have hS : (s.heap.push { cls := .type "list", data := .seq #[] }).get? s.heap.objs.size = some { cls := .type "list", data := .seq #[] } := Heap.get?_push_size _ rfl
  have hSr : s.heap.objs.size ≠ d := Nat.ne_of_gt (Heap.lt_size ho)
  refine ⟨⟨_, hS, rfl⟩, F.args_list_init_2 _ _, ?_⟩
  show wpAny _ _ (do let old ← Builtin.List.listItems (.ref s.heap.objs.size); Builtin.List.listUpdate (.ref s.heap.objs.size) (fun _ => #[]); letGo old.toList.reverse; Builtin.List.listExtendWith (.ref s.heap.objs.size) (.ref d) .none) _ _ _
  refine wpAny_bind ?_
  unfold Builtin.List.listItems
  refine wpAny_bind (wpAny_seqItems hS rfl (wpAny_pure ?_))
  show wpAny _ _ (updateSeq s.heap.objs.size (fun _ => #[]) >>= fun _ => letGo (#[] : Array Value).toList.reverse >>= fun _ => Builtin.List.listExtendWith (.ref s.heap.objs.size) (.ref d) .none) _ _ _
  refine wpAny_bind (wpAny_updateSeq hS rfl ?_)
  have hS₂ := Heap.get?_update_self (Obj.mapSeq (fun _ => (#[] : Array Value))) hS rfl
  have oth : ∀ b o, b ≠ s.heap.objs.size → (s.heap.push { cls := .type "list", data := .seq #[] }).get? b = some o → ((s.heap.push { cls := .type "list", data := .seq #[] }).update s.heap.objs.size (Obj.mapSeq (fun _ => (#[] : Array Value)))).get? b = some o :=
    fun b o hb e => (Heap.get?_update_other _ _ (Ne.symm hb)).trans e
  refine wpAny_bind (wpAny_letGo ?_)
  have ho2 := oth d _ (Ne.symm hSr) (Heap.get?_push_of_some _ ho)
  refine extend_dict (A := A.in1) hh hd ?_ ho2 hdat hlen _ .none _ hS₂ fun h' tk acc' c' hk hS' hacc => ?_
  · obtain ⟨o, e1, e2⟩ := hT
    rw [ho] at e1; cases e1
    exact ⟨_, ho2, e2⟩
  · exact ⟨rfl, hQ h' tk acc' c' (fun b o e => hk b o (Nat.ne_of_lt (Heap.lt_size e)) (oth b o (Nat.ne_of_lt (Heap.lt_size e)) (Heap.get?_push_of_some _ e))) hS' hacc⟩
end
end L2
end
section
set_option Elab.async false
set_option linter.all false
set_option maxRecDepth 100000
set_option maxHeartbeats 4000000
namespace L2
open PySem PySem.Spec PyProof.Rows
section
variable {X : Cx} {p pos : Pos}
theorem items_keys {es : Array DictEntry} {acc : Array Value} {xs : List V} (h : ItemsOf (fun i v => ∃ e, es[i]? = some e ∧ v = e.key) acc es.size) (r : Vals xs (es.toList.map (·.key))) : Vals xs acc.toList := by
  have : acc.toList = es.toList.map (·.key) := by
    apply List.ext_getElem?
    intro i
    rw [List.getElem?_map]
    by_cases hi : i < es.size
    · have hi' : i < acc.size := by rw [h.1]; exact hi
      obtain ⟨e, e1, e2⟩ := h.2 i acc[i] (by simp [hi'])
      have e3 : es.toList[i]? = some e := by simpa using e1
      rw [e3]
      simp [hi', e2]
    · have : ¬ i < acc.size := by rw [h.1]; exact hi
      simp [Nat.le_of_not_lt hi, Nat.le_of_not_lt this]
  rw [this]; exact r
def rListD : List V → Hp → VK → Prop := fun vs H Q => match vs with
  | [.ref p] => (∃ kvs, H p = some (.dT kvs) ∧ ∀ o bs l, KeysAt H kvs bs → H l = none → Q (.ref l) (upd (upd H p (.frz o (.dT kvs))) l (.lst (bs.map V.ref)))) ∨
      (∃ o kvs, H p = some (.frz o (.dT kvs)) ∧ ∀ bs l, KeysAt H kvs bs → H l = none → Q (.ref l) (upd H l (.lst (bs.map V.ref)))) ∨
      (∃ o kvs, H p = some (.frz o (.dK kvs)) ∧ ∀ l, H l = none → Q (.ref l) (upd H l (.lst (kvs.map fun p => kV p.1)))) ∨ rListR vs H Q
  | _ => False
theorem call_listD (hc : X.calm = true) : CallR X (.type "list") rListD := by
  have hT2 : ∀ (pins : List (Addr × Obj)) (s : Shared) (σ : St) (H : Hp) (a : Addr) (Q : VK) (o : Obj) (kvs : List (List Key × V)), Inv X pins σ H s → H a = some (.frz o (.dT kvs)) →
      (∀ bs l, KeysAt H kvs bs → H l = none → Q (.ref l) (upd H l (.lst (bs.map V.ref)))) → wpAny (model X.prog X.w) X.A (call (.type "list") [.ref a]) (EP X pins σ Q) X.xe s := by
    intro pins s σ H a Q o kvs I hq q
    have ho := I.frozen hq
    obtain ⟨_, z, hd, xs, r, o', es, ep, h1, h2, h3, h4, h5⟩ := I.hok a _ hq
    rw [ho] at h1; cases h1
    have hT : s.TypeIs (.ref a) "dict" := let ⟨_, _, _, _, dd⟩ := dt_rd I.hok (.inr ⟨o, hq⟩); dd.typeIs
    have rel : Vals ((xs.map (·.2.1)).map V.ref) (es.toList.map (·.key)) := by
      rw [h4]
      clear h4 h5 r
      induction xs with
      | nil => exact .nil
      | cons x xs ih => exact .cons rfl ih
    have le : es.size ≤ sizeLine := by
      have e1 := congrArg List.length h4
      have e2 := Paired.length r
      simp at e1
      omega
    refine call_list_dict (I.ok.hd hc) hd hT ho h3 le fun h' tk acc' c' kp e' it => ?_
    have hl : ((xs.map (·.2.1)).map V.ref).length ≤ sizeLine := by
      have := rel.length
      simp at this ⊢
      omega
    exact ⟨.ref s.heap.objs.size, _, I.laid (t' := tk) kp (Nat.le_refl _) (show ObjOk X.prog X.w _ h' _ (.lst _) from ⟨hl, acc'.toList, c', items_keys it rel, by simpa using e'⟩), rfl, q _ _ (keys_tup r) (I.hok.fresh (Nat.le_refl _))⟩
  intro pins s σ H xs us Q I r h
  unfold rListD at h
  split at h
  · rename_i a
    have r' := r
    obtain ⟨u, rfl, rx⟩ := vals1 r
    cases rx
    rcases h with ⟨kvs, hq, q⟩ | ⟨o, kvs, hq, q⟩ | ⟨o, kvs, hq, q⟩ | h
    · obtain ⟨o, ho⟩ := I.obj hq
      refine hT2 pins s σ _ a Q o kvs (I.freeze hq trivial ho) upd_same fun bs l kb hl => ?_
      have hla : l ≠ a := fun z => by subst z; rw [upd_same] at hl; cases hl
      rw [upd_ne hla] at hl
      refine q o bs l ?_ hl
      refine Paired.mapP kb fun x b e => ?_
      have : b ≠ a := fun z => by subst z; rw [upd_same] at e; cases e
      rw [upd_ne this] at e; exact e
    · exact hT2 pins s σ H a Q o kvs I hq q
    · have ho := I.frozen hq
      obtain ⟨_, z, hd, vs, r, o', es, ep, h1, h2, h3, h4, h5, h6⟩ := I.hok a _ hq
      rw [ho] at h1; cases h1
      have hT : s.TypeIs (.ref a) "dict" := let ⟨_, _, _, _, dd⟩ := dk_rd I.hok (.inr ⟨o, hq⟩); dd.typeIs
      have rel := keys_mix r h5
      have le : es.size ≤ sizeLine := by
        have e1 := rel.length
        simp at e1
        omega
      refine call_list_dict (I.ok.hd hc) hd hT ho h3 le fun h' tk acc' c' kp e' it => ?_
      have hl : (kvs.map fun p => kV p.1).length ≤ sizeLine := by
        have := rel.length
        simp at this ⊢
        omega
      exact ⟨.ref s.heap.objs.size, _, I.laid (t' := tk) kp (Nat.le_refl _) (show ObjOk X.prog X.w _ h' _ (.lst _) from ⟨hl, acc'.toList, c', items_keys it rel, by simpa using e'⟩), rfl, q _ (I.hok.fresh (Nat.le_refl _))⟩
    · exact call_listR hc pins s σ H _ _ Q I r' h
  · exact h.elim
theorem fn_listD {e : Expr} {es : List Expr} {t : TA} {mg' : Str → Option Value} (hm : mg' "list" = none) (hX : X.mg = mg') (ha : PA X (e :: es) t) (hc : X.calm = true := by kernel_rfl) (hg : gB X "list" = true := by kernel_rfl) (he : starEach (e :: es) X.env = (false, eval e X.env) :: starEach es X.env := by kernel_rfl) (hpl : (backTo pos (starEach es X.env)).any (·.1) = false := by kernel_rfl) :
    PE X (.Call (.Name "list" p) (e :: es) [] pos) (tCB rListD t) := pe_callTy (call_listD hc) (gl_of hg) (by rw [hX]; exact hm) PyProof.Rows.boot_list ha (he := he) (hpl := hpl)
def iLstF (K : PySem.W.Frag) (tl : TE) : TI := fun σ H R => tl σ H fun x H1 => match x with
  | .ref a => (∃ kvs, H1 a = some (.dT kvs) ∧ ∀ o bs, KeysAt H1 kvs bs → R (Itk a o (bs.map V.ref)) (upd H1 a (.frz o (.dT kvs)))) ∨ iLstD K (fun _ H Q => Q (.ref a) H) σ H1 R
  | _ => False
end
section
variable {prog : Program} {w : World} {A : Around} {E : Value → Shared → Prop} {s : Shared}
end
end L2
end
section
set_option Elab.async false
set_option linter.all false
set_option maxRecDepth 100000
set_option maxHeartbeats 4000000
namespace L2
open PySem PySem.Spec PyProof.Rows
section
variable {X : Cx} {p pos : Pos}
theorem pi_lstF {tg l : Expr} {tl : TE} (hl : PE X l tl) : PI X tg l (iLstF X.K tl) := by
  intro pins s σ H R I h
  refine thn (hl pins s σ H _ I h) fun v s1 ⟨x, H1, I1, r1, q1⟩ => ?_
  dsimp only at q1
  split at q1
  · rename_i a
    cases r1
    rcases q1 with ⟨kvs, hq, q⟩ | q
    · obtain ⟨o, ho⟩ := I1.obj hq
      have J := I1.freeze hq trivial ho
      have hq' : upd H1 a (.frz o (.dT kvs)) a = some (.frz o (.dT kvs)) := upd_same
      obtain ⟨_, z, hd, xs, r, o', es, ep, h1, h2, h3, h4, h5⟩ := J.hok a _ hq'
      rw [ho] at h1; cases h1
      have hT : s1.TypeIs (.ref a) "dict" := let ⟨_, _, _, _, dd⟩ := dt_rd J.hok (.inr ⟨o, hq'⟩); dd.typeIs
      have rel : Vals ((xs.map (·.2.1)).map V.ref) (es.toList.map (·.key)) := by
        rw [h4]
        clear h4 h5 r
        induction xs with
        | nil => exact .nil
        | cons x xs ih => exact .cons rfl ih
      refine keyIter hd hT ho h3 ?_
      refine ⟨s1.heap.objs.size, [s1.heap.objs.size], _, _, _, rfl, J.kept (t' := s1.toks) fun b o e => Heap.get?_push_of_some _ e, turn_keys h3 rel, ⟨_, Heap.get?_push_size _ rfl, rfl, rfl⟩, fun b hb => ?_, q o _ ?_⟩
      · have e : b = s1.heap.objs.size := by simpa using hb
        subst e
        exact J.fpOk (Nat.le_refl _) (J.hok.fresh (Nat.le_refl _))
      · refine Paired.mapP (keys_tup r) fun x b e => ?_
        have : b ≠ a := fun z => by subst z; rw [upd_same] at e; cases e
        rw [upd_ne this] at e; exact e
    · obtain ⟨⟨xs, hq⟩, q⟩ | ⟨o, kvs, hq, q⟩ | ⟨o, kvs, hq, q⟩ := q
      · obtain ⟨its, rv, p, hz⟩ := I1.list hq
        refine wpAny_pyIter_list p.isList ?_
        refine ⟨s1.heap.objs.size, [s1.heap.objs.size], _, _, H1, rfl, I1.kept (t' := s1.toks) fun b o e => Heap.get?_push_of_some _ e, turn_list a _, ⟨_, Heap.get?_push_size _ rfl, rfl, rfl⟩, fun b hb => ?_, q⟩
        have e : b = s1.heap.objs.size := by simpa using hb
        subst e
        exact I1.fpOk (Nat.le_refl _) (I1.hok.fresh (Nat.le_refl _))
      · have ho := I1.frozen hq
        obtain ⟨_, z, hd, xs, r, o', es, ep, h1, h2, h3, h4, h5⟩ := I1.hok a _ hq
        rw [ho] at h1; cases h1
        have hT : s1.TypeIs (.ref a) "dict" := let ⟨_, _, _, _, dd⟩ := dt_rd I1.hok (.inr ⟨o, hq⟩); dd.typeIs
        have rel : Vals ((xs.map (·.2.1)).map V.ref) (es.toList.map (·.key)) := by
          rw [h4]
          clear h4 h5 r
          induction xs with
          | nil => exact .nil
          | cons x xs ih => exact .cons rfl ih
        refine keyIter hd hT ho h3 ?_
        refine ⟨s1.heap.objs.size, [s1.heap.objs.size], _, _, H1, rfl, I1.kept (t' := s1.toks) fun b o e => Heap.get?_push_of_some _ e, turn_keys h3 rel, ⟨_, Heap.get?_push_size _ rfl, rfl, rfl⟩, fun b hb => ?_, q _ (keys_tup r)⟩
        have e : b = s1.heap.objs.size := by simpa using hb
        subst e
        exact I1.fpOk (Nat.le_refl _) (I1.hok.fresh (Nat.le_refl _))
      · have ho := I1.frozen hq
        obtain ⟨_, z, hd, vs, r, o', es, ep, h1, h2, h3, h4, h5, h6⟩ := I1.hok a _ hq
        rw [ho] at h1; cases h1
        have hT : s1.TypeIs (.ref a) "dict" := let ⟨_, _, _, _, dd⟩ := dk_rd I1.hok (.inr ⟨o, hq⟩); dd.typeIs
        refine keyIter hd hT ho h3 ?_
        refine ⟨s1.heap.objs.size, [s1.heap.objs.size], _, _, H1, rfl, I1.kept (t' := s1.toks) fun b o e => Heap.get?_push_of_some _ e, turn_keys h3 (keys_mix r h5), ⟨_, Heap.get?_push_size _ rfl, rfl, rfl⟩, fun b hb => ?_, q⟩
        have e : b = s1.heap.objs.size := by simpa using hb
        subst e
        exact I1.fpOk (Nat.le_refl _) (I1.hok.fresh (Nat.le_refl _))
  · exact q1.elim
open Classical in
noncomputable def eqT (H : Hp) (k : List Key) (u : Value) : Bool := match u with
  | .ref c => decide (H c = some (.tup (k.map kV)))
  | _ => false
open Classical in
theorem any_eqT {H : Hp} {k : List Key} : ∀ {xs : List V} {us : List Value}, Vals xs us → (∀ v ∈ xs, ∃ (c : Addr) (k' : List Key), v = .ref c ∧ H c = some (.tup (k'.map kV))) → (us.any (eqT H k) = true ↔ ∃ c, V.ref c ∈ xs ∧ H c = some (.tup (k.map kV)))
  | _, _, .nil, _ => by simp
  | y :: xs, u :: us, .cons r t, f => by
    obtain ⟨c, k', rfl, hc⟩ := f y List.mem_cons_self
    cases r
    rw [List.any_cons, Bool.or_eq_true, any_eqT t (fun v hv => f v (List.mem_cons_of_mem _ hv))]
    have e0 : eqT H k (.ref c) = true ↔ H c = some (.tup (k.map kV)) := by unfold eqT; dsimp only; exact (by classical exact decide_eq_true_iff)
    rw [e0]
    constructor
    · rintro (h | ⟨d, h1, h2⟩)
      · exact ⟨c, List.mem_cons_self, h⟩
      · exact ⟨d, List.mem_cons_of_mem _ h1, h2⟩
    · rintro ⟨d, h1, h2⟩
      rcases List.mem_cons.mp h1 with e | h1
      · injection e with e; subst e; exact .inl h2
      · exact .inr ⟨d, h1, h2⟩
end
end L2
end
section
set_option Elab.async false
set_option linter.all false
set_option maxRecDepth 100000
set_option maxHeartbeats 4000000
namespace Om
def Win (rows : Rows) (b a : Nat) : Prop := ∀ x y, ¬ Clash rows b (b + 1 + a) x y
theorem iter_front {E : Nat → Nat → Stp → Prop} : ∀ (m : Nat) (R : R2n) (x y : Nat), iterR E R (m + 1) x y ↔ iterR E (nextR E R) m x y
  | 0, _, _, _ => Iff.rfl
  | m + 1, R, x, y => by
    constructor
    · rintro ⟨x1, y1, s, h1, h2, h3⟩
      exact ⟨x1, y1, s, (iter_front m R x1 y1).mp h1, h2, h3⟩
    · rintro ⟨x1, y1, s, h1, h2, h3⟩
      exact ⟨x1, y1, s, (iter_front m R x1 y1).mpr h1, h2, h3⟩
theorem iter_all {k n : Nat} {rows : Rows} (ok : CodeOk k n rows) : ∀ (m x y : Nat), iterR (St rows) (AllR rows) m x y → AllR rows x y
  | 0, _, _, h => h
  | m + 1, x, y, ⟨x1, y1, s, _, h2, h3⟩ => by
    obtain ⟨g1, g2, g3, g4⟩ := h2
    rw [g4] at h3
    injection h3 with e1 e2
    rw [← e1, ← e2]
    exact ⟨(ok.stp g1).2.2, (ok.stp g2).2.2⟩
open Classical in
noncomputable def wf (rows : Rows) (p : Nat × Nat) : Bool := decide (Win rows p.1 p.2)
open Classical in
theorem wf_iff {rows : Rows} {p : Nat × Nat} : wf rows p = true ↔ Win rows p.1 p.2 := by unfold wf; exact decide_eq_true_iff
end Om
namespace L2
open PySem PySem.Spec PyProof.Rows
theorem KD.again {ks : List (Nat × Nat)} {kvs : List (List Key × V)} {p : Nat × Nat} {v : V} (h : KD ks kvs) (hp : p ∈ ks) : KD ks (putK kvs (kk p) v) := by
  refine ⟨?_, h.nd, h.lt⟩
  rw [← h.keys]
  unfold putK
  have : (kvs.any fun kv => decide (kv.1 = kk p)) = true := by
    have hm : kk p ∈ kvs.map (·.1) := by rw [h.keys]; exact List.mem_map.mpr ⟨p, hp, rfl⟩
    obtain ⟨q, hq, e⟩ := List.mem_map.mp hm
    exact List.any_eq_true.mpr ⟨q, hq, by simpa using e⟩
  rw [if_pos this, List.map_map]
  apply List.map_congr_left
  intro q _
  simp only [Function.comp]
  split <;> rfl
theorem KD.set {ks : List (Nat × Nat)} {kvs : List (List Key × V)} {p : Nat × Nat} {v : V} (h : KD ks kvs) (l1 : p.1 < 8) (l2 : p.2 < 8) : ∃ ks', KD ks' (putK kvs (kk p) v) ∧ ∀ q, q ∈ ks' ↔ q ∈ ks ∨ q = p := by
  by_cases hp : p ∈ ks
  · exact ⟨ks, h.again hp, fun q => ⟨.inl, fun e => e.elim id fun e => e ▸ hp⟩⟩
  · exact ⟨ks ++ [p], h.put hp l1 l2, fun q => by rw [List.mem_append, List.mem_singleton]⟩
end L2
end
section
set_option Elab.async false
set_option linter.all false
set_option maxRecDepth 100000
set_option maxHeartbeats 4000000
namespace L2
open PySem PySem.Spec PyProof.Rows
section
variable {prog : Program} {w : World} {A : Around} {E : Value → Shared → Prop} {s : Shared}
theorem call_len_entries {d : Addr} {o : Obj} {es : Array DictEntry} {ep : Nat} {Q : Value → Shared → Prop} (hd : (d == sysModules) = false) (hT : s.TypeIs (.ref d) "dict") (ho : s.heap.get? d = some o) (hdat : o.data = .dict es ep) (hfit : (es.size : Int) < 2 ^ 63)
    (h : Q (.int es.size (s.toks + 1)) { s with toks := s.toks + 1 + 1 }) : wpAny (model prog w) A (call (.builtin "len") [.ref d]) Q E s := by
  have len1 : MeetsIn prog w (Builtin.«dict.__len__» ⟨[.ref d], []⟩) (fun _ R s => s.heap.get? d = some o ∧ R (.ok (.ret (.int es.size s.toks))) { s with toks := s.toks + 1 }) :=
    .of_wp fun A R s ⟨ho, h⟩ => by
      show wpAny _ _ (dictSize d >>= _) _ _ s
      unfold dictSize
      refine wpAny_bind (wpAny_bind (wpAny_dictEntries ho hdat (wpAny_pure ?_)))
      show wpAny _ _ (Builtin.Dict.pendingCount d >>= _) _ _ s
      refine wpAny_bind (wpAny_pendingCount_other hd ?_)
      refine wpAny_ret_mkInt ?_
      rw [Nat.add_zero]; exact h
  refine Calls.call_function_entry kind_len plain_len entry_len (args_len1 _) ?_
  unfold Builtin.«len»
  refine wpAny_bind (m := oneArg "len" _) (wpAny_pure ?_)
  refine wpAny_bind (m := callSpecial? (.ref d) (Str.ofString "__len__")) (wpAny_callSpecial?_slot (name := Str.ofString "__len__") hT F.slot_dict_len
    (call_meetsIn F.slot_dict_len hT F.entry_dict_len (F.args_dict_len_1 _) len1 ⟨ho, ?_⟩))
  show wpAny _ _ _ _ _ { s with toks := s.toks + 1 }
  refine wpAny_bind (wpAny_holding (wpAny_pure ?_))
  refine wpAny_bind (wpAny_letGo ?_)
  show wpAny _ _ (if ((es.size : Nat) : Int) < 0 then _ else _) _ _ _
  rw [if_neg (by omega)]
  show wpAny _ _ (if ((es.size : Nat) : Int) ≥ 2 ^ 63 then _ else _) _ _ _
  rw [if_neg (by omega)]
  exact wpAny_bind (wpAny_mkInt (wpAny_pure ⟨_, rfl, h⟩))
end
section
variable {X : Cx} {p pos : Pos}
def rLenD : List V → Hp → VK → Prop := fun vs H Q => (∃ a kvs, vs = [.ref a] ∧ Rd H a (.dT kvs) ∧ kvs.length ≤ 2 ^ 24 ∧ Q (.int (kvs.length : Nat)) H) ∨ rLen vs H Q
theorem call_lenD : CallR X (.builtin "len") rLenD := by
  intro pins s σ H xs us Q I r h
  rcases h with ⟨a, kvs, rfl, rd, hl, q⟩ | h
  · obtain ⟨u, rfl, rx⟩ := vals1 r
    cases rx
    obtain ⟨z, hd, ys, kt, o, es, ep, h1, h2, h3, h4, h5⟩ := (show ObjOk X.prog X.w H s.heap a (.dT kvs) from rd_of I.hok rd)
    have hT : s.TypeIs (.ref a) "dict" := ⟨o, h1, h2.1⟩
    have esl : es.size = kvs.length := by
      have e1 := congrArg List.length h4
      have e2 := Paired.length kt
      simp at e1
      omega
    refine call_len_entries hd hT h1 h3 (by omega) ?_
    exact ⟨.int _, H, I.tok _, ⟨_, rfl⟩, by rw [esl]; exact q⟩
  · exact call_lenU pins s σ H xs us Q I r h
theorem fn_lenD {e : Expr} {es : List Expr} {t : TA} {mg' : Str → Option Value} (hm : mg' "len" = none) (hX : X.mg = mg') (ha : PA X (e :: es) t) (hg : gB X "len" = true := by kernel_rfl) (he : starEach (e :: es) X.env = (false, eval e X.env) :: starEach es X.env := by kernel_rfl) (hpl : (backTo pos (starEach es X.env)).any (·.1) = false := by kernel_rfl) :
    PE X (.Call (.Name "len" p) (e :: es) [] pos) (tCB rLenD t) := pe_callB call_lenD (gl_of hg) (by rw [hX]; exact hm) boot_len ha (he := he) (hpl := hpl)
end
section
variable {G H0 H : Hp} {D q : Addr} {kvs : List (List Key × V)} {ks : List (Nat × Nat)} {c : Nat} {E : Nat × Nat → Om.Stp → Prop} {o : HO}
end
end L2
namespace Om
def BSt (rows : Rows) (x y : Nat) (s : Stp) : Prop := St rows s.2.1 s.2.2 (s.1, (x, y))
theorem back_iff {k n : Nat} {rows : Rows} (ok : CodeOk k n rows) : ∀ (m : Nat) (R : R2n), (∀ x y, R x y → AllR rows x y) → ((∃ x y, iterR (BSt rows) R m x y) ↔ ∃ x y, iterR (St rows) (AllR rows) m x y ∧ R x y)
  | 0, R, hR => by
    constructor
    · rintro ⟨x, y, h⟩; exact ⟨x, y, hR _ _ h, h⟩
    · rintro ⟨x, y, _, h⟩; exact ⟨x, y, h⟩
  | m + 1, R, hR => by
    have cl : ∀ {x y : Nat} {s : Stp}, BSt rows x y s → AllR rows s.2.1 s.2.2 := fun {x y s} h => by
      obtain ⟨h1, h2, _⟩ := h
      exact ⟨(ok.stp h1).1, (ok.stp h2).1⟩
    have e : (∃ x y, iterR (BSt rows) R (m + 1) x y) ↔ ∃ x y, iterR (BSt rows) (nextR (BSt rows) R) m x y := by
      constructor
      · rintro ⟨x, y, h⟩; exact ⟨x, y, (iter_front m R x y).mp h⟩
      · rintro ⟨x, y, h⟩; exact ⟨x, y, (iter_front m R x y).mpr h⟩
    rw [e, back_iff ok m]
    · constructor
      · rintro ⟨x', y', h1, x, y, s, h2, h3, h4⟩
        refine ⟨x, y, ⟨x', y', (s.1, (x, y)), h1, ?_, rfl⟩, h2⟩
        have : BSt rows x y s := h3
        unfold BSt at this
        rw [h4] at this
        exact this
      · rintro ⟨x, y, ⟨x', y', s, h1, h2, h3⟩, h4⟩
        refine ⟨x', y', h1, x, y, (s.1, (x', y')), h4, ?_, rfl⟩
        show St rows x' y' (s.1, (x, y))
        rw [← h3]; exact h2
    · rintro x' y' ⟨x, y, s, h2, h3, h4⟩
      have := cl h3
      rw [h4] at this
      exact this
end Om
end
section
set_option Elab.async false
set_option linter.all false
set_option maxRecDepth 100000
set_option maxHeartbeats 4000000
namespace L2
open PySem PySem.Spec PyProof.Rows
section
variable {prog : Program} {w : World} {A : Around} {E : Value → Shared → Prop} {s : Shared}
theorem iadd_dict {R : Result → Shared → Prop} {d : Addr} {od : Obj} {es : Array DictEntry} {ep : Nat} (hh : A.handled = none) (hd : (d == sysModules) = false) (hT : s.TypeIs (.ref d) "dict") (ho : s.heap.get? d = some od) (hdat : od.data = .dict es ep) (hlen : es.size ≤ sizeLine) (S : Addr) (c₀ : Nat) (hS : s.heap.get? S = some { cls := .type "list", data := .seq #[] c₀ })
    (hR : ∀ h' tk acc' c', (∀ b o, b ≠ S → s.heap.get? b = some o → h'.get? b = some o) → h'.get? S = some { cls := .type "list", dict := none, data := .seq acc' c', slots := #[] } →
      ItemsOf (fun i v => ∃ e, es[i]? = some e ∧ v = e.key) acc' es.size → R (.ok (.ret (.ref S))) { s with heap := h', toks := tk }) :
    codeAny (model prog w) A (.builtin "list.__iadd__" ⟨[.ref S, .ref d], []⟩) R s := by
  refine codeAny_builtin entry_list_iadd' ?_
  rw [Around.under_plainId (by decide +kernel) _]
  exact extend_dict hh hd hT ho hdat hlen S (.ref S) c₀ hS hR
theorem collect_dict {d : Addr} {od : Obj} {es : Array DictEntry} {ep : Nat} {Q : List Value → Shared → Prop} (hh : A.handled = none) (hd : (d == sysModules) = false) (hT : s.TypeIs (.ref d) "dict") (ho : s.heap.get? d = some od) (hdat : od.data = .dict es ep) (hlen : es.size ≤ sizeLine)
    (h : ∀ (h' : Heap) (tk : Tok) (acc : Array Value), (∀ b o, s.heap.get? b = some o → h'.get? b = some o) → s.heap.objs.size < h'.objs.size → ItemsOf (fun i v => ∃ e, es[i]? = some e ∧ v = e.key) acc es.size → Q acc.toList { s with heap := h', toks := tk }) :
    wpAny (model prog w) A (collect (.ref d)) Q E s := by
  unfold collect
  refine wpAny_bind (wpAny_runValue (codeAny_builtin entry_proto_collect' ?_))
  show wpAny _ _ (do again (.builtin "list.__iadd__" ⟨[← newList [], .ref d], []⟩)) _ _ s
  refine wpAny_bind (wpAny_newList (wpAny_pure ⟨Code.quiet_builtin _ (by decide +kernel), ?_⟩))
  have hT' : (⟨s.heap.push (seqObj "list" #[] 0), s.gens, s.drawn, s.toks, s.os⟩ : Shared).TypeIs (.ref d) "dict" := by
    obtain ⟨o, e1, e2⟩ := hT
    exact ⟨o, Heap.get?_push_of_some _ e1, e2⟩
  refine iadd_dict hh hd hT' (Heap.get?_push_of_some _ ho) hdat hlen s.heap.objs.size 0 (Heap.get?_push_size _ rfl) fun h' tk acc' c' hk hS' hacc => ?_
  show wpAny (model prog w) A (do
      let o ← load s.heap.objs.size
      match o.data with
      | .seq xs _ => pure xs.toList
      | _ => unsupported "internal:collect") Q E { s with heap := h', toks := tk }
  refine wpAny_bind (wpAny_load hS' ?_)
  exact wpAny_pure (h h' tk acc' (fun b o e => hk b o (Nat.ne_of_lt (Heap.lt_size e)) (Heap.get?_push_of_some _ e)) (Heap.lt_size hS') hacc)
theorem sorted_dict {d : Addr} {od : Obj} {es : Array DictEntry} {ep : Nat} {ns : List Int} {Q : Value → Shared → Prop} (hh : A.handled = none) (hd : (d == sysModules) = false) (hT : s.TypeIs (.ref d) "dict") (ho : s.heap.get? d = some od) (hdat : od.data = .dict es ep) (hI : IntsAre (es.toList.map (·.key)) ns) (h64 : es.size < 64)
    (h : ∀ (h' : Heap) (tk : Tok) (l : Addr) (out : Array Value) (ns' : List Int) (e : Nat), (∀ b o, s.heap.get? b = some o → h'.get? b = some o) → s.heap.objs.size ≤ l → h'.get? l = some (seqObj "list" out e) → IntsAre out.toList ns' → ns'.Perm ns → ns'.Pairwise (· ≤ ·) → Q (.ref l) { s with heap := h', toks := tk }) :
    wpAny (model prog w) A (call (.builtin "sorted") [.ref d]) Q E s := by
  refine Calls.call_function_entry kind_sorted plain_sorted entry_sorted (args_sorted1 _) ?_
  unfold Builtin.«sorted»
  refine wpAny_bind (m := checkCount "sorted" 1 1 _) (wpAny_pure ?_)
  refine wpAny_bind (collect_dict hh hd hT ho hdat (by rw [sizeLine_eq]; omega) fun h1 tk acc kp lt it => ?_)
  have ea : acc.toList = es.toList.map (·.key) := by
    apply List.ext_getElem?
    intro i
    rw [List.getElem?_map]
    by_cases hi : i < es.size
    · have hi' : i < acc.size := by rw [it.1]; exact hi
      obtain ⟨e, e1, e2⟩ := it.2 i acc[i] (by simp [hi'])
      have e3 : es.toList[i]? = some e := by simpa using e1
      rw [e3]
      simp [hi', e2]
    · have : ¬ i < acc.size := by rw [it.1]; exact hi
      simp [Nat.le_of_not_lt hi, Nat.le_of_not_lt this]
  rw [ea]
  generalize hvs : es.toList.map (·.key) = vs at *
  have hv64 : vs.length < 64 := by rw [← hvs]; simpa using h64
  refine wpAny_bind (wpAny_newList ?_)
  have hoL : (h1.push (seqObj "list" vs.toArray 0)).get? h1.objs.size = some (seqObj "list" vs.toArray 0) := Heap.get?_push_size _ rfl
  refine wpAny_bind (wpAny_holding (wpAny_call_entry slot_list_sort ⟨_, hoL, rfl⟩ entry_list_sort (list_sort_tree hoL hI hv64 fun out ns' a1 a2 a3 => ⟨_, rfl, ?_⟩) (args_list_sort _)))
  obtain ⟨e, he⟩ := sortedHeap_at (out := out) hoL
  refine wpAny_pure ⟨_, rfl, h _ tk h1.objs.size out ns' e (fun b o hb => ?_) (Nat.le_of_lt lt) he a1 a2 a3⟩
  have hb1 := kp b o hb
  have bl := Heap.lt_size hb1
  rw [sortedHeap_old (Nat.ne_of_lt bl) (by rw [size_push']; exact Nat.lt_succ_of_lt bl)]
  exact Heap.get?_push_of_some _ hb1
end
section
variable {X : Cx} {p pos : Pos}
def rSortedD : List V → Hp → VK → Prop := fun vs H Q => (∃ (a : Addr) (kvs : List (Key × V)) (ns : List Int), vs = [.ref a] ∧ Rd H a (.dK kvs) ∧ kvs.map (·.1) = ns.map Sum.inl ∧ ns.length < 64 ∧
    ∀ (l : Addr) (ns' : List Int), H l = none → ns'.Perm ns → ns'.Pairwise (· ≤ ·) → Q (.ref l) (upd H l (.lst (ns'.map V.int)))) ∨ rSorted vs H Q
theorem call_sortedD (hc : X.calm = true) : CallR X (.builtin "sorted") rSortedD := by
  intro pins s σ H xs us Q I r h
  rcases h with ⟨a, kvs, ns, rfl, rd, hk, hl, q⟩ | h
  · obtain ⟨u, rfl, rx⟩ := vals1 r
    cases rx
    obtain ⟨z, hd, vs, kv, o, es, ep, h1, h2, h3, h4, h5, h6⟩ := dk_rd I.hok rd
    have hT : s.TypeIs (.ref a) "dict" := ⟨o, h1, h2.1⟩
    have rel := keys_mix kv h5
    have e1 : (kvs.map fun p => kV p.1) = ns.map V.int := by
      have : (kvs.map fun p => kV p.1) = (kvs.map (·.1)).map kV := by rw [List.map_map]; rfl
      rw [this, hk, List.map_map]
      rfl
    rw [e1] at rel
    have hI := vals_intsA rel
    have es64 : es.size < 64 := by
      have := rel.length
      simp at this
      omega
    refine sorted_dict (I.ok.hd hc) hd hT h1 h3 hI es64 fun h' tk l out ns' e kp hl' he a1 a2 a3 => ?_
    have hz : (ns'.map V.int).length ≤ sizeLine := by rw [List.length_map, a2.length_eq]; exact le_line (by omega)
    exact ⟨.ref l, upd H l (.lst (ns'.map V.int)), I.laid (t' := tk) kp hl' ⟨hz, out.toList, e, ints_vals a1, by simpa using he⟩, rfl, q _ _ (I.hok.fresh hl') a2 a3⟩
  · exact call_sortedU pins s σ H xs us Q I r h
theorem fn_sortedD {e : Expr} {es : List Expr} {t : TA} {mg' : Str → Option Value} (hm : mg' "sorted" = none) (hX : X.mg = mg') (ha : PA X (e :: es) t) (hc : X.calm = true := by kernel_rfl) (hg : gB X "sorted" = true := by kernel_rfl) (he : starEach (e :: es) X.env = (false, eval e X.env) :: starEach es X.env := by kernel_rfl) (hpl : (backTo pos (starEach es X.env)).any (·.1) = false := by kernel_rfl) :
    PE X (.Call (.Name "sorted" p) (e :: es) [] pos) (tCB rSortedD t) := pe_callB (call_sortedD hc) (gl_of hg) (by rw [hX]; exact hm) PyProof.Rows.boot_sorted ha (he := he) (hpl := hpl)
end
end L2
end
section
set_option Elab.async false
set_option linter.all false
set_option maxRecDepth 100000
set_option maxHeartbeats 4000000
namespace Om
theorem flatB_len {α : Type} {n : Nat} : ∀ {cs : List (List α)}, (∀ c ∈ cs, c.length = n) → cs.flatten.length = cs.length * n
  | [], _ => by simp
  | c :: cs, h => by
    rw [List.flatten_cons, List.length_append, h c List.mem_cons_self, flatB_len fun x hx => h x (List.mem_cons_of_mem _ hx), List.length_cons, Nat.add_mul, Nat.one_mul, Nat.add_comm]
theorem flatB_at {α : Type} {n : Nat} : ∀ (cs : List (List α)) (i : Nat), (∀ c ∈ cs, c.length = n) → (hi : i < cs.length) → (cs.flatten.drop (i * n)).take n = cs[i]
  | [], i, _, hi => absurd hi (Nat.not_lt_zero _)
  | c :: cs, 0, h, _ => by
    have := h c List.mem_cons_self
    rw [Nat.zero_mul, List.drop_zero, List.flatten_cons, ← this, List.take_left']
    · rfl
    · rfl
  | c :: cs, i + 1, h, hi => by
    have hc := h c List.mem_cons_self
    have e : (i + 1) * n = c.length + i * n := by rw [hc, Nat.add_mul, Nat.one_mul, Nat.add_comm]
    rw [List.flatten_cons, e, ← List.drop_drop, List.drop_left', flatB_at cs i (fun x hx => h x (List.mem_cons_of_mem _ hx)) (by simpa using hi)]
    · rfl
    · rfl
abbrev Sn := Nat → Prop
def aft (rows : Rows) (S : Sn) (w : List Bool) : Sn := fun y => ∃ x i, S x ∧ i < (rows.getD x []).length ∧ step rows x i = (w, y)
def afts (rows : Rows) (S : Sn) (ws : List (List Bool)) : Sn := ws.foldl (aft rows) S
theorem aft_lt {k n : Nat} {rows : Rows} (ok : CodeOk k n rows) {S : Sn} {w : List Bool} {y : Nat} (h : aft rows S w y) : y < rows.length := by
  obtain ⟨x, i, _, h2, h3⟩ := h
  have := (ok.stp h2).2.2
  rw [h3] at this; exact this
end Om
namespace L2
open PySem PySem.Spec PyProof.Rows
theorem bs_mid {w : List Bool} {i j : Int} (h0 : 0 ≤ i) (h1 : i ≤ j) (h2 : j ≤ w.length) : Txt.slice (bs w) (some i) (some j) = bs ((w.drop i.toNat).take (j - i).toNat) := by
  have e : (bs w).cps.toList = w.map sg := by show (w.map sg).toArray.toList = _; simp
  have := StrLaws.sliceText_plain (x := bs w) (i := i) (j := j) ⟨h0, h1, by rw [e, List.length_map]; exact h2⟩
  refine Eq.trans (show Txt.slice (bs w) (some i) (some j) = StrLaws.sliceText (bs w) (some i) (some j) from rfl) (this.trans ?_)
  rw [e]
  simp [bs, List.map_take, List.map_drop]
structure KN (ks : List Nat) (kvs : List (Key × V)) : Prop where
  keys : kvs.map (·.1) = ks.map fun (i : Nat) => (Sum.inl (i : Int) : Key)
  nd : ks.Nodup
  lt : ∀ x ∈ ks, x < 8
section
variable {ks : List Nat} {kvs : List (Key × V)} {x : Nat} {v : V}
theorem KN.nil : KN [] [] := ⟨rfl, List.nodup_nil, by simp⟩
theorem KN.le (h : KN ks kvs) : ks.length ≤ 8 := by
  have : ks ⊆ List.range 8 := fun p hp => List.mem_range.mpr (h.lt p hp)
  have := List.Nodup.length_le_of_subset h.nd this
  simpa using this
theorem KN.len (h : KN ks kvs) : kvs.length = ks.length := by have := congrArg List.length h.keys; simpa using this
theorem KN.set (h : KN ks kvs) (hx : x < 8) : ∃ ks', KN ks' (putK kvs (Sum.inl (x : Int) : Key) v) ∧ ∀ y, y ∈ ks' ↔ y ∈ ks ∨ y = x := by
  have inj : ∀ {a b : Nat}, (Sum.inl (a : Int) : Key) = Sum.inl (b : Int) → a = b := fun {a b} e => by
    have := Sum.inl.inj e
    omega
  by_cases hm : x ∈ ks
  · have any : (kvs.any fun kv => decide (kv.1 = (Sum.inl (x : Int) : Key))) = true := by
      have hm' : (Sum.inl (x : Int) : Key) ∈ kvs.map (·.1) := by rw [h.keys]; exact List.mem_map.mpr ⟨x, hm, rfl⟩
      obtain ⟨q, hq, e⟩ := List.mem_map.mp hm'
      exact List.any_eq_true.mpr ⟨q, hq, by simpa using e⟩
    refine ⟨ks, ⟨?_, h.nd, h.lt⟩, fun y => ⟨.inl, fun e => e.elim id fun e => e ▸ hm⟩⟩
    rw [← h.keys]
    unfold putK
    rw [if_pos any, List.map_map]
    apply List.map_congr_left
    intro q _
    simp only [Function.comp]
    split <;> rfl
  · have any : ¬ (kvs.any fun kv => decide (kv.1 = (Sum.inl (x : Int) : Key))) = true := fun z => by
      obtain ⟨q, hq, e⟩ := List.any_eq_true.mp z
      have e' : q.1 = (Sum.inl (x : Int) : Key) := by simpa using e
      have hm' : (Sum.inl (x : Int) : Key) ∈ kvs.map (·.1) := List.mem_map.mpr ⟨q, hq, e'⟩
      rw [h.keys] at hm'
      obtain ⟨y, hy, e2⟩ := List.mem_map.mp hm'
      exact hm (inj e2 ▸ hy)
    refine ⟨ks ++ [x], ⟨?_, ?_, fun y hy => ?_⟩, fun y => by rw [List.mem_append, List.mem_singleton]⟩
    · unfold putK
      rw [if_neg any, List.map_append, List.map_append, h.keys]
      rfl
    · rw [List.nodup_append]
      refine ⟨h.nd, by simp, fun a ha b hb => ?_⟩
      have : b = x := by simpa using hb
      subst this
      exact fun e => hm (e ▸ ha)
    · rcases List.mem_append.mp hy with hy | hy
      · exact h.lt y hy
      · have : y = x := by simpa using hy
        subst this; exact hx
end
structure Gk (G H0 H : Hp) (D : Addr) (kvs : List (Key × V)) : Prop where
  s : Same G H
  s0 : Same H0 G
  gD : G D = none
  hD : H D = some (.dK kvs)
theorem Gk.start {H : Hp} {D : Addr} (h : H D = none) : Gk H H (upd H D (.dK [])) D [] := ⟨Same.upd h, Same.refl _, h, upd_same⟩
theorem Gk.all {G H0 H : Hp} {D : Addr} {kvs : List (Key × V)} (g : Gk G H0 H D kvs) : Same H0 H := g.s0.trans g.s
theorem Gk.set {G H0 H : Hp} {D : Addr} {kvs kvs' : List (Key × V)} (g : Gk G H0 H D kvs) : Gk G H0 (upd H D (.dK kvs')) D kvs' := ⟨fun x u e => by rw [upd_ne (ne_of_none e g.gD)]; exact g.s _ _ e, g.s0, g.gD, upd_same⟩
end L2
end
section
set_option Elab.async false
set_option linter.all false
set_option maxRecDepth 100000
set_option maxHeartbeats 4000000
namespace Om
def allS (rows : Rows) : Sn := fun x => x < rows.length
def byL (rows : Rows) (S : Sn) (w : List Bool) (l : Nat) : Sn := fun y => ∃ x, S x ∧ l < (rows.getD x []).length ∧ step rows x l = (w, y)
def Goes (rows : Rows) (ws : List (List Bool)) (b l : Nat) : Prop := ∃ z, afts rows (byL rows (afts rows (allS rows) (ws.take b)) (ws.getD b []) l) (ws.drop (b + 1)) z
open Classical in
noncomputable def rd (rows : Rows) (k b : Nat) (ws : List (List Bool)) : Option Nat := (List.range (2 ^ k)).find? fun l => decide (Goes rows ws b l)
theorem afts_cons {rows : Rows} {S : Sn} {w : List Bool} {ws : List (List Bool)} : afts rows S (w :: ws) = afts rows (aft rows S w) ws := rfl
theorem afts_pth {rows : Rows} {T : List Nat → Prop} (hT : ∀ t i, T t → T (t ++ [i])) : ∀ {ws : List (List Bool)} {S : Sn} {m : Nat} {w : List Bool}, (∀ x, S x → ∃ t, Pth rows m t w x ∧ T t) → ∀ x, afts rows S ws x → ∃ t, Pth rows (m + ws.length) t (w ++ ws.flatten) x ∧ T t
  | [], _, _, w, h, x, hx => by
    obtain ⟨t, h1, h2⟩ := h x hx
    exact ⟨t, by simpa using h1, h2⟩
  | v :: ws, S, m, w, h, x, hx => by
    have := afts_pth hT (ws := ws) (S := aft rows S v) (m := m + 1) (w := w ++ v) (fun y ⟨z, i, g1, g2, g3⟩ => by
      obtain ⟨t, h1, h2⟩ := h z g1
      have := h1.snoc g2
      rw [g3] at this
      exact ⟨_, this, hT _ _ h2⟩) x hx
    rw [List.length_cons, List.flatten_cons, ← List.append_assoc, show m + (ws.length + 1) = m + 1 + ws.length by omega]
    exact this
theorem words_afts {k n : Nat} {rows : Rows} (ok : CodeOk k n rows) : ∀ {ls : List Nat} {s : Nat} {S : Sn}, s < rows.length → S s → (∀ l ∈ ls, l < 2 ^ k) → afts rows S (words rows s ls) (send rows s ls).2
  | [], _, _, _, h, _ => h
  | l :: ls, s, S, hs, h, hl => by
    obtain ⟨st, e1, e2, e3, e4⟩ := step_get ok hs (hl l List.mem_cons_self)
    have gl : l < (rows.getD s []).length := by
      rw [List.getD_eq_getElem?_getD, e1]
      exact (List.getElem?_eq_some_iff.mp e2).1
    exact words_afts ok (ls := ls) (s := (step rows s l).2) (S := aft rows S (step rows s l).1) e4 ⟨s, l, h, gl, rfl⟩ fun x hx => hl x (List.mem_cons_of_mem _ hx)
theorem words_app (rows : Rows) : ∀ (u v : List Nat) (s : Nat), words rows s (u ++ v) = words rows s u ++ words rows (send rows s u).2 v
  | [], _, _ => rfl
  | l :: u, v, s => by
    show (step rows s l).1 :: words rows (step rows s l).2 (u ++ v) = _
    rw [words_app rows u v]
    rfl
theorem words_take (rows : Rows) (ls : List Nat) (s m : Nat) : (words rows s ls).take m = words rows s (ls.take m) := by
  by_cases h : m ≤ ls.length
  · have e := words_app rows (ls.take m) (ls.drop m) s
    rw [List.take_append_drop] at e
    have l : (words rows s (ls.take m)).length = m := by rw [words_len, List.length_take]; omega
    rw [e, List.take_left' l]
  · rw [List.take_of_length_le (by omega : ls.length ≤ m), List.take_of_length_le (by rw [words_len]; omega)]
theorem words_drop (rows : Rows) (ls : List Nat) (s m : Nat) (h : m ≤ ls.length) : (words rows s ls).drop m = words rows (send rows s (ls.take m)).2 (ls.drop m) := by
  have e := words_app rows (ls.take m) (ls.drop m) s
  rw [List.take_append_drop] at e
  have l : (words rows s (ls.take m)).length = m := by rw [words_len, List.length_take]; omega
  rw [e, List.drop_left' l]
end Om
namespace L2
open PySem PySem.Spec PyProof.Rows
structure Gm (H0 H : Hp) (L : Addr) (ts : List Addr) (yss : Nat → List Nat) : Prop where
  s : Same H0 H
  hL : H L = some (.lst (ts.map V.ref))
  h0 : H0 L = none
  nd : ts.Nodup
  t0 : ∀ t ∈ ts, H0 t = none
  ht : ∀ l t, ts[l]? = some t → H t = some (.lst ((yss l).map fun i => V.int (i : Nat))) ∧ t ≠ L
section
variable {H0 H : Hp} {L q : Addr} {ts : List Addr} {yss : Nat → List Nat}
theorem Gm.put {o : HO} (g : Gm H0 H L ts yss) (h : H q = none) : Gm H0 (upd H q o) L ts yss :=
  ⟨g.s.trans (Same.upd h), Same.upd h _ _ g.hL, g.h0, g.nd, g.t0, fun l t e => ⟨Same.upd h _ _ (g.ht l t e).1, (g.ht l t e).2⟩⟩
theorem Gm.app (g : Gm H0 H L ts yss) {l y : Nat} {t : Addr} (e : ts[l]? = some t) : Gm H0 (upd H t (.lst ((yss l ++ [y]).map fun i => V.int (i : Nat)))) L ts (fun j => if j = l then yss l ++ [y] else yss j) := by
  have hm := List.mem_of_getElem? e
  refine ⟨fun x u hx => ?_, ?_, g.h0, g.nd, g.t0, fun j t' e' => ?_⟩
  · rw [upd_ne (ne_of_none hx (g.t0 t hm))]; exact g.s _ _ hx
  · rw [upd_ne (Ne.symm (g.ht l t e).2)]; exact g.hL
  · by_cases h : j = l
    · subst h
      rw [e] at e'
      cases e'
      rw [if_pos rfl]
      exact ⟨upd_same, (g.ht _ _ e).2⟩
    · have ne : t' ≠ t := fun z => by
        subst z
        obtain ⟨h1, e1⟩ := List.getElem?_eq_some_iff.mp e
        obtain ⟨h2, e2⟩ := List.getElem?_eq_some_iff.mp e'
        exact h ((List.getElem_inj g.nd).mp (e2.trans e1.symm))
      rw [if_neg h, upd_ne ne]
      exact g.ht j t' e'
theorem Gm.more (g : Gm H0 H L ts fun _ => []) {t : Addr} (h : H t = none) : Gm H0 (upd (upd H t (.lst [])) L (.lst (ts.map V.ref ++ [.ref t]))) L (ts ++ [t]) fun _ => [] := by
  have tL : t ≠ L := fun z => by subst z; rw [g.hL] at h; cases h
  have t0 : H0 t = none := g.s.free h
  have tn : t ∉ ts := fun z => by
    obtain ⟨l, h1, e⟩ := List.mem_iff_getElem.mp z
    have := (g.ht l t (by rw [List.getElem?_eq_getElem h1, e])).1
    rw [h] at this; cases this
  refine ⟨fun x u hx => ?_, by rw [upd_same, List.map_append]; rfl, g.h0, ?_, fun x hx => ?_, fun l x e => ?_⟩
  · rw [upd_ne (ne_of_none hx g.h0), upd_ne (ne_of_none hx t0)]; exact g.s _ _ hx
  · rw [List.nodup_append]
    exact ⟨g.nd, by simp, fun a ha b hb => by have : b = t := by simpa using hb
                                              subst this; exact fun z => tn (z ▸ ha)⟩
  · rcases List.mem_append.mp hx with hx | hx
    · exact g.t0 x hx
    · have : x = t := by simpa using hx
      subst this; exact t0
  · by_cases hl : l < ts.length
    · rw [List.getElem?_append_left hl] at e
      have := g.ht l x e
      exact ⟨by rw [upd_ne this.2, upd_ne (fun z => by subst z; exact tn (List.mem_of_getElem? e))]; exact this.1, this.2⟩
    · rw [List.getElem?_append_right (by omega)] at e
      have : x = t := by
        have hm := List.mem_of_getElem? e
        simpa using hm
      subst this
      exact ⟨by rw [upd_ne tL, upd_same]; rfl, tL⟩
end
def optV : Option Nat → V
  | none => .non
  | some l => .int (l : Nat)
end L2
namespace L2
open PySem PySem.Spec PyProof.Rows
section
variable {X : Cx}
end
end L2
namespace Om
end Om
namespace L2
open PySem PySem.Spec PyProof.Rows
end L2
end
section
set_option Elab.async false
set_option linter.all false
set_option maxRecDepth 100000
set_option maxHeartbeats 4000000
namespace Om
theorem words_n {k n : Nat} {rows : Rows} (ok : CodeOk k n rows) : ∀ {ls : List Nat} {s : Nat}, s < rows.length → (∀ l ∈ ls, l < 2 ^ k) → ∀ c ∈ words rows s ls, c.length = n
  | [], _, _, _, c, hc => nomatch hc
  | l :: ls, s, hs, hl, c, hc => by
    obtain ⟨st, e1, e2, e3, e4⟩ := step_get ok hs (hl l List.mem_cons_self)
    rcases List.mem_cons.mp (show c ∈ (step rows s l).1 :: words rows (step rows s l).2 ls from hc) with rfl | hc
    · exact e3
    · exact words_n ok e4 (fun x hx => hl x (List.mem_cons_of_mem _ hx)) c hc
end Om
namespace L2
open PySem PySem.Spec PyProof.Rows
theorem cut_gen (xs : List V) (a h : Nat) : cutV xs (some (a : Int)) (some (h : Int)) = (xs.drop a).take (h - a) := by
  unfold cutV
  rw [HT.sIx_nat, HT.sIx_nat]
  by_cases h1 : a ≤ xs.length
  · rw [Nat.min_eq_left h1]
    by_cases h2 : h ≤ xs.length
    · rw [Nat.min_eq_left h2]
    · rw [Nat.min_eq_right (by omega), List.take_of_length_le (by simp), List.take_of_length_le (by simp; omega)]
  · rw [Nat.min_eq_right (by omega : xs.length ≤ a), List.drop_of_length_le (Nat.le_refl _), List.drop_of_length_le (by omega)]
    simp
end L2
namespace L2
theorem if_negP {c A B : Prop} [Decidable c] (hc : ¬ c) (h : B) : if c then A else B := by rw [if_neg hc]; exact h
end L2
namespace L2
end L2
end
section
set_option Elab.async false
set_option linter.all false
set_option maxRecDepth 100000
set_option maxHeartbeats 4000000
namespace L2
open PySem PySem.Spec PyProof.Rows
section
variable {X : Cx} {p pos : Pos}
end
end L2
namespace Om
end Om
end
section
set_option Elab.async false
set_option linter.all false
set_option maxRecDepth 100000
set_option maxHeartbeats 4000000
namespace L2
open PySem PySem.Spec PyProof.Rows
end L2
namespace L2
open PySem PySem.Spec PyProof.Rows
end L2
namespace L2
open PySem PySem.Spec PyProof.Rows
def woA (a : Addr) (H : Hp) : Hp := fun x => if x = a then none else H x
theorem woA.same {a : Addr} {H : Hp} : Same (woA a H) H := fun x u e => by
  unfold woA at e
  split at e
  · cases e
  · exact e
theorem woA.off {a : Addr} {H : Hp} : Off (At a) H (woA a H) := fun x u e n => by
  unfold woA
  rw [if_neg (show ¬ x = a from n)]; exact e
theorem woA.gh {a : Addr} {H : Hp} (h : Sto H a) : Gh (woA a H) H H a := ⟨woA.same, by unfold woA; rw [if_pos rfl], h, Off.refl⟩
theorem woA.at {a x : Addr} {H : Hp} {u : HO} (h : H x = some u) (n : x ≠ a) : woA a H x = some u := by unfold woA; rw [if_neg n]; exact h
end L2
end
section
set_option Elab.async false
set_option linter.all false
set_option maxRecDepth 100000
set_option maxHeartbeats 4000000
namespace L2
open PySem PySem.Spec PyProof.Rows
section
variable {X : Cx} {p pos : Pos}
end
end L2
end
section
set_option Elab.async false
set_option linter.all false
set_option maxRecDepth 100000
set_option maxHeartbeats 4000000
namespace Om
def Uns (rows : Rows) (m : Nat) : Prop := ∃ x y, iterR (St rows) (AllR rows) m x y ∧ AllR rows x y ∧ x ≠ y
def SetBy (rows : Rows) : Option Nat → Prop
  | none => ∀ m, m ≤ rows.length * rows.length → Uns rows m
  | some d => d ≤ rows.length * rows.length ∧ (∀ m, m < d → Uns rows m) ∧ ¬ Uns rows d
theorem SetBy.eq {rows : Rows} : ∀ {r r' : Option Nat}, SetBy rows r → SetBy rows r' → r = r'
  | none, none, _, _ => rfl
  | none, some d, h, h' => absurd (h d h'.1) h'.2.2
  | some d, none, h, h' => absurd (h' d h.1) h.2.2
  | some d, some d', h, h' => by
    rcases Nat.lt_trichotomy d d' with z | z | z
    · exact absurd (h'.2.1 d z) h.2.2
    · rw [z]
    · exact absurd (h.2.1 d' z) h'.2.2
theorem all_len {rows : Rows} {ks : List (Nat × Nat)} (nd : ks.Nodup) (h : ∀ p, p ∈ ks ↔ AllR rows p.1 p.2) : ks.length = rows.length * rows.length := by
  generalize hn : rows.length = n at *
  have h' : ∀ p, p ∈ ks ↔ p.1 < n ∧ p.2 < n := fun p => by rw [h]; unfold AllR; rw [hn]
  have inj : ∀ p ∈ ks, ∀ q ∈ ks, p.1 * n + p.2 = q.1 * n + q.2 → p = q := fun p hp q hq e => by
    obtain ⟨a1, a2⟩ := (h' p).mp hp
    obtain ⟨b1, b2⟩ := (h' q).mp hq
    have m1 : p.2 = q.2 := by
      have := congrArg (· % n) e
      simp only [Nat.mul_add_mod_self_right] at this
      rwa [Nat.mod_eq_of_lt a2, Nat.mod_eq_of_lt b2] at this
    have n0 : 0 < n := by omega
    have m2 : p.1 = q.1 := by
      have : p.1 * n = q.1 * n := by omega
      exact Nat.eq_of_mul_eq_mul_right n0 this
    exact Prod.ext m2 m1
  have e : (ks.map fun p => p.1 * n + p.2).Perm (List.range (n * n)) := by
    refine (List.perm_ext_iff_of_nodup ?_ List.nodup_range).mpr fun c => ?_
    · unfold List.Nodup
      rw [List.pairwise_map]
      refine List.Pairwise.imp_of_mem ?_ nd
      intro a b ha hb hab z
      exact hab (inj a ha b hb z)
    · rw [List.mem_map, List.mem_range]
      constructor
      · rintro ⟨p, hp, rfl⟩
        obtain ⟨a1, a2⟩ := (h' p).mp hp
        have := Nat.mul_le_mul_right n (show p.1 + 1 ≤ n from a1)
        rw [Nat.add_mul, Nat.one_mul] at this
        omega
      · intro hc
        have n0 : 0 < n := by
          rcases Nat.eq_zero_or_pos n with z | z
          · rw [z] at hc; simp at hc
          · exact z
        refine ⟨(c / n, c % n), (h' _).mpr ⟨Nat.div_lt_of_lt_mul hc, Nat.mod_lt _ n0⟩, ?_⟩
        show c / n * n + c % n = c
        rw [Nat.mul_comm]; exact Nat.div_add_mod c n
  have := e.length_eq
  rw [List.length_map, List.length_range] at this
  exact this
end Om
end
section
set_option Elab.async false
set_option linter.all false
set_option maxRecDepth 100000
set_option maxHeartbeats 4000000
namespace L2
open PySem PySem.Spec PyProof.Rows
theorem DVs.erase {G : Hp} : ∀ {us : List V} {ds : List PyData} (i : Nat), DVs G us ds → DVs G (us.eraseIdx i) (ds.eraseIdx i)
  | _, _, _, .nil => .nil
  | _, _, 0, .cons _ b => b
  | _, _, i + 1, .cons a b => .cons a (DVs.erase i b)
theorem mapErase {α β : Type} {f : α → β} : ∀ (l : List α) (i : Nat), (l.eraseIdx i).map f = (l.map f).eraseIdx i
  | [], _ => rfl
  | _ :: _, 0 => rfl
  | a :: l, i + 1 => by
    show f a :: (l.eraseIdx i).map f = f a :: (l.map f).eraseIdx i
    rw [mapErase l i]
structure Chn (G H0 H : Hp) (a A S : Addr) (ts : List Addr) (ps : List (Nat × Nat)) (rw : Nat → List (List Bool × Nat)) : Prop where
  s : Same G H
  ga : G a = none
  gA : G A = none
  gS : G S = none
  gt : ∀ t ∈ ts, G t = none
  st : Sto H a
  o : Off (At a) H0 H
  hA : ∃ us, H A = some (.lst us) ∧ DVs G us (ps.map pairD)
  hS : H S = some (.lst (ts.map V.ref))
  Aa : A ≠ a
  AS : A ≠ S
  At' : A ∉ ts
  Sa : S ≠ a
  St' : S ∉ ts
  at' : a ∉ ts
  nd : ts.Nodup
  zA : H0 A = none
  zS : H0 S = none
  zt : ∀ t ∈ ts, H0 t = none
  ht : ∀ i t, ts[i]? = some t → ∃ xs, H t = some (.lst xs) ∧ DVs G xs ((rw i).map rowD)
section
variable {G H0 H H' : Hp} {a A S q : Addr} {ts : List Addr} {ps : List (Nat × Nat)} {rw : Nat → List (List Bool × Nat)}
theorem Chn.take (g : Chn G H0 H a A S ts ps rw) (d : Sto H' a) (k : Off (At a) H H') : Chn G H0 H' a A S ts ps rw := by
  have keep : ∀ x u, H x = some u → x ≠ a → H' x = some u := fun x u e n => k x u e n
  obtain ⟨us, h1, h2⟩ := g.hA
  exact ⟨fun x u e => keep x u (g.s _ _ e) (ne_of_none e g.ga), g.ga, g.gA, g.gS, g.gt, d, g.o.trans k, ⟨us, keep _ _ h1 g.Aa, h2⟩, keep _ _ g.hS g.Sa, g.Aa, g.AS, g.At', g.Sa, g.St', g.at', g.nd, g.zA, g.zS, g.zt,
    fun i t e => by
      obtain ⟨xs, h3, h4⟩ := g.ht i t e
      exact ⟨xs, keep _ _ h3 (fun z => by subst z; exact g.at' (List.mem_of_getElem? e)), h4⟩⟩
theorem Chn.put {ob : HO} (g : Chn G H0 H a A S ts ps rw) (h : H q = none) : Chn (upd G q ob) H0 (upd H q ob) a A S ts ps rw := by
  obtain ⟨us, h1, h2⟩ := g.hA
  have gq : G q = none := g.s.free h
  have qa : a ≠ q := fun z => by subst z; obtain ⟨_, _, _, e⟩ := g.st; rw [h] at e; cases e
  have qA : A ≠ q := ne_of_none h1 h
  have qS : S ≠ q := ne_of_none g.hS h
  have qt : ∀ t ∈ ts, t ≠ q := fun t ht z => by
    obtain ⟨i, hi, e⟩ := List.mem_iff_getElem.mp ht
    obtain ⟨xs, h3, _⟩ := g.ht i t (by rw [List.getElem?_eq_getElem hi, e])
    rw [z, h] at h3; cases h3
  refine ⟨fun x u e => ?_, by rw [upd_ne qa]; exact g.ga, by rw [upd_ne qA]; exact g.gA, by rw [upd_ne qS]; exact g.gS, fun t ht => by rw [upd_ne (qt t ht)]; exact g.gt t ht, g.st.new h, g.o.trans (Same.upd h).off, ⟨us, Same.upd h _ _ h1, h2.mono (Same.upd gq)⟩, Same.upd h _ _ g.hS, g.Aa, g.AS, g.At', g.Sa, g.St', g.at', g.nd, g.zA, g.zS, g.zt, fun i t e => ?_⟩
  · by_cases hx : x = q
    · subst hx; rw [upd_same] at e ⊢; exact e
    · rw [upd_ne hx] at e ⊢; exact g.s _ _ e
  · obtain ⟨xs, h3, h4⟩ := g.ht i t e
    exact ⟨xs, Same.upd h _ _ h3, h4.mono (Same.upd gq)⟩
theorem Chn.up {ob : HO} (g : Chn G H0 H a A S ts ps rw) (h : H q = none) : Same G (upd G q ob) := Same.upd (g.s.free h)
theorem Chn.pop {us : List V} (g : Chn G H0 H a A S ts ps rw) (i : Nat) (h : H A = some (.lst us)) : Chn G H0 (upd H A (.lst (us.eraseIdx i))) a A S ts (ps.eraseIdx i) rw := by
  obtain ⟨us', h1, h2⟩ := g.hA
  rw [h] at h1
  cases h1
  refine ⟨g.s.own g.gA, g.ga, g.gA, g.gS, g.gt, g.st.own g.Aa, g.o.upd_own g.zA, ⟨_, upd_same, ?_⟩, by rw [upd_ne (Ne.symm g.AS)]; exact g.hS, g.Aa, g.AS, g.At', g.Sa, g.St', g.at', g.nd, g.zA, g.zS, g.zt, fun j t e => ?_⟩
  · rw [mapErase]; exact DVs.erase i h2
  · obtain ⟨xs, h3, h4⟩ := g.ht j t e
    have : t ≠ A := fun z => by subst z; exact g.At' (List.mem_of_getElem? e)
    exact ⟨xs, by rw [upd_ne this]; exact h3, h4⟩
theorem Chn.app {t : Addr} {xs : List V} {v : V} {r : List Bool × Nat} {l : Nat} (g : Chn G H0 H a A S ts ps rw) (e : ts[l]? = some t) (h : H t = some (.lst xs)) (d : DV G v (rowD r)) :
    Chn G H0 (upd H t (.lst (xs ++ [v]))) a A S ts ps (fun j => if j = l then rw l ++ [r] else rw j) := by
  have hm := List.mem_of_getElem? e
  obtain ⟨us, h1, h2⟩ := g.hA
  obtain ⟨xs', h3, h4⟩ := g.ht l t e
  rw [h] at h3
  cases h3
  have tA : A ≠ t := fun z => g.At' (z ▸ hm)
  have tS : S ≠ t := fun z => g.St' (z ▸ hm)
  have ta : t ≠ a := fun z => g.at' (z ▸ hm)
  refine ⟨g.s.own (g.gt t hm), g.ga, g.gA, g.gS, g.gt, g.st.own ta, g.o.upd_own (g.zt t hm), ⟨us, by rw [upd_ne tA]; exact h1, h2⟩, by rw [upd_ne tS]; exact g.hS, g.Aa, g.AS, g.At', g.Sa, g.St', g.at', g.nd, g.zA, g.zS, g.zt, fun j t' e' => ?_⟩
  by_cases hj : j = l
  · subst hj
    rw [e] at e'
    cases e'
    rw [if_pos rfl]
    exact ⟨_, upd_same, by rw [List.map_append]; exact h4.app (.cons d .nil)⟩
  · have ne : t' ≠ t := fun z => by
      subst z
      obtain ⟨k1, e1⟩ := List.getElem?_eq_some_iff.mp e
      obtain ⟨k2, e2⟩ := List.getElem?_eq_some_iff.mp e'
      exact hj ((List.getElem_inj g.nd).mp (e2.trans e1.symm))
    obtain ⟨xs', h5, h6⟩ := g.ht j t' e'
    rw [if_neg hj]
    exact ⟨xs', by rw [upd_ne ne]; exact h5, h6⟩
end
end L2
namespace L2
open PySem PySem.Spec PyProof.Rows
theorem DVs.ofGet {H : Hp} : ∀ {vs : List V} {ds : List PyData}, vs.length = ds.length → (∀ (i : Nat) v d, vs[i]? = some v → ds[i]? = some d → DV H v d) → DVs H vs ds
  | [], [], _, _ => .nil
  | v :: vs, d :: ds, hl, h => .cons (h 0 v d rfl rfl) (DVs.ofGet (by simpa using hl) fun i v' d' h1 h2 => h (i + 1) v' d' h1 h2)
  | [], _ :: _, hl, _ => by simp at hl
  | _ :: _, [], hl, _ => by simp at hl
end L2
end
section
set_option Elab.async false
set_option linter.all false
set_option maxRecDepth 100000
set_option maxHeartbeats 4000000
namespace L2
open PySem PySem.Spec PyProof.Rows
def Itv (K : PySem.W.Frag) (a : Addr) (n : Nat) : It :=
  ⟨fun i H => ∃ xs x, SqL K H a xs ∧ xs.length = n ∧ xs.reverse[i]? = some x, fun i H x H' => H' = H ∧ ∀ xs, SqL K H a xs → xs.reverse[i]? = some x, fun i H => ∃ xs, SqL K H a xs ∧ xs.length = n ∧ n ≤ i⟩
theorem turn_rev {P : Program} {w : World} {K : PySem.W.Frag} {tg : Expr} (a it : Addr) (n : Nat) : Turn P w K tg (Itv K a n) [it] it (fun i h => i ≤ n ∧ h.IsRevIter it a ((n : Int) - 1 - (i : Int))) where
  mem := by simp
  obj := fun i h st b hb => by
    have e : b = it := by simpa using hb
    subst e
    obtain ⟨_, o, e, c, d⟩ := st
    exact ⟨o, e, fun v z => by rw [d] at z; cases z⟩
  keep := fun i h h' st k => ⟨st.1, st.2.at fun o e => k it (by simp) o e⟩
  item := by
    intro X hP hw hK hc i pins s σ H E I hf st hg
    subst hP hw hK
    obtain ⟨xs, x, hq, hn, hx⟩ := hg
    obtain ⟨its, rv, p, hz⟩ := I.list hq
    have hi : i < n := by
      have := (List.getElem?_eq_some_iff.mp hx).1
      rw [List.length_reverse] at this; omega
    have hx' : xs[n - 1 - i]? = some x := by rw [List.getElem?_reverse (by omega), hn] at hx; exact hx
    obtain ⟨u, hu, ru⟩ := rv.get hx'
    obtain ⟨f0, f1, f2, f3, f4, f5⟩ := hf it (by simp)
    have e : (n : Int) - 1 - (i : Int) = ((n - 1 - i : Nat) : Int) := by omega
    have hit := st.2
    rw [e] at hit
    refine wpAny_pyNext_rev_item hit p.isList (x := u) (by simpa using hu) fun h' st' sb => ?_
    have e2 : ((n - 1 - i : Nat) : Int) - 1 = (n : Int) - 1 - ((i + 1 : Nat) : Int) := by omega
    rw [e2] at st'
    have I1 : Inv X pins σ H { s with heap := h' } := I.turned (t' := s.toks) (fun b o hb e => (sb.2 b hb).trans e) f0 f1 f3 f4 f5
    obtain ⟨o, e, c, d⟩ := id st'
    exact ⟨u, rfl, go_of (s := { s with heap := h' }) e c d (by decide) ⟨x, H, I1, ru, ⟨rfl, fun ys hy => by rw [I.list_inj hy hq]; exact hx⟩, ⟨hi, st'⟩, fun b hb => (hf b hb).1⟩⟩
  done := by
    intro X hP hw hK hc i pins s σ H E I hf st hg
    subst hP hw hK
    obtain ⟨xs, hq, hn, hx⟩ := hg
    obtain ⟨f0, f1, f2, f3, f4, f5⟩ := hf it (by simp)
    have hit := st.2
    have : i = n := Nat.le_antisymm st.1 hx
    subst this
    rw [show (i : Int) - 1 - (i : Int) = -1 by omega] at hit
    exact wpAny_pyNext_rev_end (I.ok.hd hc) hit fun h' eb => ⟨rfl, I.turned (t' := s.toks) (fun b o hb e => eb b o hb e) f0 f1 f3 f4 f5⟩
  self := fun _ _ _ _ _ st h => wpAny_pyIter_revIter st.2 h
section
variable {X : Cx} {p pos : Pos} {a tg : Expr}
def iRev (K : PySem.W.Frag) (ta : TA) : TI := fun σ H R => ta σ H fun vs H1 => match vs with
  | [.ref l] => ∃ xs, SqL K H1 l xs ∧ R (Itv K l xs.length) H1
  | _ => False
theorem it_rev {ta : TA} {mg' : Str → Option Value} (hm : mg' "reversed" = none) (hX : X.mg = mg') (ha : PA X [a] ta) (hg : gB X "reversed" = true := by kernel_rfl) (hs : starEach [a] X.env = [(false, eval a X.env)] := by kernel_rfl) :
    PI X tg (.Call (.Name "reversed" p) [a] [] pos) (iRev X.K ta) := by
  intro pins s σ H R I h
  refine Call_ (ld_blt I (gl_of hg) (by rw [hX]; exact hm) boot_reversed (PyProof.Rows.callWith_type1 (thn (ha pos pins s σ H _ I h) fun us s1 ⟨vs, H1, I1, r1, q1⟩ => ?_) hs rfl))
  dsimp only at q1
  split at q1
  · rename_i l
    obtain ⟨xs, hq, q⟩ := q1
    obtain ⟨u, rfl, r⟩ := vals1 r1
    cases r
    obtain ⟨its, rv, pl, hz⟩ := I1.list hq
    have rl := rv.length
    refine call_reversed_list pl.isList ?_
    have e0 : ((its.toArray.size : Nat) : Int) - 1 = (xs.length : Int) - 1 - ((0 : Nat) : Int) := by simp; omega
    have st : (s1.heap.push (revObj l (((its.toArray.size : Nat) : Int) - 1))).IsRevIter s1.heap.objs.size l ((xs.length : Int) - 1 - ((0 : Nat) : Int)) := ⟨_, Heap.get?_push_size _ rfl, rfl, by rw [← e0]; rfl⟩
    refine wpAny_pyIter_revIter st ?_
    refine ⟨s1.heap.objs.size, [s1.heap.objs.size], _, _, H1, rfl, I1.kept (t' := s1.toks) fun b o e => Heap.get?_push_of_some _ e, turn_rev l _ xs.length, ⟨Nat.zero_le _, st⟩, fun b hb => ?_, q⟩
    have e : b = s1.heap.objs.size := by simpa using hb
    subst e
    exact I1.fpOk (Nat.le_refl _) (I1.hok.fresh (Nat.le_refl _))
  · exact q1.elim
end
theorem it_revL (K : PySem.W.Frag) (a : Addr) (xs : List V) : ItOk (Itv K a xs.length) xs.reverse fun H => SqL K H a xs :=
  ⟨fun H h => ⟨xs, h, rfl, by simp⟩, fun i H h hi => ⟨xs, _, h, rfl, List.getElem?_eq_getElem hi⟩, fun i H x H' h hi y => ⟨y.1, y.2 xs h⟩⟩
end L2
namespace L2
open PySem PySem.Spec PyProof.Rows
theorem Vals.rev : ∀ {xs : List V} {us : List Value}, Vals xs us → Vals xs.reverse us.reverse
  | _, _, .nil => .nil
  | _, _, .cons r t => by
    rw [List.reverse_cons, List.reverse_cons]
    exact (Vals.rev t).append (.cons r .nil)
section
variable {prog : Program} {w : World} {A : Around} {E : Value → Shared → Prop} {s : Shared}
theorem hint_rev {it : Addr} {Q : Bool → Shared → Prop} (hT : s.TypeIs (.ref it) "list_reverseiterator") (h : Q false s) : wpAny (model prog w) A (Builtin.List.listLengthHint (.ref it)) Q E s := by
  have n1 : typeLookup (.type "list_reverseiterator") "__len__" = pure none := by rw [typeLookup_type, builtinLookup_eq_fast]; kernel_rfl
  have n2 : typeLookup (.type "list_reverseiterator") "__length_hint__" = pure (some (.builtin "list_reverseiterator.__length_hint__")) := by rw [typeLookup_type, builtinLookup_eq_fast]; kernel_rfl
  unfold Builtin.List.listLengthHint
  refine wpAny_bind (wpAny_specialOf hT n1 ?_)
  wp_delta
  refine wpAny_ite_split (fun hab => absurd hab (by decide +kernel)) (fun _ => ?_)
  refine wpAny_ite_split (fun hab => absurd hab (by decide)) (fun _ => ?_)
  refine wpAny_bind (wpAny_specialOf hT n2 ?_)
  generalize hid : ("list_reverseiterator.__length_hint__" : String) = id0
  wp_delta
  rw [show splitId id0 = some ("list_reverseiterator", "__length_hint__") from by subst hid; decide +kernel]
  subst hid
  refine wpAny_bind (wpAny_isInstance (T := "list_reverseiterator") (b := true) hT (by rw [isSubtype_type]; kernel_rfl) ?_)
  refine wpAny_ite_split (fun hab => absurd hab (by decide)) (fun _ => ?_)
  refine wpAny_ite_split (fun _ => ?_) (fun hab => absurd (by decide +kernel) hab)
  refine wpAny_ite_split (fun hab => absurd hab (by decide +kernel)) (fun _ => ?_)
  exact wpAny_pure h
theorem extend_rev {R : Result → Shared → Prop} {it l : Addr} {items : Array Value} (hh : A.handled = none) (hit : s.heap.IsRevIter it l ((items.size : Int) - 1 - ((0 : Nat) : Int))) (hl : s.heap.IsList l items) (hne : l ≠ it) (hlen : items.size ≤ sizeLine) (S : Addr) (res : Value) (c₀ : Nat) (hS : s.heap.get? S = some { cls := .type "list", data := .seq #[] c₀ }) (hSl : S ≠ l)
    (hR : ∀ h' tk acc' c', (∀ b o, b ≠ S → b ≠ it → s.heap.get? b = some o → h'.get? b = some o) → h'.get? S = some { cls := .type "list", dict := none, data := .seq acc' c', slots := #[] } →
      ItemsOf (fun i v => items[items.size - 1 - i]? = some v) acc' items.size → R (.ok (.ret res)) { s with heap := h', toks := tk }) :
    wpAny (model prog w) A.in1 (Builtin.List.listExtendWith (.ref S) (.ref it) res)
      (fun fin s' => match fin with | .done f => R (.ok f) s' | .again c' => c'.quiet = true ∧ codeAny (model prog w) A c' R s') (fun e s' => R (.error e) s') s := by
  have hT := hit.typeIs
  have hSr : S ≠ it := fun e => by obtain ⟨o, ho, hc, _⟩ := hit; rw [← e, hS] at ho; cases ho; exact absurd (show Value.type "list" = Value.type "list_reverseiterator" from hc) (by decide)
  have hSf : S ∉ [it, l] := fun hm => by simp at hm; rcases hm with h | h; exact hSr h; exact hSl h
  have W := (Walks.listRev (prog := prog) (w := w) (A := A.in1) hh it l hne items).toS
  unfold Builtin.List.listExtendWith
  refine wpAny_bind (wpAny_typeOf (T := "list_reverseiterator") hT ?_)
  have h1 : Builtin.List.listSameRef (.ref S) (.ref it) = false := by simp [Builtin.List.listSameRef, hSr]
  have h2 : (Value.type "list_reverseiterator" == Value.type "list") = false := by decide
  have h3 : (Value.type "list_reverseiterator" == Value.type "tuple") = false := by decide
  simp only [h1, h2, h3, Bool.or_false, Bool.false_eq_true, if_false]
  refine wpAny_bind (wpAny_pyIter_revIter hit ?_)
  refine wpAny_bind (wpAny_holding (hint_rev hT ?_))
  have key : ∀ (h : Heap) (c₁ tk : Nat), h.IsRevIter it l ((items.size : Int) - 1 - ((0 : Nat) : Int)) → h.IsList l items → (∀ b o, b ≠ S → s.heap.get? b = some o → h.get? b = some o) →
      h.get? S = some { cls := .type "list", data := .seq #[] c₁ } → codeAny (model prog w) A (.builtin "list.extend.loop" ⟨[.ref S, .ref it, res], []⟩) R { s with heap := h, toks := tk } := by
    intro h c₁ tk hit' hll hk hS₁
    refine codeAny_extend_loopS W hlen S hSf res items.size 0 _ #[] c₁ rfl (Nat.zero_le _) ⟨Nat.zero_le _, hit', hll⟩ hS₁ (ItemsOf.nil _) fun s' acc' c' hm hS' hacc => ?_
    rw [Moved.eq_with hm]
    refine hR s'.heap s'.toks acc' c' (fun b o hb hb2 e => hm.heap b o (fun hmem => ?_) (hk b o hb e)) hS' hacc
    rcases List.mem_cons.mp hmem with e' | hmem
    · exact hb e'
    · exact hb2 (List.mem_singleton.mp hmem)
  refine wpAny_ite_split (fun _ => ?_) (fun _ => wpAny_pure ⟨plainId_quiet F.plain_extend_loop _, key _ c₀ _ hit hl (fun b o _ e => e) hS⟩)
  refine wpAny_bind (wpAny_rule ?_)
  refine wpAny_bind ?_
  show wpAny _ _ (updateSeq S (·.push .none) >>= fun _ => updateSeq S (·.pop)) _ _ _
  refine wpAny_bind (wpAny_updateSeq hS rfl ?_)
  have hS₂ := Heap.get?_update_self (Obj.mapSeq (·.push Value.none)) hS rfl
  refine wpAny_updateSeq (hz := by seq_fits) hS₂ rfl ?_
  have hS₃ := Heap.get?_update_self (Obj.mapSeq (·.pop)) hS₂ rfl
  refine wpAny_pure ⟨plainId_quiet F.plain_extend_loop _, key _ _ _ ?_ ?_ (fun b o hb e => ?_) hS₃⟩
  · exact hit.at fun o e => (Heap.get?_update_other _ _ hSr).trans ((Heap.get?_update_other _ _ hSr).trans e)
  · exact hl.at fun o e => (Heap.get?_update_other _ _ hSl).trans ((Heap.get?_update_other _ _ hSl).trans e)
  · exact (Heap.get?_update_other _ _ (Ne.symm hb)).trans ((Heap.get?_update_other _ _ (Ne.symm hb)).trans e)
theorem call_list_rev {Q : Value → Shared → Prop} {it l : Addr} {items : Array Value} (hh : A.handled = none) (hit : s.heap.IsRevIter it l ((items.size : Int) - 1 - ((0 : Nat) : Int))) (hl : s.heap.IsList l items) (hne : l ≠ it) (hlen : items.size ≤ sizeLine)
    (hQ : ∀ h' tk acc' c', (∀ b o, b ≠ it → s.heap.get? b = some o → h'.get? b = some o) →
      h'.get? s.heap.objs.size = some { cls := .type "list", dict := none, data := .seq acc' c', slots := #[] } → ItemsOf (fun i v => items[items.size - 1 - i]? = some v) acc' items.size → Q (.ref s.heap.objs.size) { s with heap := h', toks := tk }) :
    wpAny (model prog w) A (call (.type "list") [.ref it]) Q E s := by
  refine callType_codes (Q₁ := fun obj s₁ => obj = .ref s.heap.objs.size ∧ s₁ = { s with heap := s.heap.push { cls := .type "list", data := .seq #[] } }) F.called_list (F.typeCall_list_1 _) F.entry_list_init
    (code_list_new _ ⟨rfl, rfl⟩) fun obj s₁ h₁ => ?_
  obtain ⟨rfl, rfl⟩ := h₁
  have hS : (s.heap.push { cls := .type "list", data := .seq #[] }).get? s.heap.objs.size = some { cls := .type "list", data := .seq #[] } := Heap.get?_push_size _ rfl
  have itlt : it < s.heap.objs.size := by obtain ⟨o, ho, _⟩ := hit; exact Heap.lt_size ho
  have llt : l < s.heap.objs.size := by obtain ⟨o, ho, _⟩ := hl; exact Heap.lt_size ho
  refine ⟨⟨_, hS, rfl⟩, F.args_list_init_2 _ _, ?_⟩
  show wpAny _ _ (do let old ← Builtin.List.listItems (.ref s.heap.objs.size); Builtin.List.listUpdate (.ref s.heap.objs.size) (fun _ => #[]); letGo old.toList.reverse; Builtin.List.listExtendWith (.ref s.heap.objs.size) (.ref it) .none) _ _ _
  refine wpAny_bind ?_
  unfold Builtin.List.listItems
  refine wpAny_bind (wpAny_seqItems hS rfl (wpAny_pure ?_))
  show wpAny _ _ (updateSeq s.heap.objs.size (fun _ => #[]) >>= fun _ => letGo (#[] : Array Value).toList.reverse >>= fun _ => Builtin.List.listExtendWith (.ref s.heap.objs.size) (.ref it) .none) _ _ _
  refine wpAny_bind (wpAny_updateSeq hS rfl ?_)
  have hS₂ := Heap.get?_update_self (Obj.mapSeq (fun _ => (#[] : Array Value))) hS rfl
  have oth : ∀ b o, b ≠ s.heap.objs.size → (s.heap.push { cls := .type "list", data := .seq #[] }).get? b = some o → ((s.heap.push { cls := .type "list", data := .seq #[] }).update s.heap.objs.size (Obj.mapSeq (fun _ => (#[] : Array Value)))).get? b = some o :=
    fun b o hb e => (Heap.get?_update_other _ _ (Ne.symm hb)).trans e
  refine wpAny_bind (wpAny_letGo ?_)
  have hit2 := hit.at (h' := ((s.heap.push { cls := .type "list", data := .seq #[] }).update s.heap.objs.size (Obj.mapSeq (fun _ => (#[] : Array Value))))) fun o e => oth it o (Nat.ne_of_lt itlt) (Heap.get?_push_of_some _ e)
  have hl2 := hl.at (h' := ((s.heap.push { cls := .type "list", data := .seq #[] }).update s.heap.objs.size (Obj.mapSeq (fun _ => (#[] : Array Value))))) fun o e => oth l o (Nat.ne_of_lt llt) (Heap.get?_push_of_some _ e)
  refine extend_rev (A := A.in1) hh hit2 hl2 hne hlen _ .none _ hS₂ (Nat.ne_of_gt llt) fun h' tk acc' c' hk hS' hacc => ?_
  exact ⟨rfl, hQ h' tk acc' c' (fun b o hb e => hk b o (Nat.ne_of_lt (Heap.lt_size e)) hb (oth b o (Nat.ne_of_lt (Heap.lt_size e)) (Heap.get?_push_of_some _ e))) hS' hacc⟩
end
section
variable {X : Cx} {p p2 pos pos2 : Pos} {a : Expr}
def tLR (ta : TA) : TE := fun σ H Q => ta σ H fun vs H1 => match vs with
  | [.ref l] => ∃ xs, H1 l = some (.lst xs) ∧ ∀ n, H1 n = none → Q (.ref n) (upd H1 n (.lst xs.reverse))
  | _ => False
theorem e_listRev {ta : TA} {mg' : Str → Option Value} (hm1 : mg' "list" = none) (hm2 : mg' "reversed" = none) (hX : X.mg = mg') (ha : PA X [a] ta) (hc : X.calm = true := by kernel_rfl) (hg1 : gB X "list" = true := by kernel_rfl) (hg2 : gB X "reversed" = true := by kernel_rfl)
    (hs : starEach [a] X.env = [(false, eval a X.env)] := by kernel_rfl) (hs1 : starEach [.Call (.Name "reversed" p2) [a] [] pos2] X.env = [(false, eval (.Call (.Name "reversed" p2) [a] [] pos2) X.env)] := by kernel_rfl) :
    PE X (.Call (.Name "list" p) [.Call (.Name "reversed" p2) [a] [] pos2] [] pos) (tLR ta) := by
  intro pins s σ H Q I h
  refine wpAny_Call_Name_kw (ld_blt I (gl_of hg1) (by rw [hX]; exact hm1) boot_list ?_)
  refine PyProof.Rows.callWith_type1 ?_ hs1 rfl
  rw [hs1]
  show wpAny _ _ (spliced [(false, eval (.Call (.Name "reversed" p2) [a] [] pos2) X.env)]) _ _ s
  refine Calls.spliced_cons ?_
  refine Call_ (ld_blt I (gl_of hg2) (by rw [hX]; exact hm2) boot_reversed (PyProof.Rows.callWith_type1 (thn (ha pos2 pins s σ H _ I h) fun us s1 ⟨vs, H1, I1, r1, q1⟩ => ?_) hs rfl))
  dsimp only at q1
  split at q1
  · rename_i l
    obtain ⟨xs, hq, q⟩ := q1
    obtain ⟨u, rfl, r⟩ := vals1 r1
    cases r
    obtain ⟨its, rv, pl, hz⟩ := I1.list (SqL.of (K := X.K) hq)
    have rl := rv.length
    refine call_reversed_list pl.isList ?_
    have ilt : l < s1.heap.objs.size := by obtain ⟨o, ho, _⟩ := pl.isList; exact Heap.lt_size ho
    have hne : l ≠ s1.heap.objs.size := Nat.ne_of_lt ilt
    have hfr : H1 s1.heap.objs.size = none := I1.hok.fresh (Nat.le_refl _)
    have I2 : Inv X pins σ H1 { s1 with heap := s1.heap.push (revObj l (((its.toArray.size : Nat) : Int) - 1)) } := I1.kept (t' := s1.toks) fun b o e => Heap.get?_push_of_some _ e
    have st : (s1.heap.push (revObj l (((its.toArray.size : Nat) : Int) - 1))).IsRevIter s1.heap.objs.size l (((its.toArray.size : Nat) : Int) - 1 - ((0 : Nat) : Int)) := ⟨_, Heap.get?_push_size _ rfl, rfl, by rw [show ((its.toArray.size : Nat) : Int) - 1 - ((0 : Nat) : Int) = ((its.toArray.size : Nat) : Int) - 1 by omega]; rfl⟩
    have fp : FpOk X pins H1 s1.heap.objs.size := I1.fpOk (Nat.le_refl _) hfr
    refine Calls.spliced_nil ?_
    refine call_list_rev (I2.ok.hd hc) st (pl.isList.at fun o e => Heap.get?_push_of_some _ e) hne (by simp; omega) fun h' tk acc' c' kp e' itm => ?_
    have sz : s1.heap.objs.size ≤ (s1.heap.push (revObj l (((its.toArray.size : Nat) : Int) - 1))).objs.size := by rw [Heap.size_push]; omega
    have hn : H1 (s1.heap.push (revObj l (((its.toArray.size : Nat) : Int) - 1))).objs.size = none := I1.hok.fresh sz
    refine ⟨.ref (s1.heap.push (revObj l (((its.toArray.size : Nat) : Int) - 1))).objs.size, upd H1 (s1.heap.push (revObj l (((its.toArray.size : Nat) : Int) - 1))).objs.size (.lst xs.reverse), ?_, rfl, q _ hn⟩
    refine I2.turnLaid (t' := tk) (ch := [s1.heap.objs.size]) (fun b hb => ?_) (fun b o hb e => kp b o (fun z => hb (by simp [z])) e) (Nat.le_refl _) ?_
    · rw [List.mem_singleton.mp hb]; exact fp
    · refine ⟨by rw [List.length_reverse]; omega, acc'.toList, c', ?_, by simpa using e'⟩
      have er : acc'.toList = its.reverse := by
        apply List.ext_getElem?
        intro i
        by_cases hi : i < its.length
        · have hi' : i < acc'.size := by rw [itm.1]; simpa using hi
          have := itm.2 i acc'[i] (by simp [hi'])
          rw [List.getElem?_reverse hi]
          have e1 : acc'.toList[i]? = some acc'[i] := by simp [hi']
          rw [e1]
          have e2 : its.toArray[its.toArray.size - 1 - i]? = its[its.length - 1 - i]? := by simp
          rw [← e2]; exact this.symm
        · have : ¬ i < acc'.size := by rw [itm.1]; simpa using hi
          rw [List.getElem?_eq_none (by simp; omega), List.getElem?_eq_none (by rw [List.length_reverse]; omega)]
      rw [er]
      exact Vals.rev rv
  · exact q1.elim
end
end L2
end
section
set_option Elab.async false
set_option linter.all false
set_option maxRecDepth 100000
set_option maxHeartbeats 4000000
namespace L2
open PySem PySem.Spec PyProof.Rows
section
variable {H H' : Hp} {v : V} {R R1 : Om.R2n} {E : Nat → Nat → Om.Stp → Prop}
theorem noL {L : Addr} {xs ys : List V} (hL : H L = some (.lst xs)) {x : Addr} {u : HO} (h : H x = some u) (n : ∀ zs, u ≠ .lst zs) : upd H L (.lst ys) x = some u := by
  have : x ≠ L := fun z => by subst z; rw [hL] at h; cases h; exact n _ rfl
  rw [upd_ne this]; exact h
end
theorem valV_put_ne {kvs : List (List Key × V)} {p q : Nat × Nat} {v : V} (h : q ≠ p) : valV (putK kvs (kk p) v) (kk q) = valV kvs (kk q) := by
  rw [valV_put, if_neg (fun z => h (kk_inj z))]
theorem valV_put_eq {kvs : List (List Key × V)} {p : Nat × Nat} {v : V} : valV (putK kvs (kk p) v) (kk p) = some v := by rw [valV_put, if_pos rfl]
end L2
namespace L2
open PySem PySem.Spec PyProof.Rows
section
variable {H H' : Hp} {v : V} {R : Om.R2n} {E : Nat → Nat → Om.Stp → Prop}
end
end L2
end
section
set_option Elab.async false
set_option linter.all false
set_option maxRecDepth 100000
set_option maxHeartbeats 4000000
namespace L2
open PySem PySem.Spec PyProof.Rows
section
variable {X : Cx} {p pos p2 : Pos} {a b e st : Expr} {es : List Expr} {t : TA} {te : TE} {ts : TO}
def rRev : V → Option Int → Hp → VK → Prop := fun x k H Q => k = some (-1) ∧ match x with
  | .ref p => ∃ xs, H p = some (.lst xs) ∧ ∀ n, H n = none → Q (.ref n) (upd H n (.lst xs.reverse))
  | .str z => z.length ≤ sizeLine ∧ ∀ z' : Str, z'.length ≤ z.length → Q (.str z') H
  | _ => False
theorem vals_rev : ∀ {xs : List V} {us : List Value}, Vals xs us → Vals xs.reverse us.reverse
  | [], us, r => by cases r; exact .nil
  | x :: xs, us, r => by
    cases r with
    | cons r1 r2 =>
      rw [List.reverse_cons, List.reverse_cons]
      exact (vals_rev r2).append (.cons r1 .nil)
theorem e_rev (he : PE X e te) (hs : PO X (some st) ts) : PE X (.Subscript e (.Slice none none (some st) p2) pos) (fun σ H Q => te σ H fun x H1 => ts σ H1 fun k H2 => rRev x k H2 Q) := by
  intro pins s σ H Q I h
  refine Subscript_ (thn (he pins s σ H _ I h) fun v s1 ⟨x, H1, I1, r1, q1⟩ => ?_)
  refine wpAny_Slice ?_
  rw [evalPart_none]
  refine wpAny_pure (wpAny_pure ?_)
  refine thn (hs pins s1 σ H1 _ I1 q1) fun vk s3 ⟨k, H3, I3, pk, q3⟩ => ?_
  obtain ⟨ek, q3⟩ := q3
  subst ek
  have I4 : Inv X pins σ H3 { s3 with heap := s3.heap.push { cls := .type "slice", data := .fields #[.none, .none, vk] } } := I3.kept (t' := s3.toks) fun b ob q => Heap.get?_push_of_some _ q
  have hsl : (s3.heap.push { cls := .type "slice", data := .fields #[.none, .none, vk] }).IsSliceOf s3.heap.objs.size .none .none vk := Heap.IsSliceOf.new ..
  show wpAny (model X.prog X.w) X.A (subscriptTail e (.Slice none none (some st) p2) v (.ref s3.heap.objs.size)) (EP X pins σ Q) X.xe { s3 with heap := s3.heap.push { cls := .type "slice", data := .fields #[.none, .none, vk] } }
  generalize hs4 : ({ s3 with heap := s3.heap.push { cls := .type "slice", data := .fields #[.none, .none, vk] } } : Shared) = s4 at I4
  have hsl4 : s4.heap.IsSliceOf s3.heap.objs.size .none .none vk := by rw [← hs4]; exact hsl
  cases x with
  | ref l =>
    obtain ⟨xs, hx, q⟩ := q3
    cases r1
    obtain ⟨its, r, ht, hz⟩ := I4.list (SqL.of hx)
    refine tail_any (ops := [.ref l, .ref s3.heap.objs.size]) ht.isList.typeIs slot_list_getitem.lookup ?_ (by with_unfolding_all rfl)
    have hlen := r.length
    refine wpAny_getItem_list_slice ht.isList hsl4 .none .none pk (by decide) ?_ (by rw [List.size_toArray]; omega)
    rw [PySem.W.krv_pick]
    refine ⟨.ref s4.heap.objs.size, _, I4.laid (t' := s4.toks) (o := .lst xs.reverse) (fun b ob q => Heap.get?_push_of_some _ q) (Nat.le_refl _) ?_, rfl, q _ (I4.hok.fresh (Nat.le_refl _))⟩
    exact ⟨by rw [List.length_reverse]; exact hz, _, 0, vals_rev r, Heap.get?_push_size _ rfl⟩
  | str z =>
    obtain ⟨hz, q⟩ := q3
    obtain ⟨t, rfl⟩ := r1
    refine tail_any (ops := [.str z t, .ref s3.heap.objs.size]) (typeIs_str _ _ _) F.slot_str_getitem.lookup ?_ (by with_unfolding_all rfl)
    cases pk with
    | int _ u =>
      have hle : (if (((some ((-1 : Int), u)).map (·.1)).getD 1 == 1 && (slicePicked z none none (some ((-1 : Int), u))).length == z.length) = true then z else ⟨((slicePicked z none none (some ((-1 : Int), u))).filterMap (z.cps[·]?)).toArray⟩ : Str).length ≤ z.length := by
        split
        · exact Nat.le_refl _
        · show (List.filterMap _ (Builtin.Str.strSliceIndices none none (-1) z.length)).toArray.size ≤ z.length
          rw [List.size_toArray, picked_rev]
          refine Nat.le_trans (List.length_filterMap_le _ _) ?_
          simp
      exact wpAny_getItem_str_slice (l := none) (u := none) (st := some (-1, u)) hsl4 rfl (post_val_or_str ⟨Nat.le_trans hle hz, fun t' k => ⟨.str _, H3, I4.tok _, ⟨_, rfl⟩, q _ hle⟩⟩)
  | _ => exact q3.elim
end
section
variable {H H' : Hp} {n : Nat} {v : V} {a : Addr} {xs : List V}
end
section
variable {F : Addr → Prop} {H H' : Hp} {b : Addr} {o : HO}
end
end L2
end
section
set_option Elab.async false
set_option linter.all false
set_option maxRecDepth 100000
set_option maxHeartbeats 4000000
namespace L2
open PySem PySem.Spec PyProof.Rows
end L2
end
section
set_option Elab.async false
set_option linter.all false
set_option maxRecDepth 100000
set_option maxHeartbeats 4000000
namespace L2
open PySem PySem.Spec PyProof.Rows

section
variable {X : Cx} {p pos : Pos} {e : Expr} {es : List Expr} {t : TA}
end
end L2
end
section
set_option Elab.async false
set_option linter.all false
set_option maxRecDepth 100000
set_option maxHeartbeats 4000000
namespace L2
open PySem PySem.Spec PyProof.Rows
def SameT (P : Addr) (H H' : Hp) : Prop := ∀ b o, b ≠ P → H b = some o → H' b = some o
theorem SameT.refl (P : Addr) (H : Hp) : SameT P H H := fun _ _ _ h => h
theorem SameT.trans {P : Addr} {H H1 H2 : Hp} (a : SameT P H H1) (b : SameT P H1 H2) : SameT P H H2 := fun c o n h => b c o n (a c o n h)
theorem Same.t {P : Addr} {H H' : Hp} (a : Same H H') : SameT P H H' := fun c o _ h => a c o h
section
variable {X : Cx} {pins : List (Addr × Obj)} {σ : St} {H : Hp} {s : Shared}
theorem Mod.keeps {K : PySem.W.Frag} {mg : Str → Option Value} {base base' : Heap} (M : Mod K mg base) (k : ∀ b o, base.get? b = some o → base'.get? b = some o) : Mod K mg base' :=
  ⟨M.kin.keeps k, M.glob.keeps k, let ⟨mb, a, b⟩ := M.blt; ⟨mb, a.keeps k, b⟩, M.nolimit.keeps k⟩
end

section
variable {X : Cx} {p pos lp : Pos} {a : Expr} {ta : TE}
end
end L2
end
section
set_option Elab.async false
set_option linter.all false
set_option maxRecDepth 100000
set_option maxHeartbeats 4000000
namespace Om
section
variable {α : Type} [DecidableEq α]
end
end Om
namespace L2
open PySem PySem.Spec PyProof.Rows
section
variable {prog : Program} {w : World} {A : Around} {I : Addr} {fp wr : List Addr} {G : Array GenState → Array GenState → Prop} {n : Nat} {P : Nat → Value → Prop} {St : Nat → Shared → Prop} {κ : Type} [DecidableEq κ] {knd : KeyKind prog w κ}
end
section
variable {X : Cx} {p pos : Pos} {e : Expr} {es : List Expr} {t : TA}
end
end L2
end
section
set_option Elab.async false
set_option linter.all false
set_option maxRecDepth 100000
set_option maxHeartbeats 4000000
namespace L2
open PySem PySem.Spec PyProof.Rows
end L2
end
section
set_option Elab.async false
set_option linter.all false
set_option maxRecDepth 100000
set_option maxHeartbeats 4000000
namespace L2
open PySem PySem.Spec PyProof.Rows
section
variable {prog : Program} {w : World} {A : Around} {E : Value → Shared → Prop} {s : Shared}
end
end L2
end
section
set_option Elab.async false
set_option linter.all false
set_option maxRecDepth 100000
set_option maxHeartbeats 4000000
namespace L2
open PySem PySem.Spec PyProof.Rows
section
variable {prog : Program} {w : World} {A : Around} {E : Value → Shared → Prop} {s : Shared}
end
end L2
end
section
set_option Elab.async false
set_option linter.all false
set_option maxRecDepth 100000
set_option maxHeartbeats 4000000
namespace L2
open PySem PySem.Spec PyProof.Rows
section
variable {prog : Program} {w : World} {A : Around} {E : Value → Shared → Prop} {s : Shared}
variable {I : Addr} {fp wr : List Addr} {G : Array GenState → Array GenState → Prop} {n : Nat} {P : Nat → Value → Prop} {St : Nat → Shared → Prop}
end
end L2
end
section
set_option Elab.async false
set_option linter.all false
set_option maxRecDepth 100000
set_option maxHeartbeats 4000000
namespace Om
open PySem
end Om
namespace L2
open PySem PySem.Spec PyProof.Rows
section
variable {prog : Program} {w : World} {A : Around} {E : Value → Shared → Prop} {s : Shared}
end
end L2
end
section
set_option Elab.async false
set_option linter.all false
set_option maxRecDepth 100000
set_option maxHeartbeats 4000000
namespace L2
open PySem PySem.Spec PyProof.Rows
section
variable {prog : Program} {w : World} {A : Around} {E : Value → Shared → Prop} {s : Shared}
end
section
variable {X : Cx} {p pos : Pos} {e : Expr} {es : List Expr} {t : TA}
end
end L2
end
section
set_option Elab.async false
set_option linter.all false
set_option maxRecDepth 100000
set_option maxHeartbeats 4000000
namespace K31
open PySem L2
def top (i : Nat) : Stmt := PySem.Challenge.pw_ownbeat_k31_whole_known_behind_so_many.main.body.getD i (.Pass ⟨0, 0, 0, 0⟩)
end K31
end
section
set_option maxRecDepth 100000
open PySem L2
local macro_rules | `(tactic| walk_at "T.n") => `(tactic| fail "no names")
local macro_rules | `(tactic| walk_at "T.a") => `(tactic| first | (with_reducible exact pa_nil) | ((with_reducible refine' a_cons ?a1 ?a2); (case a1 => walk_at "T.e"); (case a2 => walk_at "T.a")))
local macro_rules | `(tactic| walk_at "T.o") => `(tactic| first | (with_reducible exact po_none) | ((with_reducible refine' po_someU ?a1); (case a1 => walk_at "T.e")))
local macro_rules | `(tactic| walk_at "T.cmp") => `(tactic| first | (with_reducible exact op_inL) | (with_reducible exact op_notInL) | (with_reducible exact op_isU) | (with_reducible exact op_isNotU) | (with_reducible exact op_lt.n0) | (with_reducible exact op_le.n0) | (with_reducible exact op_gt.n0) | (with_reducible exact op_ge.n0) | ((with_reducible refine' op_eqU ?a1); (case a1 => exact Room.units (by assumption))) | ((with_reducible refine' op_neU ?a1); (case a1 => exact Room.units (by assumption))))
local macro_rules | `(tactic| walk_at "T.op") => `(tactic| first | (with_reducible exact op_addU) | (with_reducible exact op_sub.n0) | (with_reducible exact op_mulU) | (with_reducible exact op_mod.n) | (with_reducible exact op_fdiv.n) | (with_reducible exact op_pow.n) | (with_reducible exact op_shl.n) | (with_reducible exact op_shr.n) | (with_reducible exact op_and.n0) | (with_reducible exact op_xor.n0) | (with_reducible exact op_or.n0))
local macro_rules | `(tactic| walk_at "T.ty") => `(tactic| first | ((with_reducible refine' ty_int ?a1 ?a9); (case a1 => with_reducible assumption); (case a9 => rfl)) | ((with_reducible refine' ty_bool ?a1 ?a9); (case a1 => with_reducible assumption); (case a9 => rfl)) | ((with_reducible refine' ty_list ?a1 ?a9); (case a1 => with_reducible assumption); (case a9 => rfl)) | ((with_reducible refine' ty_str ?a1 ?a9); (case a1 => with_reducible assumption); (case a9 => rfl)))
local macro_rules | `(tactic| walk_at "T.f") => `(tactic| ((with_reducible refine' fn_can _ ?a0 ?a9 ?a1 ?a2); (case a0 => with_reducible assumption); (case a9 => exact ⟨rfl, rfl, rfl, rfl, rfl⟩); (case a1 => exact Room.mono (by assumption) (by first | decide | exact Nat.le_refl _)); (case a2 => walk_at "T.a")))
local macro_rules | `(tactic| walk_at "T.b") => `(tactic| first | walk_at "T.f" | ((with_reducible refine' fn_len ?a0 ?a9 ?a1); (case a0 => with_reducible assumption); (case a9 => rfl); (case a1 => walk_at "T.a")) | ((with_reducible refine' fn_isinst ?a0 ?a9 ?a1); (case a0 => with_reducible assumption); (case a9 => rfl); (case a1 => walk_at "T.a")) | ((with_reducible refine' fn_all ?a0 ?a9 ?a1); (case a0 => with_reducible assumption); (case a9 => rfl); (case a1 => walk_at "T.a")) | ((with_reducible refine' fn_max ?a0 ?a9 ?a1); (case a0 => with_reducible assumption); (case a9 => rfl); (case a1 => walk_at "T.a")) | ((with_reducible refine' fn_min ?a0 ?a9 ?a1); (case a0 => with_reducible assumption); (case a9 => rfl); (case a1 => walk_at "T.a")) | ((with_reducible refine' fn_int ?a0 ?a9 ?a1); (case a0 => with_reducible assumption); (case a9 => rfl); (case a1 => walk_at "T.a")) )
local macro_rules | `(tactic| walk_at "T.m") => `(tactic| first | ((with_reducible refine' m_append ?a1 ?a2); (case a1 => walk_at "T.e"); (case a2 => walk_at "T.a")) | ((with_reducible refine' m_pop ?a1 ?a2); (case a1 => walk_at "T.e"); (case a2 => walk_at "T.a")) | ((with_reducible refine' m_join ?a1 ?a2); (case a1 => walk_at "T.e"); (case a2 => walk_at "T.a")) | ((with_reducible refine' m_strip ?a1 ?a2); (case a1 => walk_at "T.e"); (case a2 => walk_at "T.a")) | ((with_reducible refine' m_count ?a1 ?a2); (case a1 => walk_at "T.e"); (case a2 => walk_at "T.a")) | ((with_reducible refine' m_bits ?a1); (case a1 => walk_at "T.e")))
local macro_rules | `(tactic| walk_at "T.c") => `(tactic| fail "no comprehension's names")
local macro_rules | `(tactic| walk_at "T.e") => `(tactic| first | (with_reducible exact pe_int) | (with_reducible exact pe_str) | (with_reducible exact pe_bl) | (with_reducible exact pe_non) | walk_at "T.n" | walk_at "T.ty" | ((with_reducible refine' pe_op ?a1 ?a2 ?a3); (case a1 => walk_at "T.op"); (case a2 => walk_at "T.e"); (case a3 => walk_at "T.e")) | ((with_reducible refine' e_cmp ?a1 ?a2 ?a3); (case a1 => walk_at "T.cmp"); (case a2 => walk_at "T.e"); (case a3 => walk_at "T.e")) | ((with_reducible refine' e_chain ?a1 ?a2 ?a3 ?a4 ?a5); (case a1 => walk_at "T.cmp"); (case a2 => walk_at "T.cmp"); (case a3 => walk_at "T.e"); (case a4 => walk_at "T.e"); (case a5 => walk_at "T.e")) | ((with_reducible refine' pe_slice slU ?a1 ?a2 ?a3); (case a1 => walk_at "T.e"); (case a2 => walk_at "T.o"); (case a3 => walk_at "T.o")) | ((with_reducible refine' ix_at ?a1 ?a2); (case a1 => walk_at "T.e"); (case a2 => walk_at "T.e")) | ((with_reducible refine' pe_tup ?a1); (case a1 => walk_at "T.a")) | ((with_reducible refine' pe_lst ?a1); (case a1 => walk_at "T.a")) | ((with_reducible refine' pe_andU ?a1 ?a2); (case a1 => walk_at "T.e"); (case a2 => walk_at "T.e")) | ((with_reducible refine' pe_one ?a1); (case a1 => walk_at "T.e")) | ((with_reducible refine' pe_notU ?a1); (case a1 => walk_at "T.e")) | ((with_reducible refine' e_neg ?a1); (case a1 => walk_at "T.e")) | walk_at "T.b" | walk_at "T.m" | ((with_reducible refine' e_fmt ?a1); (case a1 => walk_at "T.e")) | ((with_reducible refine' e_fstr ?a1); (case a1 => walk_at "T.j")) | walk_at "T.c")
local macro_rules | `(tactic| walk_at "T.j") => `(tactic| first | (with_reducible exact pj_nil) )
local macro_rules | `(tactic| walk_at "T.t") => `(tactic| first | ((with_reducible refine' t_cmp ?a1 ?a2 ?a3); (case a1 => walk_at "T.cmp"); (case a2 => walk_at "T.e"); (case a3 => walk_at "T.e")) | ((with_reducible refine' pt_not ?a1); (case a1 => walk_at "T.t")) | ((with_reducible refine' PW.pt ?a1); (case a1 => walk_at "T.w")) | ((with_reducible refine' t_tru ?a1); (case a1 => walk_at "T.e")))
local macro_rules | `(tactic| walk_at "T.w") => `(tactic| first | ((with_reducible refine' pw_and ?a1 ?a2); (case a1 => walk_at "T.t"); (case a2 => walk_at "T.w")) | ((with_reducible refine' pw_or ?a1 ?a2); (case a1 => walk_at "T.t"); (case a2 => walk_at "T.w")) | ((with_reducible refine' pw_and1 ?a1); (case a1 => walk_at "T.t")) | ((with_reducible refine' pw_or1 ?a1); (case a1 => walk_at "T.t")))
local macro_rules | `(tactic| walk_at "T.i") => `(tactic| first | ((with_reducible refine' it_r1 ?a0 ?a9 ?a1); (case a0 => with_reducible assumption); (case a9 => rfl); (case a1 => walk_at "T.a")) | ((with_reducible refine' it_r2 ?a0 ?a9 ?a1); (case a0 => with_reducible assumption); (case a9 => rfl); (case a1 => walk_at "T.a")) | ((with_reducible refine' it_r3 ?a0 ?a9 ?a1); (case a0 => with_reducible assumption); (case a9 => rfl); (case a1 => walk_at "T.a")) | ((with_reducible refine' it_enum ?a0 ?a9 ?a1); (case a0 => with_reducible assumption); (case a9 => rfl); (case a1 => walk_at "T.a")) | ((with_reducible refine' pi_lst ?a1); (case a1 => walk_at "T.e")))
local macro_rules | `(tactic| walk_at "T.gn") => `(tactic| fail "no names")
local macro_rules | `(tactic| walk_at "T.g") => `(tactic| first | walk_at "T.gn" | ((with_reducible refine' g_sub ?a1 ?a2); (case a1 => walk_at "T.e"); (case a2 => walk_at "T.e")) | ((with_reducible refine' g_tupL ?a1); (case a1 => walk_at "T.gs")) )
local macro_rules | `(tactic| walk_at "T.gs") => `(tactic| first | (with_reducible exact pgs_nil) | ((with_reducible refine' gs_cons ?a1 ?a2); (case a1 => walk_at "T.g"); (case a2 => walk_at "T.gs")))
local macro_rules | `(tactic| walk_at "T.sc") => `(tactic| fail "no comprehension's names")
local macro_rules | `(tactic| walk_at "T.st") => `(tactic| first | ((with_reducible refine' ps_ret ?a1); (case a1 => walk_at "T.e")) | walk_at "T.sc" | ((with_reducible refine' s_asg ?a1 ?a2); (case a1 => walk_at "T.e"); (case a2 => walk_at "T.g")) | ((with_reducible refine' s_expr ?a1); (case a1 => walk_at "T.e")) | ((with_reducible refine' ps_if ?a1 ?a2 ?a3); (case a1 => walk_at "T.t"); (case a2 => walk_at "T.s"); (case a3 => walk_at "T.s")) | ((with_reducible refine' s_for ?a1 ?a2 ?a3); (case a1 => walk_at "T.i"); (case a2 => walk_at "T.g"); (case a3 => walk_at "T.s")) | ((with_reducible refine' s_while ?a1 ?a2); (case a1 => walk_at "T.t"); (case a2 => walk_at "T.s")) | (with_reducible exact s_raise))
local macro_rules | `(tactic| walk_at "T.s") => `(tactic| first | (with_reducible exact pss_nil) | ((with_reducible refine' pss_one ?a1); (case a1 => walk_at "T.st")) | ((with_reducible refine' pss_cons ?a1 ?a2); (case a1 => walk_at "T.st"); (case a2 => walk_at "T.s")))
local macro_rules | `(tactic| walk_at "T.pf") => `(tactic| first | (with_reducible exact pf_nil) | ((with_reducible refine' pf_one ?a1); (case a1 => walk_at "T.t")))
local macro_rules | `(tactic| walk_at "T.top1") => `(tactic| ((refine' pss_one ?a1); (case a1 => walk_at "T.st")))
local macro_rules | `(tactic| walk_at "T.top") => `(tactic| ((refine' pss_cons ?a1 ?a2); (case a1 => walk_at "T.st"); (case a2 => walk_at "T.s")))
section
set_option Elab.async false
set_option linter.all false
set_option maxRecDepth 100000
set_option maxHeartbeats 4000000
namespace K31
open PySem L2
section
variable {P : Program} {w : World} {K : PySem.W.Frag} {mg : Str → Option Value} {base : Heap}
abbrev sCell : Stmt := top 32
def spCell (K : PySem.W.Frag) : Sp := fun vs H Q _ => match vs with
  | [.ref a, .int k] => ∃ ns : List Int, SqL K H a (ns.map V.int) ∧ 0 ≤ k ∧ k ≤ 1000 ∧ ∀ c, Q (.int c) H
  | _ => False
theorem scCell : FnScope ["script", "k"] ["script", "k"] (defScope sCell) := ⟨rfl, rfl, rfl, by decide +kernel, rfl, by decide +kernel, by decide +kernel⟩
local macro_rules | `(tactic| walk_at "T.n") => `(tactic| with_reducible first | exact vn "script" 0 | exact vn "k" 1)
local macro_rules | `(tactic| walk_at "T.b") => `(tactic| ((with_reducible refine' fn_lenS ?a0 ?a9 ?a1); (case a0 => with_reducible assumption); (case a9 => rfl); (case a1 => walk_at "T.a")))
local macro_rules | `(tactic| walk_at "T.ty") => `(tactic| ((with_reducible refine' ix_atS ?a1 ?a2); (case a1 => walk_at "T.e"); (case a2 => walk_at "T.e")))
theorem ok_cell (D : FnX K mg "_law_cell" sCell ["script", "k"]) (g1 : mg "len" = none) : Can P w K mg base "_law_cell" 1 ["script", "k"] (spCell K) := by
  refine can_fn (k := 0) D scCell (fun vs H Q E h => ?_) (fun f cdv A outer s H vs Q E hr h => ?_)
  all_goals
    unfold spCell at h
    split at h
  · rfl
  · exact h.elim
  · rename_i a k
    obtain ⟨ns, hS, h0, h1, q⟩ := h
    have nd := scCell.nd
    refine ⟨_, (by walk_at "T.top"), ?_⟩
    refine ⟨_, hS, ite2 (fun h2 => ?_) (fun h2 => ?_)⟩
    · have h2' : k < ((ns.map V.int).length : Int) := of_decide_eq_true h2
      rw [List.length_map] at h2'
      have h3 : k.toNat < ns.length := by omega
      exact ⟨_, .int ns[k.toNat], hS, atI_int h0 (by rw [List.getElem?_map, List.getElem?_eq_getElem h3]; rfl), q _⟩
    · exact ⟨.inl ⟨by decide, by decide⟩, .inr ⟨by omega, by omega⟩, .inl ⟨by decide, by decide⟩, q _⟩
  · exact h.elim
end

end K31
end
section
set_option Elab.async false
set_option linter.all false
set_option maxRecDepth 100000
set_option maxHeartbeats 4000000
namespace K31
open PySem L2
section
variable {P : Program} {w : World} {K : PySem.W.Frag} {mg : Str → Option Value} {base : Heap}
abbrev sStore : Stmt := top 33
def spStore : Sp := fun vs H Q _ => match vs with
  | [.int _] => ∀ p g b, H p = none → Q (.ref p) (upd H p (.lst [.int g, .int b, .int 1]))
  | _ => False
theorem scStore : FnScope ["cell", "great"] ["cell"] (defScope sStore) := ⟨rfl, rfl, rfl, by decide +kernel, rfl, by decide +kernel, by decide +kernel⟩
local macro_rules | `(tactic| walk_at "T.n") => `(tactic| with_reducible first | exact vn "cell" 0 | exact vn "great" 1)
local macro_rules | `(tactic| walk_at "T.gn") => `(tactic| with_reducible first | exact gn "great" 1 (by with_unfolding_all assumption))
theorem ok_store (D : FnX K mg "_law_store" sStore ["cell"]) : Can P w K mg base "_law_store" 1 ["cell"] spStore := by
  refine can_fn (k := 0) D scStore (fun vs H Q E h => ?_) (fun f cdv A outer s H vs Q E hr h => ?_)
  all_goals
    unfold spStore at h
    split at h
  · rfl
  · exact h.elim
  · rename_i c
    have nd := scStore.nd
    refine ⟨_, (by walk_at "T.top"), ?_⟩
    refine ⟨⟨by decide, by decide, by decide⟩, ite2 (fun h2 => ?_) (fun h2 => ?_)⟩
    · exact ⟨(by decide : (0 : Int) < 2147483629), le_line (Nat.le_of_ble_eq_true rfl), fun p hp => h p _ _ hp⟩
    · exact ⟨(by decide : (0 : Int) < 2147483629), le_line (Nat.le_of_ble_eq_true rfl), fun p hp => h p _ _ hp⟩
  · exact h.elim
abbrev sTake : Stmt := top 34
theorem scTake : FnScope ["store", "many", "told", "one"] ["store", "many"] (defScope sTake) := ⟨rfl, rfl, rfl, by decide +kernel, rfl, by decide +kernel, by decide +kernel⟩
local macro_rules | `(tactic| walk_at "T.n") => `(tactic| with_reducible first | exact vn "store" 0 | exact vn "many" 1 | exact vn "told" 2 | exact vn "one" 3)
local macro_rules | `(tactic| walk_at "T.gn") => `(tactic| with_reducible first | exact gn "told" 2 (by with_unfolding_all assumption) | exact gn "one" 3 (by with_unfolding_all assumption))
theorem ok_take (D : FnX K mg "_law_take" sTake ["store", "many"]) : Can P w K mg base "_law_take" 1 ["store", "many"] spTake := by
  refine can_fn (k := 0) D scTake (fun vs H Q E h => ?_) (fun f cdv A outer s H vs Q E hr h => ?_)
  all_goals
    unfold spTake at h
    split at h
  · rfl
  · exact h.elim
  · rename_i a many
    obtain ⟨⟨g, b, c, ha⟩, h0, h1, k⟩ := h
    have nd := scTake.nd
    refine ⟨_, (by walk_at "T.top"), ?_⟩
    have fin : ∀ (H1 : Hp) (r g' c' : Int), H1 = upd H a (.lst [.int g', .int b, .int c']) → 0 ≤ r → r < many → Q (.int r) H1 := fun H1 r g' c' e r0 r1 => by
      subst e
      exact k r _ r0 r1 ⟨_, _, _, upd_same⟩ fun y o e n => by rw [upd_ne n]; exact e
    refine ⟨.int g, gl ha (by decide) rfl, ite2 (fun h2 => ?_) (fun h2 => ?_)⟩
    · refine ⟨.int g, gl ha (by decide) rfl, h0, ?_⟩
      refine ⟨.int g, gl ha (by decide) rfl, ⟨h0, h1⟩, _, 0, ha, rfl, ?_⟩
      exact fin _ _ _ _ rfl (Int.emod_nonneg _ (by omega)) (Int.emod_lt_of_pos _ h0)
    · refine ⟨.int c, gl ha (by decide) rfl, _, 2, ha, rfl, ?_⟩
      have h1a : upd H a (.lst ([V.int g, V.int b, V.int c].set 2 (V.int (c + 1)))) a = some (.lst [.int g, .int b, .int (c + 1)]) := upd_same
      refine ⟨.int b, gl h1a (by decide) rfl, .int (c + 1), gl h1a (by decide) rfl, .inl ⟨by decide, by decide⟩, .inr ⟨by decide, by decide⟩, (by decide : (0 : Int) < 2147483647), ?_⟩
      have b1 := Int.emod_nonneg ((b + 7919 * (c + 1)) * 48271) (show (2147483647 : Int) ≠ 0 by decide)
      have b2 := Int.emod_lt_of_pos ((b + 7919 * (c + 1)) * 48271) (show (0 : Int) < 2147483647 by decide)
      generalize ((b + 7919 * (c + 1)) * 48271) % 2147483647 = x1 at b1 b2 ⊢
      refine ⟨.inl ⟨by omega, by omega⟩, (by decide : (0 : Int) < 2147483629), ?_⟩
      refine ⟨.int (c + 1), gl h1a (by decide) rfl, .inl ⟨by decide, by decide⟩, .inr ⟨by decide, by decide⟩, (by decide : (0 : Int) < 2147483587), ?_⟩
      refine ⟨⟨by decide, by decide⟩, h0, ?_⟩
      exact fin _ _ _ _ rfl (Int.emod_nonneg _ (by omega)) (Int.emod_lt_of_pos _ h0)
  · exact h.elim
abbrev sWordN : Stmt := top 35
theorem scWordN : FnScope ["number", "n", "word", "k"] ["number", "n"] (defScope sWordN) := ⟨rfl, rfl, rfl, by decide +kernel, rfl, by decide +kernel, by decide +kernel⟩
local macro_rules | `(tactic| walk_at "T.n") => `(tactic| with_reducible first | exact vn "number" 0 | exact vn "n" 1 | exact vn "word" 2)
local macro_rules | `(tactic| walk_at "T.gn") => `(tactic| with_reducible first | exact gn "number" 0 (by with_unfolding_all assumption) | exact gn "word" 2 (by with_unfolding_all assumption) | exact gn "k" 3 (by with_unfolding_all assumption))
theorem ok_wordN (D : FnX K mg "_law_word" sWordN ["number", "n"]) (g1 : mg "range" = none) : Can P w K mg base "_law_word" 1 ["number", "n"] spWordN := by
  refine can_fn (k := 0) D scWordN (fun vs H Q E h => ?_) (fun f cdv A outer s H vs Q E hr h => ?_)
  all_goals
    unfold spWordN at h
    split at h
  · rfl
  · exact h.elim
  · rename_i x n
    obtain ⟨h0, h1, q⟩ := h
    have nd := scWordN.nd
    refine ⟨_, (by walk_at "T.top"), ?_⟩
    refine ⟨by omega, by omega, for_by (it_range 0 _) (fun i σ H2 => H2 = H ∧ ∃ (y : Int) (w' : List Bool) (v : Option V), σ = [some (.int y), some (.int n), some (.str (bs w')), v] ∧ w'.length = i) ⟨rfl, x, [], none, by rw [bs_nil]; rfl, rfl⟩ (fun _ _ _ _ _ => trivial) ?_ ?_⟩
    · rintro i z σ H2 hi hx ⟨rfl, y, w', v, rfl, hl⟩
      rw [List.length_map, List.length_range] at hi
      have m0 := Int.emod_nonneg y (show (2 : Int) ≠ 0 by decide)
      have m1 := Int.emod_lt_of_pos y (show (0 : Int) < 2 by decide)
      refine ⟨(by decide : (0 : Int) < 2), _, g01 m0 m1, ⟨?_, ?_⟩⟩
      · rw [bs_len, bs_len]; exact le_line (by simp; omega)
      · refine ⟨⟨by decide, by decide⟩, rfl, y / 2, decide (y % 2 = 1) :: w', some z, ?_, by simp [hl]⟩
        rw [bs_app]
        rfl
    · rintro σ H2 ⟨rfl, y, w', v, rfl, hl⟩
      refine q w' ?_
      rw [List.length_map, List.length_range] at hl
      omega
  · exact h.elim
end

end K31
end
section
set_option Elab.async false
set_option linter.all false
set_option maxRecDepth 100000
set_option maxHeartbeats 4000000
namespace K31
open PySem L2
section
variable {P : Program} {w : World} {K : PySem.W.Frag} {mg : Str → Option Value} {base : Heap}
abbrev sBranch : Stmt := top 36
def spBranch : Sp := fun vs H Q _ => match vs with
  | [.ref a, .int _, .ref pool, .int place, .int letter, .ref sz] => ∃ (ws : List (List Bool)) (k n many : Nat), Sto H a ∧ H pool = some (WS ws) ∧ 1 ≤ ws.length ∧ ws.length ≤ 10 ∧ (∀ w ∈ ws, w.length = n) ∧ H sz = some (.tup [.int k, .int n, .int many]) ∧
      1 ≤ n ∧ n ≤ 6 ∧ 1 ≤ many ∧ many ≤ 8 ∧ 0 ≤ place ∧ place ≤ 8 ∧ 0 ≤ letter ∧ letter ≤ 8 ∧
      ∀ p (w : List Bool) (t : Nat) H', w.length = n → t < many → Sto H' a → Off (At a) H H' → H p = none → H' p = some (.tup [.str (bs w), .int (t : Nat)]) → Q (.ref p) H'
  | _ => False
theorem scBranch : FnScope ["store", "kind", "pool", "place", "letter", "sizes", "k", "n", "many", "behind", "word"] ["store", "kind", "pool", "place", "letter", "sizes"] (defScope sBranch) := ⟨rfl, rfl, rfl, by decide +kernel, rfl, by decide +kernel, by decide +kernel⟩
theorem ws_ne_sto {g b c : Int} (ws : List (List Bool)) : HO.lst [.int g, .int b, .int c] ≠ WS ws := by
  intro z
  unfold WS at z
  injection z with z
  match ws, z with
  | [], z => cases z
  | _ :: _, z => injection z with z1 z2; cases z1
theorem top_get {H : Hp} {p : Addr} {n : Nat} (n1 : 1 ≤ n) (n6 : n ≤ 6) (h : H p = some (.lst [.int 2, .int 4, .int 8, .int 16, .int 32, .int 64])) : ∃ m : Int, 0 < m ∧ m ≤ 64 ∧ getV H (.ref p) ((n : Int) - 1) = some (.int m) := by
  have : n = 1 ∨ n = 2 ∨ n = 3 ∨ n = 4 ∨ n = 5 ∨ n = 6 := by omega
  rcases this with rfl | rfl | rfl | rfl | rfl | rfl
  · exact ⟨2, by decide, by decide, gl h (by decide) rfl⟩
  · exact ⟨4, by decide, by decide, gl h (by decide) rfl⟩
  · exact ⟨8, by decide, by decide, gl h (by decide) rfl⟩
  · exact ⟨16, by decide, by decide, gl h (by decide) rfl⟩
  · exact ⟨32, by decide, by decide, gl h (by decide) rfl⟩
  · exact ⟨64, by decide, by decide, gl h (by decide) rfl⟩
local macro_rules | `(tactic| walk_at "T.n") => `(tactic| with_reducible first | exact vn "store" 0 | exact vn "kind" 1 | exact vn "pool" 2 | exact vn "place" 3 | exact vn "letter" 4 | exact vn "sizes" 5 | exact vn "k" 6 | exact vn "n" 7 | exact vn "many" 8 | exact vn "behind" 9 | exact vn "word" 10)
local macro_rules | `(tactic| walk_at "T.gn") => `(tactic| with_reducible first | exact gn "k" 6 (by with_unfolding_all assumption) | exact gn "n" 7 (by with_unfolding_all assumption) | exact gn "many" 8 (by with_unfolding_all assumption) | exact gn "behind" 9 (by with_unfolding_all assumption) | exact gn "word" 10 (by with_unfolding_all assumption))
theorem ok_branch (D : FnX K mg "_law_branch" sBranch ["store", "kind", "pool", "place", "letter", "sizes"]) (g1 : mg "len" = none) (c1 : Can P w K mg base "_law_take" 1 ["store", "many"] spTake) (c2 : Can P w K mg base "_law_word" 1 ["number", "n"] spWordN) :
    Can P w K mg base "_law_branch" 2 ["store", "kind", "pool", "place", "letter", "sizes"] spBranch := by
  refine can_fn (k := 1) D scBranch (fun vs H Q E h => ?_) (fun f cdv A outer s H vs Q E hr h => ?_)
  all_goals
    unfold spBranch at h
    split at h
  · rfl
  · exact h.elim
  · rename_i a kind pool place letter sz
    obtain ⟨ws, k, n, many, hS, hpool, ws1, ws10, wsl, hsz, n1, n6, m1, m8, p0, p8, l0, l8, q⟩ := h
    have nd := scBranch.nd
    have pa : pool ≠ a := by
      obtain ⟨g, b, c, ha⟩ := hS
      exact (ne_of ha hpool (ws_ne_sto ws)).symm
    refine ⟨_, (by walk_at "T.top"), ?_⟩
    refine ⟨_, .inl hsz, rfl, ?_⟩
    refine ⟨rfl, hS, by omega, by omega, fun t H1 t0 t1 s1 o1 => ?_⟩
    have hp1 := o1 _ _ hpool pa
    refine ⟨_, lenL hp1, s1, by rw [ws_len]; omega, by rw [ws_len]; omega, fun r H2 r0 r1 s2 o2 => ?_⟩
    rw [ws_len] at r1
    obtain ⟨w0, hw0⟩ : ∃ w0, ws[r.toNat]? = some w0 := ⟨_, List.getElem?_eq_getElem (by omega)⟩
    refine ⟨_, gl (o2 _ _ hp1 pa) r0 (ws_get hw0), ?_⟩
    have o12 := o1.trans o2
    -- behind = (2 * place + letter) % many
    try dsimp only [gName, tNext]
    refine seq_by (fun σ H3 => ∃ (t : Int) (w0 : List Bool), σ = [some (.ref a), some (.int kind), some (.ref pool), some (.int place), some (.int letter), some (.ref sz), some (.int k), some (.int n), some (.int many), some (.int t), some (.str (bs w0))] ∧ 0 ≤ t ∧ t < many ∧ w0.length = n ∧ Sto H3 a ∧ Off (At a) H H3) ?_ (fun fin => ?_)
    · rintro σ H3 ⟨t, w0, rfl, t0, t1, hw0, s3, o3⟩
      try dsimp only [gName, tNext]
      refine seq_by (fun σ H3 => ∃ (w0 : List Bool), σ = [some (.ref a), some (.int kind), some (.ref pool), some (.int place), some (.int letter), some (.ref sz), some (.int k), some (.int n), some (.int many), some (.int t), some (.str (bs w0))] ∧ w0.length = n ∧ Sto H3 a ∧ Off (At a) H H3) ?_ (fun fin => ?_)
      · rintro σ H4 ⟨w0, rfl, hw0, s4, o4⟩
        try dsimp only [gName, tNext]
        refine seq_by (fun σ H3 => ∃ (w0 : List Bool), σ = [some (.ref a), some (.int kind), some (.ref pool), some (.int place), some (.int letter), some (.ref sz), some (.int k), some (.int n), some (.int many), some (.int t), some (.str (bs w0))] ∧ w0.length = n ∧ Sto H3 a ∧ Off (At a) H H3) ?_ (fun fin => ?_)
        · rintro σ H5 ⟨w0, rfl, hw0, s5, o5⟩
          try dsimp only [gName, tNext]
          refine seq_by (fun σ H3 => ∃ (w0 : List Bool), σ = [some (.ref a), some (.int kind), some (.ref pool), some (.int place), some (.int letter), some (.ref sz), some (.int k), some (.int n), some (.int many), some (.int t), some (.str (bs w0))] ∧ w0.length = n ∧ Sto H3 a ∧ Off (At a) H H3) ?_ (fun fin => ?_)
          · rintro σ H6 ⟨w0, rfl, hw0, s6, o6⟩
            -- return (word, behind)
            refine ⟨le_line (Nat.le_of_ble_eq_true rfl), fun p hp => ?_⟩
            have e : t = ((t.toNat : Nat) : Int) := by omega
            refine q p w0 t.toNat _ hw0 (by omega) (s6.new hp) (o6.upd_new hp) (o6.freeS s6 hp) ?_
            rw [upd_same, ← e]
          · -- kind == 4 and k <= n
            dsimp only [tIfS, tNext, tAnd]
            refine ite2 (fun h3 => ?_) (fun h3 => iteF (fin _ _ ⟨w0, rfl, hw0, s5, o5⟩))
            refine ite2 (fun h4 => ?_) (fun h4 => fin _ _ ⟨w0, rfl, hw0, s5, o5⟩)
            refine ⟨.inl ⟨by decide, by decide⟩, (by decide : (0 : Int) < 3), .inl ⟨by decide, by decide⟩, .inl ⟨by omega, by omega⟩, le_line (Nat.le_of_ble_eq_true rfl), fun p hp => ?_⟩
            obtain ⟨m, m0, m64, hm⟩ := top_get n1 n6 (upd_same (H := H5) (a := p))
            refine ⟨_, hm, m0, by omega, by omega, fun w1 hw1 => ?_⟩
            exact fin _ _ ⟨w1, rfl, by omega, s5.new hp, o5.upd_new hp⟩
        · -- kind == 5
          refine ite2 (fun h3 => ?_) (fun h3 => fin _ _ ⟨w0, rfl, hw0, s4, o4⟩)
          refine ⟨s4, by decide, by decide, fun r H5 r0 r1 s5 o5 => ⟨by omega, by omega, fun w1 hw1 => ?_⟩⟩
          exact fin _ _ ⟨w1, rfl, by omega, s5, o4.trans o5⟩
      · -- kind == 3 and k <= n
        dsimp only [tIfS, tNext, tAnd]
        refine ite2 (fun h3 => ?_) (fun h3 => iteF (fin _ _ ⟨w0, rfl, hw0, s3, o3⟩))
        refine ite2 (fun h4 => ?_) (fun h4 => fin _ _ ⟨w0, rfl, hw0, s3, o3⟩)
        have hp3 := o3 _ _ hpool pa
        obtain ⟨wf, hwf⟩ : ∃ wf, ws[0]? = some wf := ⟨_, List.getElem?_eq_getElem (by omega)⟩
        refine ⟨_, gl hp3 (by decide) (ws_get hwf), rfl, _, lenL hp3, .inl ⟨by decide, by decide⟩, .inl ⟨by omega, by omega⟩, le_line (Nat.le_of_ble_eq_true rfl), fun p hp => ?_⟩
        obtain ⟨m, m0, m64, hm⟩ := top_get n1 n6 (upd_same (H := H3) (a := p))
        refine ⟨_, hm, m0, by omega, by omega, fun w1 hw1 => ?_⟩
        exact fin _ _ ⟨w1, rfl, by omega, s3.new hp, o3.upd_new hp⟩
    · -- kind == 2
      refine ite2 (fun h3 => ?_) (fun h3 => fin _ _ ⟨t, w0, rfl, t0, t1, wsl _ (List.mem_of_getElem? hw0), s2, o12⟩)
      refine ⟨.inl ⟨by decide, by decide⟩, (by omega : (0 : Int) < (many : Int)), ?_⟩
      exact fin _ _ ⟨_, w0, rfl, Int.emod_nonneg _ (by omega), Int.emod_lt_of_pos _ (by omega), wsl _ (List.mem_of_getElem? hw0), s2, o12⟩
  · exact h.elim
end

end K31
end
section
set_option Elab.async false
set_option linter.all false
set_option maxRecDepth 100000
set_option maxHeartbeats 4000000
namespace K31
open PySem L2
section
variable {P : Program} {w : World} {K : PySem.W.Frag} {mg : Str → Option Value} {base : Heap}
abbrev sCodeS : Stmt := top 37
def spCodeS : Sp := fun vs H Q _ => match vs with
  | [.ref a, .int most] => Sto H a ∧ 1 ≤ most ∧ most ≤ 8 ∧ ∀ v k n rows G H', Om.CodeOk k n rows → (rows.length : Int) ≤ most → DV G v (codeD k n rows) → Gh G H H' a → Q v H'
  | _ => False
theorem scCodeS : FnScope ["store", "most", "k", "n", "many", "kind", "top", "pool", "states", "place", "state", "letter"] ["store", "most"] (defScope sCodeS) := ⟨rfl, rfl, rfl, by decide +kernel, rfl, by decide +kernel, by decide +kernel⟩
theorem six_get {H : Hp} {p : Addr} {r : Int} (h0 : 0 ≤ r) (h1 : r < 6) (h : H p = some (.lst [.int 1, .int 1, .int 1, .int 2, .int 2, .int 3])) : ∃ k : Nat, 1 ≤ k ∧ k ≤ 3 ∧ getV H (.ref p) r = some (.int k) := by
  have : r = 0 ∨ r = 1 ∨ r = 2 ∨ r = 3 ∨ r = 4 ∨ r = 5 := by omega
  rcases this with rfl | rfl | rfl | rfl | rfl | rfl
  · exact ⟨1, by decide, by decide, gl h (by decide) rfl⟩
  · exact ⟨1, by decide, by decide, gl h (by decide) rfl⟩
  · exact ⟨1, by decide, by decide, gl h (by decide) rfl⟩
  · exact ⟨2, by decide, by decide, gl h (by decide) rfl⟩
  · exact ⟨2, by decide, by decide, gl h (by decide) rfl⟩
  · exact ⟨3, by decide, by decide, gl h (by decide) rfl⟩
theorem three_get {H : Hp} {p : Addr} {k : Nat} (k1 : 1 ≤ k) (k3 : k ≤ 3) (h : H p = some (.lst [.int 2, .int 4, .int 8])) : getV H (.ref p) ((k : Int) - 1) = some (.int ((2 ^ k : Nat) : Int)) := by
  have : k = 1 ∨ k = 2 ∨ k = 3 := by omega
  rcases this with rfl | rfl | rfl
  · exact gl h (by decide) rfl
  · exact gl h (by decide) rfl
  · exact gl h (by decide) rfl
theorem pow_le8 {k : Nat} (k3 : k ≤ 3) : 2 ^ k ≤ 8 := by
  have : k = 0 ∨ k = 1 ∨ k = 2 ∨ k = 3 := by omega
  rcases this with rfl | rfl | rfl | rfl <;> decide
local macro_rules | `(tactic| walk_at "T.n") => `(tactic| with_reducible first | exact vn "store" 0 | exact vn "most" 1 | exact vn "k" 2 | exact vn "n" 3 | exact vn "many" 4 | exact vn "kind" 5 | exact vn "top" 6 | exact vn "pool" 7 | exact vn "states" 8 | exact vn "place" 9 | exact vn "state" 10 | exact vn "letter" 11)
local macro_rules | `(tactic| walk_at "T.gn") => `(tactic| with_reducible first | exact gn "k" 2 (by with_unfolding_all assumption) | exact gn "n" 3 (by with_unfolding_all assumption) | exact gn "many" 4 (by with_unfolding_all assumption) | exact gn "kind" 5 (by with_unfolding_all assumption) | exact gn "top" 6 (by with_unfolding_all assumption) | exact gn "pool" 7 (by with_unfolding_all assumption) | exact gn "states" 8 (by with_unfolding_all assumption) | exact gn "place" 9 (by with_unfolding_all assumption) | exact gn "state" 10 (by with_unfolding_all assumption) | exact gn "letter" 11 (by with_unfolding_all assumption))
local macro_rules | `(tactic| walk_at "T.n") => `(tactic| with_reducible first | exact vn "j" 0 | exact vn "store" 1 | exact vn "top" 2 | exact vn "n" 3)
local macro_rules | `(tactic| walk_at "T.gn") => `(tactic| with_reducible first | exact gn "j" 0 (by with_unfolding_all assumption))
local macro_rules | `(tactic| walk_at "T.sc") => `(tactic| (have ndc : (["j", "store", "top", "n"] : List Str).Nodup := (by decide +kernel)); ((with_reducible refine' s_comp "pool" 7 ["j", "store", "top", "n"] [0, 6, 3] ?b1 ?b0 ?b2 (fun cl C s H fp => ?b3) (fun cl C s H fp => ?b4) (fun cl C s H fp => ?b5)); (case b1 => exact ndc); (case b0 => assumption); (case b2 => walk_at "T.i"); (case b3 => walk_at "T.g"); (case b4 => walk_at "T.pf"); (case b5 => walk_at "T.e")))
local macro_rules | `(tactic| walk_at "T.n") => `(tactic| with_reducible first | exact vn "store" 0 | exact vn "most" 1 | exact vn "k" 2 | exact vn "n" 3 | exact vn "many" 4 | exact vn "kind" 5 | exact vn "top" 6 | exact vn "pool" 7 | exact vn "states" 8 | exact vn "place" 9 | exact vn "state" 10 | exact vn "letter" 11)
local macro_rules | `(tactic| walk_at "T.gn") => `(tactic| with_reducible first | exact gn "k" 2 (by with_unfolding_all assumption) | exact gn "n" 3 (by with_unfolding_all assumption) | exact gn "many" 4 (by with_unfolding_all assumption) | exact gn "kind" 5 (by with_unfolding_all assumption) | exact gn "top" 6 (by with_unfolding_all assumption) | exact gn "pool" 7 (by with_unfolding_all assumption) | exact gn "states" 8 (by with_unfolding_all assumption) | exact gn "place" 9 (by with_unfolding_all assumption) | exact gn "state" 10 (by with_unfolding_all assumption) | exact gn "letter" 11 (by with_unfolding_all assumption))
theorem ok_codeS (D : FnX K mg "_law_code" sCodeS ["store", "most"]) (g1 : mg "range" = none) (c1 : Can P w K mg base "_law_take" 1 ["store", "many"] spTake) (c2 : Can P w K mg base "_law_word" 1 ["number", "n"] spWordN)
    (c3 : Can P w K mg base "_law_branch" 2 ["store", "kind", "pool", "place", "letter", "sizes"] spBranch) : Can P w K mg base "_law_code" 3 ["store", "most"] spCodeS := by
  refine can_fn (k := 2) D scCodeS (fun vs H Q E h => ?_) (fun f cdv A outer s H vs Q E hr h => ?_)
  all_goals
    unfold spCodeS at h
    split at h
  · rfl
  · exact h.elim
  · rename_i a most
    obtain ⟨hS, m1, m8, q⟩ := h
    have nd := scCodeS.nd
    refine ⟨_, (by walk_at "T.top"), ?_⟩
    have M0 := Gh.start hS
    refine ⟨le_line (Nat.le_of_ble_eq_true rfl), fun p hp => ?_⟩
    have M1 := M0.new (o := .lst [.int 1, .int 1, .int 1, .int 2, .int 2, .int 3]) hp
    refine ⟨M1.st, by decide, by decide, fun r H1 r0 r1 s1 o1 => ?_⟩
    have M2 := M1.take s1 o1
    obtain ⟨k, k1, k3, hk⟩ := six_get r0 r1 (o1 _ _ upd_same (M0.ne hp))
    refine ⟨_, hk, ?_⟩
    refine ⟨M2.st, by decide, by decide, fun n0 H2 n00 n01 s2 o2 => ?_⟩
    have M3 := M2.take s2 o2
    obtain ⟨n, rfl⟩ : ∃ n : Nat, n0 = ((n : Nat) : Int) - 1 := ⟨(n0 + 1).toNat, by omega⟩
    refine ⟨M3.st, by omega, by omega, fun m0 H3 m00 m01 s3 o3 => ?_⟩
    have M4 := M3.take s3 o3
    obtain ⟨many, rfl⟩ : ∃ n : Nat, m0 = ((n : Nat) : Int) - 1 := ⟨(m0 + 1).toNat, by omega⟩
    refine ⟨M4.st, by decide, by decide, fun kind H4 k00 k01 s4 o4 => ?_⟩
    have M5 := M4.take s4 o4
    have en : (1 : Int) + ((n : Int) - 1) = (n : Int) := by omega
    have em : (1 : Int) + ((many : Int) - 1) = (many : Int) := by omega
    try dsimp only [gName, tNext]
    rw [en, em]
    refine ⟨le_line (Nat.le_of_ble_eq_true rfl), fun p2 hp2 => ?_⟩
    have M6 := M5.new (o := .lst [.int 2, .int 4, .int 8, .int 16, .int 32, .int 64]) hp2
    obtain ⟨tp, tp0, tp64, htp⟩ := top_get (n := n) (by omega) (by omega) (upd_same (H := H4) (a := p2))
    refine ⟨_, htp, ?_⟩
    -- pool
    refine ⟨M6.st, by decide, by decide, fun c0 H6 c00 c01 s6 o6 => ?_⟩
    have M7 := M6.take s6 o6
    refine ⟨by omega, by omega, fun pl hpl => ?_⟩
    have npl := M7.ne hpl
    refine comp_by (it_range 0 _) (fun i τ H7 ys => (∃ v, τ = [v, some (.ref a), some (.int tp), some (.int n)]) ∧ Gh (fun _ => none) H H7 a ∧ H7 pl = some (.lst ys) ∧ ∃ ws : List (List Bool), ys = ws.map (fun w => V.str (bs w)) ∧ ws.length = i ∧ ∀ w ∈ ws, w.length = n) ?_ ⟨⟨none, rfl⟩, M7.new hpl, upd_same, [], rfl, rfl, by simp⟩ ?_ ?_ ?_
    · rw [List.length_map, List.length_range]; exact le_line (by omega)
    · rintro i τ H7 ys hi ⟨_, _, h7, ws, rfl, hl, _⟩
      exact ⟨trivial, h7, by simp [hl]⟩
    · rintro i x τ H7 ys hi hx ⟨⟨v, rfl⟩, M8, h7, ws, rfl, hl, hw⟩
      refine ⟨M8.st, tp0, by omega, fun r H8 r0 r1 s8 o8 => ⟨by omega, by omega, fun w1 hw1 => ?_⟩⟩
      have h8 := o8 _ _ h7 npl
      refine ⟨h8, ⟨_, rfl⟩, (M8.take s8 o8).own rfl (M7.free0 hpl) npl, upd_same, ws ++ [w1], by rw [List.map_append]; rfl, by simp [hl], fun y hy => ?_⟩
      rcases List.mem_append.mp hy with hy | hy
      · exact hw y hy
      · have : y = w1 := by simpa using hy
        rw [this]; omega
    · rintro τ H7 ys ⟨_, M8, h7, ws, rfl, hl, hw⟩
      rw [List.length_map, List.length_range] at hl
      refine ⟨Nat.zero_le _, fun S hS => ?_⟩
      have M9 : Gh (upd (fun _ => none) pl (WS ws)) H (upd H7 S (.lst [])) a := (M8.grow h7 npl).new hS
      have nSa := M8.ne hS
      have S0 : H S = none := M8.free0 hS
      have plS : pl ≠ S := ne_of_none h7 hS
      refine ⟨by omega, by omega, for_by (it_range 0 _) (fun i σ H9 => ∃ (v9 v10 v11 : Option V) (G : Hp) (rows : Om.Rows) (ss : List V), σ = [some (.ref a), some (.int most), some (.int k), some (.int n), some (.int many), some (.int kind), some (.int tp), some (.ref pl), some (.ref S), v9, v10, v11] ∧ Gh G H H9 a ∧ G pl = some (WS ws) ∧ G S = none ∧ H9 S = some (.lst ss) ∧ DVs G ss (rows.map stateD) ∧ rows.length = i ∧ (∀ st ∈ rows, st.length = 2 ^ k) ∧ ∀ st ∈ rows, ∀ r ∈ st, r.1.length = n ∧ r.2 < many)
        ⟨none, none, none, _, [], [], rfl, M9, upd_same, upd_none rfl plS.symm, upd_same, .nil, rfl, by simp, by simp⟩ (fun _ _ _ _ _ => trivial) ?_ ?_⟩
      · rintro i x σ H9 hi hx ⟨v9, v10, v11, G, rows, ss, rfl, M10, gpl, gS, h9, hd, rl, r1, r2⟩
        have hi' : i < many := by simpa using hi
        have ex : x = .int (i : Nat) := by
          rw [List.length_map, List.length_range] at hi
          rw [List.getElem?_map, List.getElem?_range hi] at hx
          have := (Option.some.inj hx).symm
          rw [this]; simp
        subst ex
        refine ⟨Nat.zero_le _, fun T hT => ?_⟩
        have ST : S ≠ T := ne_of_none h9 hT
        have nTa := M10.ne hT
        have T0 := M10.free0 hT
        have gT := M10.freeG hT
        have M11 := M10.new (o := .lst []) hT
        refine ⟨le_line (Nat.le_of_ble_eq_true rfl), fun p3 hp3 => ?_⟩
        have M12 := M11.new (o := .lst [.int 2, .int 4, .int 8]) hp3
        have Tp3 : T ≠ p3 := fun z => by rw [← z, upd_same] at hp3; cases hp3
        refine ⟨_, three_get k1 k3 upd_same, ?_⟩
        have p8 := pow_le8 k3
        refine ⟨Int.le_trans (by decide) (Int.natCast_nonneg _), Int.lt_of_le_of_lt (Int.ofNat_le.mpr p8) (by decide), for_by (it_range 0 _) (fun j σ H10 => ∃ (v11 : Option V) (G : Hp) (st : List (List Bool × Nat)) (rs : List V), σ = [some (.ref a), some (.int most), some (.int k), some (.int n), some (.int many), some (.int kind), some (.int tp), some (.ref pl), some (.ref S), some (.int (i : Nat)), some (.ref T), v11] ∧ Gh G H H10 a ∧ G pl = some (WS ws) ∧ G S = none ∧ G T = none ∧ H10 S = some (.lst ss) ∧ H10 T = some (.lst rs) ∧ DVs G ss (rows.map stateD) ∧ DVs G rs (st.map rowD) ∧ st.length = j ∧ ∀ r ∈ st, r.1.length = n ∧ r.2 < many)
          ⟨v11, G, [], [], rfl, M12, gpl, gS, gT, upd_some (upd_some h9 ST) (ne_of_none (upd_some h9 ST) hp3), upd_some upd_same Tp3, hd, .nil, rfl, by simp⟩ (fun _ _ _ _ _ => trivial) ?_ ?_⟩
        · rintro j y σ H10 hj hy ⟨w11, G1, st, rs, rfl, M13, gpl1, gS1, gT1, hS1, hT1, hd1, hr1, sl, sr⟩
          have hj' : j < 2 ^ k := by rw [List.length_map, List.length_range, Int.toNat_natCast] at hj; exact hj
          have ey : y = .int (j : Nat) := by
            rw [List.length_map, List.length_range] at hj
            rw [List.getElem?_map, List.getElem?_range hj] at hy
            have := (Option.some.inj hy).symm
            rw [this]; simp
          subst ey
          refine ⟨⟨_, rfl, hT1⟩, ?_⟩
          refine ⟨le_line (Nat.le_of_ble_eq_true rfl), fun z hz => ?_⟩
          have M14 := M13.new (o := .tup [.int k, .int n, .int many]) hz
          refine ⟨ws, k, n, many, M14.st, M14.s _ _ gpl1, by omega, by omega, hw, upd_same, by omega, by omega, by omega, by omega, by omega, by omega, by omega, by omega, fun pp w1 t1 H11 hw1 ht1 s11 o11 np1 hp1 => ?_⟩
          have M15 := M14.take s11 o11
          have Tz : T ≠ z := ne_of_none hT1 hz
          have Sz : S ≠ z := ne_of_none hS1 hz
          have hT2 : H11 T = some (.lst rs) := o11 _ _ (upd_some hT1 Tz) nTa
          have hS2 : H11 S = some (.lst ss) := o11 _ _ (upd_some hS1 Sz) nSa
          have ppT : T ≠ pp := ne_of_none (upd_some hT1 Tz) np1
          have ppS : S ≠ pp := ne_of_none (upd_some hS1 Sz) np1
          have rl1 : rs.length = st.length := by rw [hr1.length, List.length_map]
          refine ⟨_, hT2, by rw [rl1, sl]; exact lt_line (by omega), ?_⟩
          have M16 := (M15.grow hp1 (s11.tup hp1)).own (p := T) (o := .lst (rs ++ [.ref pp])) (upd_none gT1 ppT) T0 nTa
          have ppl : pl ≠ pp := by
            have h1 := M14.s _ _ gpl1
            exact ne_of_none h1 np1
          have Gs : Same G1 (upd G1 pp (.tup [.str (bs w1), .int (t1 : Nat)])) := Same.upd (M14.s.free np1)
          refine ⟨some (.int (j : Nat)), _, st ++ [(w1, t1)], rs ++ [.ref pp], rfl, M16, upd_some gpl1 ppl, upd_none gS1 ppS, upd_none gT1 ppT, upd_some hS2 ST, upd_same, hd1.mono Gs, ?_, by simp [sl], fun r hr => ?_⟩
          · rw [List.map_append]
            exact (hr1.mono Gs).app (.cons (.tup upd_same (.cons (.str _) (.cons (.int _) .nil))) .nil)
          · rcases List.mem_append.mp hr with hr | hr
            · exact sr r hr
            · have : r = (w1, t1) := by simpa using hr
              rw [this]; exact ⟨hw1, ht1⟩
        · rintro σ H10 ⟨w11, G1, st, rs, rfl, M13, gpl1, gS1, gT1, hS1, hT1, hd1, hr1, sl, sr⟩
          have sl' : st.length = 2 ^ k := by rw [sl, List.length_map, List.length_range, Int.toNat_natCast]
          have ssl : ss.length = rows.length := by rw [hd1.length, List.length_map]
          refine ⟨⟨_, rfl, hS1⟩, _, hS1, by rw [ssl, rl]; exact lt_line (by omega), ?_⟩
          have Gs : Same G1 (upd G1 T (.lst rs)) := Same.upd gT1
          have plT : pl ≠ T := ne_of_none gpl1 gT1
          refine ⟨some _, some _, w11, upd G1 T (.lst rs), rows ++ [st], ss ++ [.ref T], rfl, (M13.grow hT1 nTa).own (upd_none gS1 ST) S0 nSa, upd_some gpl1 plT, upd_none gS1 ST, upd_same, ?_, by simp [rl], fun y hy => ?_, fun y hy => ?_⟩
          · rw [List.map_append]
            exact (hd1.mono Gs).app (.cons (.lst upd_same (hr1.mono Gs)) .nil)
          · rcases List.mem_append.mp hy with hy | hy
            · exact r1 y hy
            · have : y = st := by simpa using hy
              rw [this]; exact sl'
          · rcases List.mem_append.mp hy with hy | hy
            · exact r2 y hy
            · have : y = st := by simpa using hy
              rw [this]; exact sr
      · rintro σ H9 ⟨v9, v10, v11, G, rows, ss, rfl, M10, gpl, gS, h9, hd, rl, r1, r2⟩
        have rl' : rows.length = many := by rw [rl, List.length_map, List.length_range]; omega
        refine ⟨le_line (Nat.le_of_ble_eq_true rfl), fun c hc => ?_⟩
        have M11 := (M10.grow h9 nSa).new (o := .tup [.int k, .int n, .ref S]) hc
        have M12 := M11.grow upd_same (M10.ne hc)
        have Sc : S ≠ c := ne_of_none h9 hc
        have G1 : Same G (upd G S (.lst ss)) := Same.upd gS
        have gc : upd G S (.lst ss) c = none := upd_none (M10.freeG hc) Sc.symm
        have G2 : Same (upd G S (.lst ss)) (upd (upd G S (.lst ss)) c (.tup [.int k, .int n, .ref S])) := Same.upd gc
        refine q _ k n rows _ _ ⟨k1, k3, by omega, by omega, by omega, by omega, r1, fun st hst r hr => ?_⟩ (by omega) ?_ M12
        · obtain ⟨x1, x2⟩ := r2 st hst r hr
          exact ⟨x1, by omega⟩
        · exact .tup upd_same (.cons (.int _) (.cons (.int _) (.cons (.lst (G2 _ _ upd_same) (hd.mono (G1.trans G2))) .nil)))
  · exact h.elim
end

end K31
end
section
set_option Elab.async false
set_option linter.all false
set_option maxRecDepth 100000
set_option maxHeartbeats 4000000
namespace Om
def labL (lb : Nat → Nat × Nat) (j : Nat) : List (Nat × Nat) := (List.range j).map fun t => lb (j - t)
theorem labL_len {lb : Nat → Nat × Nat} {j : Nat} : (labL lb j).length = j := by unfold labL; simp
theorem labL_at {lb : Nat → Nat × Nat} {j t : Nat} (h : t < j) : (labL lb j)[t]? = some (lb (j - t)) := by unfold labL; rw [List.getElem?_map, List.getElem?_range h]; rfl
section
variable {k n : Nat} {rows : Rows} {nd lb : Nat → Nat × Nat} {j : Nat}
theorem pst_walk (hst : ∀ i, i < j → St rows (nd (i + 1)).1 (nd (i + 1)).2 (lb (i + 1), nd i)) : ∀ t, t ≤ j → pst rows (nd j).1 (nd j).2 ((labL lb j).map (·.1)) ((labL lb j).map (·.2)) t = nd (j - t)
  | 0, _ => rfl
  | t + 1, h => by
    have ih := pst_walk hst t (by omega)
    have l1 : t < ((labL lb j).map (·.1)).length := by rw [List.length_map, labL_len]; omega
    have l2 : t < ((labL lb j).map (·.2)).length := by rw [List.length_map, labL_len]; omega
    rw [pst_succ l1 l2, ih]
    have g1 : ((labL lb j).map (·.1)).getD t 0 = (lb (j - t)).1 := by rw [List.getD_eq_getElem?_getD, List.getElem?_map, labL_at (by omega)]; rfl
    have g2 : ((labL lb j).map (·.2)).getD t 0 = (lb (j - t)).2 := by rw [List.getD_eq_getElem?_getD, List.getElem?_map, labL_at (by omega)]; rfl
    rw [g1, g2]
    have s := hst (j - (t + 1)) (by omega)
    rw [show j - (t + 1) + 1 = j - t by omega] at s
    exact s.2.2.2.symm
theorem nats_cast (ls : List Nat) : nats (ls.map fun l => ((l : Nat) : Int)) = ls := by
  unfold nats
  rw [List.map_map]
  conv => rhs; rw [← List.map_id ls]
  apply List.map_congr_left
  intro x _
  simp
theorem shows_walk (ok : CodeOk k n rows) {i0 : Nat} (ij : i0 < j) (hst : ∀ i, i < j → St rows (nd (i + 1)).1 (nd (i + 1)).2 (lb (i + 1), nd i)) (eq : nd i0 = nd j) (un : (nd 0).1 ≠ (nd 0).2) :
    Shows k rows ((nd j).1 : Nat) ((nd j).2 : Nat) 0 ((j - i0 : Nat) : Int) (((labL lb j).map (·.1)).map fun l => ((l : Nat) : Int)) (((labL lb j).map (·.2)).map fun l => ((l : Nat) : Int)) := by
  have sj := hst (j - 1) (by omega)
  rw [show j - 1 + 1 = j by omega] at sj
  have a1 := (ok.stp sj.1).1
  have a2 := (ok.stp sj.2.1).1
  have len : ∀ (x i : Nat), i < (rows.getD x []).length → i < 2 ^ k := fun x i h => by
    by_cases hx : x < rows.length
    · have e : rows.getD x [] = rows[x] := by simp [List.getD_eq_getElem?_getD, hx]
      rw [e, ok.len _ (List.getElem_mem hx)] at h; exact h
    · have : rows.getD x [] = [] := by simp [List.getD_eq_getElem?_getD, List.getElem?_eq_none (Nat.le_of_not_lt hx)]
      rw [this] at h; simp at h
  have inr : ∀ l ∈ labL lb j, l.1 < 2 ^ k ∧ l.2 < 2 ^ k := fun l hl => by
    obtain ⟨t, ht, rfl⟩ := List.mem_map.mp hl
    have ht' := List.mem_range.mp ht
    have s := hst (j - t - 1) (by omega)
    rw [show j - t - 1 + 1 = j - t by omega] at s
    exact ⟨len _ _ s.1, len _ _ s.2.1⟩
  refine ⟨by simp, ⟨by omega, by omega, by simp [labL_len]⟩, ⟨by omega, by exact_mod_cast a1⟩, ⟨by omega, by exact_mod_cast a2⟩, fun l hl => ?_, fun l hl => ?_, fun t ht => ?_, ?_, ?_⟩
  · rw [List.map_map] at hl
    obtain ⟨x, hx, rfl⟩ := List.mem_map.mp hl
    have := (inr x hx).1
    exact ⟨Int.natCast_nonneg _, by show ((x.1 : Nat) : Int) < 2 ^ k; exact_mod_cast this⟩
  · rw [List.map_map] at hl
    obtain ⟨x, hx, rfl⟩ := List.mem_map.mp hl
    have := (inr x hx).2
    exact ⟨Int.natCast_nonneg _, by show ((x.2 : Nat) : Int) < 2 ^ k; exact_mod_cast this⟩
  · rw [List.length_map, List.length_map, labL_len] at ht
    rw [nats_cast, nats_cast, Int.toNat_natCast, Int.toNat_natCast]
    unfold Alike
    rw [pst_walk hst t (by omega)]
    have g1 : ((labL lb j).map (·.1)).getD t 0 = (lb (j - t)).1 := by rw [List.getD_eq_getElem?_getD, List.getElem?_map, labL_at ht]; rfl
    have g2 : ((labL lb j).map (·.2)).getD t 0 = (lb (j - t)).2 := by rw [List.getD_eq_getElem?_getD, List.getElem?_map, labL_at ht]; rfl
    rw [g1, g2]
    have s := hst (j - t - 1) (by omega)
    rw [show j - t - 1 + 1 = j - t by omega] at s
    exact s.2.2.1
  · rw [nats_cast, nats_cast, Int.toNat_natCast, Int.toNat_natCast, Int.toNat_natCast, show (0 : Int).toNat = 0 from rfl, pst_walk hst 0 (Nat.zero_le _), pst_walk hst (j - i0) (by omega), Nat.sub_zero, show j - (j - i0) = i0 by omega, eq]
  · rw [nats_cast, nats_cast, Int.toNat_natCast, Int.toNat_natCast, List.length_map, List.length_map, labL_len, pst_walk hst j (Nat.le_refl _), Nat.sub_self]
    exact un
end
theorem pigeon {rows : Rows} {nd : Nat → Nat × Nat} {m : Nat} (hm : rows.length * rows.length ≤ m) (h : ∀ i, i ≤ m → AllR rows (nd i).1 (nd i).2) : ∃ i j, i < j ∧ j ≤ m ∧ nd i = nd j := by
  have dec := Classical.em (∃ i j, i < j ∧ j ≤ m ∧ nd i = nd j)
  rcases dec with d | d
  · exact d
  · exfalso
    have nod : ((List.range (m + 1)).map nd).Nodup := by
      unfold List.Nodup
      rw [List.pairwise_map]
      refine List.Pairwise.imp_of_mem ?_ (List.pairwise_lt_range (n := m + 1))
      intro a b ha hb hab z
      exact d ⟨a, b, hab, by have := List.mem_range.mp hb; omega, z⟩
    have sub : (List.range (m + 1)).map nd ⊆ (List.range (rows.length * rows.length)).map fun c => (c / rows.length, c % rows.length) := fun p hp => by
      obtain ⟨i, hi, rfl⟩ := List.mem_map.mp hp
      obtain ⟨h1, h2⟩ := h i (by have := List.mem_range.mp hi; omega)
      refine List.mem_map.mpr ⟨(nd i).1 * rows.length + (nd i).2, List.mem_range.mpr ?_, ?_⟩
      · have := Nat.mul_le_mul_right rows.length (show (nd i).1 + 1 ≤ rows.length from h1)
        rw [Nat.add_mul, Nat.one_mul] at this
        omega
      · have n0 : 0 < rows.length := by omega
        refine Prod.ext ?_ ?_
        · show ((nd i).1 * rows.length + (nd i).2) / rows.length = _
          rw [Nat.mul_comm, Nat.mul_add_div n0, Nat.div_eq_of_lt h2, Nat.add_zero]
        · show ((nd i).1 * rows.length + (nd i).2) % rows.length = _
          rw [Nat.mul_comm, Nat.mul_add_mod, Nat.mod_eq_of_lt h2]
    have := List.Nodup.length_le_of_subset nod sub
    rw [List.length_map, List.length_range, List.length_map, List.length_range] at this
    omega
end Om
end
section
set_option Elab.async false
set_option linter.all false
set_option maxRecDepth 100000
set_option maxHeartbeats 4000000
namespace Om
def LtL (a b : Nat × Nat) : Prop := a.1 < b.1 ∨ (a.1 = b.1 ∧ a.2 < b.2)
def LtS (s t : Stp) : Prop := LtL s.1 t.1
def LtB (s t : Stp) : Prop := LtL s.2 t.2 ∨ (s.2 = t.2 ∧ LtL s.1 t.1)
theorem LtL.as {a b : Nat × Nat} (h : LtL a b) : ¬ LtL b a := by unfold LtL at *; omega
theorem LtS.as {a b : Stp} (h : LtS a b) : ¬ LtS b a := LtL.as h
theorem LtB.as {a b : Stp} (h : LtB a b) : ¬ LtB b a := by
  rintro (g | ⟨g1, g2⟩) <;> rcases h with h | ⟨h1, h2⟩
  · exact h.as g
  · rw [h1] at g; exact g.as g
  · rw [g1] at h; exact h.as h
  · exact h2.as g2
theorem sort_uniq {α : Type} {lt : α → α → Prop} (as : ∀ a b, lt a b → ¬ lt b a) : ∀ {l m : List α}, l.Pairwise lt → m.Pairwise lt → (∀ x, x ∈ l ↔ x ∈ m) → l = m
  | [], [], _, _, _ => rfl
  | [], b :: m, _, _, h => absurd ((h b).mpr (List.mem_cons_self ..)) (by simp)
  | a :: l, [], _, _, h => absurd ((h a).mp (List.mem_cons_self ..)) (by simp)
  | a :: l, b :: m, hl, hm, h => by
    obtain ⟨l1, l2⟩ := List.pairwise_cons.mp hl
    obtain ⟨m1, m2⟩ := List.pairwise_cons.mp hm
    have e : a = b := by
      rcases List.mem_cons.mp ((h a).mp (List.mem_cons_self ..)) with e | e
      · exact e
      · rcases List.mem_cons.mp ((h b).mpr (List.mem_cons_self ..)) with e' | e'
        · exact e'.symm
        · exact absurd (l1 _ e') (as _ _ (m1 _ e))
    subst e
    rw [sort_uniq as l2 m2 fun x => ?_]
    constructor
    · intro hx
      rcases List.mem_cons.mp ((h x).mp (List.mem_cons_of_mem _ hx)) with rfl | e
      · exact absurd (l1 _ hx) (as _ _ (l1 _ hx))
      · exact e
    · intro hx
      rcases List.mem_cons.mp ((h x).mpr (List.mem_cons_of_mem _ hx)) with rfl | e
      · exact absurd (m1 _ hx) (as _ _ (m1 _ hx))
      · exact e
theorem pw_app {α : Type} {lt : α → α → Prop} {l : List α} {x : α} (h : l.Pairwise lt) (g : ∀ a ∈ l, lt a x) : (l ++ [x]).Pairwise lt :=
  List.pairwise_append.mpr ⟨h, List.pairwise_singleton .., fun a ha b hb => by rw [List.mem_singleton.mp hb]; exact g a ha⟩
noncomputable def canon {α : Type} (lt : α → α → Prop) (P : α → Prop) : List α :=
  open Classical in if h : ∃ l : List α, l.Pairwise lt ∧ ∀ x, x ∈ l ↔ P x then Classical.choose h else []
theorem canon_eq {α : Type} {lt : α → α → Prop} {P : α → Prop} (as : ∀ a b, lt a b → ¬ lt b a) {l : List α} (h1 : l.Pairwise lt) (h2 : ∀ x, x ∈ l ↔ P x) : canon lt P = l := by
  have h : ∃ l : List α, l.Pairwise lt ∧ ∀ x, x ∈ l ↔ P x := ⟨l, h1, h2⟩
  unfold canon
  rw [dif_pos h]
  obtain ⟨c1, c2⟩ := Classical.choose_spec h
  exact sort_uniq as c1 h1 fun x => by rw [c2, h2]
noncomputable def keysL (rows : Rows) : List (Nat × Nat) := canon LtL fun p => AllR rows p.1 p.2
noncomputable def backL (rows : Rows) (p : Nat × Nat) : List Stp := canon LtB (BSt rows p.1 p.2)
end Om
namespace L2
open PySem PySem.Spec PyProof.Rows
def GrO (c : Nat) (lt : Om.Stp → Om.Stp → Prop) (H : Hp) (v : V) (R : Om.R2n) (E : Nat → Nat → Om.Stp → Prop) : Prop := ∃ a o kvs ks, v = .ref a ∧ H a = some (.frz o (.dT kvs)) ∧ KD ks kvs ∧ (∀ x y, (x, y) ∈ ks ↔ R x y) ∧ ks.Pairwise Om.LtL ∧
  ∀ p ∈ ks, ∃ l ss, valV kvs (kk p) = some (.ref l) ∧ StL H l ss ∧ ss.length ≤ c ∧ ss.Pairwise lt ∧ ∀ s, s ∈ ss ↔ E p.1 p.2 s
section
variable {c : Nat} {lt : Om.Stp → Om.Stp → Prop} {H H' : Hp} {v : V} {R : Om.R2n} {E : Nat → Nat → Om.Stp → Prop}
theorem GrO.mono (h : GrO c lt H v R E) (s : Same H H') : GrO c lt H' v R E := by
  obtain ⟨a, o, kvs, ks, e, h1, h2, h3, h5, h4⟩ := h
  refine ⟨a, o, kvs, ks, e, s _ _ h1, h2, h3, h5, fun p hp => ?_⟩
  obtain ⟨l, ss, q1, q2, q3⟩ := h4 p hp
  exact ⟨l, ss, q1, q2.mono s, q3⟩
end
def ValsO (G : Hp) (kvs : List (List Key × V)) (ks : List (Nat × Nat)) (E : Nat → Nat → Om.Stp → Prop) : Prop :=
  ∀ p ∈ ks, ∃ l ss, valV kvs (kk p) = some (.ref l) ∧ StL G l ss ∧ ss.length ≤ 64 ∧ ss.Pairwise Om.LtS ∧ ∀ s, s ∈ ss ↔ E p.1 p.2 s
theorem ValsO.mono {G G' : Hp} {kvs : List (List Key × V)} {ks : List (Nat × Nat)} {E : Nat → Nat → Om.Stp → Prop} (h : ValsO G kvs ks E) (s : Same G G') : ValsO G' kvs ks E := fun p hp => by
  obtain ⟨l, ss, q1, q2, q3⟩ := h p hp
  exact ⟨l, ss, q1, q2.mono s, q3⟩
theorem ValsO.put {G : Hp} {kvs : List (List Key × V)} {ks : List (Nat × Nat)} {E : Nat → Nat → Om.Stp → Prop} {p : Nat × Nat} {l : Addr} {ss : List Om.Stp} (h : ValsO G kvs ks E) (n : p ∉ ks) (hl : StL G l ss) (h64 : ss.length ≤ 64) (ho : ss.Pairwise Om.LtS) (hs : ∀ s, s ∈ ss ↔ E p.1 p.2 s) :
    ValsO G (putK kvs (kk p) (.ref l)) (ks ++ [p]) E := fun q hq => by
  rcases List.mem_append.mp hq with hq | hq
  · obtain ⟨l', ss', q1, q2⟩ := h q hq
    exact ⟨l', ss', by rw [valV_put_ne (p := p) (q := q) (fun z => n (z ▸ hq))]; exact q1, q2⟩
  · have : q = p := by simpa using hq
    subst this
    exact ⟨l, ss, valV_put_eq, hl, h64, ho, hs⟩
end L2
end
section
set_option Elab.async false
set_option linter.all false
set_option maxRecDepth 100000
set_option maxHeartbeats 4000000
namespace K31
open PySem L2
section
variable {P : Program} {w : World} {K : PySem.W.Frag} {mg : Str → Option Value} {base : Heap}
theorem new_of {H H' : Hp} {l : Addr} (s : Same H H') (h : H' l = none) : H l = none := by
  cases e : H l with
  | none => rfl
  | some o => rw [s _ _ e] at h; cases h
abbrev sEvery : Stmt := top 9
def spEvery : Sp := fun vs H Q _ => match vs with
  | [cv] => ∃ (k n : Nat) (rows : Om.Rows), DV H cv (codeD k n rows) ∧ rows.length ≤ 8 ∧ ∀ l H', Same H H' → H l = none → H' l = some (.lst ((List.range rows.length).map fun i => V.int (i : Nat))) → Q (.ref l) H'
  | _ => False
theorem scEvery : FnScope ["code"] ["code"] (defScope sEvery) := ⟨rfl, rfl, rfl, by decide +kernel, rfl, by decide +kernel, by decide +kernel⟩
local macro_rules | `(tactic| walk_at "T.n") => `(tactic| with_reducible first | exact vn "code" 0)
local macro_rules | `(tactic| walk_at "T.b") => `(tactic| first | ((with_reducible refine' fn_listR ?a0 ?a9 ?a1); (case a0 => with_reducible assumption); (case a9 => rfl); (case a1 => walk_at "T.a")) | ((with_reducible refine' e_rng1 ?a0 ?a9 ?a1); (case a0 => with_reducible assumption); (case a9 => rfl); (case a1 => walk_at "T.a")))
theorem ok_every (D : FnX K mg "every_state" sEvery ["code"]) (g1 : mg "list" = none) (g2 : mg "range" = none) (g3 : mg "len" = none) : Can P w K mg base "every_state" 1 ["code"] spEvery := by
  refine can_fn (k := 0) D scEvery (fun vs H Q E h => ?_) (fun f cdv A outer s H vs Q E hr h => ?_)
  all_goals
    unfold spEvery at h
    split at h
  · rfl
  · exact h.elim
  · rename_i cv
    obtain ⟨k, n, rows, hc, rl, q⟩ := h
    have nd := scEvery.nd
    obtain ⟨a, b, ss, rfl, ha, hb, hss⟩ := code_inv hc
    have sl : ss.length = rows.length := by rw [hss.length, List.length_map]
    refine ⟨_, (by walk_at "T.top1"), ?_⟩
    refine ⟨_, gt ha (by decide) rfl, _, lenL hb, by omega, by omega, fun r hr => ?_⟩
    refine .inl ⟨ss.length, upd_same, by omega, fun l hl => ?_⟩
    rw [sl] at hl ⊢
    exact q _ _ ((Same.upd hr).trans (Same.upd hl)) (new_of (Same.upd hr) hl) upd_same
  · exact h.elim
end
section
variable {P : Program} {w : World} {K : PySem.W.Frag} {mg : Str → Option Value} {base : Heap}
abbrev sPSteps : Stmt := top 11
def spPSteps : Sp := fun vs H Q _ => match vs with
  | [cv, .int x0, .int y0] => ∃ (k n : Nat) (rows : Om.Rows) (x y : Nat), x0 = (x : Nat) ∧ y0 = (y : Nat) ∧ DV H cv (codeD k n rows) ∧ Om.CodeOk k n rows ∧ x < rows.length ∧ y < rows.length ∧
      ∀ l (ss : List Om.Stp) H', Same H H' → H l = none → StL H' l ss → ss.length ≤ 64 → ss.Pairwise Om.LtS → (∀ s, s ∈ ss ↔ Om.St rows x y s) → Q (.ref l) H'
  | _ => False
theorem scPSteps : FnScope ["code", "one", "other", "steps", "letter", "row", "another", "beside"] ["code", "one", "other"] (defScope sPSteps) := ⟨rfl, rfl, rfl, by decide +kernel, rfl, by decide +kernel, by decide +kernel⟩
local macro_rules | `(tactic| walk_at "T.n") => `(tactic| with_reducible first | exact vn "code" 0 | exact vn "one" 1 | exact vn "other" 2 | exact vn "steps" 3 | exact vn "letter" 4 | exact vn "row" 5 | exact vn "another" 6 | exact vn "beside" 7)
local macro_rules | `(tactic| walk_at "T.gn") => `(tactic| with_reducible first | exact gn "steps" 3 (by with_unfolding_all assumption) | exact gn "letter" 4 (by with_unfolding_all assumption) | exact gn "row" 5 (by with_unfolding_all assumption) | exact gn "another" 6 (by with_unfolding_all assumption) | exact gn "beside" 7 (by with_unfolding_all assumption))
theorem ok_psteps (D : FnX K mg "pair_steps" sPSteps ["code", "one", "other"]) (g1 : mg "enumerate" = none) : Can P w K mg base "pair_steps" 1 ["code", "one", "other"] spPSteps := by
  refine can_fn (k := 0) D scPSteps (fun vs H Q E h => ?_) (fun f cdv A outer s H vs Q E hr h => ?_)
  all_goals
    unfold spPSteps at h
    split at h
  · rfl
  · exact h.elim
  · rename_i cv x0 y0
    obtain ⟨k, n, rows, x, y, rfl, rfl, hc, ok, hx, hy, q⟩ := h
    have nd := scPSteps.nd
    obtain ⟨a, b, st, rfl, ha, hb, hst⟩ := code_inv hc
    obtain ⟨qx, rx, e1, e2, e3⟩ := state_at hst (s := x) (st := rows[x]) (List.getElem?_eq_getElem hx)
    obtain ⟨qy, ry, f1, f2, f3⟩ := state_at hst (s := y) (st := rows[y]) (List.getElem?_eq_getElem hy)
    have lx : rows[x].length = 2 ^ k := ok.len _ (List.getElem_mem hx)
    have ly : rows[y].length = 2 ^ k := ok.len _ (List.getElem_mem hy)
    have p8 : 2 ^ k ≤ 8 := by
      have := ok.k3
      have : k = 0 ∨ k = 1 ∨ k = 2 ∨ k = 3 := by omega
      rcases this with rfl | rfl | rfl | rfl <;> decide
    have gx : rows.getD x [] = rows[x] := by simp [List.getD_eq_getElem?_getD, hx]
    have gy : rows.getD y [] = rows[y] := by simp [List.getD_eq_getElem?_getD, hy]
    have stx : ∀ i (hi : i < rows[x].length), Om.step rows x i = rows[x][i] := fun i hi => by unfold Om.step; rw [gx]; simp [List.getD_eq_getElem?_getD, hi]
    have sty : ∀ i (hi : i < rows[y].length), Om.step rows y i = rows[y][i] := fun i hi => by unfold Om.step; rw [gy]; simp [List.getD_eq_getElem?_getD, hi]
    have rxl : rx.length = 2 ^ k := by rw [e3.length, List.length_map, lx]
    have ryl : ry.length = 2 ^ k := by rw [f3.length, List.length_map, ly]
    refine ⟨_, (by walk_at "T.top"), ?_⟩
    refine ⟨Nat.zero_le _, fun L hL => ?_⟩
    have R0 := Gr.start hL
    refine ⟨_, gt (R0.all _ _ ha) (by decide) rfl, .ref qx, gl (R0.all _ _ hb) (by omega) (by simpa using e1), ⟨_, SqL.of (R0.all _ _ e2)⟩, ?_⟩
    refine for_pr (it_enumP _ qx rx) (fun i σ H2 => ∃ (v4 v5 v6 v7 : Option V) (G : Hp) (vs : List V) (ss : List Om.Stp), σ = [some (.ref a), some (.int (x : Nat)), some (.int (y : Nat)), some (.ref L), v4, v5, v6, v7] ∧ Gr G H H2 L vs ∧ DVs G vs (ss.map sD) ∧ ss.length ≤ i * 8 ∧ ss.Pairwise Om.LtS ∧ ∀ s, s ∈ ss ↔ s.1.1 < i ∧ Om.St rows x y s)
      ⟨none, none, none, none, _, [], [], rfl, R0, .nil, by simp, List.Pairwise.nil, by simp⟩ (fun i σ H2 _ ⟨_, _, _, _, _, _, _, _, R, _⟩ => R.all _ _ e2) ?_ ?_
    · rintro i t σ H2 hi ⟨v4, v5, v6, v7, G, vs, ss, rfl, R, hd, hl, ho, hb1⟩ ht
      have hi' : i < rows[x].length := by omega
      obtain ⟨r, r1, r2⟩ := row_at e3 (l := i) (r := rows[x][i]) (List.getElem?_eq_getElem hi')
      have er : rx.getD i .non = .ref r := by rw [List.getD_eq_getElem?_getD, r1]; rfl
      have R1 := R.new (o := .tup [.int (i : Nat), .ref r]) ht
      dsimp only
      rw [er]
      refine ⟨_, .inl upd_same, rfl, rfl, ?_⟩
      refine ⟨_, gt (R1.all _ _ ha) (by decide) rfl, .ref qy, gl (R1.all _ _ hb) (by omega) (by simpa using f1), ⟨_, SqL.of (R1.all _ _ f2)⟩, ?_⟩
      refine for_pr (it_enumP _ qy ry) (fun j σ H2 => ∃ (v6 v7 : Option V) (G : Hp) (vs : List V) (ss : List Om.Stp), σ = [some (.ref a), some (.int (x : Nat)), some (.int (y : Nat)), some (.ref L), some (.int (i : Nat)), some (.ref r), v6, v7] ∧ Gr G H H2 L vs ∧ DVs G vs (ss.map sD) ∧ ss.length ≤ i * 8 + j ∧ ss.Pairwise Om.LtS ∧ ∀ s, s ∈ ss ↔ (s.1.1 < i ∨ (s.1.1 = i ∧ s.1.2 < j)) ∧ Om.St rows x y s)
        ⟨v6, v7, G, vs, ss, rfl, R1, hd, by omega, ho, fun s => by rw [hb1]; constructor <;> rintro ⟨h1, h2⟩ <;> exact ⟨by omega, h2⟩⟩ (fun i σ H2 _ ⟨_, _, _, _, _, _, R, _⟩ => R.all _ _ f2) ?_ ?_
      · rintro j t2 σ H3 hj ⟨v6, v7, G, vs, ss, rfl, R2, hd, hl, ho, hb1⟩ ht2
        have hj' : j < rows[y].length := by omega
        obtain ⟨r', s1, s2⟩ := row_at f3 (l := j) (r := rows[y][j]) (List.getElem?_eq_getElem hj')
        have er' : ry.getD j .non = .ref r' := by rw [List.getD_eq_getElem?_getD, s1]; rfl
        have R3 := R2.new (o := .tup [.int (j : Nat), .ref r']) ht2
        dsimp only
        rw [er']
        refine ⟨_, .inl upd_same, rfl, rfl, ?_⟩
        refine ⟨_, gt (R3.all _ _ r2) (by decide) rfl, _, gt (R3.all _ _ s2) (by decide) rfl, ?_⟩
        have key : ∀ s : Om.Stp, s.1.1 = i → s.1.2 = j → (Om.St rows x y s ↔ rows[x][i].1 = rows[y][j].1 ∧ s = ((i, j), (rows[x][i].2, rows[y][j].2))) := by
          rintro ⟨⟨a1, a2⟩, a3⟩ h1 h2
          dsimp only at h1 h2
          subst h1 h2
          unfold Om.St
          dsimp only
          rw [gx, gy, stx _ hi', sty _ hj']
          constructor
          · rintro ⟨_, _, h3, h4⟩; exact ⟨h3, by rw [h4]⟩
          · rintro ⟨h3, h4⟩
            exact ⟨hi', hj', h3, (Prod.mk.inj h4).2⟩
        refine ite2 (fun h1 => ?_) (fun h1 => ⟨_, _, G, vs, ss, rfl, R3, hd, by omega, ho, fun s => ?_⟩)
        · have h1' := bs_inj (of_decide_eq_true h1)
          refine ⟨⟨_, rfl, R3.hL⟩, ?_⟩
          refine ⟨le_line (Nat.le_of_ble_eq_true rfl), fun z hz => ?_⟩
          have R4 := R3.put (o := .tup [.int (i : Nat), .int (j : Nat)]) hz
          have U4 := R3.up (o := .tup [.int (i : Nat), .int (j : Nat)]) hz
          refine ⟨_, gt (R4.all _ _ r2) (by decide) rfl, _, gt (R4.all _ _ s2) (by decide) rfl, ?_⟩
          refine ⟨le_line (Nat.le_of_ble_eq_true rfl), fun z1 hz1 => ?_⟩
          have R5 := R4.put (o := .tup [.int (rows[x][i].2 : Nat), .int (rows[y][j].2 : Nat)]) hz1
          have U5 := R4.up (o := .tup [.int (rows[x][i].2 : Nat), .int (rows[y][j].2 : Nat)]) hz1
          refine ⟨le_line (Nat.le_of_ble_eq_true rfl), fun z2 hz2 => ?_⟩
          have R6 := R5.put (o := .tup [.ref z, .ref z1]) hz2
          have U6 := R5.up (o := .tup [.ref z, .ref z1]) hz2
          have vl : vs.length = ss.length := by rw [hd.length, List.length_map]
          refine ⟨_, R6.hL, by rw [vl]; exact lt_line (by omega), ?_⟩
          refine ⟨_, _, _, vs ++ [.ref z2], ss ++ [((i, j), (rows[x][i].2, rows[y][j].2))], rfl, R6.set, ?_, by simp; omega, Om.pw_app ho (fun a ha => by have := ((hb1 a).mp ha).1; show a.1.1 < i ∨ (a.1.1 = i ∧ a.1.2 < j); exact this), fun u => ?_⟩
          · rw [List.map_append]
            refine (hd.mono ((U4.trans U5).trans U6)).app (.cons (.tup upd_same (.cons ?_ (.cons ?_ .nil))) .nil)
            · exact (pair_DV (x := (i, j)) upd_same).mono (U5.trans U6)
            · exact (pair_DV (x := (rows[x][i].2, rows[y][j].2)) upd_same).mono U6
          · rw [List.mem_append, hb1, List.mem_singleton]
            constructor
            · rintro (⟨g1, g2⟩ | g)
              · exact ⟨by omega, g2⟩
              · subst g
                exact ⟨.inr ⟨rfl, Nat.lt_succ_self _⟩, (key _ rfl rfl).mpr ⟨h1', rfl⟩⟩
            · rintro ⟨g1, g2⟩
              by_cases c : u.1.1 = i ∧ u.1.2 = j
              · exact .inr ((key _ c.1 c.2).mp g2).2
              · exact .inl ⟨by omega, g2⟩
        · have h1' : ¬ rows[x][i].1 = rows[y][j].1 := fun z => by rw [z] at h1; simp at h1
          rw [hb1]
          constructor
          · rintro ⟨g1, g2⟩; exact ⟨by omega, g2⟩
          · rintro ⟨g1, g2⟩
            by_cases c : s.1.1 = i ∧ s.1.2 = j
            · exact absurd ((key _ c.1 c.2).mp g2).1 h1'
            · exact ⟨by omega, g2⟩
      · rintro σ H3 ⟨v6, v7, G, vs, ss, rfl, R2, hd, hl, ho, hb1⟩
        refine ⟨_, _, _, _, G, vs, ss, rfl, R2, hd, by omega, ho, fun s => ?_⟩
        rw [hb1]
        constructor
        · rintro ⟨g1, g2⟩; exact ⟨by omega, g2⟩
        · rintro ⟨g1, g2⟩
          refine ⟨?_, g2⟩
          have := g2.2.1
          rw [gy] at this
          omega
    · rintro σ H2 ⟨v4, v5, v6, v7, G, vs, ss, rfl, R, hd, hl, ho, hb1⟩
      refine q L ss _ R.all hL (.lst R.hL (hd.mono R.s)) (by omega) ho fun s => ?_
      rw [hb1]
      constructor
      · exact fun h => h.2
      · intro h
        refine ⟨?_, h⟩
        have := h.1
        rw [gx] at this
        omega
  · exact h.elim
end

end K31
end
section
set_option Elab.async false
set_option linter.all false
set_option maxRecDepth 100000
set_option maxHeartbeats 4000000
namespace K31
open PySem L2
section
variable {P : Program} {w : World} {K : PySem.W.Frag} {mg : Str → Option Value} {base : Heap}
abbrev sGraph : Stmt := top 10
def spGraph : Sp := fun vs H Q _ => match vs with
  | [cv, .ref sl] => ∃ (k n : Nat) (rows : Om.Rows), DV H cv (codeD k n rows) ∧ Om.CodeOk k n rows ∧ H sl = some (.lst ((List.range rows.length).map fun i => V.int (i : Nat))) ∧ ∀ v H', Same H H' → GrO 64 Om.LtS H' v (Om.AllR rows) (Om.St rows) → Q v H'
  | _ => False
theorem scGraph : FnScope ["code", "states", "graph", "one", "other"] ["code", "states"] (defScope sGraph) := ⟨rfl, rfl, rfl, by decide +kernel, rfl, by decide +kernel, by decide +kernel⟩
local macro_rules | `(tactic| walk_at "T.n") => `(tactic| with_reducible first | exact vn "code" 0 | exact vn "states" 1 | exact vn "graph" 2 | exact vn "one" 3 | exact vn "other" 4)
local macro_rules | `(tactic| walk_at "T.gn") => `(tactic| with_reducible first | exact gn "graph" 2 (by with_unfolding_all assumption) | exact gn "one" 3 (by with_unfolding_all assumption) | exact gn "other" 4 (by with_unfolding_all assumption))
local macro_rules | `(tactic| walk_at "T.e") => `(tactic| (with_reducible exact pe_dnewT))
local macro_rules | `(tactic| walk_at "T.g") => `(tactic| ((with_reducible refine' g_subD ?a0 ?a1 ?a2); (case a0 => exact Room.units (by assumption)); (case a1 => walk_at "T.e"); (case a2 => walk_at "T.e")))
local macro_rules | `(tactic| walk_at "T.st") => `(tactic| ((with_reducible refine' s_retF ?a1); (case a1 => walk_at "T.e")))
theorem rng_at {S i : Nat} {z : V} (h : ((List.range S).map fun i => V.int (i : Nat))[i]? = some z) : i < S ∧ z = .int (i : Nat) := by
  rw [List.getElem?_map] at h
  obtain ⟨j, h1, rfl⟩ := Option.map_eq_some_iff.mp h
  have hlt : i < S := by
    obtain ⟨hl, _⟩ := List.getElem?_eq_some_iff.mp h1
    simpa using hl
  rw [List.getElem?_range hlt] at h1
  cases h1
  exact ⟨hlt, rfl⟩
theorem ok_graph (D : FnX K mg "pair_graph" sGraph ["code", "states"]) (c1 : Can P w K mg base "pair_steps" 1 ["code", "one", "other"] spPSteps) : Can P w K mg base "pair_graph" 2 ["code", "states"] spGraph := by
  refine can_fn (k := 1) D scGraph (fun vs H Q E h => ?_) (fun f cdv A outer s H vs Q E hr h => ?_)
  all_goals
    unfold spGraph at h
    split at h
  · rfl
  · exact h.elim
  · rename_i cv sl
    obtain ⟨k, n, rows, hc, ok, hsl, q⟩ := h
    have nd := scGraph.nd
    have s8 := ok.s8
    refine ⟨_, (by walk_at "T.top"), ?_⟩
    intro D hD
    have M0 := Gd.start hD
    refine ⟨⟨_, SqL.of (M0.all _ _ hsl)⟩, ?_⟩
    refine for_by (it_list _ sl _) (fun i σ H2 => ∃ (v3 v4 : Option V) (G : Hp) (kvs : List (List Key × V)) (ks : List (Nat × Nat)), σ = [some cv, some (.ref sl), some (.ref D), v3, v4] ∧ Gd G H H2 D kvs ∧ KD ks kvs ∧ ValsO G kvs ks (Om.St rows) ∧
        ks.Pairwise Om.LtL ∧ ∀ x y, (x, y) ∈ ks ↔ x < i ∧ y < rows.length)
      ⟨none, none, _, [], [], rfl, M0, KD.nil, (fun p hp => nomatch hp), List.Pairwise.nil, fun x' y' => by simp⟩ (fun i σ H2 _ ⟨_, _, _, _, _, _, M, _⟩ => SqL.of (M.all _ _ hsl)) ?_ ?_
    · rintro i z σ H2 hi hz ⟨v3, v4, G, kvs, ks, rfl, M, kd, hv, ho, hm⟩
      obtain ⟨hi', rfl⟩ := rng_at hz
      refine ⟨⟨_, SqL.of (M.all _ _ hsl)⟩, ?_⟩
      refine for_by (it_list _ sl _) (fun j σ H2 => ∃ (v4 : Option V) (G : Hp) (kvs : List (List Key × V)) (ks : List (Nat × Nat)), σ = [some cv, some (.ref sl), some (.ref D), some (.int (i : Nat)), v4] ∧ Gd G H H2 D kvs ∧ KD ks kvs ∧ ValsO G kvs ks (Om.St rows) ∧
          ks.Pairwise Om.LtL ∧ ∀ x y, (x, y) ∈ ks ↔ (x < i ∧ y < rows.length) ∨ (x = i ∧ y < j))
        ⟨v4, G, kvs, ks, rfl, M, kd, hv, ho, fun x' y' => by rw [hm]; simp⟩ (fun i σ H2 _ ⟨_, _, _, _, _, M, _⟩ => SqL.of (M.all _ _ hsl)) ?_ ?_
      · rintro j z σ H3 hj hz ⟨v4, G, kvs, ks, rfl, M, kd, hv, ho, hm⟩
        obtain ⟨hj', rfl⟩ := rng_at hz
        refine ⟨k, n, rows, i, j, rfl, rfl, hc.mono M.all, ok, hi', hj', fun l ss H4 s4 hl4 hst h64 hso hmem => ?_⟩
        obtain ⟨G1, M1, gg, he⟩ := M.call s4
        have st1 : StL G1 l ss := DV.lt (Lt.but M1.hD he) hst
        have hv1 := hv.mono gg
        refine ⟨le_line (Nat.le_of_ble_eq_true rfl), fun t ht => ?_⟩
        have M2 := M1.put (o := .tup [.int (i : Nat), .int (j : Nat)]) ht
        have U2 := M1.up (o := .tup [.int (i : Nat), .int (j : Nat)]) ht
        have nin : (i, j) ∉ ks := fun z => by
          rcases (hm _ _).mp z with ⟨h1, _⟩ | ⟨_, h1⟩
          · exact absurd h1 (Nat.lt_irrefl _)
          · exact absurd h1 (Nat.lt_irrefl _)
        refine .inr ⟨_, _, rfl, .inr ⟨kvs, kk (i, j), t, M2.hD, rfl, upd_same, kd.lt_line, rfl⟩, ?_⟩
        refine ⟨_, _, _, _, rfl, M2.set, kd.put (v := .ref l) nin (by show i < 8; omega) (by show j < 8; omega), (hv1.mono U2).put nin (st1.mono U2) h64 hso hmem, Om.pw_app ho (fun a ha => by have := (hm a.1 a.2).mp ha; show a.1 < i ∨ (a.1 = i ∧ a.2 < j); omega), fun x' y' => ?_⟩
        rw [List.mem_append, hm, List.mem_singleton, Prod.mk.injEq]
        omega
      · rintro σ H3 ⟨v4, G, kvs, ks, rfl, M, kd, hv, ho, hm⟩
        refine ⟨_, _, G, kvs, ks, rfl, M, kd, hv, ho, fun x' y' => ?_⟩
        rw [hm, List.length_map, List.length_range]
        omega
    · rintro σ H2 ⟨v3, v4, G, kvs, ks, rfl, M, kd, hv, ho, hm⟩
      refine .inl ⟨_, M.hD, trivial, fun o => ?_⟩
      refine q _ _ (M.s0.trans M.frz) ⟨D, o, kvs, ks, rfl, upd_same, kd, fun x' y' => ?_, ho, hv.mono M.frz⟩
      rw [hm, List.length_map, List.length_range]
      exact Iff.rfl
  · exact h.elim
end

end K31
end
section
set_option Elab.async false
set_option linter.all false
set_option maxRecDepth 100000
set_option maxHeartbeats 4000000
namespace L2
open PySem PySem.Spec PyProof.Rows
structure Gc (G H0 H : Hp) (D : Addr) (kvs : List (List Key × V)) (ks : List (Nat × Nat)) (c : Nat) (E : Nat × Nat → Om.Stp → Prop) : Prop where
  s : Same G H
  s0 : Same H0 G
  gD : G D = none
  hD : H D = some (.dT kvs)
  kd : KD ks kvs
  ls : ∀ p ∈ ks, ∃ (t : Addr) (vs : List V) (ss : List Om.Stp), valV kvs (kk p) = some (.ref t) ∧ G t = none ∧ H t = some (.lst vs) ∧ DVs G vs (ss.map sD) ∧ ss.length ≤ c ∧ ss.Pairwise Om.LtB ∧ ∀ s, s ∈ ss ↔ E p s
  ij : ∀ p ∈ ks, ∀ q ∈ ks, ∀ t, valV kvs (kk p) = some (.ref t) → valV kvs (kk q) = some (.ref t) → p = q
  tp : ∀ x xs, H x = some (.tup xs) → G x = some (.tup xs)
section
variable {G H0 H : Hp} {D q : Addr} {kvs : List (List Key × V)} {ks : List (Nat × Nat)} {c : Nat} {E : Nat × Nat → Om.Stp → Prop} {o : HO}
theorem Gc.all (g : Gc G H0 H D kvs ks c E) : Same H0 H := g.s0.trans g.s
theorem Gc.put (g : Gc G H0 H D kvs ks c E) (h : H q = none) : Gc (upd G q o) H0 (upd H q o) D kvs ks c E := by
  have qD : D ≠ q := ne_of_none g.hD h
  have gq : G q = none := g.s.free h
  refine ⟨fun x u e => ?_, g.s0.trans (Same.upd gq), by rw [upd_ne qD]; exact g.gD, by rw [upd_ne qD]; exact g.hD, g.kd, fun p hp => ?_, g.ij, fun x xs e => ?_⟩
  · by_cases hx : x = q
    · subst hx; rw [upd_same] at e ⊢; exact e
    · rw [upd_ne hx] at e ⊢; exact g.s _ _ e
  · obtain ⟨t, vs, ss, h1, h2, h3, h4, h5⟩ := g.ls p hp
    have tq : t ≠ q := ne_of_none h3 h
    exact ⟨t, vs, ss, h1, by rw [upd_ne tq]; exact h2, by rw [upd_ne tq]; exact h3, h4.mono (Same.upd gq), h5⟩
  · by_cases hx : x = q
    · subst hx; rw [upd_same] at e ⊢; exact e
    · rw [upd_ne hx] at e ⊢; exact g.tp _ _ e
theorem Gc.up (g : Gc G H0 H D kvs ks c E) (h : H q = none) : Same G (upd G q o) := Same.upd (g.s.free h)
theorem Gc.app (g : Gc G H0 H D kvs ks c E) {p : Nat × Nat} {t : Addr} {vs : List V} {v : V} {z : Om.Stp} (hp : p ∈ ks) (ht : valV kvs (kk p) = some (.ref t)) (hv : H t = some (.lst vs)) (dz : DV G v (sD z)) (lt : ∀ s, E p s → Om.LtB s z) :
    Gc G H0 (upd H t (.lst (vs ++ [v]))) D kvs ks (c + 1) (fun q s => E q s ∨ (q = p ∧ s = z)) := by
  obtain ⟨t', vs', ss, h1, h2, h3, h4, h5, ho, h6⟩ := g.ls p hp
  rw [ht] at h1
  cases h1
  rw [hv] at h3
  cases h3
  have tD : D ≠ t := ne_of g.hD hv (fun z => nomatch z)
  refine ⟨fun x u e => ?_, g.s0, g.gD, by rw [upd_ne tD]; exact g.hD, g.kd, fun q hq => ?_, g.ij, fun x xs e => ?_⟩
  · rw [upd_ne (ne_of_none e h2)]; exact g.s _ _ e
  · by_cases e : q = p
    · subst e
      refine ⟨t, vs ++ [v], ss ++ [z], ht, h2, upd_same, by rw [List.map_append]; exact h4.app (.cons dz .nil), by simp; omega, Om.pw_app ho (fun a ha => lt a ((h6 a).mp ha)), fun s => ?_⟩
      rw [List.mem_append, List.mem_singleton, h6]
      constructor
      · rintro (h | h)
        · exact .inl h
        · exact .inr ⟨rfl, h⟩
      · rintro (h | h)
        · exact .inl h
        · exact .inr h.2
    · obtain ⟨t', vs', ss', k1, k2, k3, k4, k5, ko, k6⟩ := g.ls q hq
      have tt : t' ≠ t := fun z => by subst z; exact e (g.ij q hq p hp _ k1 ht)
      refine ⟨t', vs', ss', k1, k2, by rw [upd_ne tt]; exact k3, k4, by omega, ko, fun s => ?_⟩
      rw [k6]
      constructor
      · exact .inl
      · rintro (h | h)
        · exact h
        · exact absurd h.1 e
  · have : x ≠ t := fun z => by subst z; rw [upd_same] at e; cases e
    rw [upd_ne this] at e
    exact g.tp _ _ e
theorem Gc.held (g : Gc G H0 H D kvs ks c E) {ob : Obj} : Same H0 (upd H D (.frz ob (.dT kvs))) ∧ ∀ (R : Om.R2n), ks.Pairwise Om.LtL → (∀ x y, (x, y) ∈ ks ↔ R x y) → GrO c Om.LtB (upd H D (.frz ob (.dT kvs))) (.ref D) R (fun x y s => E (x, y) s) := by
  have sm : Same G (upd H D (.frz ob (.dT kvs))) := fun x u e => by rw [upd_ne (ne_of_none e g.gD)]; exact g.s _ _ e
  refine ⟨g.s0.trans sm, fun R hO hR => ⟨D, ob, kvs, ks, rfl, upd_same, g.kd, hR, hO, fun p hp => ?_⟩⟩
  obtain ⟨t, vs, ss, h1, h2, h3, h4, h5, ho, h6⟩ := g.ls p hp
  have tD : t ≠ D := ne_of h3 g.hD (fun z => nomatch z)
  exact ⟨t, ss, h1, .lst (by rw [upd_ne tD]; exact h3) (h4.mono sm), h5, ho, h6⟩
end
theorem Gc.start {H : Hp} {D : Addr} (h : H D = none) : Gc H H (upd H D (.dT [])) D [] [] 0 (fun _ _ => False) := ⟨Same.upd h, Same.refl _, h, upd_same, KD.nil, (fun p hp => nomatch hp), (fun p hp => nomatch hp), fun x xs e => by
  have : x ≠ D := fun z => by subst z; rw [upd_same] at e; cases e
  rw [upd_ne this] at e; exact e⟩
theorem Gc.key {G H0 H : Hp} {D C : Addr} {kvs : List (List Key × V)} {ks : List (Nat × Nat)} {p : Nat × Nat} (g : Gc G H0 H D kvs ks 0 (fun _ _ => False)) (hC : H C = none) (hp : p ∉ ks) (l1 : p.1 < 8) (l2 : p.2 < 8) :
    Gc G H0 (upd (upd H C (.lst [])) D (.dT (putK kvs (kk p) (.ref C)))) D (putK kvs (kk p) (.ref C)) (ks ++ [p]) 0 (fun _ _ => False) := by
  have CD : D ≠ C := ne_of_none g.hD hC
  have gC : G C = none := g.s.free hC
  have val : ∀ q, q ∈ ks ++ [p] → (q = p ∧ valV (putK kvs (kk p) (.ref C)) (kk q) = some (.ref C)) ∨ (q ∈ ks ∧ valV (putK kvs (kk p) (.ref C)) (kk q) = valV kvs (kk q)) := fun q hq => by
    rw [valV_put]
    rcases List.mem_append.mp hq with hq | hq
    · have : kk q ≠ kk p := fun z => hp (kk_inj z ▸ hq)
      rw [if_neg this]; exact .inr ⟨hq, rfl⟩
    · have : q = p := by simpa using hq
      subst this
      rw [if_pos rfl]; exact .inl ⟨rfl, rfl⟩
  have old : ∀ q ∈ ks, valV kvs (kk q) ≠ some (.ref C) := fun q hq z => by
    obtain ⟨t, _, _, k1, _, k3, _⟩ := g.ls q hq
    rw [z] at k1
    cases k1
    rw [hC] at k3; cases k3
  refine ⟨fun x u e => ?_, g.s0, g.gD, upd_same, g.kd.put hp l1 l2, fun q hq => ?_, fun q1 h1 q2 h2 t e1 e2 => ?_, fun x xs e => ?_⟩
  · rw [upd_ne (ne_of_none e g.gD), upd_ne (ne_of_none e gC)]; exact g.s _ _ e
  · rcases val q hq with ⟨rfl, e⟩ | ⟨hq', e⟩
    · refine ⟨C, [], [], e, gC, by rw [upd_ne (Ne.symm CD), upd_same], .nil, Nat.le_refl _, List.Pairwise.nil, by simp⟩
    · obtain ⟨t, vs, ss, k1, k2, k3, k4⟩ := g.ls q hq'
      have tD : t ≠ D := ne_of k3 g.hD (fun z => nomatch z)
      exact ⟨t, vs, ss, e.trans k1, k2, by rw [upd_ne tD, upd_ne (ne_of_none k3 hC)]; exact k3, k4⟩
  · rcases val q1 h1 with ⟨rfl, a1⟩ | ⟨h1', a1⟩ <;> rcases val q2 h2 with ⟨rfl, a2⟩ | ⟨h2', a2⟩
    · rfl
    · rw [a1] at e1; cases e1; rw [a2] at e2; exact absurd e2 (old _ h2')
    · rw [a2] at e2; cases e2; rw [a1] at e1; exact absurd e1 (old _ h1')
    · rw [a1] at e1; rw [a2] at e2; exact g.ij _ h1' _ h2' _ e1 e2
  · have x1 : x ≠ D := fun z => by subst z; rw [upd_same] at e; cases e
    rw [upd_ne x1] at e
    have x2 : x ≠ C := fun z => by subst z; rw [upd_same] at e; cases e
    rw [upd_ne x2] at e
    exact g.tp _ _ e
theorem Gc.imp {G H0 H : Hp} {D : Addr} {kvs : List (List Key × V)} {ks : List (Nat × Nat)} {c c' : Nat} {E E' : Nat × Nat → Om.Stp → Prop} (g : Gc G H0 H D kvs ks c E) (hc : c ≤ c') (he : ∀ q s, q ∈ ks → (E q s ↔ E' q s)) : Gc G H0 H D kvs ks c' E' :=
  ⟨g.s, g.s0, g.gD, g.hD, g.kd, fun p hp => by
    obtain ⟨t, vs, ss, k1, k2, k3, k4, k5, ko, k6⟩ := g.ls p hp
    exact ⟨t, vs, ss, k1, k2, k3, k4, by omega, ko, fun s => by rw [k6]; exact he _ _ hp⟩, g.ij, g.tp⟩
theorem GrO.cong {c c' : Nat} {lt : Om.Stp → Om.Stp → Prop} {H : Hp} {v : V} {R : Om.R2n} {E E' : Nat → Nat → Om.Stp → Prop} (h : GrO c lt H v R E) (hc : c ≤ c') (he : ∀ x y s, R x y → (E x y s ↔ E' x y s)) : GrO c' lt H v R E' := by
  obtain ⟨a, o, kvs, ks, e, h1, h2, h3, h5, h4⟩ := h
  refine ⟨a, o, kvs, ks, e, h1, h2, h3, h5, fun p hp => ?_⟩
  obtain ⟨l, ss, q1, q2, q3, q5, q4⟩ := h4 p hp
  exact ⟨l, ss, q1, q2, by omega, q5, fun s => by rw [q4]; exact he _ _ _ ((h3 _ _).mp hp)⟩
end L2
end
section
set_option Elab.async false
set_option linter.all false
set_option maxRecDepth 100000
set_option maxHeartbeats 4000000
namespace K31
open PySem L2
section
variable {P : Program} {w : World} {K : PySem.W.Frag} {mg : Str → Option Value} {base : Heap}
abbrev sBack : Stmt := top 29
def spBack : Sp := fun vs H Q _ => match vs with
  | [cv] => ∃ (k n : Nat) (rows : Om.Rows), DV H cv (codeD k n rows) ∧ Om.CodeOk k n rows ∧ ∀ v H', Same H H' → GrO 4096 Om.LtB H' v (Om.AllR rows) (Om.BSt rows) → Q v H'
  | _ => False
theorem scBack : FnScope ["code", "forward", "graph", "pair", "label", "to"] ["code"] (defScope sBack) := ⟨rfl, rfl, rfl, by decide +kernel, rfl, by decide +kernel, by decide +kernel⟩
local macro_rules | `(tactic| walk_at "T.n") => `(tactic| with_reducible first | exact vn "code" 0 | exact vn "forward" 1 | exact vn "graph" 2 | exact vn "pair" 3 | exact vn "label" 4 | exact vn "to" 5)
local macro_rules | `(tactic| walk_at "T.gn") => `(tactic| with_reducible first | exact gn "forward" 1 (by with_unfolding_all assumption) | exact gn "graph" 2 (by with_unfolding_all assumption) | exact gn "pair" 3 (by with_unfolding_all assumption) | exact gn "label" 4 (by with_unfolding_all assumption) | exact gn "to" 5 (by with_unfolding_all assumption))
local macro_rules | `(tactic| walk_at "T.e") => `(tactic| first | (with_reducible exact pe_dnewT) | ((with_reducible refine' ix_atD ?a0 ?a1 ?a2); (case a0 => exact Room.units (by assumption)); (case a1 => walk_at "T.e"); (case a2 => walk_at "T.e")))
local macro_rules | `(tactic| walk_at "T.i") => `(tactic| ((with_reducible refine' pi_lstD ?a1); (case a1 => walk_at "T.e")))
local macro_rules | `(tactic| walk_at "T.g") => `(tactic| ((with_reducible refine' g_subD ?a0 ?a1 ?a2); (case a0 => exact Room.units (by assumption)); (case a1 => walk_at "T.e"); (case a2 => walk_at "T.e")))
local macro_rules | `(tactic| walk_at "T.st") => `(tactic| ((with_reducible refine' s_retF ?a1); (case a1 => walk_at "T.e")))
theorem ok_back (D : FnX K mg "backward_graph" sBack ["code"]) (c3 : Can P w K mg base "pair_graph" 2 ["code", "states"] spGraph) (c4 : Can P w K mg base "every_state" 1 ["code"] spEvery) : Can P w K mg base "backward_graph" 3 ["code"] spBack := by
  refine can_fn (k := 2) D scBack (fun vs H Q E h => ?_) (fun f cdv A outer s H vs Q E hr h => ?_)
  all_goals
    unfold spBack at h
    split at h
  · rfl
  · exact h.elim
  · rename_i cv
    obtain ⟨k, n, rows, hc, ok, q⟩ := h
    have nd := scBack.nd
    refine ⟨_, (by walk_at "T.top"), ?_⟩
    refine ⟨k, n, rows, hc, ok.s8, fun l H1 s1 _ h1 => ?_⟩
    refine ⟨k, n, rows, hc.mono s1, ok, h1, fun gv H2 s2 g2 => ?_⟩
    obtain ⟨fa, fo, fkvs, fks, rfl, hfa, fkd, fmem, fod, fst⟩ := g2
    intro D hD
    have M0 := Gc.start hD
    refine .inr (.inl ⟨fo, fkvs, M0.all _ _ hfa, fun bs hbs => ?_⟩)
    have hbl := fkd.blen hbs
    have kb2 : KeysAt H2 fkvs bs := Paired.mapP hbs fun x b e => by
      have : b ≠ D := fun z => by subst z; rw [upd_same] at e; cases e
      rw [upd_ne this] at e; exact e
    refine for_by (it_keys fa fo (bs.map V.ref)) (fun i σ H3 => ∃ (v3 : Option V) (G : Hp) (kvs : List (List Key × V)), σ = [some cv, some (.ref fa), some (.ref D), v3, none, none] ∧ Gc G H2 H3 D kvs (fks.take i) 0 (fun _ _ => False))
      ⟨none, _, [], rfl, by rw [List.take_zero]; exact M0⟩ (fun i σ H2 _ ⟨_, _, _, _, M⟩ => ⟨_, M.all _ _ hfa⟩) ?_ ?_
    · rintro i z σ H3 hi hz ⟨v3, G, kvs, rfl, M⟩
      have hi' : i < fks.length := by rw [← hbl]; exact hi
      obtain ⟨b, rfl, hb⟩ := fkd.key kb2 hi' hz
      have ti : fks.take (i + 1) = fks.take i ++ [fks[i]] := by rw [List.take_add_one, List.getElem?_eq_getElem hi']; rfl
      have nin : fks[i] ∉ fks.take i := fun z => by
        have nd2 := fkd.nd
        rw [← List.take_append_drop (i + 1) fks, ti] at nd2
        have nd3 := (List.nodup_append.mp nd2).1
        exact (List.nodup_append.mp nd3).2.2 _ z _ (List.mem_singleton.mpr rfl) rfl
      have b8 := fkd.lt _ (List.getElem_mem hi')
      refine ⟨Nat.zero_le _, fun C hC => ?_⟩
      have hb3 := Same.upd (o := .lst []) hC _ _ (M.all _ _ hb)
      have hD3 : (upd H3 C (.lst [])) D = some (.dT kvs) := Same.upd hC _ _ M.hD
      refine .inr ⟨_, _, rfl, .inr ⟨kvs, kk fks[i], b, hD3, rfl, hb3, M.kd.lt_line, rfl⟩, ?_⟩
      refine ⟨_, G, putK kvs (kk fks[i]) (.ref C), rfl, ?_⟩
      rw [ti]
      exact M.key hC nin b8.1 b8.2
    · rintro σ H3 ⟨v3, G, kvs, rfl, M⟩
      rw [hbl, List.take_length] at M
      refine .inr (.inl ⟨fo, fkvs, M.all _ _ hfa, fun bs2 hbs2 => ?_⟩)
      have hbl2 := fkd.blen hbs2
      have M' : Gc G H2 H3 D kvs fks (0 * 64) (fun q s => ∃ j, j < 0 ∧ fks[j]? = some s.2 ∧ Om.BSt rows q.1 q.2 s) := M.imp (Nat.le_refl _) fun q s _ => ⟨False.elim, fun ⟨j, h, _⟩ => absurd h (Nat.not_lt_zero _)⟩
      have fl : fks.length ≤ 64 := fkd.le
      refine for_by (it_keys fa fo (bs2.map V.ref)) (fun i σ H4 => ∃ (v3 v4 v5 : Option V) (G : Hp), σ = [some cv, some (.ref fa), some (.ref D), v3, v4, v5] ∧ Gc G H2 H4 D kvs fks (i * 64) (fun q s => ∃ j, j < i ∧ fks[j]? = some s.2 ∧ Om.BSt rows q.1 q.2 s) ∧ KeysAt H4 fkvs bs2)
        ⟨v3, none, none, G, rfl, M', hbs2⟩ (fun i σ H2 _ ⟨_, _, _, _, _, M, _⟩ => ⟨_, M.all _ _ hfa⟩) ?_ ?_
      · rintro i z σ H4 hi hz ⟨v3, v4, v5, G4, rfl, M4, kb4⟩
        have hi' : i < fks.length := by rw [← hbl2]; exact hi
        obtain ⟨b, rfl, hb⟩ := fkd.key kb4 hi' hz
        have ep : fks[i]? = some fks[i] := List.getElem?_eq_getElem hi'
        obtain ⟨l, ss, g1, g2, g3, g5, g4⟩ := fst fks[i] (List.getElem_mem hi')
        obtain ⟨l', xs, e, hl, hxs⟩ := g2.lst_inv
        cases e
        have xl : xs.length = ss.length := by rw [hxs.length, List.length_map]
        refine .inr ⟨_, _, rfl, .inr ⟨fkvs, kk fks[i], b, .inr ⟨fo, M4.all _ _ hfa⟩, rfl, hb, g1.symm⟩, ?_⟩
        refine .inl ⟨⟨_, SqL.of (M4.all _ _ hl)⟩, ?_⟩
        refine for_by (it_list _ l xs) (fun g σ H5 => ∃ (v4 v5 : Option V) (G : Hp), σ = [some cv, some (.ref fa), some (.ref D), some (.ref b), v4, v5] ∧ Gc G H2 H5 D kvs fks (i * 64 + g) (fun q s => (∃ j, j < i ∧ fks[j]? = some s.2 ∧ Om.BSt rows q.1 q.2 s) ∨ (s.2 = fks[i] ∧ ∃ g', g' < g ∧ ss[g']? = some (s.1, q))) ∧ KeysAt H5 fkvs bs2 ∧ H5 b = some (.tup ((kk fks[i]).map kV)))
          ⟨v4, v5, G4, rfl, M4.imp (by omega) (fun q s _ => ⟨.inl, fun h => h.elim id fun ⟨_, g', h, _⟩ => absurd h (Nat.not_lt_zero _)⟩), kb4, hb⟩ (fun i σ H2 _ ⟨_, _, _, _, M, _⟩ => SqL.of (M.all _ _ hl)) ?_ ?_
        · rintro g z σ H5 hg hz ⟨v4, v5, G5, rfl, M5, kb5, hb5⟩
          have hg' : g < ss.length := by omega
          have es : ss[g]? = some ss[g] := List.getElem?_eq_getElem hg'
          obtain ⟨z', hz', dz⟩ := hxs.get (i := g) (d := sD ss[g]) (by rw [List.getElem?_map, es]; rfl)
          rw [hz] at hz'
          cases hz'
          obtain ⟨p, la, ta, rfl, h1, h2, h3⟩ := sD_inv dz
          refine ⟨_, .inl (M5.all _ _ h1), rfl, rfl, ?_⟩
          have sE : Om.St rows fks[i].1 fks[i].2 ss[g] := (g4 _).mp (List.getElem_mem hg')
          have toA : Om.AllR rows ss[g].2.1 ss[g].2.2 := by
            obtain ⟨k1, k2, k3, k4⟩ := sE
            rw [k4]
            exact ⟨(ok.stp k1).2.2, (ok.stp k2).2.2⟩
          have toK : ss[g].2 ∈ fks := (fmem _ _).mpr toA
          obtain ⟨t, vs, sl, w1, w2, w3, w4, w5, _, w6⟩ := M5.ls _ toK
          have vl : vs.length = sl.length := by rw [w4.length, List.length_map]
          refine .inr ⟨_, _, rfl, .inr ⟨kvs, kk ss[g].2, ta, .inl M5.hD, rfl, M5.all _ _ h3, w1.symm⟩, ?_⟩
          refine ⟨⟨_, rfl, w3⟩, ?_⟩
          refine ⟨le_line (Nat.le_of_ble_eq_true rfl), fun z hz => ?_⟩
          have M6 := M5.put (o := .tup [.ref la, .ref b]) hz
          have U6 := M5.up (o := .tup [.ref la, .ref b]) hz
          have w3' := Same.upd (o := .tup [.ref la, .ref b]) hz _ _ w3
          have big : i * 64 ≤ 63 * 64 := Nat.mul_le_mul_right _ (by omega)
          refine ⟨_, w3', by rw [sizeLine_eq]; omega, ?_⟩
          have dz6 : DV (upd G5 z (.tup [.ref la, .ref b])) (.ref z) (sD (ss[g].1, fks[i])) := .tup upd_same (.cons (pair_DV (x := ss[g].1) (U6 _ _ (M5.s0 _ _ h2))) (.cons (pair_DV (x := fks[i]) (U6 _ _ (M5.tp _ _ hb5))) .nil))
          have M7 := M6.app toK w1 w3' dz6 (by
            rintro s (⟨j, j1, j2, _⟩ | ⟨k1, g', k2, k3⟩)
            · obtain ⟨j3, j4⟩ := List.getElem?_eq_some_iff.mp j2
              have := List.pairwise_iff_getElem.mp fod j i j3 hi' j1
              rw [j4] at this
              exact .inl this
            · obtain ⟨j3, j4⟩ := List.getElem?_eq_some_iff.mp k3
              have := List.pairwise_iff_getElem.mp g5 g' g j3 hg' k2
              rw [j4] at this
              exact .inr ⟨k1, this⟩)
          have tt : ∀ {x : Addr} {ys : List V}, H5 x = some (.tup ys) → upd (upd H5 z (.tup [.ref la, .ref b])) t (.lst (vs ++ [.ref z])) x = some (.tup ys) := fun {x ys} e => by
            rw [upd_ne (ne_of e w3 (fun z => nomatch z))]; exact Same.upd hz _ _ e
          refine ⟨_, _, _, rfl, M7.imp (Nat.le_refl _) (fun q s _ => ?_), Paired.mapP kb5 fun x b' e => tt e, tt hb5⟩
          constructor
          · rintro ((h | ⟨h1', g', k1, k2⟩) | ⟨rfl, rfl⟩)
            · exact .inl h
            · exact .inr ⟨h1', g', by omega, k2⟩
            · exact .inr ⟨rfl, g, by omega, es⟩
          · rintro (h | ⟨h1', g', k1, k2⟩)
            · exact .inl (.inl h)
            · by_cases e : g' = g
              · subst e
                rw [es] at k2
                have k3 := Option.some.inj k2
                refine .inr ⟨?_, ?_⟩
                · rw [k3]
                · obtain ⟨s1', s2'⟩ := s
                  dsimp only at h1' k3 ⊢
                  rw [k3, h1']
              · exact .inl (.inr ⟨h1', g', by omega, k2⟩)
        · rintro σ H5 ⟨v4, v5, G5, rfl, M5, kb5, hb5⟩
          refine ⟨_, _, _, G5, rfl, M5.imp (by omega) (fun q s hq => ?_), kb5⟩
          constructor
          · rintro (⟨j, k1, k2, k3⟩ | ⟨h1, g', k1, k2⟩)
            · exact ⟨j, by omega, k2, k3⟩
            · refine ⟨i, by omega, by rw [ep, h1], ?_⟩
              have := (g4 _).mp (List.mem_of_getElem? k2)
              unfold Om.BSt
              rw [h1]
              exact this
          · rintro ⟨j, k1, k2, k3⟩
            by_cases e : j = i
            · subst e
              rw [ep] at k2
              have k4 := Option.some.inj k2
              unfold Om.BSt at k3
              rw [← k4] at k3
              obtain ⟨g', e1, e2⟩ := List.mem_iff_getElem.mp ((g4 _).mpr k3)
              exact .inr ⟨k4.symm, g', by omega, by rw [List.getElem?_eq_getElem e1, e2]⟩
            · exact .inl ⟨j, by omega, k2, k3⟩
      · rintro σ H4 ⟨v3, v4, v5, G4, rfl, M4, kb4⟩
        rw [hbl2] at M4
        refine .inl ⟨_, M4.hD, trivial, fun o => ?_⟩
        obtain ⟨sh, gh⟩ := M4.held (ob := o)
        refine q _ _ ((s1.trans s2).trans sh) ((gh _ fod fmem).cong (by have := Nat.mul_le_mul_right 64 fl; omega) fun x y s hxy => ?_)
        constructor
        · rintro ⟨j, _, _, h⟩; exact h
        · intro h
          have hA : Om.AllR rows s.2.1 s.2.2 := by
            obtain ⟨k1, k2, _⟩ := h
            exact ⟨(ok.stp k1).1, (ok.stp k2).1⟩
          obtain ⟨j, e1, e2⟩ := List.mem_iff_getElem.mp ((fmem _ _).mpr hA)
          exact ⟨j, e1, by rw [List.getElem?_eq_getElem e1, e2], h⟩
  · exact h.elim
end

end K31
end
section
set_option Elab.async false
set_option linter.all false
set_option maxRecDepth 100000
set_option maxHeartbeats 4000000
namespace Om
abbrev Ent := (Nat × Nat) × ((Nat × Nat) × (Nat × Nat))
def putE (q : Nat × Nat) (acc : List Ent) (s : Stp) : List Ent := if s.2 ∈ acc.map (·.1) then acc else acc ++ [(s.2, (q, s.1))]
def nodeE (g : Nat × Nat → List Stp) (acc : List Ent) (q : Nat × Nat) : List Ent := (g q).foldl (putE q) acc
def behE (g : Nat × Nat → List Stp) (ks : List (Nat × Nat)) : List Ent := ks.foldl (nodeE g) []
theorem fold_take {α β : Type} (f : β → α → β) (b : β) {l : List α} {i : Nat} (h : i < l.length) : (l.take (i + 1)).foldl f b = f ((l.take i).foldl f b) l[i] := by
  rw [List.take_add_one, List.getElem?_eq_getElem h, List.foldl_append]; rfl
theorem putE_old {q : Nat × Nat} {acc : List Ent} {s : Stp} (h : s.2 ∈ acc.map (·.1)) : putE q acc s = acc := if_pos h
theorem putE_new {q : Nat × Nat} {acc : List Ent} {s : Stp} (h : s.2 ∉ acc.map (·.1)) : putE q acc s = acc ++ [(s.2, (q, s.1))] := if_neg h
theorem mem_putE {q : Nat × Nat} {acc : List Ent} {s : Stp} {e : Ent} (h : e ∈ putE q acc s) : e ∈ acc ∨ e = (s.2, (q, s.1)) := by
  by_cases c : s.2 ∈ acc.map (·.1)
  · rw [putE_old c] at h; exact .inl h
  · rw [putE_new c, List.mem_append, List.mem_singleton] at h; exact h
theorem mem_foldE {q : Nat × Nat} : ∀ {l : List Stp} {acc : List Ent} {e : Ent}, e ∈ l.foldl (putE q) acc → e ∈ acc ∨ ∃ s ∈ l, e = (s.2, (q, s.1))
  | [], _, _, h => .inl h
  | s :: l, acc, e, h => by
    rcases mem_foldE (l := l) h with h | ⟨s', h1, h2⟩
    · rcases mem_putE h with h | h
      · exact .inl h
      · exact .inr ⟨s, List.mem_cons_self, h⟩
    · exact .inr ⟨s', List.mem_cons_of_mem _ h1, h2⟩
theorem mem_beh {g : Nat × Nat → List Stp} : ∀ {ks : List (Nat × Nat)} {acc : List Ent} {e : Ent}, e ∈ ks.foldl (nodeE g) acc → e ∈ acc ∨ ∃ q ∈ ks, ∃ s ∈ g q, e = (s.2, (q, s.1))
  | [], _, _, h => .inl h
  | q :: ks, acc, e, h => by
    rcases mem_beh (ks := ks) h with h | ⟨q', h1, h2⟩
    · rcases mem_foldE h with h | ⟨s, h1, h2⟩
      · exact .inl h
      · exact .inr ⟨q, List.mem_cons_self, s, h1, h2⟩
    · exact .inr ⟨q', List.mem_cons_of_mem _ h1, h2⟩
theorem key_putE {q : Nat × Nat} {acc : List Ent} {s : Stp} {p : Nat × Nat} : p ∈ (putE q acc s).map (·.1) ↔ p ∈ acc.map (·.1) ∨ p = s.2 := by
  by_cases c : s.2 ∈ acc.map (·.1)
  · rw [putE_old c]
    exact ⟨.inl, fun h => h.elim id fun e => e ▸ c⟩
  · rw [putE_new c, List.map_append, List.mem_append]; simp
theorem key_foldE {q p : Nat × Nat} : ∀ {l : List Stp} {acc : List Ent}, p ∈ (l.foldl (putE q) acc).map (·.1) ↔ p ∈ acc.map (·.1) ∨ ∃ s ∈ l, s.2 = p
  | [], acc => by simp
  | s :: l, acc => by
    rw [List.foldl_cons, key_foldE, key_putE]
    constructor
    · rintro ((h | h) | ⟨s', h1, h2⟩)
      · exact .inl h
      · exact .inr ⟨s, List.mem_cons_self, h.symm⟩
      · exact .inr ⟨s', List.mem_cons_of_mem _ h1, h2⟩
    · rintro (h | ⟨s', h1, h2⟩)
      · exact .inl (.inl h)
      · rcases List.mem_cons.mp h1 with rfl | h1
        · exact .inl (.inr h2.symm)
        · exact .inr ⟨s', h1, h2⟩
theorem key_beh {g : Nat × Nat → List Stp} {p : Nat × Nat} : ∀ {ks : List (Nat × Nat)} {acc : List Ent}, p ∈ (ks.foldl (nodeE g) acc).map (·.1) ↔ p ∈ acc.map (·.1) ∨ ∃ q ∈ ks, ∃ s ∈ g q, s.2 = p
  | [], acc => by simp
  | q :: ks, acc => by
    rw [List.foldl_cons, key_beh]
    unfold nodeE
    rw [key_foldE]
    constructor
    · rintro ((h | ⟨s, h1, h2⟩) | ⟨q', h1, h2⟩)
      · exact .inl h
      · exact .inr ⟨q, List.mem_cons_self, s, h1, h2⟩
      · exact .inr ⟨q', List.mem_cons_of_mem _ h1, h2⟩
    · rintro (h | ⟨q', h1, h2⟩)
      · exact .inl (.inl h)
      · rcases List.mem_cons.mp h1 with rfl | h1
        · exact .inl (.inr h2)
        · exact .inr ⟨q', h1, h2⟩
end Om
namespace L2
open PySem PySem.Spec PyProof.Rows
def EntAt (H : Hp) (kvs : List (List Key × V)) (e : Om.Ent) : Prop := ∃ t pa la, valV kvs (kk e.1) = some (.ref t) ∧ H t = some (.tup [.ref pa, .ref la]) ∧ H pa = some (.tup ((kk e.2.1).map kV)) ∧ H la = some (.tup [.int (e.2.2.1 : Nat), .int (e.2.2.2 : Nat)])
def LyK (H : Hp) (v : V) (ks : List (Nat × Nat)) : Prop := ∃ a o kvs, v = .ref a ∧ H a = some (.frz o (.dT kvs)) ∧ KD ks kvs
def LyX (H : Hp) (v : V) (acc : List Om.Ent) : Prop := ∃ a o kvs, v = .ref a ∧ H a = some (.frz o (.dT kvs)) ∧ KD (acc.map (·.1)) kvs ∧ ∀ e ∈ acc, EntAt H kvs e
def GrX (c : Nat) (H : Hp) (v : V) (gks : List (Nat × Nat)) (g : Nat × Nat → List Om.Stp) : Prop := ∃ a o kvs, v = .ref a ∧ H a = some (.frz o (.dT kvs)) ∧ KD gks kvs ∧ ∀ p ∈ gks, ∃ l, valV kvs (kk p) = some (.ref l) ∧ StL H l (g p) ∧ (g p).length ≤ c
section
variable {H H' : Hp} {v : V} {c : Nat}
theorem EntAt.mono {kvs : List (List Key × V)} {e : Om.Ent} (h : EntAt H kvs e) (s : Same H H') : EntAt H' kvs e := by
  obtain ⟨t, pa, la, h1, h2, h3, h4⟩ := h
  exact ⟨t, pa, la, h1, s _ _ h2, s _ _ h3, s _ _ h4⟩
theorem LyK.mono {ks : List (Nat × Nat)} (h : LyK H v ks) (s : Same H H') : LyK H' v ks := by
  obtain ⟨a, o, kvs, e, h1, h2⟩ := h
  exact ⟨a, o, kvs, e, s _ _ h1, h2⟩
theorem LyX.mono {acc : List Om.Ent} (h : LyX H v acc) (s : Same H H') : LyX H' v acc := by
  obtain ⟨a, o, kvs, e, h1, h2, h3⟩ := h
  exact ⟨a, o, kvs, e, s _ _ h1, h2, fun e he => (h3 e he).mono s⟩
theorem LyX.k {acc : List Om.Ent} (h : LyX H v acc) : LyK H v (acc.map (·.1)) := by
  obtain ⟨a, o, kvs, e, h1, h2, h3⟩ := h
  exact ⟨a, o, kvs, e, h1, h2⟩
theorem GrX.mono {gks : List (Nat × Nat)} {g : Nat × Nat → List Om.Stp} (h : GrX c H v gks g) (s : Same H H') : GrX c H' v gks g := by
  obtain ⟨a, o, kvs, e, h1, h2, h3⟩ := h
  refine ⟨a, o, kvs, e, s _ _ h1, h2, fun p hp => ?_⟩
  obtain ⟨l, q1, q2, q3⟩ := h3 p hp
  exact ⟨l, q1, q2.mono s, q3⟩
theorem GrX.k {gks : List (Nat × Nat)} {g : Nat × Nat → List Om.Stp} (h : GrX c H v gks g) : LyK H v gks := by
  obtain ⟨a, o, kvs, e, h1, h2, h3⟩ := h
  exact ⟨a, o, kvs, e, h1, h2⟩
theorem GrO.x {rows : Om.Rows} (h : GrO c Om.LtB H v (Om.AllR rows) (Om.BSt rows)) : GrX c H v (Om.keysL rows) (Om.backL rows) ∧ (∀ p, p ∈ Om.keysL rows ↔ Om.AllR rows p.1 p.2) ∧ ∀ p ∈ Om.keysL rows, ∀ s, s ∈ Om.backL rows p ↔ Om.BSt rows p.1 p.2 s := by
  obtain ⟨a, o, kvs, ks, e, h1, h2, h3, h5, h4⟩ := h
  have ek : Om.keysL rows = ks := Om.canon_eq (fun _ _ => Om.LtL.as) h5 fun p => h3 p.1 p.2
  rw [ek]
  refine ⟨⟨a, o, kvs, e, h1, h2, fun p hp => ?_⟩, fun p => h3 p.1 p.2, fun p hp => ?_⟩
  · obtain ⟨l, ss, q1, q2, q3, q5, q4⟩ := h4 p hp
    have eb : Om.backL rows p = ss := Om.canon_eq (fun _ _ => Om.LtB.as) q5 q4
    rw [eb]
    exact ⟨l, q1, q2, q3⟩
  · obtain ⟨l, ss, q1, q2, q3, q5, q4⟩ := h4 p hp
    have eb : Om.backL rows p = ss := Om.canon_eq (fun _ _ => Om.LtB.as) q5 q4
    rw [eb]
    exact q4
end
end L2
end
section
set_option Elab.async false
set_option linter.all false
set_option maxRecDepth 100000
set_option maxHeartbeats 4000000
namespace K31
open PySem L2
section
variable {P : Program} {w : World} {K : PySem.W.Frag} {mg : Str → Option Value} {base : Heap}
abbrev sLayer : Stmt := top 13
def spLayer : Sp := fun vs H Q _ => match vs with
  | [lv, gv] => ∃ (c : Nat) (lks gks : List (Nat × Nat)) (g : Nat × Nat → List Om.Stp), LyK H lv lks ∧ GrX c H gv gks g ∧ (∀ p ∈ lks, p ∈ gks) ∧ (∀ p ∈ gks, ∀ s ∈ g p, s.2 ∈ gks) ∧ ∀ v H', Same H H' → LyX H' v (Om.behE g lks) → Q v H'
  | _ => False
theorem scLayer : FnScope ["layer", "graph", "behind", "node", "label", "to"] ["layer", "graph"] (defScope sLayer) := ⟨rfl, rfl, rfl, by decide +kernel, rfl, by decide +kernel, by decide +kernel⟩
local macro_rules | `(tactic| walk_at "T.n") => `(tactic| with_reducible first | exact vn "layer" 0 | exact vn "graph" 1 | exact vn "behind" 2 | exact vn "node" 3 | exact vn "label" 4 | exact vn "to" 5)
local macro_rules | `(tactic| walk_at "T.gn") => `(tactic| with_reducible first | exact gn "behind" 2 (by with_unfolding_all assumption) | exact gn "node" 3 (by with_unfolding_all assumption) | exact gn "label" 4 (by with_unfolding_all assumption) | exact gn "to" 5 (by with_unfolding_all assumption))
local macro_rules | `(tactic| walk_at "T.e") => `(tactic| first | (with_reducible exact pe_dnewT) | ((with_reducible refine' ix_atD ?a0 ?a1 ?a2); (case a0 => exact Room.units (by assumption)); (case a1 => walk_at "T.e"); (case a2 => walk_at "T.e")))
local macro_rules | `(tactic| walk_at "T.i") => `(tactic| ((with_reducible refine' pi_lstD ?a1); (case a1 => walk_at "T.e")))
local macro_rules | `(tactic| walk_at "T.cmp") => `(tactic| ((with_reducible refine' op_notInDict ?a1); (case a1 => exact Room.units (by assumption))))
local macro_rules | `(tactic| walk_at "T.g") => `(tactic| ((with_reducible refine' g_subD ?a0 ?a1 ?a2); (case a0 => exact Room.units (by assumption)); (case a1 => walk_at "T.e"); (case a2 => walk_at "T.e")))
local macro_rules | `(tactic| walk_at "T.st") => `(tactic| ((with_reducible refine' s_retF ?a1); (case a1 => walk_at "T.e")))
theorem ok_layer (D : FnX K mg "layer_behind" sLayer ["layer", "graph"]) : Can P w K mg base "layer_behind" 1 ["layer", "graph"] spLayer := by
  refine can_fn (k := 0) D scLayer (fun vs H Q E h => ?_) (fun f cdv A outer s H vs Q E hr h => ?_)
  all_goals
    unfold spLayer at h
    split at h
  · rfl
  · exact h.elim
  · rename_i lv gv
    obtain ⟨cN, lks, gks, g, hly, hgr, hsub, hcl, q⟩ := h
    have nd := scLayer.nd
    obtain ⟨la, lo, lkvs, rfl, hla, lkd⟩ := hly
    obtain ⟨ga, go, gkvs, rfl, hga, gkd, gst⟩ := hgr
    refine ⟨_, (by walk_at "T.top"), ?_⟩
    intro D hD
    have M0 := Gd.start hD
    refine .inr (.inl ⟨lo, lkvs, M0.all _ _ hla, fun bs hbs => ?_⟩)
    have hbl := lkd.blen hbs
    have hbsH : KeysAt H lkvs bs := Paired.mapP hbs fun x b e => by
      have : b ≠ D := fun z => by subst z; rw [upd_same] at e; cases e
      rw [upd_ne this] at e; exact e
    have le : lks.length ≤ 64 := lkd.le
    refine for_by (it_keys la lo (bs.map V.ref)) (fun i σ H2 => ∃ (v3 v4 v5 : Option V) (G : Hp) (kvs : List (List Key × V)) (acc : List Om.Ent), σ = [some (.ref la), some (.ref ga), some (.ref D), v3, v4, v5] ∧ Gd G H H2 D kvs ∧ KeysAt H2 lkvs bs ∧ KD (acc.map (·.1)) kvs ∧ (∀ e ∈ acc, EntAt G kvs e) ∧ acc = (lks.take i).foldl (Om.nodeE g) [])
      ⟨none, none, none, _, [], [], rfl, M0, hbs, KD.nil, (fun p hp => nomatch hp), rfl⟩ (fun i σ H2 _ ⟨_, _, _, _, _, _, _, M, _⟩ => ⟨_, M.all _ _ hla⟩) ?_ ?_
    · rintro i z σ H2 hi hz ⟨v3, v4, v5, G, kvs, acc0, rfl, M, hb2, kd, hst, hm0⟩
      have hi' : i < lks.length := by rw [← hbl]; exact hi
      obtain ⟨b, rfl, hb⟩ := lkd.key hb2 hi' hz
      have hbH : H b = some (.tup ((kk lks[i]).map kV)) := by
        obtain ⟨b', e, h⟩ := lkd.key hbsH hi' hz
        cases e; exact h
      have pg : lks[i] ∈ gks := hsub _ (List.getElem_mem hi')
      obtain ⟨l, g1, g2, g3⟩ := gst lks[i] pg
      obtain ⟨l', xs, e, hl, hxs⟩ := g2.lst_inv
      cases e
      have hgb : DGet H2 ga (.ref b) (some (.ref l)) := .inr ⟨gkvs, kk lks[i], b, .inr ⟨go, M.all _ _ hga⟩, rfl, hb, g1.symm⟩
      refine .inr ⟨_, _, rfl, hgb, ?_⟩
      refine .inl ⟨⟨_, SqL.of (M.all _ _ hl)⟩, ?_⟩
      have xl : xs.length = (g lks[i]).length := by rw [hxs.length, List.length_map]
      refine for_by (it_list _ l xs) (fun j σ H3 => ∃ (v4 v5 : Option V) (G : Hp) (kvs : List (List Key × V)) (acc : List Om.Ent), σ = [some (.ref la), some (.ref ga), some (.ref D), some (.ref b), v4, v5] ∧ Gd G H H3 D kvs ∧ KeysAt H3 lkvs bs ∧ KD (acc.map (·.1)) kvs ∧ (∀ e ∈ acc, EntAt G kvs e) ∧ H3 b = some (.tup ((kk lks[i]).map kV)) ∧ acc = ((g lks[i]).take j).foldl (Om.putE lks[i]) acc0)
        ⟨v4, v5, G, kvs, acc0, rfl, M, hb2, kd, hst, hb, rfl⟩ (fun i σ H2 _ ⟨_, _, _, _, _, _, M, _⟩ => SqL.of (M.all _ _ hl)) ?_ ?_
      · rintro j z σ H3 hj hz ⟨v4, v5, G, kvs, acc, rfl, M, hb2, kd, hst, hb, hm⟩
        have hj' : j < (g lks[i]).length := by rw [← xl]; exact hj
        have es : (g lks[i])[j]? = some (g lks[i])[j] := List.getElem?_eq_getElem hj'
        have hstep := Om.fold_take (Om.putE lks[i]) acc0 hj'
        rw [← hm] at hstep
        have sE : (g lks[i])[j] ∈ g lks[i] := List.getElem_mem hj'
        generalize (g lks[i])[j] = sj at *
        obtain ⟨z', hz', dz⟩ := hxs.get (i := j) (d := sD sj) (by rw [List.getElem?_map, es]; rfl)
        rw [hz] at hz'
        cases hz'
        obtain ⟨p, a, c, rfl, h1, h2, h3⟩ := sD_inv dz
        refine ⟨_, .inl (M.all _ _ h1), rfl, rfl, ?_⟩
        have hc3 : H3 c = some (.tup ((kk sj.2).map kV)) := M.all _ _ h3
        refine ⟨_, _, rfl, .inr ⟨kvs, kk sj.2, c, .inl M.hD, rfl, hc3, rfl⟩, ?_⟩
        refine ite2 (fun c1 => ?_) (fun c1 => ?_)
        · have nin : sj.2 ∉ acc.map (·.1) := fun z => by
            have := kd.mem.mpr z
            rw [this] at c1; cases c1
          rw [Om.putE_new nin] at hstep
          refine ⟨le_line (Nat.le_of_ble_eq_true rfl), fun t ht => ?_⟩
          have M1 := M.put (o := .tup [.ref b, .ref a]) ht
          have tD : D ≠ t := ne_of_none M.hD ht
          have b8 := gkd.lt _ (hcl _ pg _ sE)
          refine .inr ⟨_, _, rfl, .inr ⟨kvs, kk sj.2, c, M1.hD, rfl, Same.upd ht _ _ hc3, kd.lt_line, rfl⟩, ?_⟩
          have sm : Same H3 (upd H3 t (.tup [.ref b, .ref a])) := Same.upd ht
          refine ⟨_, _, _, _, acc ++ [(sj.2, (lks[i], sj.1))], rfl, M1.set, ?_, ?_, ?_, ?_, hstep.symm⟩
          · refine Paired.mapP hb2 fun p b' h => ?_
            have : b' ≠ D := ne_of h M.hD (fun z => nomatch z)
            rw [upd_ne this]; exact sm _ _ h
          · rw [List.map_append]
            exact kd.put (v := .ref t) nin b8.1 b8.2
          · intro e he
            have U1 := M.up (o := .tup [.ref b, .ref a]) ht
            rcases List.mem_append.mp he with he | he
            · obtain ⟨t', pa, la', k1, k2, k3, k4⟩ := hst e he
              have ne : e.1 ≠ sj.2 := fun z => nin (z ▸ List.mem_map_of_mem he)
              exact ⟨t', pa, la', by rw [valV_put_ne ne]; exact k1, U1 _ _ k2, U1 _ _ k3, U1 _ _ k4⟩
            · have : e = (sj.2, (lks[i], sj.1)) := by simpa using he
              subst this
              exact ⟨t, b, a, valV_put_eq, upd_same, U1 _ _ (M.s0 _ _ hbH), U1 _ _ (M.s0 _ _ h2)⟩
          · have : b ≠ D := ne_of hb M.hD (fun z => nomatch z)
            rw [upd_ne this]; exact sm _ _ hb
        · have isin : sj.2 ∈ acc.map (·.1) := kd.mem.mp (by
            cases hq : (valV kvs (kk sj.2)).isSome with
            | true => rfl
            | false => rw [hq] at c1; exact absurd rfl c1)
          rw [Om.putE_old isin] at hstep
          exact ⟨_, _, G, kvs, acc, rfl, M, hb2, kd, hst, hb, hstep.symm⟩
      · rintro σ H3 ⟨v4, v5, G, kvs, acc, rfl, M, hb2, kd, hst, hb, hm⟩
        refine ⟨_, _, _, G, kvs, acc, rfl, M, hb2, kd, hst, ?_⟩
        rw [xl, List.take_length] at hm
        rw [Om.fold_take _ _ hi', ← hm0]
        exact hm
    · rintro σ H2 ⟨v3, v4, v5, G, kvs, acc, rfl, M, hb2, kd, hst, hm⟩
      rw [hbl, List.take_length] at hm
      refine .inl ⟨_, M.hD, trivial, fun o => ?_⟩
      refine q _ _ (M.s0.trans M.frz) ?_
      show LyX _ _ (lks.foldl (Om.nodeE g) [])
      rw [← hm]
      exact ⟨D, o, kvs, rfl, upd_same, kd, fun e he => (hst e he).mono M.frz⟩
  · exact h.elim
end

end K31
end
section
set_option Elab.async false
set_option linter.all false
set_option maxRecDepth 100000
set_option maxHeartbeats 4000000
namespace Om
def lay (g : Nat × Nat → List Stp) (ks : List (Nat × Nat)) : Nat → List Ent
  | 0 => ks.map fun p => (p, ((0, 0), (0, 0)))
  | i + 1 => behE g ((lay g ks i).map (·.1))
def layK (g : Nat × Nat → List Stp) (ks : List (Nat × Nat)) (i : Nat) : List (Nat × Nat) := (lay g ks i).map (·.1)
theorem layK_zero (g : Nat × Nat → List Stp) (ks : List (Nat × Nat)) : layK g ks 0 = ks := by
  show (ks.map fun p => (p, ((0, 0), (0, 0)))).map (·.1) = ks
  rw [List.map_map]
  exact List.map_id _
theorem layK_succ {g : Nat × Nat → List Stp} {ks : List (Nat × Nat)} {i : Nat} {p : Nat × Nat} : p ∈ layK g ks (i + 1) ↔ ∃ q ∈ layK g ks i, ∃ s ∈ g q, s.2 = p := by
  show p ∈ (behE g (layK g ks i)).map (·.1) ↔ _
  unfold behE
  rw [key_beh]
  simp
theorem layK_in {g : Nat × Nat → List Stp} {ks gks : List (Nat × Nat)} (h : ∀ p ∈ ks, p ∈ gks) (c : ∀ p ∈ gks, ∀ s ∈ g p, s.2 ∈ gks) : ∀ i, ∀ p ∈ layK g ks i, p ∈ gks
  | 0, p, hp => by rw [layK_zero] at hp; exact h p hp
  | i + 1, p, hp => by
    obtain ⟨q, h1, s, h2, rfl⟩ := layK_succ.mp hp
    exact c q (layK_in h c i q h1) s h2
theorem layK_iter {g : Nat × Nat → List Stp} {ks gks : List (Nat × Nat)} {R : R2n} {E : Nat → Nat → Stp → Prop} (h : ∀ p ∈ ks, p ∈ gks) (c : ∀ p ∈ gks, ∀ s ∈ g p, s.2 ∈ gks) (hR : ∀ p, p ∈ ks ↔ R p.1 p.2) (hE : ∀ p ∈ gks, ∀ s, s ∈ g p ↔ E p.1 p.2 s) : ∀ i p, p ∈ layK g ks i ↔ iterR E R i p.1 p.2
  | 0, p => by rw [layK_zero, hR]; exact Iff.rfl
  | i + 1, p => by
    rw [layK_succ]
    constructor
    · rintro ⟨q, h1, s, h2, rfl⟩
      exact ⟨q.1, q.2, s, (layK_iter h c hR hE i q).mp h1, (hE q (layK_in h c i q h1) s).mp h2, rfl⟩
    · rintro ⟨x, y, s, h1, h2, h3⟩
      have h1' := (layK_iter h c hR hE i (x, y)).mpr h1
      exact ⟨(x, y), h1', s, (hE (x, y) (layK_in h c i _ h1') s).mpr h2, h3⟩
theorem lay_step {g : Nat × Nat → List Stp} {ks : List (Nat × Nat)} {i : Nat} {e : Ent} (h : e ∈ lay g ks (i + 1)) : e.2.1 ∈ layK g ks i ∧ (e.2.2, e.1) ∈ g e.2.1 := by
  rcases mem_beh (show e ∈ ((lay g ks i).map (·.1)).foldl (nodeE g) [] from h) with h | ⟨q, h1, s, h2, rfl⟩
  · cases h
  · exact ⟨h1, h2⟩
end Om
namespace L2
open PySem PySem.Spec PyProof.Rows
def LyN (H : Hp) (v : V) (ks : List (Nat × Nat)) : Prop := ∃ a o kvs, v = .ref a ∧ H a = some (.frz o (.dT kvs)) ∧ KD ks kvs ∧ ∀ p ∈ ks, ∃ t, valV kvs (kk p) = some (.ref t) ∧ H t = some (.tup [.non, .non])
def LyT (H : Hp) (v : V) (g : Nat × Nat → List Om.Stp) (ks : List (Nat × Nat)) : Nat → Prop
  | 0 => LyN H v ks
  | i + 1 => LyX H v (Om.lay g ks (i + 1))
section
variable {H H' : Hp} {v : V} {g : Nat × Nat → List Om.Stp} {ks : List (Nat × Nat)}
theorem LyN.mono (h : LyN H v ks) (s : Same H H') : LyN H' v ks := by
  obtain ⟨a, o, kvs, e, h1, h2, h3⟩ := h
  refine ⟨a, o, kvs, e, s _ _ h1, h2, fun p hp => ?_⟩
  obtain ⟨t, k1, k2⟩ := h3 p hp
  exact ⟨t, k1, s _ _ k2⟩
theorem LyT.mono (s : Same H H') : ∀ {i : Nat}, LyT H v g ks i → LyT H' v g ks i
  | 0, h => LyN.mono h s
  | _ + 1, h => LyX.mono h s
theorem LyT.k : ∀ {i : Nat}, LyT H v g ks i → LyK H v (Om.layK g ks i)
  | 0, h => by
    obtain ⟨a, o, kvs, e, h1, h2, h3⟩ := (show LyN H v ks from h)
    rw [Om.layK_zero]
    exact ⟨a, o, kvs, e, h1, h2⟩
  | _ + 1, h => LyX.k h
theorem LyX.updR {L : Addr} {xs ys : List V} {acc : List Om.Ent} (hL : H L = some (.lst xs)) (h : LyX H v acc) : LyX (upd H L (.lst ys)) v acc := by
  obtain ⟨a, o, kvs, e, h1, h2, h3⟩ := h
  refine ⟨a, o, kvs, e, noL hL h1 (fun _ z => nomatch z), h2, fun e he => ?_⟩
  obtain ⟨t, pa, la, k1, k2, k3, k4⟩ := h3 e he
  exact ⟨t, pa, la, k1, noL hL k2 (fun _ z => nomatch z), noL hL k3 (fun _ z => nomatch z), noL hL k4 (fun _ z => nomatch z)⟩
theorem LyN.updR {L : Addr} {xs ys : List V} (hL : H L = some (.lst xs)) (h : LyN H v ks) : LyN (upd H L (.lst ys)) v ks := by
  obtain ⟨a, o, kvs, e, h1, h2, h3⟩ := h
  refine ⟨a, o, kvs, e, noL hL h1 (fun _ z => nomatch z), h2, fun p hp => ?_⟩
  obtain ⟨t, k1, k2⟩ := h3 p hp
  exact ⟨t, k1, noL hL k2 (fun _ z => nomatch z)⟩
theorem LyT.updR {L : Addr} {xs ys : List V} (hL : H L = some (.lst xs)) : ∀ {i : Nat}, LyT H v g ks i → LyT (upd H L (.lst ys)) v g ks i
  | 0, h => LyN.updR hL h
  | _ + 1, h => LyX.updR hL h
end
end L2
end
section
set_option Elab.async false
set_option linter.all false
set_option maxRecDepth 100000
set_option maxHeartbeats 4000000
namespace K31
open PySem L2
section
variable {P : Program} {w : World} {K : PySem.W.Frag} {mg : Str → Option Value} {base : Heap}
abbrev sUnlP : Stmt := top 30
def spUnlP : Sp := fun vs H Q _ => match vs with
  | [gv] => ∃ (gks : List (Nat × Nat)), LyK H gv gks ∧ ∀ v H', Same H H' → LyN H' v (gks.filter fun p => decide (p.1 ≠ p.2)) → Q v H'
  | _ => False
theorem scUnlP : FnScope ["graph", "pairs", "pair"] ["graph"] (defScope sUnlP) := ⟨rfl, rfl, rfl, by decide +kernel, rfl, by decide +kernel, by decide +kernel⟩
local macro_rules | `(tactic| walk_at "T.n") => `(tactic| with_reducible first | exact vn "graph" 0 | exact vn "pairs" 1 | exact vn "pair" 2)
local macro_rules | `(tactic| walk_at "T.gn") => `(tactic| with_reducible first | exact gn "pairs" 1 (by with_unfolding_all assumption) | exact gn "pair" 2 (by with_unfolding_all assumption))
local macro_rules | `(tactic| walk_at "T.e") => `(tactic| (with_reducible exact pe_dnewT))
local macro_rules | `(tactic| walk_at "T.i") => `(tactic| ((with_reducible refine' pi_lstD ?a1); (case a1 => walk_at "T.e")))
local macro_rules | `(tactic| walk_at "T.g") => `(tactic| ((with_reducible refine' g_subD ?a0 ?a1 ?a2); (case a0 => exact Room.units (by assumption)); (case a1 => walk_at "T.e"); (case a2 => walk_at "T.e")))
local macro_rules | `(tactic| walk_at "T.st") => `(tactic| ((with_reducible refine' s_retF ?a1); (case a1 => walk_at "T.e")))
theorem ok_unlP (D : FnX K mg "unlike_pairs" sUnlP ["graph"]) : Can P w K mg base "unlike_pairs" 1 ["graph"] spUnlP := by
  refine can_fn (k := 0) D scUnlP (fun vs H Q E h => ?_) (fun f cdv A outer s H vs Q E hr h => ?_)
  all_goals
    unfold spUnlP at h
    split at h
  · rfl
  · exact h.elim
  · rename_i gv
    obtain ⟨gks, ⟨ga, go, gkvs, rfl, hga, gkd⟩, q⟩ := h
    have nd := scUnlP.nd
    refine ⟨_, (by walk_at "T.top"), ?_⟩
    intro D hD
    have M0 := Gd.start hD
    refine .inr (.inl ⟨go, gkvs, M0.all _ _ hga, fun bs hbs => ?_⟩)
    have hbl := gkd.blen hbs
    refine for_by (it_keys ga go (bs.map V.ref)) (fun i σ H2 => ∃ (v2 : Option V) (G : Hp) (kvs : List (List Key × V)) (ks : List (Nat × Nat)), σ = [some (.ref ga), some (.ref D), v2] ∧ Gd G H H2 D kvs ∧ KeysAt H2 gkvs bs ∧ KD ks kvs ∧ (∀ p ∈ ks, ∃ t, valV kvs (kk p) = some (.ref t) ∧ G t = some (.tup [.non, .non])) ∧ ks = (gks.take i).filter fun p => decide (p.1 ≠ p.2))
      ⟨none, _, [], [], rfl, M0, hbs, KD.nil, (fun p hp => nomatch hp), rfl⟩ (fun i σ H2 _ ⟨_, _, _, _, _, M, _⟩ => ⟨_, M.all _ _ hga⟩) ?_ ?_
    · rintro i z σ H2 hi hz ⟨v2, G, kvs, ks, rfl, M, hb2, kd, hst, hm⟩
      have hi' : i < gks.length := by rw [← hbl]; exact hi
      obtain ⟨b, rfl, hb⟩ := gkd.key hb2 hi' hz
      have ti : gks.take (i + 1) = gks.take i ++ [gks[i]] := by rw [List.take_add_one, List.getElem?_eq_getElem hi']; rfl
      have b8 := gkd.lt _ (List.getElem_mem hi')
      have hbt : H2 b = some (.tup [.int (gks[i].1 : Nat), .int (gks[i].2 : Nat)]) := hb
      refine ⟨_, gt hbt (by decide) rfl, _, gt hbt (by decide) rfl, ?_⟩
      refine ite2 (fun c1 => ?_) (fun c1 => ?_)
      · have ne : gks[i].1 ≠ gks[i].2 := fun z => by rw [z] at c1; simp at c1
        refine ⟨le_line (Nat.le_of_ble_eq_true rfl), fun t ht => ?_⟩
        have M1 := M.put (o := .tup [.non, .non]) ht
        have sm : Same H2 (upd H2 t (.tup [.non, .non])) := Same.upd ht
        have nin : gks[i] ∉ ks := fun z => by
          rw [hm] at z
          have z := (List.mem_filter.mp z).1
          have nd2 := gkd.nd
          rw [← List.take_append_drop (i + 1) gks, ti] at nd2
          exact (List.nodup_append.mp (List.nodup_append.mp nd2).1).2.2 _ z _ (List.mem_singleton.mpr rfl) rfl
        refine .inr ⟨_, _, rfl, .inr ⟨kvs, kk gks[i], b, M1.hD, rfl, sm _ _ hb, kd.lt_line, rfl⟩, ?_⟩
        refine ⟨_, _, _, ks ++ [gks[i]], rfl, M1.set, ?_, kd.put (v := .ref t) nin b8.1 b8.2, fun p hpk => ?_, ?_⟩
        · refine Paired.mapP hb2 fun p b' h => ?_
          have : b' ≠ D := ne_of h M.hD (fun z => nomatch z)
          rw [upd_ne this]; exact sm _ _ h
        · have U1 := M.up (o := .tup [.non, .non]) ht
          by_cases e : p = gks[i]
          · subst e; exact ⟨t, valV_put_eq, upd_same⟩
          · obtain ⟨t', k1, k2⟩ := hst p ((List.mem_append.mp hpk).resolve_right (fun z => e (by simpa using z)))
            exact ⟨t', by rw [valV_put_ne e]; exact k1, U1 _ _ k2⟩
        · rw [ti, List.filter_append, ← hm, List.filter_cons_of_pos (by simpa using ne), List.filter_nil]
      · have eq : gks[i].1 = gks[i].2 := by
          by_cases e : gks[i].1 = gks[i].2
          · exact e
          · exact absurd (by
              rw [decide_eq_false (fun z => e (by omega))]; rfl) c1
        refine ⟨_, G, kvs, ks, rfl, M, hb2, kd, hst, ?_⟩
        rw [ti, List.filter_append, ← hm, List.filter_cons_of_neg (by simpa using eq), List.filter_nil, List.append_nil]
    · rintro σ H2 ⟨v2, G, kvs, ks, rfl, M, hb2, kd, hst, hm⟩
      rw [hbl, List.take_length] at hm
      refine .inl ⟨_, M.hD, trivial, fun o => ?_⟩
      refine q _ _ (M.s0.trans M.frz) (hm ▸ ⟨D, o, kvs, rfl, upd_same, kd, fun p hp => ?_⟩)
      obtain ⟨t, k1, k2⟩ := hst p hp
      exact ⟨t, k1, M.frz _ _ k2⟩
  · exact h.elim
end
section
variable {P : Program} {w : World} {K : PySem.W.Frag} {mg : Str → Option Value} {base : Heap}
abbrev sLayers : Stmt := top 12
def spLayers : Sp := fun vs H Q _ => match vs with
  | [fv, .ref ga] => ∃ (c : Nat) (ks0 gks : List (Nat × Nat)) (g : Nat × Nat → List Om.Stp), LyN H fv ks0 ∧ GrX c H (.ref ga) gks g ∧ (∀ p ∈ ks0, p ∈ gks) ∧ (∀ p ∈ gks, ∀ s ∈ g p, s.2 ∈ gks) ∧
      ∀ l (vs : List V) H', Same H H' → H l = none → H' l = some (.lst vs) → (∀ i v, vs[i]? = some v → LyT H' v g ks0 i) → (∀ i, i < vs.length → Om.layK g ks0 i ≠ []) → vs.length ≤ gks.length + 1 → (vs.length = gks.length + 1 ∨ Om.layK g ks0 vs.length = []) → Q (.ref l) H'
  | _ => False
theorem scLayers : FnScope ["first", "graph", "layers", "layer"] ["first", "graph"] (defScope sLayers) := ⟨rfl, rfl, rfl, by decide +kernel, rfl, by decide +kernel, by decide +kernel⟩
local macro_rules | `(tactic| walk_at "T.n") => `(tactic| with_reducible first | exact vn "first" 0 | exact vn "graph" 1 | exact vn "layers" 2 | exact vn "layer" 3)
local macro_rules | `(tactic| walk_at "T.gn") => `(tactic| with_reducible first | exact gn "layers" 2 (by with_unfolding_all assumption) | exact gn "layer" 3 (by with_unfolding_all assumption))
local macro_rules | `(tactic| walk_at "T.t") => `(tactic| ((with_reducible refine' t_truD ?a1); (case a1 => walk_at "T.n")))
local macro_rules | `(tactic| walk_at "T.b") => `(tactic| ((with_reducible refine' fn_lenD ?a0 ?a9 ?a1); (case a0 => with_reducible assumption); (case a9 => rfl); (case a1 => walk_at "T.a")))
theorem ok_layers (D : FnX K mg "layers_of" sLayers ["first", "graph"]) (g1 : mg "len" = none) (c1 : Can P w K mg base "layer_behind" 1 ["layer", "graph"] spLayer) : Can P w K mg base "layers_of" 2 ["first", "graph"] spLayers := by
  refine can_fn (k := 1) D scLayers (fun vs H Q E h => ?_) (fun f cdv A outer s H vs Q E hr h => ?_)
  all_goals
    unfold spLayers at h
    split at h
  · rfl
  · exact h.elim
  · rename_i fv ga
    obtain ⟨c, ks0, gks, g, hly, hgr, hsub, hcl, q⟩ := h
    obtain ⟨gkvs, rdg, gsz, s64⟩ : ∃ kvs, Rd H ga (.dT kvs) ∧ kvs.length = gks.length ∧ gks.length ≤ 64 := by
      obtain ⟨a, o, kvs, e, h1, h2, _⟩ := hgr
      cases e
      exact ⟨kvs, .inr ⟨o, h1⟩, h2.len, h2.le⟩
    have nd := scLayers.nd
    refine ⟨_, (by walk_at "T.top"), ?_⟩
    refine ⟨Nat.zero_le _, fun L hL => ?_⟩
    have iR0 := Om.layK_in hsub hcl
    refine ⟨fun m σ H2 => ∃ (v : V) (vs : List V), σ = [some fv, some (.ref ga), some (.ref L), some v] ∧ m + vs.length = gks.length + 1 ∧ Same H H2 ∧ H2 L = some (.lst vs) ∧ LyT H2 v g ks0 vs.length ∧ (∀ i v, vs[i]? = some v → LyT H2 v g ks0 i) ∧ ∀ i, i < vs.length → Om.layK g ks0 i ≠ [],
      ⟨gks.length + 1, fv, [], rfl, rfl, Same.upd hL, upd_same, hly.mono (Same.upd hL), (fun i v h => by simp at h), (fun i h => absurd h (Nat.not_lt_zero _))⟩, ?_⟩
    rintro m σ H2 ⟨v, vs, rfl, hm, s2, h2, l2, hv2, hne⟩
    have l2' := l2
    obtain ⟨va, vo, vkvs, rfl, hva, vkd⟩ := l2.k
    have rd2 : Rd H2 ga (.dT gkvs) := by
      rcases rdg with h | ⟨o, h⟩
      · exact .inl (s2 _ _ h)
      · exact .inr ⟨o, s2 _ _ h⟩
    have key : Om.layK g ks0 vs.length ≠ [] ↔ vkvs ≠ [] := by
      have ln := vkd.len
      constructor
      · intro h z
        rw [z] at ln
        exact h (List.length_eq_zero_iff.mp (by simpa using ln.symm))
      · intro h z
        rw [z] at ln
        exact h (List.length_eq_zero_iff.mp (by simpa using ln))
    refine .inr (.inr ⟨vkvs, .inr ⟨vo, hva⟩, ?_⟩)
    cases hvk : vkvs with
    | nil =>
      refine iteF (iteF ?_)
      refine q L vs _ s2 hL h2 hv2 hne (by omega) (.inr ?_)
      by_cases z : Om.layK g ks0 vs.length = []
      · exact z
      · exact absurd hvk (key.mp z)
    | cons kv0 kvr =>
      refine iteP rfl ?_
      have ne : Om.layK g ks0 vs.length ≠ [] := key.mpr (by rw [hvk]; exact fun z => nomatch z)
      refine .inr ⟨_, lenL h2, ?_⟩
      refine .inl ⟨ga, gkvs, rfl, rd2, by omega, ?_⟩
      rw [gsz]
      dsimp only [rN0]
      by_cases le : vs.length ≤ gks.length
      · rw [decide_eq_true (by omega)]
        refine iteP rfl ?_
        refine ⟨fun σ' H' => ∃ (v : V), σ' = [some fv, some (.ref ga), some (.ref L), some v] ∧ Same H H' ∧ H' L = some (.lst (vs ++ [.ref va])) ∧ LyT H' v g ks0 (vs.length + 1) ∧ (∀ i v, (vs ++ [.ref va])[i]? = some v → LyT H' v g ks0 i), ?_, ?_⟩
        · rintro σ' H' ⟨v', rfl, s', h', l', hv'⟩
          refine ⟨m - 1, by omega, v', vs ++ [.ref va], rfl, by rw [List.length_append]; simp; omega, s', h', by rw [List.length_append]; exact l', hv', fun i hi => ?_⟩
          rw [List.length_append] at hi
          by_cases e : i = vs.length
          · subst e; exact ne
          · exact hne i (by simp at hi; omega)
        · refine ⟨⟨_, rfl, h2⟩, _, h2, lt_line (by omega), ?_⟩
          have s3 : Same H (upd H2 L (.lst (vs ++ [.ref va]))) := s2.own hL
          refine ⟨c, _, gks, g, (LyT.updR h2 l2').k, hgr.mono s3, iR0 _, hcl, fun v' H4 s4 l4 => ?_⟩
          refine ⟨v', rfl, s3.trans s4, s4 _ _ upd_same, l4, fun i u hu => ?_⟩
          by_cases e : i < vs.length
          · rw [List.getElem?_append_left e] at hu
            exact LyT.mono s4 (LyT.updR h2 (hv2 i u hu))
          · rw [List.getElem?_append_right (by omega)] at hu
            have e2 : i - vs.length = 0 := by
              cases h : i - vs.length with
              | zero => rfl
              | succ _ => rw [h] at hu; simp at hu
            rw [e2] at hu
            have : u = .ref va := by simpa using hu.symm
            subst this
            have : i = vs.length := by omega
            subst this
            exact LyT.mono s4 (LyT.updR h2 l2')
      · rw [decide_eq_false (by omega)]
        refine iteF ?_
        exact q L vs _ s2 hL h2 hv2 hne (by omega) (.inl (by omega))
  · exact h.elim
end
section
variable {P : Program} {w : World} {K : PySem.W.Frag} {mg : Str → Option Value} {base : Heap}
abbrev sComes : Stmt := top 14
def spComes : Sp := fun vs H Q _ => match vs with
  | [.ref l, .ref ga] => ∃ (xs : List V) (kvs : List (List Key × V)), H l = some (.lst xs) ∧ Rd H ga (.dT kvs) ∧ kvs.length ≤ 64 ∧ Q (.bl (decide (kvs.length < xs.length))) H
  | _ => False
theorem scComes : FnScope ["layers", "graph"] ["layers", "graph"] (defScope sComes) := ⟨rfl, rfl, rfl, by decide +kernel, rfl, by decide +kernel, by decide +kernel⟩
local macro_rules | `(tactic| walk_at "T.n") => `(tactic| with_reducible first | exact vn "layers" 0 | exact vn "graph" 1)
local macro_rules | `(tactic| walk_at "T.b") => `(tactic| ((with_reducible refine' fn_lenD ?a0 ?a9 ?a1); (case a0 => with_reducible assumption); (case a9 => rfl); (case a1 => walk_at "T.a")))
theorem ok_comes (D : FnX K mg "comes_back" sComes ["layers", "graph"]) (g1 : mg "len" = none) : Can P w K mg base "comes_back" 1 ["layers", "graph"] spComes := by
  refine can_fn (k := 0) D scComes (fun vs H Q E h => ?_) (fun f cdv A outer s H vs Q E hr h => ?_)
  all_goals
    unfold spComes at h
    split at h
  · rfl
  · exact h.elim
  · rename_i l ga
    obtain ⟨xs, kvs, hl, rd, k64, q⟩ := h
    have nd := scComes.nd
    refine ⟨_, (by walk_at "T.top1"), ?_⟩
    refine .inr ⟨_, lenL hl, ?_⟩
    refine .inl ⟨ga, kvs, rfl, rd, by omega, ?_⟩
    dsimp only [rN0]
    have e : decide (((xs.length : Nat) : Int) > ((kvs.length : Nat) : Int)) = decide (kvs.length < xs.length) := by
      rw [Bool.eq_iff_iff, decide_eq_true_eq, decide_eq_true_eq]; omega
    rw [e]
    exact q
  · exact h.elim
end

end K31
end
section
set_option Elab.async false
set_option linter.all false
set_option maxRecDepth 100000
set_option maxHeartbeats 4000000
namespace K31
open PySem L2
section
variable {P : Program} {w : World} {K : PySem.W.Frag} {mg : Str → Option Value} {base : Heap}
abbrev sWalk : Stmt := top 15
def StepW (H : Hp) (x l : Nat × Nat) (i : Nat) (v : V) : Prop := ∃ (a : Addr) (p q : V) (n : Addr), v = .ref a ∧ H a = some (.tup [p, q, .ref n]) ∧ H n = some (.tup ((kk x).map kV)) ∧ (0 < i → ∃ la, q = .ref la ∧ H la = some (.tup [.int (l.1 : Nat), .int (l.2 : Nat)]))
theorem StepW.mono {H H' : Hp} {x l : Nat × Nat} {i : Nat} {v : V} (h : StepW H x l i v) (s : Same H H') : StepW H' x l i v := by
  obtain ⟨a, p, q, n, e, h1, h2, h3⟩ := h
  refine ⟨a, p, q, n, e, s _ _ h1, s _ _ h2, fun hi => ?_⟩
  obtain ⟨la, e, h⟩ := h3 hi
  exact ⟨la, e, s _ _ h⟩
def spWalk : Sp := fun vs H Q _ => match vs with
  | [.ref L] => ∃ (ls : List V) (g : Nat × Nat → List Om.Stp) (ks0 : List (Nat × Nat)) (m : Nat), H L = some (.lst ls) ∧ ls.length = m + 1 ∧ m ≤ 100 ∧ (∀ i v, ls[i]? = some v → LyT H v g ks0 i) ∧ Om.layK g ks0 m ≠ [] ∧
      ∀ W (ws : List V) (nd lb : Nat → Nat × Nat) H', Same H H' → H' W = some (.lst ws) → ws.length = m + 1 → (∀ i v, ws[i]? = some v → StepW H' (nd i) (lb i) i v) → (Om.layK g ks0 m)[0]? = some (nd m) → (∀ i, i ≤ m → nd i ∈ Om.layK g ks0 i) → (∀ i, i < m → (nd (i + 1), (nd i, lb (i + 1))) ∈ Om.lay g ks0 (i + 1)) → Q (.ref W) H'
  | _ => False
theorem scWalk : FnScope ["layers", "node", "walk", "layer", "ahead"] ["layers"] (defScope sWalk) := ⟨rfl, rfl, rfl, by decide +kernel, rfl, by decide +kernel, by decide +kernel⟩
local macro_rules | `(tactic| walk_at "T.n") => `(tactic| with_reducible first | exact vn "layers" 0 | exact vn "node" 1 | exact vn "walk" 2 | exact vn "layer" 3 | exact vn "ahead" 4)
local macro_rules | `(tactic| walk_at "T.gn") => `(tactic| with_reducible first | exact gn "node" 1 (by with_unfolding_all assumption) | exact gn "walk" 2 (by with_unfolding_all assumption) | exact gn "layer" 3 (by with_unfolding_all assumption) | exact gn "ahead" 4 (by with_unfolding_all assumption))
local macro_rules | `(tactic| walk_at "T.e") => `(tactic| first | ((with_reducible refine' e_listRev ?a0 ?a8 ?a9 ?a1); (case a0 => with_reducible assumption); (case a8 => with_reducible assumption); (case a9 => rfl); (case a1 => walk_at "T.a")) | ((with_reducible refine' ix_atD ?a0 ?a1 ?a2); (case a0 => exact Room.units (by assumption)); (case a1 => walk_at "T.e"); (case a2 => walk_at "T.e")) | fail "no")
local macro_rules | `(tactic| walk_at "T.i") => `(tactic| ((with_reducible refine' it_rev ?a0 ?a9 ?a1); (case a0 => with_reducible assumption); (case a9 => rfl); (case a1 => walk_at "T.a")))
local macro_rules | `(tactic| walk_at "T.b") => `(tactic| ((with_reducible refine' fn_listD ?a0 ?a9 ?a1); (case a0 => with_reducible assumption); (case a9 => rfl); (case a1 => walk_at "T.a")))
theorem ok_walk (D : FnX K mg "longest_walk" sWalk ["layers"]) (g1 : mg "list" = none) (g2 : mg "reversed" = none) : Can P w K mg base "longest_walk" 1 ["layers"] spWalk := by
  refine can_fn (k := 0) D scWalk (fun vs H Q E h => ?_) (fun f cdv A outer s H vs Q E hr h => ?_)
  all_goals
    unfold spWalk at h
    split at h
  · rfl
  · exact h.elim
  · rename_i L
    obtain ⟨ls, g, ks0, m, hL, ll, m100, hly, hne, q⟩ := h
    have nd := scWalk.nd
    refine ⟨_, (by walk_at "T.top"), ?_⟩
    have hm : m < ls.length := by omega
    have els : ls = ls.take m ++ [ls[m]] := by
      conv => lhs; rw [← List.take_append_drop m ls]
      rw [List.drop_eq_getElem_cons hm, List.drop_of_length_le (by omega)]
    have lym := hly m ls[m] (List.getElem?_eq_getElem hm)
    obtain ⟨a, o, kvs, ea, ha, kd⟩ := lym.k
    obtain ⟨ks, hks⟩ : ∃ ks, ks = Om.layK g ks0 m := ⟨_, rfl⟩
    rw [← hks] at kd hne q
    refine .inl ⟨.ref a, (by rw [getV_lst hL, els, ea]; exact atI_last _ _), ?_⟩
    refine .inr (.inl ⟨o, kvs, ha, fun bs l0 hkb hl0 => ?_⟩)
    have kpos : 0 < ks.length := List.length_pos_iff.mpr hne
    have bl := kd.blen hkb
    obtain ⟨b0, hb0⟩ : ∃ b, bs[0]? = some b := ⟨bs[0]'(by simp at bl; omega), List.getElem?_eq_getElem _⟩
    obtain ⟨b0', eb, hb⟩ := kd.key hkb (i := 0) (x := .ref b0) kpos (by rw [List.getElem?_map, hb0]; rfl)
    cases eb
    have u1 := Same.upd (o := .lst (bs.map V.ref)) hl0
    refine .inl ⟨.ref b0, gl upd_same (by decide) (by rw [List.getElem?_map]; simp [hb0]), ?_⟩
    have hx0 : ks[0] ∈ Om.layK g ks0 m := by rw [← hks]; exact List.getElem_mem kpos
    have hx1 : ks[0]? = some ks[0] := List.getElem?_eq_getElem kpos
    generalize upd H l0 (.lst (bs.map V.ref)) = H1 at *
    refine ⟨Nat.zero_le _, fun W0 hW0 => ?_⟩
    refine ⟨ls, SqL.of (Same.upd hW0 _ _ (u1 _ _ hL)), ?_⟩
    refine for_by (it_revL _ L ls) (fun j σ H2 => ∃ (nv : V) (v3 v4 : Option V) (ws : List V) (G : Hp) (nd lb : Nat → Nat × Nat), σ = [some (.ref L), some nv, some (.ref W0), v3, v4] ∧ Gr G H1 H2 W0 ws ∧ ws.length = j ∧ (j ≤ m → ∃ n, nv = .ref n ∧ G n = some (.tup ((kk (nd (m - j))).map kV))) ∧ (∀ t v, ws[t]? = some v → StepW G (nd (m - t)) (lb (m - t)) (m - t) v) ∧ nd m = ks[0] ∧ (∀ i, m - j ≤ i → i ≤ m → nd i ∈ Om.layK g ks0 i) ∧ (∀ i, m - j ≤ i → i < m → (nd (i + 1), (nd i, lb (i + 1))) ∈ Om.lay g ks0 (i + 1)))
      ⟨.ref b0, none, none, [], _, fun _ => ks[0], fun _ => (0, 0), rfl, Gr.start hW0, rfl, fun _ => ⟨b0, rfl, u1 _ _ hb⟩, (fun t v h => by simp at h), rfl, (fun i h1 h2 => (show i = m by omega) ▸ hx0), (fun i h1 h2 => by omega)⟩ (fun j σ H2 _ ⟨_, _, _, _, _, _, _, _, M, _⟩ => SqL.of (M.all _ _ (u1 _ _ hL))) ?_ ?_
    · rintro j x σ H2 hj hx ⟨nv, v3, v4, ws, G, nd', lb, rfl, M, wl, hnode, hws, hnm, hit, hst⟩
      have hj' : j ≤ m := by rw [List.length_reverse] at hj; omega
      have hx' : ls[m - j]? = some x := by
        rw [List.getElem?_reverse (by rw [List.length_reverse] at hj; exact hj), ll] at hx
        exact hx
      obtain ⟨n, rfl, hn⟩ := hnode hj'
      have lyx := hly (m - j) x hx'
      have cur := hit (m - j) (Nat.le_refl _) (by omega)
      have sA := u1.trans M.all
      -- the value at the node
      obtain ⟨xa, xo, xkvs, t, p0, p1, rfl, hxa, hval, ht, hnext⟩ : ∃ (xa : Addr) (xo : Obj) (xkvs : List (List Key × V)) (t : Addr) (p0 p1 : V), x = .ref xa ∧ H xa = some (.frz xo (.dT xkvs)) ∧ valV xkvs (kk (nd' (m - j))) = some (.ref t) ∧ H t = some (.tup [p0, p1]) ∧
          (0 < m - j → ∃ (pa la : Addr) (q lab : Nat × Nat), p0 = .ref pa ∧ p1 = .ref la ∧ H pa = some (.tup ((kk q).map kV)) ∧ H la = some (.tup [.int (lab.1 : Nat), .int (lab.2 : Nat)]) ∧ q ∈ Om.layK g ks0 (m - j - 1) ∧ (nd' (m - j), (q, lab)) ∈ Om.lay g ks0 (m - j)) := by
        cases hi : m - j with
        | zero =>
          rw [hi] at lyx cur
          obtain ⟨xa, xo, xkvs, e, h1, h2, h4⟩ := lyx
          rw [Om.layK_zero] at cur
          obtain ⟨t, k1, k2⟩ := h4 _ cur
          exact ⟨xa, xo, xkvs, t, _, _, e, h1, k1, k2, fun z => absurd z (Nat.lt_irrefl _)⟩
        | succ i =>
          rw [hi] at lyx cur
          obtain ⟨xa, xo, xkvs, e, h1, h2, h4⟩ := lyx
          obtain ⟨en, he, een⟩ := List.mem_map.mp cur
          have ls' := Om.lay_step he
          obtain ⟨t, pa, la, k1, k2, k3, k4⟩ := h4 _ he
          rw [← een]
          exact ⟨xa, xo, xkvs, t, _, _, e, h1, k1, k2, fun _ => ⟨pa, la, en.2.1, en.2.2, rfl, rfl, k3, k4, ls'.1, he⟩⟩
      dsimp only [gName]
      refine .inr ⟨_, _, rfl, .inr ⟨xkvs, kk (nd' (m - j)), n, .inr ⟨xo, sA _ _ hxa⟩, rfl, M.s _ _ hn, hval.symm⟩, ?_⟩
      refine ⟨⟨_, rfl, M.hL⟩, ?_⟩
      refine .inl ⟨_, gt (sA _ _ ht) (by decide) rfl, .inl ⟨_, gt (sA _ _ ht) (by decide) rfl, ?_⟩⟩
      refine ⟨le_line (Nat.le_of_ble_eq_true rfl), fun e he => ?_⟩
      have M1 := M.put (o := .tup [p0, p1, .ref n]) he
      have U1 := M.up (o := .tup [p0, p1, .ref n]) he
      have hG1 : upd G e (.tup [p0, p1, .ref n]) e = some (.tup [p0, p1, .ref n]) := upd_same
      refine ⟨_, M1.hL, lt_line (by omega), ?_⟩
      have M2 := M1.set (ws := ws ++ [.ref e])
      generalize upd (upd H2 e (.tup [p0, p1, .ref n])) W0 (.lst (ws ++ [.ref e])) = H3 at *
      generalize upd G e (.tup [p0, p1, .ref n]) = G1 at *
      have s0 := u1.trans M2.all
      refine .inl ⟨_, gt (s0 _ _ ht) (by decide) rfl, ?_⟩
      have old : ∀ {nd2 lb2 : Nat → Nat × Nat}, (∀ i, m - j ≤ i → nd2 i = nd' i) → (∀ i, m - j < i → lb2 i = lb i) → (0 < m - j → ∃ la, p1 = .ref la ∧ G1 la = some (.tup [.int ((lb2 (m - j)).1 : Nat), .int ((lb2 (m - j)).2 : Nat)])) → ∀ t v, (ws ++ [.ref e])[t]? = some v → StepW G1 (nd2 (m - t)) (lb2 (m - t)) (m - t) v := by
        intro nd2 lb2 e1 e2 h3 t' v hv
        by_cases ht' : t' < ws.length
        · rw [List.getElem?_append_left ht'] at hv
          rw [e1 _ (by omega), e2 _ (by omega)]
          exact (hws t' v hv).mono U1
        · rw [List.getElem?_append_right (by omega)] at hv
          have e4 : t' - ws.length = 0 := by
            cases h : t' - ws.length with
            | zero => rfl
            | succ _ => rw [h] at hv; simp at hv
          rw [e4] at hv
          have : v = .ref e := by simpa using hv.symm
          subst this
          have : t' = j := by omega
          subst this
          refine ⟨e, p0, p1, n, rfl, hG1, ?_, h3⟩
          rw [e1 _ (Nat.le_refl _)]; exact U1 _ _ hn
      by_cases h0 : 0 < m - j
      · obtain ⟨pa, la, q', lab, rfl, rfl, k3, k4, k5, k6⟩ := hnext h0
        have sG : Same H G1 := (u1.trans M.s0).trans U1
        refine ⟨.ref pa, _, _, ws ++ [.ref e], G1, fun i => if i = m - j - 1 then q' else nd' i, fun i => if i = m - j then lab else lb i, rfl, M2, by rw [List.length_append, wl]; rfl, fun hj1 => ⟨pa, rfl, ?_⟩, old (fun i hi => by show (if i = m - j - 1 then q' else nd' i) = nd' i; rw [if_neg (by omega)]) (fun i hi => by show (if i = m - j then lab else lb i) = lb i; rw [if_neg (by omega)]) (fun _ => ⟨la, rfl, ?_⟩), (by show (if m = m - j - 1 then q' else nd' m) = ks[0]; rw [if_neg (by omega)]; exact hnm), fun i h1 h2 => ?_, fun i h1 h2 => ?_⟩
        · show G1 pa = some (.tup ((kk (if m - (j + 1) = m - j - 1 then q' else nd' (m - (j + 1)))).map kV))
          rw [if_pos (by omega)]; exact sG _ _ k3
        · show G1 la = some (.tup [.int ((if m - j = m - j then lab else lb (m - j)).1 : Nat), .int ((if m - j = m - j then lab else lb (m - j)).2 : Nat)])
          rw [if_pos rfl]; exact sG _ _ k4
        · show (if i = m - j - 1 then q' else nd' i) ∈ Om.layK g ks0 i
          by_cases c : i = m - j - 1
          · rw [if_pos c, c]; exact k5
          · rw [if_neg c]; exact hit i (by omega) h2
        · show ((if i + 1 = m - j - 1 then q' else nd' (i + 1)), ((if i = m - j - 1 then q' else nd' i), (if i + 1 = m - j then lab else lb (i + 1)))) ∈ Om.lay g ks0 (i + 1)
          by_cases c : i = m - j - 1
          · rw [if_neg (by omega : ¬ i + 1 = m - j - 1), if_pos c, if_pos (by omega : i + 1 = m - j), show i + 1 = m - j by omega]; exact k6
          · rw [if_neg (by omega : ¬ i + 1 = m - j - 1), if_neg c, if_neg (by omega : ¬ i + 1 = m - j)]; exact hst i (by omega) h2
      · refine ⟨p0, _, _, ws ++ [.ref e], G1, nd', lb, rfl, M2, by rw [List.length_append, wl]; rfl, fun hj1 => by omega, old (fun _ _ => rfl) (fun _ _ => rfl) (fun z => absurd z h0), hnm, fun i h1 h2 => hit i (by omega) h2, fun i h1 h2 => hst i (by omega) h2⟩
    · rintro σ H2 ⟨nv, v3, v4, ws, G, nd', lb, rfl, M, wl, hnode, hws, hnm, hit, hst⟩
      rw [List.length_reverse, ll] at wl
      refine ⟨ws, M.hL, fun n hn => ?_⟩
      have u2 := Same.upd (o := .lst ws.reverse) hn
      refine q n ws.reverse nd' lb _ ((u1.trans M.all).trans u2) upd_same (by rw [List.length_reverse, wl]) (fun i v hv => ?_) (by rw [hx1, hnm]) (fun i hi => hit i (by rw [List.length_reverse]; omega) hi) (fun i hi => hst i (by rw [List.length_reverse]; omega) hi)
      have hi : i < ws.length := by have := (List.getElem?_eq_some_iff.mp hv).1; rw [List.length_reverse] at this; exact this
      rw [List.getElem?_reverse hi, wl] at hv
      have := hws _ v hv
      rw [show m - (m + 1 - 1 - i) = i by omega] at this
      exact (this.mono M.s).mono u2
  · exact h.elim
end

end K31
end
section
set_option Elab.async false
set_option linter.all false
set_option maxRecDepth 100000
set_option maxHeartbeats 4000000
namespace K31
open PySem L2
section
variable {P : Program} {w : World} {K : PySem.W.Frag} {mg : Str → Option Value} {base : Heap}
abbrev sFirst : Stmt := top 16
def spFirst : Sp := fun vs H Q _ => match vs with
  | [.ref W] => ∃ (ws : List V) (nd lb : Nat → Nat × Nat) (m : Nat), H W = some (.lst ws) ∧ ws.length = m + 1 ∧ m ≤ 100 ∧ (∀ i v, ws[i]? = some v → StepW H (nd i) (lb i) i v) ∧ (∀ i, i ≤ m → (nd i).1 < 8 ∧ (nd i).2 < 8) ∧ (∃ i j, i < j ∧ j ≤ m ∧ nd i = nd j) ∧
      ∀ t (i j : Nat) H', Same H H' → i < j → j ≤ m → nd i = nd j → ((List.range j).map nd).Nodup → H' t = some (.tup [.int (i : Nat), .int (j : Nat)]) → Q (.ref t) H'
  | _ => False
theorem scFirst : FnScope ["walk", "places", "place", "step"] ["walk"] (defScope sFirst) := ⟨rfl, rfl, rfl, by decide +kernel, rfl, by decide +kernel, by decide +kernel⟩
local macro_rules | `(tactic| walk_at "T.n") => `(tactic| with_reducible first | exact vn "walk" 0 | exact vn "places" 1 | exact vn "place" 2 | exact vn "step" 3)
local macro_rules | `(tactic| walk_at "T.gn") => `(tactic| with_reducible first | exact gn "places" 1 (by with_unfolding_all assumption) | exact gn "place" 2 (by with_unfolding_all assumption) | exact gn "step" 3 (by with_unfolding_all assumption))
local macro_rules | `(tactic| walk_at "T.e") => `(tactic| first | (with_reducible exact pe_dnewT) | ((with_reducible refine' ix_atD ?a0 ?a1 ?a2); (case a0 => exact Room.units (by assumption)); (case a1 => walk_at "T.e"); (case a2 => walk_at "T.e")) | fail "no")
local macro_rules | `(tactic| walk_at "T.cmp") => `(tactic| ((with_reducible refine' op_inDict ?a1); (case a1 => exact Room.units (by assumption))))
local macro_rules | `(tactic| walk_at "T.g") => `(tactic| ((with_reducible refine' g_subD ?a0 ?a1 ?a2); (case a0 => exact Room.units (by assumption)); (case a1 => walk_at "T.e"); (case a2 => walk_at "T.e")))
theorem ok_first (D : FnX K mg "first_return" sFirst ["walk"]) (g1 : mg "enumerate" = none) : Can P w K mg base "first_return" 1 ["walk"] spFirst := by
  refine can_fn (k := 0) D scFirst (fun vs H Q E h => ?_) (fun f cdv A outer s H vs Q E hr h => ?_)
  all_goals
    unfold spFirst at h
    split at h
  · rfl
  · exact h.elim
  · rename_i W
    obtain ⟨ws, nd', lb, m, hW, wl, m100, hst, n8, ⟨i0, j0, ij, jm, eij⟩, q⟩ := h
    have nd := scFirst.nd
    refine ⟨_, (by walk_at "T.top"), ?_⟩
    intro D hD
    have M0 := Gd.start hD
    refine ⟨⟨_, SqL.of (M0.all _ _ hW)⟩, ?_⟩
    refine for_pr (it_enumP _ W ws) (fun i σ H2 => ∃ (v2 v3 : Option V) (G : Hp) (kvs : List (List Key × V)), σ = [some (.ref W), some (.ref D), v2, v3] ∧ Gd G H H2 D kvs ∧ KD ((List.range i).map nd') kvs ∧ ∀ j, j < i → valV kvs (kk (nd' j)) = some (.int (j : Nat)))
      ⟨none, none, _, [], rfl, M0, KD.nil, (fun j hj => absurd hj (Nat.not_lt_zero _))⟩ (fun i σ H2 _ ⟨_, _, _, _, _, M, _⟩ => M.all _ _ hW) ?_ ?_
    · rintro i t σ H2 hi ⟨v2, v3, G, kvs, rfl, M, kd, hv⟩ ht
      obtain ⟨a, p0, p1, n, ea, ha, hn, _⟩ := hst i ws[i] (List.getElem?_eq_getElem hi)
      have er : ws.getD i .non = .ref a := by rw [List.getD_eq_getElem?_getD, List.getElem?_eq_getElem hi, ea]; rfl
      dsimp only
      rw [er]
      refine ⟨_, .inl upd_same, rfl, rfl, ?_⟩
      have M1 := M.put (o := .tup [.int (i : Nat), .ref a]) ht
      generalize upd H2 t (.tup [.int (i : Nat), .ref a]) = H3 at *
      generalize upd G t (.tup [.int (i : Nat), .ref a]) = G3 at *
      have s3 := M1.all
      have im : i ≤ m := by omega
      refine .inl ⟨.ref n, gt (s3 _ _ ha) (by decide) rfl, ?_⟩
      have hn3 : H3 n = some (.tup ((kk (nd' i)).map kV)) := s3 _ _ hn
      refine ⟨_, _, rfl, .inr ⟨kvs, kk (nd' i), n, .inl M1.hD, rfl, hn3, rfl⟩, ?_⟩
      refine ite2 (fun c1 => ?_) (fun c1 => ?_)
      · have isin : nd' i ∈ (List.range i).map nd' := kd.mem.mp c1
        obtain ⟨j, hj, ej⟩ := List.mem_map.mp isin
        have hj' := List.mem_range.mp hj
        refine .inl ⟨.ref n, gt (s3 _ _ ha) (by decide) rfl, ?_⟩
        refine .inr ⟨_, _, rfl, .inr ⟨kvs, kk (nd' i), n, .inl M1.hD, rfl, hn3, (by rw [← ej]; exact (hv j hj').symm)⟩, ?_⟩
        refine ⟨le_line (Nat.le_of_ble_eq_true rfl), fun t' ht' => ?_⟩
        exact q t' j i _ (s3.trans (Same.upd ht')) hj' im ej kd.nd upd_same
      · have nin : nd' i ∉ (List.range i).map nd' := fun z => c1 (kd.mem.mpr z)
        refine .inl ⟨.ref n, gt (s3 _ _ ha) (by decide) rfl, ?_⟩
        refine .inr ⟨_, _, rfl, .inr ⟨kvs, kk (nd' i), n, M1.hD, rfl, hn3, kd.lt_line, rfl⟩, ?_⟩
        have b8 := n8 i im
        refine ⟨_, _, _, _, rfl, M1.set, ?_, fun j hj => ?_⟩
        · rw [List.range_succ, List.map_append]
          exact kd.put nin b8.1 b8.2
        · by_cases e : j = i
          · subst e; exact valV_put_eq
          · have ne : nd' j ≠ nd' i := fun z => nin (z ▸ List.mem_map.mpr ⟨j, List.mem_range.mpr (by omega), rfl⟩)
            rw [valV_put_ne ne]; exact hv j (by omega)
    · rintro σ H2 ⟨v2, v3, G, kvs, rfl, M, kd, hv⟩
      have nd2 := kd.nd
      rw [wl] at nd2
      have h1 : ((List.range (m + 1)).map nd')[i0]? = some (nd' i0) := by rw [List.getElem?_map, List.getElem?_range (by omega)]; rfl
      have h2 : ((List.range (m + 1)).map nd')[j0]? = some (nd' i0) := by rw [List.getElem?_map, List.getElem?_range (by omega), eij]; rfl
      obtain ⟨k1, e1⟩ := List.getElem?_eq_some_iff.mp h1
      obtain ⟨k2, e2⟩ := List.getElem?_eq_some_iff.mp h2
      have := (List.getElem_inj nd2).mp (e1.trans e2.symm)
      omega
  · exact h.elim
end

end K31
end
section
set_option Elab.async false
set_option linter.all false
set_option maxRecDepth 100000
set_option maxHeartbeats 4000000
namespace Om
structure Down (g : Nat × Nat → List Stp) (ks : List (Nat × Nat)) (m : Nat) (nd lb : Nat → Nat × Nat) : Prop where
  top : (layK g ks m)[0]? = some (nd m)
  step : ∀ i, i < m → (nd (i + 1), (nd i, lb (i + 1))) ∈ lay g ks (i + 1)
def Told (rows : Rows) (one other : Nat) (e : Int) (xs ys : List Int) : Prop := ∃ (nd lb : Nat → Nat × Nat) (i j m : Nat), m = (keysL rows).length ∧ Down (backL rows) ((keysL rows).filter fun p => decide (p.1 ≠ p.2)) m nd lb ∧ i < j ∧ j ≤ m ∧ nd i = nd j ∧ ((List.range j).map nd).Nodup ∧
  one = (nd j).1 ∧ other = (nd j).2 ∧ e = ((j - i : Nat) : Int) ∧ xs = ((labL lb j).map (·.1)).map (fun l => ((l : Nat) : Int)) ∧ ys = ((labL lb j).map (·.2)).map (fun l => ((l : Nat) : Int))
end Om
end
section
set_option Elab.async false
set_option linter.all false
set_option maxRecDepth 100000
set_option maxHeartbeats 4000000
namespace K31
open PySem L2
section
variable {P : Program} {w : World} {K : PySem.W.Frag} {mg : Str → Option Value} {base : Heap}
abbrev sUnset : Stmt := top 28
def spUnset : Sp := fun vs H Q _ => match vs with
  | [cv] => ∃ (k n : Nat) (rows : Om.Rows), DV H cv (codeD k n rows) ∧ Om.CodeOk k n rows ∧ (∀ d H', Same H H' → Om.SetBy rows (some d) → Q .non H') ∧
      ∀ (an T U : Addr) (one other : Nat) (e : Int) (xs ys : List Int) H', Same H H' → Om.SetBy rows none → H T = none → H U = none → T ≠ U → H' an = some (.tup [.int (one : Nat), .int (other : Nat), .ref T, .ref U, .int 0, .int e]) → H' T = some (.lst (xs.map V.int)) → H' U = some (.lst (ys.map V.int)) → xs.length ≤ 64 → ys.length ≤ 64 → Om.Shows k rows (one : Nat) (other : Nat) 0 e xs ys → Om.Told rows one other e xs ys → Q (.ref an) H'
  | _ => False
theorem scUnset : FnScope ["code", "graph", "layers", "walk", "places", "pair", "labels", "text", "turn"] ["code"] (defScope sUnset) := ⟨rfl, rfl, rfl, by decide +kernel, rfl, by decide +kernel, by decide +kernel⟩
local macro_rules | `(tactic| walk_at "T.n") => `(tactic| with_reducible first | exact vn "step" 0)
local macro_rules | `(tactic| walk_at "T.gn") => `(tactic| with_reducible first | exact gn "step" 0 (by with_unfolding_all assumption))
local macro_rules | `(tactic| walk_at "T.sc") => `(tactic| (have ndc : (["step"] : List Str).Nodup := (by decide +kernel)); ((with_reducible refine' s_comp "labels" 6 ["step"] [] ?b1 ?b0 ?b2 (fun cl C s H fp => ?b3) (fun cl C s H fp => ?b4) (fun cl C s H fp => ?b5)); (case b1 => exact ndc); (case b0 => assumption); (case b2 => walk_at "T.i"); (case b3 => walk_at "T.g"); (case b4 => walk_at "T.pf"); (case b5 => walk_at "T.e")))
local macro_rules | `(tactic| walk_at "T.n") => `(tactic| with_reducible first | exact vn "label" 0)
local macro_rules | `(tactic| walk_at "T.gn") => `(tactic| with_reducible first | exact gn "label" 0 (by with_unfolding_all assumption))
local macro_rules | `(tactic| walk_at "T.sc") => `(tactic| (have ndc : (["label"] : List Str).Nodup := (by decide +kernel)); ((with_reducible refine' s_comp "text" 7 ["label"] [] ?b1 ?b0 ?b2 (fun cl C s H fp => ?b3) (fun cl C s H fp => ?b4) (fun cl C s H fp => ?b5)); (case b1 => exact ndc); (case b0 => assumption); (case b2 => walk_at "T.i"); (case b3 => walk_at "T.g"); (case b4 => walk_at "T.pf"); (case b5 => walk_at "T.e")))
local macro_rules | `(tactic| walk_at "T.n") => `(tactic| with_reducible first | exact vn "label" 0)
local macro_rules | `(tactic| walk_at "T.gn") => `(tactic| with_reducible first | exact gn "label" 0 (by with_unfolding_all assumption))
local macro_rules | `(tactic| walk_at "T.sc") => `(tactic| (have ndc : (["label"] : List Str).Nodup := (by decide +kernel)); ((with_reducible refine' s_comp "turn" 8 ["label"] [] ?b1 ?b0 ?b2 (fun cl C s H fp => ?b3) (fun cl C s H fp => ?b4) (fun cl C s H fp => ?b5)); (case b1 => exact ndc); (case b0 => assumption); (case b2 => walk_at "T.i"); (case b3 => walk_at "T.g"); (case b4 => walk_at "T.pf"); (case b5 => walk_at "T.e")))
local macro_rules | `(tactic| walk_at "T.n") => `(tactic| with_reducible first | exact vn "code" 0 | exact vn "graph" 1 | exact vn "layers" 2 | exact vn "walk" 3 | exact vn "places" 4 | exact vn "pair" 5 | exact vn "labels" 6 | exact vn "text" 7 | exact vn "turn" 8)
local macro_rules | `(tactic| walk_at "T.gn") => `(tactic| with_reducible first | exact gn "graph" 1 (by with_unfolding_all assumption) | exact gn "layers" 2 (by with_unfolding_all assumption) | exact gn "walk" 3 (by with_unfolding_all assumption) | exact gn "places" 4 (by with_unfolding_all assumption) | exact gn "pair" 5 (by with_unfolding_all assumption) | exact gn "labels" 6 (by with_unfolding_all assumption) | exact gn "text" 7 (by with_unfolding_all assumption) | exact gn "turn" 8 (by with_unfolding_all assumption))
local macro_rules | `(tactic| walk_at "T.i") => `(tactic| ((with_reducible refine' it_rev ?a0 ?a9 ?a1); (case a0 => with_reducible assumption); (case a9 => rfl); (case a1 => walk_at "T.a")))
theorem ok_unset (D : FnX K mg "unsettled" sUnset ["code"]) (g1 : mg "reversed" = none) (c1 : Can P w K mg base "backward_graph" 3 ["code"] spBack) (c2 : Can P w K mg base "layers_of" 2 ["first", "graph"] spLayers) (c3 : Can P w K mg base "unlike_pairs" 1 ["graph"] spUnlP) (c4 : Can P w K mg base "comes_back" 1 ["layers", "graph"] spComes)
    (c5 : Can P w K mg base "longest_walk" 1 ["layers"] spWalk) (c6 : Can P w K mg base "first_return" 1 ["walk"] spFirst) : Can P w K mg base "unsettled" 4 ["code"] spUnset := by
  refine can_fn (k := 3) D scUnset (fun vs H Q E h => ?_) (fun f cdv A outer s H vs Q E hr h => ?_)
  all_goals
    unfold spUnset at h
    split at h
  · rfl
  · exact h.elim
  · rename_i cv
    obtain ⟨k, n, rows, hc, ok, qN, q⟩ := h
    have nd := scUnset.nd
    refine ⟨_, (by walk_at "T.top"), ?_⟩
    refine ⟨k, n, rows, hc, ok, fun gv H1 s1 g0 => ?_⟩
    obtain ⟨g1, gmem, gst⟩ := g0.x
    refine ⟨_, g1.k, fun uv H2 s2 l2 => ?_⟩
    have g2 := g1.mono s2
    obtain ⟨ga, go, gkvs, rfl, hga, gkd, _⟩ := g1
    have gl' : gkvs.length = rows.length * rows.length := by rw [gkd.len]; exact Om.all_len gkd.nd gmem
    have gl64 : gkvs.length ≤ 64 := by rw [gkd.len]; exact gkd.le
    have cl : ∀ p ∈ Om.keysL rows, ∀ s ∈ Om.backL rows p, s.2 ∈ Om.keysL rows := fun p hp s hs => by
      obtain ⟨h1, h2, _⟩ := (gst p hp s).mp hs
      exact (gmem _).mpr ⟨(ok.stp h1).1, (ok.stp h2).1⟩
    have hsub : ∀ p ∈ (Om.keysL rows).filter (fun p => decide (p.1 ≠ p.2)), p ∈ Om.keysL rows := fun p hp => (List.mem_filter.mp hp).1
    have hiter := Om.layK_iter (R := fun x y => Om.AllR rows x y ∧ x ≠ y) (E := Om.BSt rows) hsub cl (fun p => by rw [List.mem_filter, gmem, decide_eq_true_eq]) gst
    refine ⟨4096, _, _, _, l2, g2, hsub, cl, fun l vs H3 s3 nl h3 hv hne hle hend => ?_⟩
    refine ⟨vs, gkvs, h3, .inr ⟨go, (s2.trans s3) _ _ hga⟩, gl64, ?_⟩
    have hU : ∀ m, Om.layK (Om.backL rows) ((Om.keysL rows).filter fun p => decide (p.1 ≠ p.2)) m ≠ [] ↔ Om.Uns rows m := fun m => by
      refine Iff.trans ?_ (Om.back_iff ok m _ fun x y h => h.1)
      constructor
      · intro h
        obtain ⟨p, hp⟩ := List.exists_mem_of_ne_nil _ h
        exact ⟨p.1, p.2, (hiter m p).mp hp⟩
      · rintro ⟨x, y, h⟩ z
        have := (hiter m (x, y)).mpr h
        rw [z] at this; cases this
    rw [← gkd.len] at hle hend
    have s13 := (s1.trans s2).trans s3
    by_cases e : gkvs.length < vs.length
    · rw [decide_eq_true e]
      refine iteF ?_
      have vl : vs.length = gkvs.length + 1 := by omega
      have setN : Om.SetBy rows none := fun m hm => (hU m).mp (hne m (by omega))
      dsimp only [tNext]
      refine ⟨vs, _, _, gkvs.length, h3, vl, by omega, hv, hne _ (by omega), fun W ws nd' lb H4 s4 hW wl hws htop hit' hst' => ?_⟩
      have all : ∀ i, i ≤ gkvs.length → Om.AllR rows (nd' i).1 (nd' i).2 := fun i hi => (gmem _).mp (Om.layK_in hsub cl i _ (hit' i hi))
      have hit := fun i hi => (hiter i (nd' i)).mp (hit' i hi)
      have hst : ∀ i, i < gkvs.length → Om.BSt rows (nd' i).1 (nd' i).2 (lb (i + 1), nd' (i + 1)) := fun i hi => by
        obtain ⟨k1, k2⟩ := Om.lay_step (hst' i hi)
        exact (gst _ (Om.layK_in hsub cl i _ k1) _).mp k2
      have pig := Om.pigeon (nd := nd') (m := gkvs.length) (by omega) all
      have s8 := ok.s8
      refine ⟨ws, nd', lb, gkvs.length, hW, wl, by omega, hws, fun i hi => ⟨by have := (all i hi).1; omega, by have := (all i hi).2; omega⟩, pig, fun pt i0 j H5 s5 ij jm eij ndj hpt => ?_⟩
      have s15 := s13.trans (s4.trans s5)
      dsimp only [gName]
      have hW5 := s5 _ _ hW
      have hj : j < ws.length := by omega
      obtain ⟨a, p0, p1, n', ea, ha, hn, _⟩ := hws j ws[j] (List.getElem?_eq_getElem hj)
      refine ⟨_, gt hpt (by decide) rfl, .ref a, gl hW5 (by omega) (by rw [Int.toNat_natCast, List.getElem?_eq_getElem hj, ea]), ?_⟩
      refine ⟨_, gt (s5 _ _ ha) (by decide) rfl, ?_⟩
      have hn5 := s5 _ _ hn
      have hws5 : ∀ i v, ws[i]? = some v → StepW H5 (nd' i) (lb i) i v := fun i v h => (hws i v h).mono s5
      dsimp only [gName]
      refine ⟨_, gt hpt (by decide) rfl, _, hW5, fun S hS => ?_⟩
      have ec : cutV ws (some 1) (some (((j : Nat) : Int) + 1)) = (ws.drop 1).take j := by
        have := cut_gen ws 1 (j + 1)
        rw [show ((1 : Nat) : Int) = 1 from rfl, show ((j + 1 : Nat) : Int) = ((j : Nat) : Int) + 1 by omega, Nat.add_sub_cancel] at this
        exact this
      rw [ec]
      have sl : ((ws.drop 1).take j).length = j := by rw [List.length_take, List.length_drop]; omega
      have u6 := Same.upd (o := .lst ((ws.drop 1).take j)) hS
      have hS6 : upd H5 S (.lst ((ws.drop 1).take j)) S = some (.lst ((ws.drop 1).take j)) := upd_same
      generalize upd H5 S (.lst ((ws.drop 1).take j)) = H6 at *
      refine ⟨_, SqL.of hS6, fun C hC => ?_⟩
      refine comp_by (it_revL _ S ((ws.drop 1).take j)) (fun t τ H7 ys => (∃ v, τ = [v]) ∧ H7 = upd H6 C (.lst ys) ∧ ys.length = t ∧ ∀ u, u < t → ∃ la, ys[u]? = some (.ref la) ∧ H5 la = some (.tup [.int ((lb (j - u)).1 : Nat), .int ((lb (j - u)).2 : Nat)])) (by rw [List.length_reverse, sl]; exact le_line (by omega))
        ⟨⟨none, rfl⟩, rfl, rfl, (fun u hu => absurd hu (Nat.not_lt_zero _))⟩ ?_ ?_ ?_
      · rintro t τ H7 ys ht ⟨_, rfl, yl, _⟩
        exact ⟨SqL.of (Same.upd hC _ _ hS6), upd_same, by omega⟩
      · rintro t x τ H7 ys ht hx ⟨⟨v, rfl⟩, rfl, yl, hys⟩
        have ht' : t < j := by rw [List.length_reverse, sl] at ht; exact ht
        have hx' : ws[j - t]? = some x := by
          rw [List.getElem?_reverse (by rw [sl]; exact ht'), sl, List.getElem?_take_of_lt (by omega), List.getElem?_drop] at hx
          rw [show 1 + (j - 1 - t) = j - t by omega] at hx
          exact hx
        obtain ⟨a', q0, q1, n2, rfl, ha', hn', hlab⟩ := hws5 _ x hx'
        obtain ⟨la, rfl, hla⟩ := hlab (by omega)
        refine ⟨_, gt (Same.upd hC _ _ (u6 _ _ ha')) (by decide) rfl, ?_⟩
        refine ⟨upd_same, ⟨_, rfl⟩, upd_upd, by rw [List.length_append, yl]; rfl, fun u hu => ?_⟩
        by_cases c : u = t
        · subst c
          exact ⟨la, by rw [List.getElem?_append_right (by omega), yl, Nat.sub_self]; rfl, hla⟩
        · obtain ⟨la', k1, k2⟩ := hys u (by omega)
          exact ⟨la', by rw [List.getElem?_append_left (by omega)]; exact k1, k2⟩
      · rintro τ H7 ys ⟨_, rfl, yl, hys⟩
        rw [List.length_reverse, sl] at yl hys
        have u7 := u6.trans (Same.upd (o := .lst ys) hC)
        have hC7 : upd H6 C (.lst ys) C = some (.lst ys) := upd_same
        generalize upd H6 C (.lst ys) = H7 at *
        dsimp only [gName]
        refine ⟨⟨_, SqL.of hC7⟩, fun T hT => ?_⟩
        refine comp_by (it_list _ C ys) (fun t τ H8 zs => (∃ v, τ = [v]) ∧ H8 = upd H7 T (.lst zs) ∧ zs = ((((Om.labL lb j).take t).map (·.1)).map fun l => ((l : Nat) : Int)).map V.int) (by rw [yl]; exact le_line (by omega)) ⟨⟨none, rfl⟩, rfl, rfl⟩ ?_ ?_ ?_
        · rintro t τ H8 zs ht ⟨_, rfl, rfl⟩
          exact ⟨SqL.of (Same.upd hT _ _ hC7), upd_same, by simp; omega⟩
        · rintro t x τ H8 zs ht hx ⟨⟨v, rfl⟩, rfl, rfl⟩
          have ht' : t < j := by omega
          obtain ⟨la, k1, k2⟩ := hys t ht'
          rw [hx] at k1
          cases k1
          refine ⟨_, gt (Same.upd hT _ _ (u7 _ _ k2)) (by decide) rfl, ?_⟩
          refine ⟨upd_same, ⟨_, rfl⟩, upd_upd, ?_⟩
          rw [List.take_add_one, Om.labL_at ht', List.map_append, List.map_append, List.map_append]; rfl
        · rintro τ H8 zs ⟨_, rfl, rfl⟩
          rw [yl, List.take_of_length_le (by rw [Om.labL_len]; exact Nat.le_refl _)]
          have u8 := u7.trans (Same.upd (o := .lst ((((Om.labL lb j).map (·.1)).map fun l => ((l : Nat) : Int)).map V.int)) hT)
          have hT8 : upd H7 T (.lst ((((Om.labL lb j).map (·.1)).map fun l => ((l : Nat) : Int)).map V.int)) T = some (.lst ((((Om.labL lb j).map (·.1)).map fun l => ((l : Nat) : Int)).map V.int)) := upd_same
          have hC8 := Same.upd (o := .lst ((((Om.labL lb j).map (·.1)).map fun l => ((l : Nat) : Int)).map V.int)) hT _ _ hC7
          have nT : H T = none := (s15.trans u7).free hT
          generalize upd H7 T (.lst ((((Om.labL lb j).map (·.1)).map fun l => ((l : Nat) : Int)).map V.int)) = H8 at *
          dsimp only [gName]
          refine ⟨⟨_, SqL.of hC8⟩, fun U hU' => ?_⟩
          refine comp_by (it_list _ C ys) (fun t τ H9 zs => (∃ v, τ = [v]) ∧ H9 = upd H8 U (.lst zs) ∧ zs = ((((Om.labL lb j).take t).map (·.2)).map fun l => ((l : Nat) : Int)).map V.int) (by rw [yl]; exact le_line (by omega)) ⟨⟨none, rfl⟩, rfl, rfl⟩ ?_ ?_ ?_
          · rintro t τ H9 zs ht ⟨_, rfl, rfl⟩
            exact ⟨SqL.of (Same.upd hU' _ _ hC8), upd_same, by simp; omega⟩
          · rintro t x τ H9 zs ht hx ⟨⟨v, rfl⟩, rfl, rfl⟩
            have ht' : t < j := by omega
            obtain ⟨la, k1, k2⟩ := hys t ht'
            rw [hx] at k1
            cases k1
            refine ⟨_, gt (Same.upd hU' _ _ (u8 _ _ k2)) (by decide) rfl, ?_⟩
            refine ⟨upd_same, ⟨_, rfl⟩, upd_upd, ?_⟩
            rw [List.take_add_one, Om.labL_at ht', List.map_append, List.map_append, List.map_append]; rfl
          · rintro τ H9 zs ⟨_, rfl, rfl⟩
            rw [yl, List.take_of_length_le (by rw [Om.labL_len]; exact Nat.le_refl _)]
            have u9 := u8.trans (Same.upd (o := .lst ((((Om.labL lb j).map (·.2)).map fun l => ((l : Nat) : Int)).map V.int)) hU')
            have hU9 : upd H8 U (.lst ((((Om.labL lb j).map (·.2)).map fun l => ((l : Nat) : Int)).map V.int)) U = some (.lst ((((Om.labL lb j).map (·.2)).map fun l => ((l : Nat) : Int)).map V.int)) := upd_same
            have hT9 := Same.upd (o := .lst ((((Om.labL lb j).map (·.2)).map fun l => ((l : Nat) : Int)).map V.int)) hU' _ _ hT8
            have nU : H U = none := (s15.trans u8).free hU'
            have TU : T ≠ U := ne_of_none hT8 hU'
            generalize upd H8 U (.lst ((((Om.labL lb j).map (·.2)).map fun l => ((l : Nat) : Int)).map V.int)) = H9 at *
            dsimp only [gName]
            have hn9 : H9 n' = some (.tup [.int ((nd' j).1 : Nat), .int ((nd' j).2 : Nat)]) := u9 _ _ hn5
            refine ⟨_, gt hn9 (by decide) rfl, _, gt hn9 (by decide) rfl, _, gt (u9 _ _ hpt) (by decide) rfl, _, gt (u9 _ _ hpt) (by decide) rfl, le_line (Nat.le_of_ble_eq_true rfl), fun an han => ?_⟩
            have uA := Same.upd (o := .tup [.int ((nd' j).1 : Nat), .int ((nd' j).2 : Nat), .ref T, .ref U, .int 0, .int (((j : Nat) : Int) - ((i0 : Nat) : Int))]) han
            refine q an T U (nd' j).1 (nd' j).2 _ _ _ _ ((s15.trans u9).trans uA) setN nT nU TU upd_same (uA _ _ hT9) (uA _ _ hU9) (by simp [Om.labL_len]; omega) (by simp [Om.labL_len]; omega) ?_ ⟨nd', lb, i0, j, _, rfl, ⟨by rw [← gkd.len]; exact htop, by rw [← gkd.len]; exact hst'⟩, ij, by rw [← gkd.len]; exact jm, eij, ndj, rfl, rfl, by omega, rfl, rfl⟩
            have := Om.shows_walk ok (nd := nd') (lb := lb) (j := j) ij (fun i hi => ?_) eij (hit 0 (Nat.zero_le _)).2
            · rw [show ((j : Nat) : Int) - ((i0 : Nat) : Int) = ((j - i0 : Nat) : Int) by omega]; exact this
            · exact hst i (by omega)
    · rw [decide_eq_false e]
      refine iteP rfl ?_
      refine qN vs.length _ s13 ⟨by omega, fun m hm => (hU m).mp (hne m hm), fun h => ?_⟩
      have h' := (hU _).mpr h
      rcases hend with z | z
      · omega
      · exact h' z
  · exact h.elim
end

end K31
end
section
set_option Elab.async false
set_option linter.all false
set_option maxRecDepth 100000
set_option maxHeartbeats 4000000
namespace K31
open PySem L2
section
variable {P : Program} {w : World} {K : PySem.W.Frag} {mg : Str → Option Value} {base : Heap}
abbrev sSettles : Stmt := top 27
def spSettles : Sp := fun vs H Q _ => match vs with
  | [cv] => ∃ (k n : Nat) (rows : Om.Rows), DV H cv (codeD k n rows) ∧ Om.CodeOk k n rows ∧ ∀ (r : Option Nat) H', Same H H' → Om.SetBy rows r → Q (optV r) H'
  | _ => False
theorem scSettles : FnScope ["code", "graph", "layers"] ["code"] (defScope sSettles) := ⟨rfl, rfl, rfl, by decide +kernel, rfl, by decide +kernel, by decide +kernel⟩
local macro_rules | `(tactic| walk_at "T.n") => `(tactic| with_reducible first | exact vn "code" 0 | exact vn "graph" 1 | exact vn "layers" 2)
local macro_rules | `(tactic| walk_at "T.gn") => `(tactic| with_reducible first | exact gn "graph" 1 (by with_unfolding_all assumption) | exact gn "layers" 2 (by with_unfolding_all assumption))
local macro_rules | `(tactic| walk_at "T.c") => `(tactic| ((with_reducible refine' pe_ifExp ?a1 ?a2 ?a3); (case a1 => walk_at "T.t"); (case a2 => walk_at "T.e"); (case a3 => walk_at "T.e")))
theorem ok_settles (D : FnX K mg "settles" sSettles ["code"]) (g1 : mg "len" = none) (c1 : Can P w K mg base "backward_graph" 3 ["code"] spBack) (c2 : Can P w K mg base "layers_of" 2 ["first", "graph"] spLayers) (c3 : Can P w K mg base "unlike_pairs" 1 ["graph"] spUnlP) (c4 : Can P w K mg base "comes_back" 1 ["layers", "graph"] spComes) : Can P w K mg base "settles" 4 ["code"] spSettles := by
  refine can_fn (k := 3) D scSettles (fun vs H Q E h => ?_) (fun f cdv A outer s H vs Q E hr h => ?_)
  all_goals
    unfold spSettles at h
    split at h
  · rfl
  · exact h.elim
  · rename_i cv
    obtain ⟨k, n, rows, hc, ok, q⟩ := h
    have nd := scSettles.nd
    refine ⟨_, (by walk_at "T.top"), ?_⟩
    refine ⟨k, n, rows, hc, ok, fun gv H1 s1 g0 => ?_⟩
    obtain ⟨g1, gmem, gst⟩ := g0.x
    refine ⟨_, g1.k, fun uv H2 s2 l2 => ?_⟩
    have g2 := g1.mono s2
    obtain ⟨ga, go, gkvs, rfl, hga, gkd, _⟩ := g1
    have gl' : gkvs.length = rows.length * rows.length := by rw [gkd.len]; exact Om.all_len gkd.nd gmem
    have gl64 : gkvs.length ≤ 64 := by rw [gkd.len]; exact gkd.le
    have cl : ∀ p ∈ Om.keysL rows, ∀ s ∈ Om.backL rows p, s.2 ∈ Om.keysL rows := fun p hp s hs => by
      obtain ⟨h1, h2, _⟩ := (gst p hp s).mp hs
      exact (gmem _).mpr ⟨(ok.stp h1).1, (ok.stp h2).1⟩
    have hsub : ∀ p ∈ (Om.keysL rows).filter (fun p => decide (p.1 ≠ p.2)), p ∈ Om.keysL rows := fun p hp => (List.mem_filter.mp hp).1
    have hiter := Om.layK_iter (R := fun x y => Om.AllR rows x y ∧ x ≠ y) (E := Om.BSt rows) hsub cl (fun p => by rw [List.mem_filter, gmem, decide_eq_true_eq]) gst
    refine ⟨4096, _, _, _, l2, g2, hsub, cl, fun l vs H3 s3 nl h3 hv hne hle hend => ?_⟩
    refine ⟨vs, gkvs, h3, .inr ⟨go, (s2.trans s3) _ _ hga⟩, gl64, ?_⟩
    have hU : ∀ m, Om.layK (Om.backL rows) ((Om.keysL rows).filter fun p => decide (p.1 ≠ p.2)) m ≠ [] ↔ Om.Uns rows m := fun m => by
      refine Iff.trans ?_ (Om.back_iff ok m _ fun x y h => h.1)
      constructor
      · intro h
        obtain ⟨p, hp⟩ := List.exists_mem_of_ne_nil _ h
        exact ⟨p.1, p.2, (hiter m p).mp hp⟩
      · rintro ⟨x, y, h⟩ z
        have := (hiter m (x, y)).mpr h
        rw [z] at this; cases this
    rw [← gkd.len] at hle hend
    have s13 := (s1.trans s2).trans s3
    dsimp only [tIf, tTru, tCan, tCons, tNil, tV]
    by_cases e : gkvs.length < vs.length
    · rw [decide_eq_true e]
      refine iteP rfl ?_
      refine q none _ s13 ?_
      intro m hm
      exact (hU m).mp (hne m (by omega))
    · rw [decide_eq_false e]
      refine iteF ?_
      refine ⟨_, lenL h3, ?_⟩
      refine q (some vs.length) _ s13 ⟨by omega, fun m hm => (hU m).mp (hne m hm), fun h => ?_⟩
      have z1 := (hU _).mpr h
      rcases hend with z | z
      · omega
      · exact z1 z
  · exact h.elim
end

end K31
end
section
set_option Elab.async false
set_option linter.all false
set_option maxRecDepth 100000
set_option maxHeartbeats 4000000
namespace K31
open PySem L2
section
variable {P : Program} {w : World} {K : PySem.W.Frag} {mg : Str → Option Value} {base : Heap}
def WL (H : Hp) (v : V) (cs : List (List Bool)) : Prop := ∃ l, v = .ref l ∧ H l = some (.lst (cs.map fun c => V.str (bs c)))
theorem WL.mono {H H' : Hp} {v : V} {cs : List (List Bool)} (h : WL H v cs) (s : Same H H') : WL H' v cs := let ⟨l, e, h1⟩ := h; ⟨l, e, s _ _ h1⟩
abbrev sWordsOf : Stmt := top 8
def spWordsOf : Sp := fun vs H Q _ => match vs with
  | [.str z, .int n0] => ∃ (cs : List (List Bool)) (n : Nat), z = bs cs.flatten ∧ n0 = (n : Nat) ∧ 1 ≤ n ∧ n ≤ 6 ∧ cs.length ≤ 320 ∧ (∀ c ∈ cs, c.length = n) ∧ ∀ v H', Same H H' → WL H' v cs → Q v H'
  | _ => False
theorem scWordsOf : FnScope ["wire", "n"] ["wire", "n"] (defScope sWordsOf) := ⟨rfl, rfl, rfl, by decide +kernel, rfl, by decide +kernel, by decide +kernel⟩
local macro_rules | `(tactic| walk_at "T.n") => `(tactic| with_reducible first | exact vn "place" 0 | exact vn "wire" 1 | exact vn "n" 2)
local macro_rules | `(tactic| walk_at "T.gn") => `(tactic| with_reducible first | exact gn "place" 0 (by with_unfolding_all assumption))
local macro_rules | `(tactic| walk_at "T.c") => `(tactic| (have ndc : (["place", "wire", "n"] : List Str).Nodup := (by decide +kernel)); ((with_reducible refine' c_comp ["place", "wire", "n"] [0, 1] ?b1 ?b2 (fun cl C s H fp => ?b3) (fun cl C s H fp => ?b4) (fun cl C s H fp => ?b5)); (case b1 => exact ndc); (case b2 => walk_at "T.i"); (case b3 => walk_at "T.g"); (case b4 => walk_at "T.pf"); (case b5 => walk_at "T.e")))
local macro_rules | `(tactic| walk_at "T.n") => `(tactic| with_reducible first | exact vn "wire" 0 | exact vn "n" 1)
theorem ok_wordsOf (D : FnX K mg "words_of" sWordsOf ["wire", "n"]) (g1 : mg "range" = none) (g2 : mg "len" = none) : Can P w K mg base "words_of" 1 ["wire", "n"] spWordsOf := by
  refine can_fn (k := 0) D scWordsOf (fun vs H Q E h => ?_) (fun f cdv A outer s H vs Q E hr h => ?_)
  all_goals
    unfold spWordsOf at h
    split at h
  · rfl
  · exact h.elim
  · rename_i z n0
    obtain ⟨cs, n, rfl, rfl, n1, n6, l320, hc, q⟩ := h
    have nd := scWordsOf.nd
    have fl := Om.flatB_len hc
    have big : cs.length * n ≤ 320 * 6 := Nat.mul_le_mul l320 n6
    refine ⟨_, (by walk_at "T.top1"), ?_⟩
    have rs : (Builtin.Range.rangeSize 0 ((cs.flatten.length : Nat) : Int) (n : Int)).toNat = cs.length := by
      unfold Builtin.Range.rangeSize
      rw [fl]
      rcases Nat.eq_zero_or_pos cs.length with e0 | e0
      · rw [e0]
        simp
      · have hL : (0 : Int) < ((cs.length * n : Nat) : Int) := by have : 0 < cs.length * n := Nat.mul_pos e0 n1; omega
        rw [if_pos (by omega), if_pos hL]
        push_cast
        have : n = 1 ∨ n = 2 ∨ n = 3 ∨ n = 4 ∨ n = 5 ∨ n = 6 := by omega
        rcases this with rfl | rfl | rfl | rfl | rfl | rfl <;> omega
    refine ⟨_, lenS (by rw [fl]; exact le_lineB (by omega)), ⟨by omega, by omega, by omega, by omega, by omega, by omega, by omega⟩, fun C hC => ?_⟩
    rw [rs]
    refine comp_by (it_rangeS 0 (n : Int) cs.length) (fun i τ H2 ys => (∃ v, τ = [v, some (.str (bs cs.flatten)), some (.int (n : Nat))]) ∧ H2 = upd H C (.lst ys) ∧ ys = (cs.take i).map fun c => V.str (bs c)) (by simp; exact le_line (by omega)) ⟨⟨none, rfl⟩, rfl, rfl⟩ ?_ ?_ ?_
    · rintro i τ H2 ys hi ⟨_, rfl, rfl⟩
      exact ⟨trivial, upd_same, by rw [List.length_map, List.length_take]; exact Nat.min_le_left _ _⟩
    · rintro i x τ H2 ys hi hx ⟨⟨v, rfl⟩, rfl, rfl⟩
      have hi' : i < cs.length := by simpa using hi
      have ex : x = .int ((i * n : Nat) : Int) := by
        rw [List.getElem?_map, List.getElem?_range hi'] at hx
        have := (Option.some.inj hx).symm
        rw [this]; show V.int (0 + (i : Int) * (n : Int)) = _; rw [Int.zero_add, Int.natCast_mul]
      subst ex
      have e3 : i * n + n ≤ cs.length * n := by
        have := Nat.mul_le_mul_right n (show i + 1 ≤ cs.length from hi')
        rw [Nat.add_mul, Nat.one_mul] at this
        exact this
      refine ⟨by rw [bs_len, fl]; exact le_lineB (by omega), ?_⟩
      have ti : cs.take (i + 1) = cs.take i ++ [cs[i]] := by rw [List.take_add_one, List.getElem?_eq_getElem hi']; rfl
      have ec : Txt.slice (bs cs.flatten) (some ((i * n : Nat) : Int)) (some (((i * n : Nat) : Int) + ((n : Nat) : Int))) = bs cs[i] := by
        rw [bs_mid (by omega) (by omega) (by rw [fl]; omega), Int.toNat_natCast, show (((i * n : Nat) : Int) + ((n : Nat) : Int) - ((i * n : Nat) : Int)).toNat = n by omega, Om.flatB_at cs i hc hi']
      refine ⟨upd_same, ⟨_, rfl⟩, upd_upd, ?_⟩
      rw [ti, List.map_append]
      congr 1
      exact congrArg (fun z => [V.str z]) ec
    · rintro τ H2 ys ⟨_, rfl, rfl⟩
      rw [List.length_map, List.length_range, List.take_length]
      exact q _ _ (Same.upd hC) ⟨C, rfl, upd_same⟩
  · exact h.elim
end
section
variable {P : Program} {w : World} {K : PySem.W.Frag} {mg : Str → Option Value} {base : Heap}
abbrev sWord : Stmt := top 18
def spWord : Sp := fun vs H Q _ => match vs with
  | [.str z, .int n] => ∃ w : List Bool, z = bs w ∧ w.length ≤ 1000 ∧ (w.length : Int) = n ∧ Q (.bl true) H
  | _ => False
theorem scWord : FnScope ["thing", "n"] ["thing", "n"] (defScope sWord) := ⟨rfl, rfl, rfl, by decide +kernel, rfl, by decide +kernel, by decide +kernel⟩
local macro_rules | `(tactic| walk_at "T.n") => `(tactic| with_reducible first | exact vn "thing" 0 | exact vn "n" 1)
theorem ok_word (D : FnX K mg "is_word" sWord ["thing", "n"]) (g1 : mg "isinstance" = none) (g2 : mg "str" = none) (g3 : mg "len" = none) : Can P w K mg base "is_word" 1 ["thing", "n"] spWord := by
  refine can_fn (k := 0) D scWord (fun vs H Q E h => ?_) (fun f cdv A outer s H vs Q E hr h => ?_)
  all_goals
    unfold spWord at h
    split at h
  · rfl
  · exact h.elim
  · rename_i z n
    obtain ⟨w', rfl, hl, rfl, q⟩ := h
    have nd := scWord.nd
    refine ⟨_, (by walk_at "T.top1"), ?_⟩
    refine ⟨"str", rfl, by decide, ?_⟩
    refine iteP (by decide) ?_
    refine ⟨_, lenS (le_line hl), ?_⟩
    refine iteP (decide_eq_true rfl) ?_
    refine ⟨rfl, by rw [bs_len]; exact le_line hl, ?_⟩
    show Q (.bl (decide (Txt.stripChars (bs w') ("01" : Str) = ("" : Str)))) H
    rw [decide_eq_true (show Txt.stripChars (bs w') ("01" : Str) = ("" : Str) by rw [strip01, bs_nil])]
    exact q
  · exact h.elim
abbrev sGiven : Stmt := top 21
def spGiven : Sp := fun vs H Q _ => match vs with
  | [cv, .str z] => ∃ (cs : List (List Bool)) (k n : Nat) (rows : Om.Rows), DV H cv (codeD k n rows) ∧ Om.CodeOk k n rows ∧ z = bs cs.flatten ∧ cs.length ≤ 320 ∧ (∀ c ∈ cs, c.length = n) ∧ ∀ v H', Same H H' → WL H' v cs → Q v H'
  | _ => False
theorem scGiven : FnScope ["code", "wire"] ["code", "wire"] (defScope sGiven) := ⟨rfl, rfl, rfl, by decide +kernel, rfl, by decide +kernel, by decide +kernel⟩
local macro_rules | `(tactic| walk_at "T.n") => `(tactic| with_reducible first | exact vn "code" 0 | exact vn "wire" 1)
theorem ok_given (D : FnX K mg "given_words" sGiven ["code", "wire"]) (g1 : mg "isinstance" = none) (g2 : mg "str" = none) (c1 : Can P w K mg base "words_of" 1 ["wire", "n"] spWordsOf) : Can P w K mg base "given_words" 2 ["code", "wire"] spGiven := by
  refine can_fn (k := 1) D scGiven (fun vs H Q E h => ?_) (fun f cdv A outer s H vs Q E hr h => ?_)
  all_goals
    unfold spGiven at h
    split at h
  · rfl
  · exact h.elim
  · rename_i cv z
    obtain ⟨cs, k, n, rows, hc, ok, rfl, l320, hn, q⟩ := h
    have nd := scGiven.nd
    obtain ⟨a, b, ss, rfl, ha, hb, hss⟩ := code_inv hc
    refine ⟨_, (by walk_at "T.top"), ?_⟩
    refine ⟨"str", rfl, by decide, iteF ?_⟩
    refine ⟨_, gt ha (by decide) rfl, ?_⟩
    exact ⟨cs, n, rfl, rfl, ok.n1, ok.n6, l320, hn, q⟩
  · exact h.elim
abbrev sWholeW : Stmt := top 24
def spWholeW : Sp := fun vs H Q _ => match vs with
  | [cv, .str z] => ∃ (cs : List (List Bool)) (k n : Nat) (rows : Om.Rows), DV H cv (codeD k n rows) ∧ Om.CodeOk k n rows ∧ z = bs cs.flatten ∧ cs.length ≤ 320 ∧ (∀ c ∈ cs, c.length = n) ∧ ∀ v H', Same H H' → WL H' v cs → Q v H'
  | _ => False
theorem scWholeW : FnScope ["code", "wire", "words", "at", "word"] ["code", "wire"] (defScope sWholeW) := ⟨rfl, rfl, rfl, by decide +kernel, rfl, by decide +kernel, by decide +kernel⟩
local macro_rules | `(tactic| walk_at "T.n") => `(tactic| with_reducible first | exact vn "code" 0 | exact vn "wire" 1 | exact vn "words" 2 | exact vn "at" 3 | exact vn "word" 4)
local macro_rules | `(tactic| walk_at "T.gn") => `(tactic| with_reducible first | exact gn "words" 2 (by with_unfolding_all assumption) | exact gn "at" 3 (by with_unfolding_all assumption) | exact gn "word" 4 (by with_unfolding_all assumption))
theorem ok_wholeW (D : FnX K mg "whole_words" sWholeW ["code", "wire"]) (g1 : mg "enumerate" = none) (c1 : Can P w K mg base "given_words" 2 ["code", "wire"] spGiven) (c2 : Can P w K mg base "is_word" 1 ["thing", "n"] spWord) : Can P w K mg base "whole_words" 3 ["code", "wire"] spWholeW := by
  refine can_fn (k := 2) D scWholeW (fun vs H Q E h => ?_) (fun f cdv A outer s H vs Q E hr h => ?_)
  all_goals
    unfold spWholeW at h
    split at h
  · rfl
  · exact h.elim
  · rename_i cv z
    obtain ⟨cs, k, n, rows, hc, ok, rfl, l320, hn, q⟩ := h
    have nd := scWholeW.nd
    obtain ⟨a, b, ss, rfl, ha, hb, hss⟩ := code_inv hc
    refine ⟨_, (by walk_at "T.top"), ?_⟩
    refine ⟨cs, k, n, rows, hc, ok, rfl, l320, hn, fun v H1 s1 wl => ?_⟩
    obtain ⟨l, rfl, hl⟩ := wl
    refine ⟨⟨_, SqL.of hl⟩, ?_⟩
    refine for_pr (it_enumP _ l _) (fun i σ H2 => ∃ (v3 v4 : Option V), σ = [some (.ref a), some (.str (bs cs.flatten)), some (.ref l), v3, v4] ∧ Same H1 H2)
      ⟨none, none, rfl, Same.refl _⟩ (fun i σ H2 _ ⟨_, _, _, s⟩ => s _ _ hl) ?_ ?_
    · rintro i t σ H2 hi ⟨v3, v4, rfl, s2⟩ ht
      have hi' : i < cs.length := by simpa using hi
      have er : (cs.map fun c => V.str (bs c)).getD i .non = .str (bs cs[i]) := by simp [List.getD_eq_getElem?_getD, hi']
      dsimp only
      rw [er]
      refine ⟨_, .inl upd_same, rfl, rfl, ?_⟩
      have s3 := s2.trans (Same.upd (o := .tup [.int (i : Nat), .str (bs cs[i])]) ht)
      have lc := hn _ (List.getElem_mem hi')
      refine ⟨_, gt ((s1.trans s3) _ _ ha) (by decide) rfl, ?_⟩
      have n6 := ok.n6
      refine ⟨cs[i], rfl, by omega, by rw [lc], ?_⟩
      refine iteF ?_
      exact ⟨_, _, rfl, s3⟩
    · rintro σ H2 ⟨v3, v4, rfl, s2⟩
      exact q _ _ (s1.trans s2) ⟨l, rfl, s2 _ _ hl⟩
  · exact h.elim
end

end K31
end
section
set_option Elab.async false
set_option linter.all false
set_option maxRecDepth 100000
set_option maxHeartbeats 4000000
namespace K31
open PySem L2
section
variable {P : Program} {w : World} {K : PySem.W.Frag} {mg : Str → Option Value} {base : Heap}
def SOl (H : Hp) (l : Addr) (S : Om.Sn) : Prop := ∃ ns : List Nat, H l = some (.lst (ns.map fun i => V.int (i : Nat))) ∧ ns.Pairwise (· < ·) ∧ (∀ x ∈ ns, x < 8) ∧ ∀ x, x ∈ ns ↔ S x
theorem SOl.mono {H H' : Hp} {l : Addr} {S : Om.Sn} (h : SOl H l S) (s : Same H H') : SOl H' l S := by
  obtain ⟨ns, h1, h2⟩ := h
  exact ⟨ns, s _ _ h1, h2⟩
theorem rise_len {ns : List Nat} (h : ns.Pairwise (· < ·)) (h8 : ∀ x ∈ ns, x < 8) : ns.length ≤ 8 := by
  have := List.Nodup.length_le_of_subset (h.imp fun z => Nat.ne_of_lt z) (fun p hp => List.mem_range.mpr (h8 p hp) : ns ⊆ List.range 8)
  simpa using this
abbrev sBehW : Stmt := top 26
def spBehW : Sp := fun vs H Q _ => match vs with
  | [cv, .ref sl, .str z] => ∃ (k n : Nat) (rows : Om.Rows) (S : Om.Sn) (wd : List Bool), DV H cv (codeD k n rows) ∧ Om.CodeOk k n rows ∧ SOl H sl S ∧ (∀ x, S x → x < rows.length) ∧ z = bs wd ∧ ∀ l H', Same H H' → H l = none → SOl H' l (Om.aft rows S wd) → Q (.ref l) H'
  | _ => False
theorem scBehW : FnScope ["code", "states", "word", "behind", "state", "row"] ["code", "states", "word"] (defScope sBehW) := ⟨rfl, rfl, rfl, by decide +kernel, rfl, by decide +kernel, by decide +kernel⟩
local macro_rules | `(tactic| walk_at "T.n") => `(tactic| with_reducible first | exact vn "code" 0 | exact vn "states" 1 | exact vn "word" 2 | exact vn "behind" 3 | exact vn "state" 4 | exact vn "row" 5)
local macro_rules | `(tactic| walk_at "T.gn") => `(tactic| with_reducible first | exact gn "behind" 3 (by with_unfolding_all assumption) | exact gn "state" 4 (by with_unfolding_all assumption) | exact gn "row" 5 (by with_unfolding_all assumption))
local macro_rules | `(tactic| walk_at "T.e") => `(tactic| (with_reducible exact pe_dnewK))
local macro_rules | `(tactic| walk_at "T.g") => `(tactic| ((with_reducible refine' g_subD ?a0 ?a1 ?a2); (case a0 => exact Room.units (by assumption)); (case a1 => walk_at "T.e"); (case a2 => walk_at "T.e")))
local macro_rules | `(tactic| walk_at "T.b") => `(tactic| ((with_reducible refine' fn_sortedD ?a0 ?a9 ?a1); (case a0 => with_reducible assumption); (case a9 => rfl); (case a1 => walk_at "T.a")))
theorem perm_nat : ∀ {ms : List Int} {ks : List Nat}, ms.Perm (ks.map fun i => ((i : Nat) : Int)) → ∃ ns : List Nat, ms = ns.map (fun i => ((i : Nat) : Int)) ∧ ns.Perm ks := fun {ms ks} h => by
  have e : ms = (ms.map Int.toNat).map fun i => ((i : Nat) : Int) := by
    rw [List.map_map]
    have : ∀ m ∈ ms, 0 ≤ m := fun m hm => by
      obtain ⟨i, _, rfl⟩ := List.mem_map.mp (h.mem_iff.mp hm)
      omega
    conv => lhs; rw [← List.map_id ms]
    apply List.map_congr_left
    intro m hm
    have := this m hm
    simp only [id, Function.comp]
    omega
  refine ⟨ms.map Int.toNat, e, ?_⟩
  have := h.map Int.toNat
  rw [List.map_map] at this
  have e2 : ks.map (Int.toNat ∘ fun i => ((i : Nat) : Int)) = ks := by
    conv => rhs; rw [← List.map_id ks]
    apply List.map_congr_left
    intro m _
    simp
  rw [e2] at this
  exact this
theorem ok_behW (D : FnX K mg "states_behind_word" sBehW ["code", "states", "word"]) (g1 : mg "sorted" = none) : Can P w K mg base "states_behind_word" 1 ["code", "states", "word"] spBehW := by
  refine can_fn (k := 0) D scBehW (fun vs H Q E h => ?_) (fun f cdv A outer s H vs Q E hr h => ?_)
  all_goals
    unfold spBehW at h
    split at h
  · rfl
  · exact h.elim
  · rename_i cv sl z
    obtain ⟨k, n, rows, S, wd, hc, ok, ⟨ns, hsl, nr, nb, hns⟩, hS, rfl, q⟩ := h
    have n8 := rise_len nr nb
    have nd := scBehW.nd
    have s8 := ok.s8
    obtain ⟨a, b, ss, rfl, ha, hb, hss⟩ := code_inv hc
    refine ⟨_, (by walk_at "T.top"), ?_⟩
    intro D hD
    have M0 := Gk.start hD
    refine ⟨⟨_, SqL.of (M0.all _ _ hsl)⟩, ?_⟩
    refine for_by (it_list _ sl _) (fun i σ H2 => ∃ (v4 v5 : Option V) (G : Hp) (kvs : List (Key × V)) (ks : List Nat), σ = [some (.ref a), some (.ref sl), some (.str (bs wd)), some (.ref D), v4, v5] ∧ Gk G H H2 D kvs ∧ KN ks kvs ∧ ∀ y, y ∈ ks ↔ ∃ j x g, j < i ∧ ns[j]? = some x ∧ g < (rows.getD x []).length ∧ Om.step rows x g = (wd, y))
      ⟨none, none, _, [], [], rfl, M0, KN.nil, fun y => by simp⟩ (fun i σ H2 _ ⟨_, _, _, _, _, _, M, _⟩ => SqL.of (M.all _ _ hsl)) ?_ ?_
    · rintro i z σ H2 hi hz ⟨v4, v5, G, kvs, ks, rfl, M, kn, hm⟩
      have hi' : i < ns.length := by simpa using hi
      have ex : ns[i]? = some ns[i] := List.getElem?_eq_getElem hi'
      have ez : z = .int (ns[i] : Nat) := by
        rw [List.getElem?_map, ex] at hz
        exact (Option.some.inj hz).symm
      subst ez
      have hx : ns[i] < rows.length := hS _ ((hns _).mp (List.getElem_mem hi'))
      generalize hxe : ns[i] = x at *
      obtain ⟨qx, rx, e1, e2, e3⟩ := state_at hss (s := x) (st := rows[x]) (List.getElem?_eq_getElem hx)
      have gx : rows.getD x [] = rows[x] := by simp [List.getD_eq_getElem?_getD, hx]
      have rxl : rx.length = rows[x].length := by rw [e3.length, List.length_map]
      refine ⟨_, gt (M.all _ _ ha) (by decide) rfl, .ref qx, gl (M.all _ _ hb) (by omega) (by simpa using e1), ⟨_, SqL.of (M.all _ _ e2)⟩, ?_⟩
      refine for_by (it_list _ qx rx) (fun g σ H3 => ∃ (v5 : Option V) (G : Hp) (kvs : List (Key × V)) (ks : List Nat), σ = [some (.ref a), some (.ref sl), some (.str (bs wd)), some (.ref D), some (.int (x : Nat)), v5] ∧ Gk G H H3 D kvs ∧ KN ks kvs ∧
          ∀ y, y ∈ ks ↔ (∃ j x g, j < i ∧ ns[j]? = some x ∧ g < (rows.getD x []).length ∧ Om.step rows x g = (wd, y)) ∨ ∃ g', g' < g ∧ g' < rows[x].length ∧ Om.step rows x g' = (wd, y))
        ⟨v5, G, kvs, ks, rfl, M, kn, fun y => by rw [hm]; simp⟩ (fun i σ H2 _ ⟨_, _, _, _, _, M, _⟩ => SqL.of (M.all _ _ e2)) ?_ ?_
      · rintro g z σ H3 hg hz ⟨v5, G3, kvs3, ks3, rfl, M3, kn3, hm3⟩
        have hg' : g < rows[x].length := by omega
        obtain ⟨r, r1, r2⟩ := row_at e3 (l := g) (r := rows[x][g]) (List.getElem?_eq_getElem hg')
        rw [hz] at r1
        cases r1
        have stx : Om.step rows x g = rows[x][g] := by unfold Om.step; rw [gx]; simp [List.getD_eq_getElem?_getD, hg']
        have okr := ok.row _ (List.getElem_mem hx) _ (List.getElem_mem hg')
        refine ⟨_, gt (M3.all _ _ r2) (by decide) rfl, ?_⟩
        have key : ∀ y, (∃ g', g' < g + 1 ∧ g' < rows[x].length ∧ Om.step rows x g' = (wd, y)) ↔ (∃ g', g' < g ∧ g' < rows[x].length ∧ Om.step rows x g' = (wd, y)) ∨ rows[x][g] = (wd, y) := fun y => by
          constructor
          · rintro ⟨g', k1, k2, k3⟩
            by_cases e : g' = g
            · subst e; rw [stx] at k3; exact .inr k3
            · exact .inl ⟨g', by omega, k2, k3⟩
          · rintro (⟨g', k1, k2, k3⟩ | h)
            · exact ⟨g', by omega, k2, k3⟩
            · exact ⟨g, by omega, hg', by rw [stx]; exact h⟩
        refine ite2 (fun h1 => ?_) (fun h1 => ?_)
        · have h1' := bs_inj (of_decide_eq_true h1)
          refine ⟨_, gt (M3.all _ _ r2) (by decide) rfl, ?_⟩
          obtain ⟨ks4, kn4, hk4⟩ := kn3.set (x := rows[x][g].2) (v := .bl true) (by omega)
          refine .inr ⟨_, _, rfl, .inl ⟨kvs3, Sum.inl ((rows[x][g].2 : Nat) : Int), M3.hD, rfl, ?_, rfl⟩, ?_⟩
          · rw [kn3.len]; exact lt_line (by have := kn3.le; omega)
          · refine ⟨_, G3, _, ks4, rfl, M3.set, kn4, fun y => ?_⟩
            rw [hk4, hm3, key, or_assoc]
            have : y = rows[x][g].2 ↔ rows[x][g] = (wd, y) := by
              rw [← h1']
              constructor
              · intro e; rw [e]
              · intro e; rw [e]
            rw [this]
        · have h1' : ¬ rows[x][g].1 = wd := fun z => by rw [z] at h1; simp at h1
          refine ⟨_, G3, kvs3, ks3, rfl, M3, kn3, fun y => ?_⟩
          rw [hm3, key, ← or_assoc]
          constructor
          · exact .inl
          · rintro (h | h)
            · exact h
            · exact absurd (by rw [h]) h1'
      · rintro σ H3 ⟨v5, G3, kvs3, ks3, rfl, M3, kn3, hm3⟩
        refine ⟨_, _, G3, kvs3, ks3, rfl, M3, kn3, fun y => ?_⟩
        rw [hm3]
        constructor
        · rintro (⟨j, x', g, k1, k2, k3⟩ | ⟨g, _, k2, k3⟩)
          · exact ⟨j, x', g, by omega, k2, k3⟩
          · exact ⟨i, x, g, by omega, ex, by rw [gx]; exact k2, k3⟩
        · rintro ⟨j, x', g, k1, k2, k3, k4⟩
          by_cases e : j = i
          · subst e
            rw [ex] at k2
            cases k2
            rw [gx] at k3
            exact .inr ⟨g, by omega, k3, k4⟩
          · exact .inl ⟨j, x', g, by omega, k2, k3, k4⟩
    · rintro σ H2 ⟨v4, v5, G, kvs, ks, rfl, M, kn, hm⟩
      have e0 : (ks.map fun (i : Nat) => (Sum.inl (i : Int) : Key)) = (ks.map fun i => ((i : Nat) : Int)).map Sum.inl := by rw [List.map_map]; rfl
      refine .inl ⟨D, kvs, ks.map fun i => ((i : Nat) : Int), rfl, .inl M.hD, kn.keys.trans e0, by rw [List.length_map]; have := kn.le; omega, fun l ms hl hp hs => ?_⟩
      obtain ⟨ns', rfl, pm⟩ := perm_nat hp
      refine q _ _ (M.all.trans (Same.upd hl)) (new_of M.all hl) ⟨ns', ?_, ?_, fun x hx => kn.lt x (pm.mem_iff.mp hx), fun y => ?_⟩
      · rw [upd_same, List.map_map]; rfl
      · rw [List.pairwise_map] at hs
        have nd' : ns'.Nodup := pm.nodup_iff.mpr kn.nd
        exact (hs.and nd').imp fun {a b} h => by have h1 := h.1; have h2 := h.2; omega
      · rw [pm.mem_iff, hm]
        constructor
        · rintro ⟨j, x, g, _, k2, k3, k4⟩
          exact ⟨x, g, (hns _).mp (List.mem_of_getElem? k2), k3, k4⟩
        · rintro ⟨x, g, k1, k2, k3⟩
          obtain ⟨j, e1, e2⟩ := List.mem_iff_getElem.mp ((hns x).mpr k1)
          exact ⟨j, x, g, by simpa using e1, by rw [List.getElem?_eq_getElem e1, e2], k2, k3⟩
  · exact h.elim
abbrev sBeh : Stmt := top 25
def spBeh : Sp := fun vs H Q _ => match vs with
  | [cv, .ref sl, wv] => ∃ (k n : Nat) (rows : Om.Rows) (S : Om.Sn) (cs : List (List Bool)), DV H cv (codeD k n rows) ∧ Om.CodeOk k n rows ∧ SOl H sl S ∧ (∀ x, S x → x < rows.length) ∧ WL H wv cs ∧ ∀ l H', Same H H' → (l = sl ∨ H l = none) → SOl H' l (Om.afts rows S cs) → Q (.ref l) H'
  | _ => False
theorem scBeh : FnScope ["code", "states", "words", "word"] ["code", "states", "words"] (defScope sBeh) := ⟨rfl, rfl, rfl, by decide +kernel, rfl, by decide +kernel, by decide +kernel⟩
local macro_rules | `(tactic| walk_at "T.n") => `(tactic| with_reducible first | exact vn "code" 0 | exact vn "states" 1 | exact vn "words" 2 | exact vn "word" 3)
local macro_rules | `(tactic| walk_at "T.gn") => `(tactic| with_reducible first | exact gn "states" 1 (by with_unfolding_all assumption) | exact gn "word" 3 (by with_unfolding_all assumption))
theorem ok_beh (D : FnX K mg "states_behind" sBeh ["code", "states", "words"]) (c1 : Can P w K mg base "states_behind_word" 1 ["code", "states", "word"] spBehW) : Can P w K mg base "states_behind" 2 ["code", "states", "words"] spBeh := by
  refine can_fn (k := 1) D scBeh (fun vs H Q E h => ?_) (fun f cdv A outer s H vs Q E hr h => ?_)
  all_goals
    unfold spBeh at h
    split at h
  · rfl
  · exact h.elim
  · rename_i cv sl wv
    obtain ⟨k, n, rows, S, cs, hc, ok, hs, hS, ⟨l, rfl, hl⟩, q⟩ := h
    have nd := scBeh.nd
    refine ⟨_, (by walk_at "T.top"), ?_⟩
    refine ⟨⟨_, SqL.of hl⟩, ?_⟩
    refine for_by (it_list _ l _) (fun i σ H2 => ∃ (p : Addr) (v3 : Option V), σ = [some cv, some (.ref p), some (.ref l), v3] ∧ Same H H2 ∧ (p = sl ∨ H p = none) ∧ SOl H2 p (Om.afts rows S (cs.take i)) ∧ ∀ x, Om.afts rows S (cs.take i) x → x < rows.length)
      ⟨sl, none, rfl, Same.refl _, .inl rfl, hs, hS⟩ (fun i σ H2 _ ⟨_, _, _, s, _⟩ => SqL.of (s _ _ hl)) ?_ ?_
    · rintro i z σ H2 hi hz ⟨p, v3, rfl, s2, np, l2, b2⟩
      have hi' : i < cs.length := by simpa using hi
      have ez : z = .str (bs cs[i]) := by
        rw [List.getElem?_map, List.getElem?_eq_getElem hi'] at hz
        exact (Option.some.inj hz).symm
      subst ez
      have ti : cs.take (i + 1) = cs.take i ++ [cs[i]] := by rw [List.take_add_one, List.getElem?_eq_getElem hi']; rfl
      refine ⟨k, n, rows, _, cs[i], hc.mono s2, ok, l2, b2, rfl, fun p' H3 s3 np' l3 => ?_⟩
      have e : Om.afts rows S (cs.take (i + 1)) = Om.aft rows (Om.afts rows S (cs.take i)) cs[i] := by
        rw [ti]; unfold Om.afts; rw [List.foldl_append]; rfl
      refine ⟨p', _, rfl, s2.trans s3, .inr (new_of s2 np'), by rw [e]; exact l3, fun x hx => ?_⟩
      rw [e] at hx
      exact Om.aft_lt ok hx
    · rintro σ H2 ⟨p, v3, rfl, s2, np, l2, b2⟩
      rw [List.length_map, List.take_length] at l2
      exact q _ _ s2 np l2
  · exact h.elim
end

end K31
end
section
set_option Elab.async false
set_option linter.all false
set_option maxRecDepth 100000
set_option maxHeartbeats 4000000
namespace K31
open PySem L2
section
variable {P : Program} {w : World} {K : PySem.W.Frag} {mg : Str → Option Value} {base : Heap}
abbrev sEnds : Stmt := top 23
def spEnds : Sp := fun vs H Q _ => match vs with
  | [cv, .str z] => ∃ (cs : List (List Bool)) (k n : Nat) (rows : Om.Rows), DV H cv (codeD k n rows) ∧ Om.CodeOk k n rows ∧ z = bs cs.flatten ∧ cs.length ≤ 320 ∧ (∀ c ∈ cs, c.length = n) ∧ ∀ l H', Same H H' → H l = none → SOl H' l (Om.afts rows (fun x => x < rows.length) cs) → Q (.ref l) H'
  | _ => False
theorem scEnds : FnScope ["code", "wire"] ["code", "wire"] (defScope sEnds) := ⟨rfl, rfl, rfl, by decide +kernel, rfl, by decide +kernel, by decide +kernel⟩
local macro_rules | `(tactic| walk_at "T.n") => `(tactic| with_reducible first | exact vn "code" 0 | exact vn "wire" 1)
theorem ok_ends (D : FnX K mg "ends" sEnds ["code", "wire"]) (c1 : Can P w K mg base "states_behind" 2 ["code", "states", "words"] spBeh) (c2 : Can P w K mg base "every_state" 1 ["code"] spEvery) (c3 : Can P w K mg base "whole_words" 3 ["code", "wire"] spWholeW) : Can P w K mg base "ends" 4 ["code", "wire"] spEnds := by
  refine can_fn (k := 3) D scEnds (fun vs H Q E h => ?_) (fun f cdv A outer s H vs Q E hr h => ?_)
  all_goals
    unfold spEnds at h
    split at h
  · rfl
  · exact h.elim
  · rename_i cv z
    obtain ⟨cs, k, n, rows, hc, ok, rfl, l3, hn, q⟩ := h
    have nd := scEnds.nd
    have s8 := ok.s8
    refine ⟨_, (by walk_at "T.top1"), ?_⟩
    refine ⟨k, n, rows, hc, s8, fun l1 H1 s1 n1 h1 => ?_⟩
    refine ⟨cs, k, n, rows, hc.mono s1, ok, rfl, l3, hn, fun v H2 s2 wl => ?_⟩
    refine ⟨k, n, rows, fun x => x < rows.length, cs, hc.mono (s1.trans s2), ok, ⟨List.range rows.length, s2 _ _ h1, List.pairwise_lt_range, fun x hx => Nat.lt_of_lt_of_le (List.mem_range.mp hx) s8, fun x => List.mem_range⟩, fun x hx => hx, wl, fun l H3 s3 nl so => ?_⟩
    refine q l H3 ((s1.trans s2).trans s3) ?_ so
    rcases nl with rfl | nl
    · exact n1
    · exact new_of (s1.trans s2) nl
  · exact h.elim
end

end K31
end
section
set_option Elab.async false
set_option linter.all false
set_option maxRecDepth 100000
set_option maxHeartbeats 4000000
namespace K31
open PySem L2
section
variable {P : Program} {w : World} {K : PySem.W.Frag} {mg : Str → Option Value} {base : Heap}
abbrev sWhole : Stmt := top 5
def spWhole : Sp := fun vs H Q _ => match vs with
  | [.int _] => Q (.bl true) H
  | _ => False
theorem scWhole : FnScope ["thing"] ["thing"] (defScope sWhole) := ⟨rfl, rfl, rfl, by decide +kernel, rfl, by decide +kernel, by decide +kernel⟩
local macro_rules | `(tactic| walk_at "T.n") => `(tactic| with_reducible first | exact vn "thing" 0)
theorem ok_whole (D : FnX K mg "is_whole" sWhole ["thing"]) (g1 : mg "isinstance" = none) (g2 : mg "int" = none) (g3 : mg "bool" = none) : Can P w K mg base "is_whole" 1 ["thing"] spWhole := by
  refine can_fn (k := 0) D scWhole (fun vs H Q E h => ?_) (fun f cdv A outer s H vs Q E hr h => ?_)
  all_goals
    unfold spWhole at h
    split at h
  · rfl
  · exact h.elim
  · have nd := scWhole.nd
    refine ⟨_, (by walk_at "T.top1"), ?_⟩
    refine ⟨"int", rfl, by decide, ?_⟩
    refine iteP (by decide) ?_
    refine ⟨"int", rfl, by decide, ?_⟩
    exact h
  · exact h.elim
end

end K31
end
section
set_option Elab.async false
set_option linter.all false
set_option maxRecDepth 100000
set_option maxHeartbeats 4000000
namespace K31
open PySem L2
section
variable {P : Program} {w : World} {K : PySem.W.Frag} {mg : Str → Option Value} {base : Heap}
abbrev sLetter : Stmt := top 6
def spLetter : Sp := fun vs H Q _ => match vs with
  | [.int k, .int i] => ∃ j : Nat, k = (j : Int) ∧ 0 ≤ i ∧ i < 2 ^ j ∧ Q (.bl true) H
  | _ => False
theorem scLetter : FnScope ["k", "thing"] ["k", "thing"] (defScope sLetter) := ⟨rfl, rfl, rfl, by decide +kernel, rfl, by decide +kernel, by decide +kernel⟩
local macro_rules | `(tactic| walk_at "T.n") => `(tactic| with_reducible first | exact vn "k" 0 | exact vn "thing" 1)
theorem ok_letter (D : FnX K mg "is_letter" sLetter ["k", "thing"]) (c1 : Can P w K mg base "is_whole" 1 ["thing"] spWhole) : Can P w K mg base "is_letter" 2 ["k", "thing"] spLetter := by
  refine can_fn (k := 1) D scLetter (fun vs H Q E h => ?_) (fun f cdv A outer s H vs Q E hr h => ?_)
  all_goals
    unfold spLetter at h
    split at h
  · rfl
  · exact h.elim
  · rename_i k i
    obtain ⟨j, rfl, h0, h1, q⟩ := h
    have nd := scLetter.nd
    refine ⟨_, (by walk_at "T.top1"), ?_⟩
    refine iteP (decide_eq_true h0) ?_
    refine ⟨rfl, ?_⟩
    show Q (.bl (decide (((Builtin.Int.intBits i : Nat) : Int) ≤ (j : Int)))) H
    rw [decide_eq_true (bits_le h0 h1)]
    exact q
  · exact h.elim
abbrev sLetterL : Stmt := top 7
def spLetterL : Sp := fun vs H Q _ => match vs with
  | [.int k, .ref t] => ∃ (j : Nat) (ns : List Int), k = (j : Int) ∧ H t = some (.lst (ns.map V.int)) ∧ ns.length ≤ 1000 ∧ (∀ i ∈ ns, 0 ≤ i ∧ i < 2 ^ j) ∧ ∀ H', Same H H' → Q (.bl true) H'
  | _ => False
theorem scLetterL : FnScope ["k", "thing"] ["k", "thing"] (defScope sLetterL) := ⟨rfl, rfl, rfl, by decide +kernel, rfl, by decide +kernel, by decide +kernel⟩
local macro_rules | `(tactic| walk_at "T.n") => `(tactic| with_reducible first | exact vn "k" 0 | exact vn "thing" 1)
local macro_rules | `(tactic| walk_at "T.n") => `(tactic| with_reducible first | exact vn "one" 0 | exact vn "k" 1)
local macro_rules | `(tactic| walk_at "T.gn") => `(tactic| with_reducible first | exact gn "one" 0 (by with_unfolding_all assumption))
local macro_rules | `(tactic| walk_at "T.c") => `(tactic| (have ndc : (["one", "k"] : List Str).Nodup := (by decide +kernel)); ((with_reducible refine' c_comp ["one", "k"] [0] ?b1 ?b2 (fun cl C s H fp => ?b3) (fun cl C s H fp => ?b4) (fun cl C s H fp => ?b5)); (case b1 => exact ndc); (case b2 => walk_at "T.i"); (case b3 => walk_at "T.g"); (case b4 => walk_at "T.pf"); (case b5 => walk_at "T.e")))
theorem ok_letterL (D : FnX K mg "is_letter_list" sLetterL ["k", "thing"]) (g1 : mg "isinstance" = none) (g2 : mg "list" = none) (g3 : mg "all" = none) (c1 : Can P w K mg base "is_letter" 2 ["k", "thing"] spLetter) : Can P w K mg base "is_letter_list" 3 ["k", "thing"] spLetterL := by
  refine can_fn (k := 2) D scLetterL (fun vs H Q E h => ?_) (fun f cdv A outer s H vs Q E hr h => ?_)
  all_goals
    unfold spLetterL at h
    split at h
  · rfl
  · exact h.elim
  · rename_i k t
    obtain ⟨j, ns, rfl, ht, hl, hns, q⟩ := h
    have nd := scLetterL.nd
    refine ⟨_, (by walk_at "T.top1"), ?_⟩
    refine ⟨"list", (by simp [tyN, ht]), by decide, ?_⟩
    refine iteP (by decide) ?_
    refine ⟨⟨_, SqL.of ht⟩, fun D hD => ?_⟩
    refine comp_map1 (it_list _ t (ns.map V.int)) (fun _ => .bl true) (by rw [List.length_map]; exact le_line hl) (fun o => SqL.upd ht hD) (fun i x ys hx C c => ?_) ?_
    · rw [List.getElem?_map] at hx
      obtain ⟨n, hn, rfl⟩ := Option.map_eq_some_iff.mp hx
      obtain ⟨h0, h1⟩ := hns n (List.mem_of_getElem? hn)
      exact ⟨j, rfl, h0, h1, c⟩
    · refine ⟨(ns.map V.int).map fun _ => true, by rw [upd_same]; simp, ?_⟩
      rw [all_id 0 (by simp)]
      exact q _ (Same.upd hD)
  · exact h.elim
end
section
variable {P : Program} {w : World} {K : PySem.W.Frag} {mg : Str → Option Value} {base : Heap}
abbrev sSent : Stmt := top 19
def spSent : Sp := fun vs H Q _ => match vs with
  | [cv, .int st, .ref t] => ∃ (k n : Nat) (rows : Om.Rows) (s0 : Nat) (ls : List Nat), DV H cv (codeD k n rows) ∧ Om.CodeOk k n rows ∧ st = (s0 : Int) ∧ s0 < rows.length ∧ H t = some (.lst ((ni ls).map V.int)) ∧ ls.length ≤ 200 ∧ (∀ l ∈ ls, l < 2 ^ k) ∧
      ∀ p H', Same H H' → H' p = some (.tup [.str (bs (Om.send rows s0 ls).1), .int ((Om.send rows s0 ls).2 : Nat)]) → Q (.ref p) H'
  | _ => False
theorem scSent : FnScope ["code", "state", "text", "words", "letter", "row"] ["code", "state", "text"] (defScope sSent) := ⟨rfl, rfl, rfl, by decide +kernel, rfl, by decide +kernel, by decide +kernel⟩
local macro_rules | `(tactic| walk_at "T.n") => `(tactic| with_reducible first | exact vn "code" 0 | exact vn "state" 1 | exact vn "text" 2 | exact vn "words" 3 | exact vn "letter" 4 | exact vn "row" 5)
local macro_rules | `(tactic| walk_at "T.gn") => `(tactic| with_reducible first | exact gn "state" 1 (by with_unfolding_all assumption) | exact gn "words" 3 (by with_unfolding_all assumption) | exact gn "letter" 4 (by with_unfolding_all assumption) | exact gn "row" 5 (by with_unfolding_all assumption))
theorem ok_sent (D : FnX K mg "sent" sSent ["code", "state", "text"]) (c1 : Can P w K mg base "is_letter_list" 3 ["k", "thing"] spLetterL) : Can P w K mg base "sent" 4 ["code", "state", "text"] spSent := by
  refine can_fn (k := 3) D scSent (fun vs H Q E h => ?_) (fun f cdv A outer s H vs Q E hr h => ?_)
  all_goals
    unfold spSent at h
    split at h
  · rfl
  · exact h.elim
  · rename_i cv st t
    obtain ⟨k, n, rows, s0, ls, hc, ok, rfl, hs0, ht, hlen, hls, q⟩ := h
    have nd := scSent.nd
    obtain ⟨a, b, ss, rfl, ha, hb, hss⟩ := code_inv hc
    refine ⟨_, (by walk_at "T.top"), ?_⟩
    refine ⟨_, gt ha (by decide) rfl, ?_⟩
    refine ⟨k, ni ls, rfl, ht, by unfold ni; rw [List.length_map]; omega, fun i hi => ?_, fun H1 s1 => ?_⟩
    · obtain ⟨l, hl, rfl⟩ := List.mem_map.mp hi
      have := hls l hl
      exact ⟨by omega, by exact_mod_cast this⟩
    refine ⟨Nat.zero_le _, fun wl hwl => ?_⟩
    have s2 : ∀ o, Same H (upd H1 wl o) := fun o => s1.trans (Same.upd hwl)
    have hn : (ni ls).length = ls.length := by unfold ni; simp
    refine ⟨⟨_, SqL.of (s2 _ _ _ ht)⟩, for_by (it_list _ t ((ni ls).map V.int)) (fun i σ H2 => (∃ v4 v5, σ = [some (.ref a), some (.int ((Om.send rows s0 (ls.take i)).2 : Nat)), some (.ref t), some (.ref wl), v4, v5]) ∧ H2 = upd H1 wl (.lst ((Om.words rows s0 (ls.take i)).map fun w => V.str (bs w))) ∧ (Om.send rows s0 (ls.take i)).2 < rows.length)
      ⟨⟨none, none, rfl⟩, rfl, hs0⟩ (fun i σ H2 _ ⟨_, e, _⟩ => SqL.of (by rw [e]; exact s2 _ _ _ ht)) ?_ ?_⟩
    · rintro i x σ H2 hi hx ⟨⟨v4, v5, rfl⟩, rfl, hlt⟩
      rw [List.getElem?_map, ni, List.getElem?_map] at hx
      obtain ⟨n', hn', rfl⟩ := Option.map_eq_some_iff.mp hx
      obtain ⟨l, hl, rfl⟩ := Option.map_eq_some_iff.mp hn'
      obtain ⟨st, e1, e2, e3, e4⟩ := Om.step_get ok hlt (hls l (List.mem_of_getElem? hl))
      obtain ⟨p, rs, f1, f2, f3⟩ := state_at hss e1
      obtain ⟨r, f4, f5⟩ := row_at f3 e2
      refine ⟨_, gt (s2 _ _ _ ha) (by decide) rfl, _, gl (s2 _ _ _ hb) (by omega) (by simpa using f1), _, gl (s2 _ _ _ f2) (by omega) (by simpa using f4), ?_⟩
      refine ⟨⟨_, rfl, upd_same⟩, ?_⟩
      refine ⟨_, gt (s2 _ _ _ f5) (by decide) rfl, _, upd_same, ?_, ?_⟩
      · rw [List.length_map, Om.words_len, List.length_take]; exact lt_line (by omega)
      refine ⟨_, gt (by rw [upd_upd]; exact s2 _ _ _ f5) (by decide) rfl, ?_⟩
      have ti : ls.take (i + 1) = ls.take i ++ [l] := by rw [List.take_add_one, hl]; rfl
      refine ⟨⟨some (.int l), some (.ref r), ?_⟩, ?_, ?_⟩
      · rw [ti, Om.send_snoc]; rfl
      · rw [upd_upd, ti, Om.words_snoc, List.map_append]; rfl
      · rw [ti, Om.send_snoc]; exact e4
    · rintro σ H2 ⟨⟨v4, v5, rfl⟩, rfl, hlt⟩
      have tl : ls.take ((ni ls).map V.int).length = ls := List.take_of_length_le (by rw [List.length_map, hn]; exact Nat.le_refl _)
      rw [tl]
      have ws : (Om.words rows s0 ls).map (fun w => V.str (bs w)) = ((Om.words rows s0 ls).map bs).map V.str := by rw [List.map_map]; rfl
      refine ⟨rfl, (Om.words rows s0 ls).map bs, by rw [upd_same, ws], ?_, ?_⟩
      · have h1 : (((Om.words rows s0 ls).map bs).map (·.length)).sum = ((Om.words rows s0 ls).flatten).length := by
          rw [List.length_flatten, List.map_map]
          congr 1
          apply List.map_congr_left
          intro x _
          exact bs_len x
        have h2 : ((Om.words rows s0 ls).flatten).length ≤ 1200 := by
          rw [Om.words_flat, (Om.send_ok ok ls s0 hs0 hls).1]
          have h6 := ok.n6
          calc n * ls.length ≤ 6 * 200 := Nat.mul_le_mul h6 hlen
            _ ≤ 1200 := by decide
        have h3 : (("" : Str)).length = 0 := by decide +kernel
        rw [h1, h3]
        omega
      refine ⟨le_line (Nat.le_of_ble_eq_true rfl), fun p hp => ?_⟩
      refine q p _ ((s2 _).trans (Same.upd hp)) ?_
      rw [upd_same, bs_join, Om.words_flat]
  · exact h.elim
end

end K31
end
section
set_option Elab.async false
set_option linter.all false
set_option maxRecDepth 100000
set_option maxHeartbeats 4000000
namespace K31
open PySem L2
section
variable {P : Program} {w : World} {K : PySem.W.Frag} {mg : Str → Option Value} {base : Heap}
abbrev sPairs : Stmt := top 43
def prs (N i : Nat) : List (Nat × Nat) := (List.range i).flatMap fun x => (List.range N).map fun y => (x, y)
theorem prs_len (N : Nat) : ∀ i, (prs N i).length = i * N
  | 0 => by simp [prs]
  | i + 1 => by
    have ih := prs_len N i
    unfold prs at ih ⊢
    rw [List.range_succ, List.flatMap_append, List.length_append, ih, List.flatMap_singleton, List.length_map, List.length_range, Nat.add_mul, Nat.one_mul]
theorem prs_mem {N x y : Nat} : (x, y) ∈ prs N N ↔ x < N ∧ y < N := by
  unfold prs
  rw [List.mem_flatMap]
  constructor
  · rintro ⟨x', h1, h2⟩
    obtain ⟨y', h3, h4⟩ := List.mem_map.mp h2
    cases h4
    exact ⟨List.mem_range.mp h1, List.mem_range.mp h3⟩
  · rintro ⟨h1, h2⟩
    exact ⟨x, List.mem_range.mpr h1, List.mem_map.mpr ⟨y, List.mem_range.mpr h2, rfl⟩⟩
def spPairs : Sp := fun vs H Q _ => match vs with
  | [cv] => ∃ (k n : Nat) (rows : Om.Rows), DV H cv (codeD k n rows) ∧ rows.length ≤ 8 ∧ ∀ l xs H', Same H H' → H' l = some (.lst xs) → DVs H' xs ((prs rows.length rows.length).map pairD) → Q (.ref l) H'
  | _ => False
theorem scPairs : FnScope ["code", "some", "one"] ["code"] (defScope sPairs) := ⟨rfl, rfl, rfl, by decide +kernel, rfl, by decide +kernel, by decide +kernel⟩
local macro_rules | `(tactic| walk_at "T.n") => `(tactic| with_reducible first | exact vn "code" 0 | exact vn "some" 1 | exact vn "one" 2)
local macro_rules | `(tactic| walk_at "T.gn") => `(tactic| with_reducible first | exact gn "some" 1 (by with_unfolding_all assumption) | exact gn "one" 2 (by with_unfolding_all assumption))
local macro_rules | `(tactic| walk_at "T.n") => `(tactic| with_reducible first | exact vn "other" 0 | exact vn "one" 1)
local macro_rules | `(tactic| walk_at "T.gn") => `(tactic| with_reducible first | exact gn "other" 0 (by with_unfolding_all assumption))
local macro_rules | `(tactic| walk_at "T.c") => `(tactic| (have ndc : (["other", "one"] : List Str).Nodup := (by decide +kernel)); ((with_reducible refine' c_comp ["other", "one"] [2] ?b1 ?b2 (fun cl C s H fp => ?b3) (fun cl C s H fp => ?b4) (fun cl C s H fp => ?b5)); (case b1 => exact ndc); (case b2 => walk_at "T.i"); (case b3 => walk_at "T.g"); (case b4 => walk_at "T.pf"); (case b5 => walk_at "T.e")))
local macro_rules | `(tactic| walk_at "T.n") => `(tactic| with_reducible first | exact vn "code" 0 | exact vn "some" 1 | exact vn "one" 2)
local macro_rules | `(tactic| walk_at "T.gn") => `(tactic| with_reducible first | exact gn "some" 1 (by with_unfolding_all assumption) | exact gn "one" 2 (by with_unfolding_all assumption))
theorem ok_pairs (D : FnX K mg "_law_pairs" sPairs ["code"]) (g1 : mg "range" = none) (g2 : mg "len" = none) : Can P w K mg base "_law_pairs" 1 ["code"] spPairs := by
  refine can_fn (k := 0) D scPairs (fun vs H Q E h => ?_) (fun f cdv A outer s H vs Q E hr h => ?_)
  all_goals
    unfold spPairs at h
    split at h
  · rfl
  · exact h.elim
  · rename_i cv
    obtain ⟨k, n, rows, hc, r8, q⟩ := h
    have nd := scPairs.nd
    obtain ⟨a, b, ss, rfl, ha, hb, hss⟩ := code_inv hc
    have sl : ss.length = rows.length := by rw [hss.length, List.length_map]
    refine ⟨_, (by walk_at "T.top"), ?_⟩
    refine ⟨Nat.zero_le _, fun A0 hA0 => ?_⟩
    have u0 := Same.upd (o := .lst []) hA0
    refine ⟨_, gt (u0 _ _ ha) (by decide) rfl, _, lenL (u0 _ _ hb), ?_⟩
    refine ⟨by omega, by omega, for_by (it_range 0 _) (fun i σ H2 => ∃ (v2 : Option V) (A : Addr) (us : List V), σ = [some (.ref a), some (.ref A), v2] ∧ Same H H2 ∧ H2 A = some (.lst us) ∧ DVs H2 us ((prs rows.length i).map pairD))
      ⟨none, A0, [], rfl, u0, upd_same, .nil⟩ (fun _ _ _ _ _ => trivial) ?_ ?_⟩
    · rintro i z σ H2 hi hz ⟨v2, A, us, rfl, s2, hA, du⟩
      rw [List.length_map, List.length_range] at hi
      have ez : z = .int (i : Nat) := by
        rw [List.getElem?_map, List.getElem?_range hi] at hz
        have := (Option.some.inj hz).symm
        rw [this]; simp
      subst ez
      have hi' : i < rows.length := by omega
      refine ⟨_, gt (s2 _ _ ha) (by decide) rfl, _, lenL (s2 _ _ hb), by omega, by omega, fun C hC => ?_⟩
      have R0 := Gr.start hC
      refine comp_by (it_range 0 _) (fun j τ H3 ys => (∃ v, τ = [v, some (.int (i : Nat))]) ∧ ∃ G3, Gr G3 H2 H3 C ys ∧ DVs G3 ys (((List.range j).map fun y => (i, y)).map pairD)) ?_ ⟨⟨none, rfl⟩, _, R0, .nil⟩ ?_ ?_ ?_
      · rw [List.length_map, List.length_range]; exact le_line (by omega)
      · rintro j τ H3 ys hj ⟨_, G3, R, dr⟩
        exact ⟨trivial, R.hL, by rw [dr.length]; simp⟩
      · rintro j x τ H3 ys hj hx ⟨⟨v, rfl⟩, G3, R, dr⟩
        rw [List.length_map, List.length_range] at hj
        have ex : x = .int (j : Nat) := by
          rw [List.getElem?_map, List.getElem?_range hj] at hx
          have := (Option.some.inj hx).symm
          rw [this]; simp
        subst ex
        refine ⟨le_line (Nat.le_of_ble_eq_true rfl), fun p hp => ?_⟩
        have R1 := R.put (o := .tup [.int (i : Nat), .int (j : Nat)]) hp
        have U1 := R.up (o := .tup [.int (i : Nat), .int (j : Nat)]) hp
        refine ⟨R1.hL, ⟨_, rfl⟩, _, R1.set, ?_⟩
        rw [List.range_succ, List.map_append, List.map_append]
        exact (dr.mono U1).app (.cons (pair_DV (x := (i, j)) upd_same) .nil)
      · rintro τ H3 ys ⟨_, G3, R, dr⟩
        have dy := dr.mono R.s
        rw [List.length_map, List.length_range, Int.toNat_natCast, sl] at dy
        have ul : us.length = i * rows.length := by rw [du.length, List.length_map, prs_len]
        have yl : ys.length = rows.length := by rw [dy.length]; simp
        have big : i * rows.length ≤ 7 * 8 := Nat.mul_le_mul (by omega) r8
        refine ⟨_, _, R.all _ _ hA, R.hL, by rw [ul, yl]; exact le_line (by omega), fun N hN => ?_⟩
        refine ⟨_, N, us ++ ys, rfl, (s2.trans R.all).trans (Same.upd hN), upd_same, ?_⟩
        have e : prs rows.length (i + 1) = prs rows.length i ++ (List.range rows.length).map fun y => (i, y) := by
          unfold prs
          rw [List.range_succ, List.flatMap_append, List.flatMap_singleton]
        rw [e, List.map_append]
        exact ((du.mono R.all).mono (Same.upd hN)).app (dy.mono (Same.upd hN))
    · rintro σ H2 ⟨v2, A, us, rfl, s2, hA, du⟩
      rw [List.length_map, List.length_range, Int.toNat_natCast, sl] at du
      exact q _ _ _ s2 hA du
  · exact h.elim
end

end K31
end
section
set_option Elab.async false
set_option linter.all false
set_option maxRecDepth 100000
set_option maxHeartbeats 4000000
namespace K31
open PySem L2
section
variable {P : Program} {w : World} {K : PySem.W.Frag} {mg : Str → Option Value} {base : Heap}
abbrev sSteps : Stmt := top 44
def spSteps : Sp := fun vs H Q _ => match vs with
  | [cv, .ref p] => ∃ (k n : Nat) (rows : Om.Rows) (x y : Nat), DV H cv (codeD k n rows) ∧ Om.CodeOk k n rows ∧ H p = some (.tup [.int (x : Nat), .int (y : Nat)]) ∧ x < rows.length ∧ y < rows.length ∧
      ∀ l (ss : List ((Nat × Nat) × (Nat × Nat))) H', Same H H' → H l = none → DV H' (.ref l) (.list (ss.map stepD)) → ss.length ≤ 64 → (∀ s, s ∈ ss ↔ Om.St rows x y s) → Q (.ref l) H'
  | _ => False
theorem scSteps : FnScope ["code", "pair", "some", "letter", "word", "one", "turn", "same", "other"] ["code", "pair"] (defScope sSteps) := ⟨rfl, rfl, rfl, by decide +kernel, rfl, by decide +kernel, by decide +kernel⟩
local macro_rules | `(tactic| walk_at "T.n") => `(tactic| with_reducible first | exact vn "code" 0 | exact vn "pair" 1 | exact vn "some" 2 | exact vn "letter" 3 | exact vn "word" 4 | exact vn "one" 5 | exact vn "turn" 6 | exact vn "same" 7 | exact vn "other" 8)
local macro_rules | `(tactic| walk_at "T.gn") => `(tactic| with_reducible first | exact gn "some" 2 (by with_unfolding_all assumption) | exact gn "letter" 3 (by with_unfolding_all assumption) | exact gn "word" 4 (by with_unfolding_all assumption) | exact gn "one" 5 (by with_unfolding_all assumption) | exact gn "turn" 6 (by with_unfolding_all assumption) | exact gn "same" 7 (by with_unfolding_all assumption) | exact gn "other" 8 (by with_unfolding_all assumption))
theorem ok_steps (D : FnX K mg "_law_steps" sSteps ["code", "pair"]) (g1 : mg "enumerate" = none) : Can P w K mg base "_law_steps" 1 ["code", "pair"] spSteps := by
  refine can_fn (k := 0) D scSteps (fun vs H Q E h => ?_) (fun f cdv A outer s H vs Q E hr h => ?_)
  all_goals
    unfold spSteps at h
    split at h
  · rfl
  · exact h.elim
  · rename_i cv p
    obtain ⟨k, n, rows, x, y, hc, ok, hp, hx, hy, q⟩ := h
    have nd := scSteps.nd
    obtain ⟨a, b, st, rfl, ha, hb, hst⟩ := code_inv hc
    obtain ⟨qx, rx, e1, e2, e3⟩ := state_at hst (s := x) (st := rows[x]) (List.getElem?_eq_getElem hx)
    obtain ⟨qy, ry, f1, f2, f3⟩ := state_at hst (s := y) (st := rows[y]) (List.getElem?_eq_getElem hy)
    have lx : rows[x].length = 2 ^ k := ok.len _ (List.getElem_mem hx)
    have ly : rows[y].length = 2 ^ k := ok.len _ (List.getElem_mem hy)
    have p8 : 2 ^ k ≤ 8 := by
      have := ok.k3
      have : k = 0 ∨ k = 1 ∨ k = 2 ∨ k = 3 := by omega
      rcases this with rfl | rfl | rfl | rfl <;> decide
    have rxl : rx.length = 2 ^ k := by rw [e3.length, List.length_map, lx]
    have ryl : ry.length = 2 ^ k := by rw [f3.length, List.length_map, ly]
    have gx : rows.getD x [] = rows[x] := by simp [List.getD_eq_getElem?_getD, hx]
    have gy : rows.getD y [] = rows[y] := by simp [List.getD_eq_getElem?_getD, hy]
    have stx : ∀ i (hi : i < rows[x].length), Om.step rows x i = rows[x][i] := fun i hi => by unfold Om.step; rw [gx]; simp [List.getD_eq_getElem?_getD, hi]
    have sty : ∀ i (hi : i < rows[y].length), Om.step rows y i = rows[y][i] := fun i hi => by unfold Om.step; rw [gy]; simp [List.getD_eq_getElem?_getD, hi]
    refine ⟨_, (by walk_at "T.top"), ?_⟩
    refine ⟨Nat.zero_le _, fun L hL => ?_⟩
    have R0 := Gr.start hL
    refine ⟨_, gt (R0.all _ _ ha) (by decide) rfl, _, gt (R0.all _ _ hp) (by decide) rfl, .ref qx, gl (R0.all _ _ hb) (by omega) (by simpa using e1), ⟨_, SqL.of (R0.all _ _ e2)⟩, ?_⟩
    refine for_pr (it_enumP _ qx rx) (fun i σ H2 => ∃ (v3 v4 v5 v6 v7 v8 : Option V) (G : Hp) (vs : List V) (ss : List ((Nat × Nat) × (Nat × Nat))), σ = [some (.ref a), some (.ref p), some (.ref L), v3, v4, v5, v6, v7, v8] ∧ Gr G H H2 L vs ∧ DVs G vs (ss.map stepD) ∧ ss.length ≤ i * 8 ∧ ∀ s, s ∈ ss ↔ s.1.1 < i ∧ Om.St rows x y s)
      ⟨none, none, none, none, none, none, _, [], [], rfl, R0, .nil, by simp, by simp⟩ (fun i σ H2 _ ⟨_, _, _, _, _, _, _, _, _, _, R, _⟩ => R.all _ _ e2) ?_ ?_
    · rintro i t σ H2 hi ⟨v3, v4, v5, v6, v7, v8, G, vs, ss, rfl, R, hd, hl, hb1⟩ ht
      have hi' : i < rows[x].length := by omega
      obtain ⟨r, r1, r2⟩ := row_at e3 (l := i) (r := rows[x][i]) (List.getElem?_eq_getElem hi')
      have er : rx.getD i .non = .ref r := by rw [List.getD_eq_getElem?_getD, r1]; rfl
      have R1 := R.new (o := .tup [.int (i : Nat), .ref r]) ht
      dsimp only
      rw [er]
      refine ⟨_, .inl upd_same, rfl, ?_⟩
      refine ⟨_, .inl (R1.all _ _ r2), rfl, ?_⟩
      refine ⟨rfl, rfl, ?_⟩
      have okr := ok.row _ (List.getElem_mem hx) _ (List.getElem_mem hi')
      refine ⟨_, gt (R1.all _ _ ha) (by decide) rfl, _, gt (R1.all _ _ hp) (by decide) rfl, .ref qy, gl (R1.all _ _ hb) (by omega) (by simpa using f1), ⟨_, SqL.of (R1.all _ _ f2)⟩, ?_⟩
      refine for_pr (it_enumP _ qy ry) (fun j σ H2 => ∃ (v6 v7 v8 : Option V) (G : Hp) (vs : List V) (ss : List ((Nat × Nat) × (Nat × Nat))), σ = [some (.ref a), some (.ref p), some (.ref L), some (.int (i : Nat)), some (.str (bs rows[x][i].1)), some (.int (rows[x][i].2 : Nat)), v6, v7, v8] ∧ Gr G H H2 L vs ∧ DVs G vs (ss.map stepD) ∧ ss.length ≤ i * 8 + j ∧ ∀ s, s ∈ ss ↔ (s.1.1 < i ∨ (s.1.1 = i ∧ s.1.2 < j)) ∧ Om.St rows x y s)
        ⟨v6, v7, v8, G, vs, ss, rfl, R1, hd, by omega, fun s => by rw [hb1]; constructor <;> rintro ⟨h1, h2⟩ <;> exact ⟨by omega, h2⟩⟩ (fun i σ H2 _ ⟨_, _, _, _, _, _, _, R, _⟩ => R.all _ _ f2) ?_ ?_
      · rintro j t2 σ H3 hj ⟨v6, v7, v8, G, vs, ss, rfl, R2, hd, hl, hb1⟩ ht2
        have hj' : j < rows[y].length := by omega
        obtain ⟨r', s1, s2⟩ := row_at f3 (l := j) (r := rows[y][j]) (List.getElem?_eq_getElem hj')
        have er' : ry.getD j .non = .ref r' := by rw [List.getD_eq_getElem?_getD, s1]; rfl
        have R3 := R2.new (o := .tup [.int (j : Nat), .ref r']) ht2
        dsimp only
        rw [er']
        refine ⟨_, .inl upd_same, rfl, ?_⟩
        refine ⟨_, .inl (R3.all _ _ s2), rfl, ?_⟩
        refine ⟨rfl, rfl, ?_⟩
        have key : ∀ s : Om.Stp, s.1.1 = i → s.1.2 = j → (Om.St rows x y s ↔ rows[x][i].1 = rows[y][j].1 ∧ s = ((i, j), (rows[x][i].2, rows[y][j].2))) := by
          rintro ⟨⟨a1, a2⟩, a3⟩ h1 h2
          dsimp only at h1 h2
          subst h1 h2
          unfold Om.St
          dsimp only
          rw [gx, gy, stx _ hi', sty _ hj']
          constructor
          · rintro ⟨_, _, h3, h4⟩; exact ⟨h3, by rw [h4]⟩
          · rintro ⟨h3, h4⟩
            exact ⟨hi', hj', h3, (Prod.mk.inj h4).2⟩
        refine ite2 (fun h1 => ?_) (fun h1 => ⟨_, _, _, G, vs, ss, rfl, R3, hd, by omega, fun s => ?_⟩)
        rotate_left
        · have h1' : ¬ rows[x][i].1 = rows[y][j].1 := fun z => by rw [z] at h1; simp at h1
          rw [hb1]
          constructor
          · rintro ⟨g1, g2⟩; exact ⟨by omega, g2⟩
          · rintro ⟨g1, g2⟩
            by_cases c : s.1.1 = i ∧ s.1.2 = j
            · exact absurd ((key _ c.1 c.2).mp g2).1 h1'
            · exact ⟨by omega, g2⟩
        have h1' := bs_inj (of_decide_eq_true h1)
        refine ⟨⟨_, rfl, R3.hL⟩, ?_⟩
        refine ⟨le_line (Nat.le_of_ble_eq_true rfl), fun z hz => ⟨le_line (Nat.le_of_ble_eq_true rfl), fun z2 hz2 => ?_⟩⟩
        have R4 := R3.put (o := .tup [.int (rows[x][i].2 : Nat), .int (rows[y][j].2 : Nat)]) hz
        have U4 := R3.up (o := .tup [.int (rows[x][i].2 : Nat), .int (rows[y][j].2 : Nat)]) hz
        have R5 := R4.put (o := .tup [.int (i : Nat), .int (j : Nat), .ref z]) hz2
        have U5 := R4.up (o := .tup [.int (i : Nat), .int (j : Nat), .ref z]) hz2
        have vl : vs.length = ss.length := by rw [hd.length, List.length_map]
        refine ⟨_, R5.hL, by rw [vl]; exact lt_line (by omega), ?_⟩
        refine ⟨_, _, _, _, vs ++ [.ref z2], ss ++ [((i, j), (rows[x][i].2, rows[y][j].2))], rfl, R5.set, ?_, by simp; omega, fun u => ?_⟩
        · rw [List.map_append]
          refine (hd.mono (U4.trans U5)).app (.cons (.tup upd_same (.cons (.int _) (.cons (.int _) (.cons ?_ .nil)))) .nil)
          exact (pair_DV (x := (rows[x][i].2, rows[y][j].2)) upd_same).mono U5
        · rw [List.mem_append, hb1, List.mem_singleton]
          constructor
          · rintro (⟨g1, g2⟩ | g)
            · exact ⟨by omega, g2⟩
            · subst g
              exact ⟨.inr ⟨rfl, Nat.lt_succ_self _⟩, (key _ rfl rfl).mpr ⟨h1', rfl⟩⟩
          · rintro ⟨g1, g2⟩
            by_cases c : u.1.1 = i ∧ u.1.2 = j
            · exact .inr ((key _ c.1 c.2).mp g2).2
            · exact .inl ⟨by omega, g2⟩
      · rintro σ H3 ⟨v6, v7, v8, G, vs, ss, rfl, R2, hd, hl, hb1⟩
        refine ⟨_, _, _, _, _, _, G, vs, ss, rfl, R2, hd, by omega, fun s => ?_⟩
        rw [hb1]
        constructor
        · rintro ⟨g1, g2⟩; exact ⟨by omega, g2⟩
        · rintro ⟨g1, g2⟩
          refine ⟨?_, g2⟩
          have := g2.2.1
          rw [gy] at this
          omega
    · rintro σ H2 ⟨v3, v4, v5, v6, v7, v8, G, vs, ss, rfl, R, hd, hl, hb1⟩
      refine q L ss _ R.all hL (.lst R.hL (hd.mono R.s)) (by omega) fun s => ?_
      rw [hb1]
      constructor
      · exact fun h => h.2
      · intro h
        refine ⟨?_, h⟩
        have := h.1
        rw [gx] at this
        omega
  · exact h.elim
end

end K31
end
section
set_option Elab.async false
set_option linter.all false
set_option maxRecDepth 100000
set_option maxHeartbeats 4000000
namespace K31
open PySem L2
section
variable {P : Program} {w : World} {K : PySem.W.Frag} {mg : Str → Option Value} {base : Heap}
abbrev sChained : Stmt := top 38
def spChained : Sp := fun vs H Q _ => match vs with
  | [.ref a] => Sto H a ∧ ∀ v k n rows G H', Om.CodeOk k n rows → DV G v (codeD k n rows) → Gh G H H' a → Q v H'
  | _ => False
theorem scChained : FnScope ["store", "many", "size", "left", "one", "states", "here", "k", "there", "turn", "place"] ["store"] (defScope sChained) := ⟨rfl, rfl, rfl, by decide +kernel, rfl, by decide +kernel, by decide +kernel⟩
local macro_rules | `(tactic| walk_at "T.n") => `(tactic| with_reducible first | exact vn "place" 0)
local macro_rules | `(tactic| walk_at "T.gn") => `(tactic| with_reducible first | exact gn "place" 0 (by with_unfolding_all assumption))
local macro_rules | `(tactic| walk_at "T.sc") => `(tactic| (have ndc : (["place"] : List Str).Nodup := (by decide +kernel)); ((with_reducible refine' s_comp "states" 5 ["place"] [] ?b1 ?b0 ?b2 (fun cl C s H fp => ?b3) (fun cl C s H fp => ?b4) (fun cl C s H fp => ?b5)); (case b1 => exact ndc); (case b0 => assumption); (case b2 => walk_at "T.i"); (case b3 => walk_at "T.g"); (case b4 => walk_at "T.pf"); (case b5 => walk_at "T.e")))
local macro_rules | `(tactic| walk_at "T.n") => `(tactic| with_reducible first | exact vn "other" 0 | exact vn "one" 1)
local macro_rules | `(tactic| walk_at "T.gn") => `(tactic| with_reducible first | exact gn "other" 0 (by with_unfolding_all assumption))
local macro_rules | `(tactic| walk_at "T.c") => `(tactic| (have ndc : (["other", "one"] : List Str).Nodup := (by decide +kernel)); ((with_reducible refine' c_comp ["other", "one"] [4] ?b1 ?b2 (fun cl C s H fp => ?b3) (fun cl C s H fp => ?b4) (fun cl C s H fp => ?b5)); (case b1 => exact ndc); (case b2 => walk_at "T.i"); (case b3 => walk_at "T.g"); (case b4 => walk_at "T.pf"); (case b5 => walk_at "T.e")))
local macro_rules | `(tactic| walk_at "T.n") => `(tactic| with_reducible first | exact vn "store" 0 | exact vn "many" 1 | exact vn "size" 2 | exact vn "left" 3 | exact vn "one" 4 | exact vn "states" 5 | exact vn "here" 6 | exact vn "k" 7 | exact vn "there" 8 | exact vn "turn" 9 | exact vn "place" 10)
local macro_rules | `(tactic| walk_at "T.gn") => `(tactic| with_reducible first | exact gn "many" 1 (by with_unfolding_all assumption) | exact gn "size" 2 (by with_unfolding_all assumption) | exact gn "left" 3 (by with_unfolding_all assumption) | exact gn "one" 4 (by with_unfolding_all assumption) | exact gn "states" 5 (by with_unfolding_all assumption) | exact gn "here" 6 (by with_unfolding_all assumption) | exact gn "k" 7 (by with_unfolding_all assumption) | exact gn "there" 8 (by with_unfolding_all assumption) | exact gn "turn" 9 (by with_unfolding_all assumption) | exact gn "place" 10 (by with_unfolding_all assumption))
theorem two_get {H : Hp} {p : Addr} {x y : Int} (b : Bool) (h : H p = some (.lst [.int x, .int y])) : getV H (.ref p) (if b then 1 else 0) = some (.int (if b then y else x)) := by
  cases b
  · exact gl h (by decide) rfl
  · exact gl h (by decide) rfl
theorem ok_chained (D : FnX K mg "_law_chained" sChained ["store"]) (g1 : mg "range" = none) (g2 : mg "len" = none) (g3 : mg "int" = none) (c1 : Can P w K mg base "_law_take" 1 ["store", "many"] spTake) (c2 : Can P w K mg base "_law_word" 1 ["number", "n"] spWordN) : Can P w K mg base "_law_chained" 2 ["store"] spChained := by
  refine can_fn (k := 1) D scChained (fun vs H Q E h => ?_) (fun f cdv A outer s H vs Q E hr h => ?_)
  all_goals
    unfold spChained at h
    split at h
  · rfl
  · exact h.elim
  · rename_i a
    obtain ⟨st0, q⟩ := h
    have nd := scChained.nd
    refine ⟨_, (by walk_at "T.top"), ?_⟩
    refine ⟨st0, by decide, by decide, fun m0 H1 m00 m01 st1 o1 => ?_⟩
    obtain ⟨mm, hmm⟩ : ∃ m : Nat, 3 + m0 = ((m : Nat) : Int) := ⟨(3 + m0).toNat, by omega⟩
    have mm3 : 3 ≤ mm := by omega
    have mm8 : mm ≤ 8 := by omega
    dsimp only [gName, rAddU]
    rw [hmm]
    refine ⟨le_line (Nat.le_of_ble_eq_true rfl), fun p1 hp1 => ?_⟩
    have st2 := st1.new (o := .lst [.int 4, .int 8]) hp1
    refine ⟨_, two_get (decide (((mm : Nat) : Int) > 4)) upd_same, ?_⟩
    obtain ⟨sz, kq, esz, ekq, sz4, sz8, pk, kq1, kq3⟩ : ∃ sz kq : Nat, (if decide (((mm : Nat) : Int) > 4) = true then (8 : Int) else 4) = ((sz : Nat) : Int) ∧ (if decide (((mm : Nat) : Int) > 4) = true then (3 : Int) else 2) = ((kq : Nat) : Int) ∧ 4 ≤ sz ∧ sz ≤ 8 ∧ 2 ^ kq = sz ∧ 1 ≤ kq ∧ kq ≤ 3 := by
      by_cases c : ((mm : Nat) : Int) > 4
      · rw [decide_eq_true c]; exact ⟨8, 3, rfl, rfl, by decide, by decide, rfl, by decide, by decide⟩
      · rw [decide_eq_false c]; exact ⟨4, 2, rfl, rfl, by decide, by decide, rfl, by decide, by decide⟩
    rw [esz]
    have o2 : Off (At a) H (upd H1 p1 (.lst [.int 4, .int 8])) := o1.trans (Same.upd hp1).off
    generalize upd H1 p1 (.lst [.int 4, .int 8]) = H2 at *
    dsimp only [gName]
    refine ⟨Nat.zero_le _, fun A0 hA0 => ?_⟩
    refine ⟨by omega, by omega, for_by (it_range 0 _) (fun i σ H3 => ∃ (v4 : Option V) (A : Addr) (us : List V) (ps : List (Nat × Nat)), σ = [some (.ref a), some (.int (mm : Nat)), some (.int (sz : Nat)), some (.ref A), v4, none, none, none, none, none, none] ∧ Same H2 H3 ∧ H2 A = none ∧ H3 A = some (.lst us) ∧ DVs H3 us (ps.map pairD) ∧ (∀ p ∈ ps, p.1 < p.2 ∧ p.2 < mm) ∧ ps.length ≤ i * 8 ∧ (0 < i → 0 < ps.length))
      ⟨none, A0, [], [], rfl, Same.upd hA0, hA0, upd_same, .nil, (fun p hp => nomatch hp), by simp, (fun h => absurd h (Nat.lt_irrefl _))⟩ (fun _ _ _ _ _ => trivial) ?_ ?_⟩
    · rintro i z σ H3 hi hz ⟨v4, A1, us, ps, rfl, s3, nA, hA, du, hps, pl, ppos⟩
      rw [List.length_map, List.length_range] at hi
      have ez : z = .int (i : Nat) := by
        rw [List.getElem?_map, List.getElem?_range hi] at hz
        have := (Option.some.inj hz).symm
        rw [this]; simp
      subst ez
      have hi' : i < mm := by omega
      refine ⟨⟨by omega, by omega, by omega, by omega⟩, fun C hC => ?_⟩
      have en : (((mm : Nat) : Int) - (((i : Nat) : Int) + 1)).toNat = mm - (i + 1) := by omega
      refine comp_by (it_range _ _) (fun j τ H4 ys => (∃ v, τ = [v, some (.int (i : Nat))]) ∧ ∃ G4, Gr G4 H3 H4 C ys ∧ DVs G4 ys (((List.range j).map fun y => (i, i + 1 + y)).map pairD)) ?_ ⟨⟨none, rfl⟩, _, Gr.start hC, .nil⟩ ?_ ?_ ?_
      · rw [List.length_map, List.length_range]; exact le_line (by omega)
      · rintro j τ H4 ys hj ⟨_, G4, R, dr⟩
        exact ⟨trivial, R.hL, by rw [dr.length]; simp⟩
      · rintro j x τ H4 ys hj hx ⟨⟨v, rfl⟩, G4, R, dr⟩
        rw [List.length_map, List.length_range] at hj
        have ex : x = .int ((i + 1 + j : Nat) : Int) := by
          rw [List.getElem?_map, List.getElem?_range hj] at hx
          have := (Option.some.inj hx).symm
          rw [this]; simp
        subst ex
        refine ⟨le_line (Nat.le_of_ble_eq_true rfl), fun p hp => ?_⟩
        have R1 := R.put (o := .tup [.int (i : Nat), .int ((i + 1 + j : Nat) : Int)]) hp
        have U1 := R.up (o := .tup [.int (i : Nat), .int ((i + 1 + j : Nat) : Int)]) hp
        refine ⟨R1.hL, ⟨_, rfl⟩, _, R1.set, ?_⟩
        rw [List.range_succ, List.map_append, List.map_append]
        exact (dr.mono U1).app (.cons (pair_DV (x := (i, i + 1 + j)) upd_same) .nil)
      · rintro τ H4 ys ⟨_, G4, R, dr⟩
        have dy := dr.mono R.s
        rw [List.length_map, List.length_range, en] at dy
        have ul : us.length = ps.length := by rw [du.length, List.length_map]
        have yl : ys.length = mm - (i + 1) := by rw [dy.length]; simp
        refine ⟨_, _, R.all _ _ hA, R.hL, by rw [ul, yl]; exact le_line (by omega), fun N hN => ?_⟩
        have sN := (s3.trans R.all).trans (Same.upd (o := .lst (us ++ ys)) hN)
        refine ⟨_, N, us ++ ys, ps ++ (List.range (mm - (i + 1))).map fun y => (i, i + 1 + y), rfl, sN, (s3.trans R.all).free hN, upd_same, ?_, fun p hp => ?_, ?_, fun _ => ?_⟩
        · rw [List.map_append]
          exact ((du.mono R.all).mono (Same.upd hN)).app (dy.mono (Same.upd hN))
        · rcases List.mem_append.mp hp with hp | hp
          · exact hps p hp
          · obtain ⟨y, hy, rfl⟩ := List.mem_map.mp hp
            have := List.mem_range.mp hy
            exact ⟨by show i < i + 1 + y; omega, by show i + 1 + y < mm; omega⟩
        · rw [List.length_append, List.length_map, List.length_range]; omega
        · rw [List.length_append, List.length_map, List.length_range]
          by_cases i0 : 0 < i
          · have := ppos i0; omega
          · omega
    · rintro σ H3 ⟨v4, A1, us, ps, rfl, s3, nA, hA, du, hps, pl, ppos⟩
      rw [List.length_map, List.length_range, Int.toNat_natCast] at pl ppos
      have pp := ppos (by omega)
      have pl64 : ps.length ≤ 64 := by omega
      clear ppos pl hA0
      have st3 := st2.same s3
      have A1a : A1 ≠ a := fun z => by subst z; obtain ⟨_, _, _, e⟩ := st2; rw [nA] at e; cases e
      have z0A : H A1 = none := o2.freeS st2 nA
      have o3 : Off (At a) H H3 := o2.trans s3.off
      refine ⟨by omega, by omega, fun S hS => ?_⟩
      have Sa : S ≠ a := st3.ne hS
      have AS : A1 ≠ S := ne_of_none hA hS
      have z0S : H S = none := o3.freeS st3 hS
      refine comp_by (it_range 0 _) (fun i τ H4 ys => (∃ v, τ = [v]) ∧ ∃ ts : List Addr, Gm H3 H4 S ts (fun _ => []) ∧ ys = ts.map V.ref ∧ ts.length = i) (by rw [List.length_map, List.length_range]; exact le_line (by omega))
        ⟨⟨none, rfl⟩, [], ⟨Same.upd hS, upd_same, hS, List.nodup_nil, (fun t h => nomatch h), (fun l t h => by simp at h)⟩, rfl, rfl⟩ ?_ ?_ ?_
      · rintro i τ H4 ys hi ⟨_, ts, M, rfl, tl⟩
        exact ⟨trivial, M.hL, by rw [List.length_map]; omega⟩
      · rintro i x τ H4 ys hi hx ⟨⟨v, rfl⟩, ts, M, rfl, tl⟩
        refine ⟨Nat.zero_le _, fun T hT => ?_⟩
        refine ⟨Same.upd hT _ _ M.hL, ⟨_, rfl⟩, ts ++ [T], M.more hT, by rw [List.map_append]; rfl, by rw [List.length_append, tl]; rfl⟩
      · rintro τ H4 ys ⟨_, ts, M4, rfl, tl⟩
        rw [List.length_map, List.length_range, Int.toNat_natCast] at tl
        have t3 : ∀ t ∈ ts, H3 t = none := M4.t0
        have st4 := st3.same M4.s
        -- the ghost: H3 without the store and the list of pairs
        have C4 : Chn (woA A1 (woA a H3)) H H4 a A1 S ts ps (fun _ => []) := by
          have sG : Same (woA A1 (woA a H3)) H3 := woA.same.trans woA.same
          refine ⟨sG.trans M4.s, ?_, ?_, ?_, fun t ht => ?_, st4, o3.trans M4.s.off, ⟨us, M4.s _ _ hA, ?_⟩, M4.hL, A1a, AS, fun z => ?_, Sa, fun z => ?_, fun z => ?_, M4.nd, z0A, z0S, fun t ht => o3.freeS st3 (t3 t ht), fun i t e => ?_⟩
          · unfold woA; rw [if_neg (Ne.symm A1a), if_pos rfl]
          · unfold woA; rw [if_pos rfl]
          · exact sG.free hS
          · exact sG.free (t3 t ht)
          · refine DVs.imp (fun x d hd q => ?_) du
            obtain ⟨p, _, rfl⟩ := List.mem_map.mp hd
            obtain ⟨b, rfl, hb⟩ := pair_inv q
            refine pair_DV (woA.at (woA.at hb (st3.tup hb)) (ne_of hb hA (fun z => nomatch z)))
          · have := t3 _ z; rw [hA] at this; cases this
          · obtain ⟨i, hi, e⟩ := List.mem_iff_getElem.mp z
            exact (M4.ht i S (by rw [List.getElem?_eq_getElem hi, e])).2 rfl
          · have := t3 _ z; obtain ⟨_, _, _, e⟩ := st3; rw [e] at this; cases this
          · obtain ⟨h1, _⟩ := M4.ht i t e
            exact ⟨_, h1, .nil⟩
        generalize woA A1 (woA a H3) = G4 at C4
        clear du hA M4 t3 hS
        obtain ⟨us4, hA4, dA4⟩ := C4.hA
        have ul4 : us4.length = ps.length := by rw [dA4.length, List.length_map]
        dsimp only [gName]
        refine ⟨⟨_, rfl, hA4⟩, _, lenL hA4, ?_⟩
        rw [ul4]
        refine ⟨C4.st, by omega, by omega, fun r H5 r0 r1 d5 o5 => ?_⟩
        have C5 := C4.take d5 o5
        have hA5 := o5 _ _ hA4 C4.Aa
        have hr' : r.toNat < ps.length := by omega
        obtain ⟨y, hy, dy⟩ := dA4.get (i := r.toNat) (d := pairD ps[r.toNat]) (by rw [List.getElem?_map, List.getElem?_eq_getElem hr']; rfl)
        refine ⟨_, y, hA5, by omega, by omega, hy, ?_⟩
        have C6 := C5.pop r.toNat hA5
        obtain ⟨hb, rfl, hhb⟩ := pair_inv dy
        have pe : (ps.eraseIdx r.toNat).length = ps.length - 1 := by rw [List.length_eraseIdx, if_pos hr']
        have hhere := hps _ (List.getElem_mem hr')
        have hpsE : ∀ p ∈ ps.eraseIdx r.toNat, p.1 < p.2 ∧ p.2 < mm := fun p hp => hps p (List.mem_of_mem_eraseIdx hp)
        dsimp only [gName]
        obtain ⟨us6, hA6, dA6⟩ := C6.hA
        have ul6 : us6.length = ps.length - 1 := by rw [dA6.length, List.length_map, pe]
        refine ⟨_, lenL hA6, ?_⟩
        rw [ul6]
        have hSg : ∀ {x : Nat}, x < mm → ∃ t, ts[x]? = some t := fun {x} hx => ⟨ts[x]'(by omega), List.getElem?_eq_getElem (by omega)⟩
        refine ⟨by omega, by omega, for_by (it_range 0 _) (fun i σ H7 => ∃ (v7 v8 v9 : Option V) (G : Hp) (hb : Addr) (hp : Nat × Nat) (qs : List (Nat × Nat)) (rw : Nat → List (List Bool × Nat)), σ = [some (.ref a), some (.int (mm : Nat)), some (.int (sz : Nat)), some (.ref A1), v4, some (.ref S), some (.ref hb), v7, v8, v9, none] ∧ Chn G H H7 a A1 S ts qs rw ∧ G hb = some (.tup [.int (hp.1 : Nat), .int (hp.2 : Nat)]) ∧ (hp.1 < hp.2 ∧ hp.2 < mm) ∧ qs.length + i = ps.length - 1 ∧ (∀ p ∈ qs, p.1 < p.2 ∧ p.2 < mm) ∧ (∀ x, (rw x).length ≤ sz - 1) ∧ ∀ x, ∀ r ∈ rw x, r.1.length = 6 ∧ r.2 < mm)
          ⟨none, none, none, G4, hb, ps[r.toNat], _, _, rfl, C6, hhb, hhere, by rw [pe]; omega, hpsE, (fun x => Nat.zero_le _), (fun x r hr => nomatch hr)⟩ (fun _ _ _ _ _ => trivial) ?_ ?_⟩
        · rintro i z σ H7 hi hz ⟨v7, v8, v9, G7, hb7, hp, qs, rw7, rfl, C7, hhb7, hh7, ql, hqs, hrl, hrr⟩
          rw [List.length_map, List.length_range] at hi
          have ez : z = .int (i : Nat) := by
            rw [List.getElem?_map, List.getElem?_range hi] at hz
            have := (Option.some.inj hz).symm
            rw [this]; simp
          subst ez
          have qpos : 0 < qs.length := by omega
          obtain ⟨us7, hA7, dA7⟩ := C7.hA
          have ul7 : us7.length = qs.length := by rw [dA7.length, List.length_map]
          refine ⟨⟨_, rfl, hA7⟩, _, lenL hA7, ?_⟩
          rw [ul7]
          refine ⟨C7.st, by omega, by omega, fun r7 H8 r70 r71 d8 o8 => ?_⟩
          have C8 := C7.take d8 o8
          have hA8 := o8 _ _ hA7 C7.Aa
          have hr7 : r7.toNat < qs.length := by omega
          obtain ⟨y7, hy7, dy7⟩ := dA7.get (i := r7.toNat) (d := pairD qs[r7.toNat]) (by rw [List.getElem?_map, List.getElem?_eq_getElem hr7]; rfl)
          refine ⟨_, y7, hA8, by omega, by omega, hy7, ?_⟩
          have C9 := C8.pop r7.toNat hA8
          generalize upd H8 A1 (.lst (us7.eraseIdx r7.toNat)) = H9 at *
          obtain ⟨tb, rfl, htb⟩ := pair_inv dy7
          have hth := hqs _ (List.getElem_mem hr7)
          have qe : (qs.eraseIdx r7.toNat).length + (i + 1) = ps.length - 1 := by rw [List.length_eraseIdx, if_pos hr7]; omega
          have hqE : ∀ p ∈ qs.eraseIdx r7.toNat, p.1 < p.2 ∧ p.2 < mm := fun p hp => hqs p (List.mem_of_mem_eraseIdx hp)
          generalize qs[r7.toNat] = tp at *
          dsimp only [gName]
          obtain ⟨t0, ht0⟩ := hSg (show hp.1 < mm by omega)
          obtain ⟨t1, ht1⟩ := hSg hh7.2
          obtain ⟨x0, hx0, dx0⟩ := C9.ht _ _ ht0
          obtain ⟨x1, hx1, dx1⟩ := C9.ht _ _ ht1
          have l0 : x0.length = (rw7 hp.1).length := by rw [dx0.length, List.length_map]
          have l1 : x1.length = (rw7 hp.2).length := by rw [dx1.length, List.length_map]
          have fin : ∀ H', Chn G7 H H' a A1 S ts (qs.eraseIdx r7.toNat) rw7 → ∃ (u7 u8 u9 : Option V) (G : Hp) (hb : Addr) (hp : Nat × Nat) (qs : List (Nat × Nat)) (rw : Nat → List (List Bool × Nat)), [some (.ref a), some (.int (mm : Nat)), some (.int (sz : Nat)), some (.ref A1), v4, some (.ref S), some (.ref hb7), some (.int (i : Nat)), some (.ref tb), v9, none] = [some (.ref a), some (.int (mm : Nat)), some (.int (sz : Nat)), some (.ref A1), v4, some (.ref S), some (.ref hb), u7, u8, u9, none] ∧ Chn G H H' a A1 S ts qs rw ∧ G hb = some (.tup [.int (hp.1 : Nat), .int (hp.2 : Nat)]) ∧ (hp.1 < hp.2 ∧ hp.2 < mm) ∧ qs.length + (i + 1) = ps.length - 1 ∧ (∀ p ∈ qs, p.1 < p.2 ∧ p.2 < mm) ∧ (∀ x, (rw x).length ≤ sz - 1) ∧ ∀ x, ∀ r ∈ rw x, r.1.length = 6 ∧ r.2 < mm :=
            fun H' C' => ⟨_, _, _, G7, hb7, hp, _, rw7, rfl, C', hhb7, hh7, qe, hqE, hrl, hrr⟩
          refine ⟨_, gt (C9.s _ _ hhb7) (by decide) rfl, .ref t0, gl C9.hS (by omega) (by simpa using ht0), _, lenL hx0, ?_⟩
          refine ite2 (fun c0 => ?_) (fun c0 => iteF (fin _ C9))
          have c0' := of_decide_eq_true c0
          refine ⟨_, gt (C9.s _ _ hhb7) (by decide) rfl, .ref t1, gl C9.hS (by omega) (by simpa using ht1), _, lenL hx1, ?_⟩
          refine ite2 (fun c1' => ?_) (fun c1' => fin _ C9)
          have c1'' := of_decide_eq_true c1'
          refine ⟨C9.st, by decide, by decide, fun tn H10 tn0 tn1 d10 o10 => ?_⟩
          have C10 := C9.take d10 o10
          dsimp only [gName]
          have hx0' := o10 _ _ hx0 (fun z => C9.at' (z ▸ List.mem_of_getElem? ht0))
          have hx1' := o10 _ _ hx1 (fun z => C9.at' (z ▸ List.mem_of_getElem? ht1))
          have tget : ∀ {Hh : Hp}, Hh tb = some (.tup [.int (tp.1 : Nat), .int (tp.2 : Nat)]) → ∀ {u : Int}, 0 ≤ u → u < 2 → ∃ nx : Nat, nx < mm ∧ getV Hh (.ref tb) u = some (.int (nx : Nat)) := fun {Hh} hh {u} u0 u1 => by
            have : u = 0 ∨ u = 1 := by omega
            rcases this with rfl | rfl
            · exact ⟨tp.1, by omega, gt hh (by decide) rfl⟩
            · exact ⟨tp.2, by omega, gt hh (by decide) rfl⟩
          refine ⟨_, gt (C10.s _ _ hhb7) (by decide) rfl, .ref t0, gl C10.hS (by omega) (by simpa using ht0), ⟨_, rfl, hx0'⟩, ?_⟩
          refine ⟨by decide, by decide, fun w0 hw0 => ?_⟩
          obtain ⟨n0, n0m, hn0⟩ := tget (C10.s _ _ htb) tn0 tn1
          refine ⟨_, hn0, le_line (Nat.le_of_ble_eq_true rfl), fun e0 he0 => ?_⟩
          have C11 := C10.put (ob := .tup [.str (bs w0), .int (n0 : Nat)]) he0
          have U11 := C10.up (ob := .tup [.str (bs w0), .int (n0 : Nat)]) he0
          have dv0 : DV (upd G7 e0 (.tup [.str (bs w0), .int (n0 : Nat)])) (.ref e0) (rowD (w0, n0)) := .tup upd_same (.cons (.str _) (.cons (.int _) .nil))
          have hx0'' := Same.upd (o := .tup [.str (bs w0), .int (n0 : Nat)]) he0 _ _ hx0'
          have hx1'' := Same.upd (o := .tup [.str (bs w0), .int (n0 : Nat)]) he0 _ _ hx1'
          refine ⟨_, hx0'', lt_line (by omega), ?_⟩
          have C12 := C11.app ht0 hx0'' dv0
          have t01 : t1 ≠ t0 := fun z => by
            subst z
            obtain ⟨k1, e1⟩ := List.getElem?_eq_some_iff.mp ht0
            obtain ⟨k2, e2⟩ := List.getElem?_eq_some_iff.mp ht1
            have := (List.getElem_inj C9.nd).mp (e1.trans e2.symm)
            omega
          have hx1c : upd (upd H10 e0 (.tup [.str (bs w0), .int (n0 : Nat)])) t0 (.lst (x0 ++ [.ref e0])) t1 = some (.lst x1) := by rw [upd_ne t01]; exact hx1''
          generalize upd (upd H10 e0 (.tup [.str (bs w0), .int (n0 : Nat)])) t0 (.lst (x0 ++ [.ref e0])) = H12 at *
          refine ⟨_, gt (C12.s _ _ (U11 _ _ hhb7)) (by decide) rfl, .ref t1, gl C12.hS (by omega) (by simpa using ht1), ⟨_, rfl, hx1c⟩, ?_⟩
          refine ⟨by decide, by decide, fun w1 hw1 => ?_⟩
          obtain ⟨n1', n1m, hn1⟩ := tget (C12.s _ _ (U11 _ _ htb)) (u := 1 - tn) (by omega) (by omega)
          refine ⟨_, hn1, le_line (Nat.le_of_ble_eq_true rfl), fun e1 he1 => ?_⟩
          have C13 := C12.put (ob := .tup [.str (bs w1), .int (n1' : Nat)]) he1
          have U13 := C12.up (ob := .tup [.str (bs w1), .int (n1' : Nat)]) he1
          have dv1 : DV (upd (upd G7 e0 (.tup [.str (bs w0), .int (n0 : Nat)])) e1 (.tup [.str (bs w1), .int (n1' : Nat)])) (.ref e1) (rowD (w1, n1')) := .tup upd_same (.cons (.str _) (.cons (.int _) .nil))
          have hx1d := Same.upd (o := .tup [.str (bs w1), .int (n1' : Nat)]) he1 _ _ hx1c
          refine ⟨_, hx1d, lt_line (by omega), ?_⟩
          have C14 := C13.app ht1 hx1d dv1
          refine ⟨_, _, _, _, tb, tp, _, _, rfl, C14, U13 _ _ (U11 _ _ htb), hth, qe, hqE, fun x => ?_, fun x r hr => ?_⟩
          · have hx := hrl x
            split
            · rename_i e; subst e
              split
              · rename_i e; omega
              · rw [List.length_append, List.length_singleton]; omega
            · split
              · rename_i e; subst e
                rw [List.length_append, List.length_singleton]; omega
              · exact hx
          · have w06 : w0.length = 6 := by omega
            have w16 : w1.length = 6 := by omega
            split at hr
            · rename_i e
              rcases List.mem_append.mp hr with hr | hr
              · split at hr
                · rename_i e; omega
                · exact hrr _ _ hr
              · rw [List.mem_singleton.mp hr]; exact ⟨w16, n1m⟩
            · split at hr
              · rcases List.mem_append.mp hr with hr | hr
                · exact hrr _ _ hr
                · rw [List.mem_singleton.mp hr]; exact ⟨w06, n0m⟩
              · exact hrr _ _ hr
        · rintro σ H7 ⟨v7, v8, v9, G7, hb7, hp, qs, rw7, rfl, C7, hhb7, hh7, ql, hqs, hrl, hrr⟩
          have hrl8 : ∀ x, (rw7 x).length ≤ sz := fun x => by have := hrl x; omega
          clear hrl ql hqs hA4 hA5 hA6 dA4 dA6
          refine ⟨by omega, by omega, for_by (it_range 0 _) (fun i σ H8 => ∃ (v10 : Option V) (G : Hp) (rw : Nat → List (List Bool × Nat)), σ = [some (.ref a), some (.int (mm : Nat)), some (.int (sz : Nat)), some (.ref A1), v4, some (.ref S), some (.ref hb7), v7, v8, v9, v10] ∧ Chn G H H8 a A1 S ts qs rw ∧ (∀ x, x < i → (rw x).length = sz) ∧ (∀ x, (rw x).length ≤ sz) ∧ ∀ x, ∀ r ∈ rw x, r.1.length = 6 ∧ r.2 < mm)
            ⟨none, G7, rw7, rfl, C7, (fun x hx => absurd hx (Nat.not_lt_zero _)), hrl8, hrr⟩ (fun _ _ _ _ _ => trivial) ?_ ?_⟩
          · rintro i z σ H8 hi hz ⟨v10, G8, rw8, rfl, C8, hfull, hle, hok⟩
            rw [List.length_map, List.length_range] at hi
            have ez : z = .int (i : Nat) := by
              rw [List.getElem?_map, List.getElem?_range hi] at hz
              have := (Option.some.inj hz).symm
              rw [this]; simp
            subst ez
            have him : i < mm := by omega
            obtain ⟨ti, hti⟩ := hSg him
            refine ⟨fun m σ H9 => ∃ (G : Hp) (rw : Nat → List (List Bool × Nat)), σ = [some (.ref a), some (.int (mm : Nat)), some (.int (sz : Nat)), some (.ref A1), v4, some (.ref S), some (.ref hb7), v7, v8, v9, some (.int (i : Nat))] ∧ m + (rw i).length = sz ∧ Chn G H H9 a A1 S ts qs rw ∧ (∀ x, x < i → (rw x).length = sz) ∧ (∀ x, (rw x).length ≤ sz) ∧ ∀ x, ∀ r ∈ rw x, r.1.length = 6 ∧ r.2 < mm,
              ⟨sz - (rw8 i).length, G8, rw8, rfl, by have := hle i; omega, C8, hfull, hle, hok⟩, ?_⟩
            rintro m σ H9 ⟨G9, rw9, rfl, hm9, C9, hfull9, hle9, hok9⟩
            obtain ⟨x9, hx9, dx9⟩ := C9.ht _ _ hti
            have l9 : x9.length = (rw9 i).length := by rw [dx9.length, List.length_map]
            refine ⟨.ref ti, gl C9.hS (by omega) (by simpa using hti), _, lenL hx9, ?_⟩
            rw [l9]
            by_cases c : (rw9 i).length < sz
            · show if decide ((((rw9 i).length : Nat) : Int) < ((sz : Nat) : Int)) = true then _ else _
              rw [decide_eq_true (show (((rw9 i).length : Nat) : Int) < ((sz : Nat) : Int) by omega)]
              refine iteP rfl ?_
              refine ⟨fun σ' H' => ∃ (G : Hp) (rw : Nat → List (List Bool × Nat)), σ' = [some (.ref a), some (.int (mm : Nat)), some (.int (sz : Nat)), some (.ref A1), v4, some (.ref S), some (.ref hb7), v7, v8, v9, some (.int (i : Nat))] ∧ (rw i).length = (rw9 i).length + 1 ∧ Chn G H H' a A1 S ts qs rw ∧ (∀ x, x < i → (rw x).length = sz) ∧ (∀ x, (rw x).length ≤ sz) ∧ ∀ x, ∀ r ∈ rw x, r.1.length = 6 ∧ r.2 < mm, ?_, ?_⟩
              · rintro σ' H' ⟨G', rw', rfl, hl', C', hf', hle', hok'⟩
                exact ⟨m - 1, by omega, G', rw', rfl, by omega, C', hf', hle', hok'⟩
              · refine ⟨.ref ti, gl C9.hS (by omega) (by simpa using hti), ⟨_, rfl, hx9⟩, ?_⟩
                refine ⟨by decide, by decide, fun w0 hw0 => ?_⟩
                refine ⟨le_line (Nat.le_of_ble_eq_true rfl), fun e0 he0 => ?_⟩
                have C10 := C9.put (ob := .tup [.str (bs w0), .int (i : Nat)]) he0
                have dv0 : DV (upd G9 e0 (.tup [.str (bs w0), .int (i : Nat)])) (.ref e0) (rowD (w0, i)) := .tup upd_same (.cons (.str _) (.cons (.int _) .nil))
                have hx10 := Same.upd (o := .tup [.str (bs w0), .int (i : Nat)]) he0 _ _ hx9
                refine ⟨_, hx10, lt_line (by omega), ?_⟩
                have C11 := C10.app hti hx10 dv0
                refine ⟨_, _, rfl, ?_, C11, fun x hx => ?_, fun x => ?_, fun x r hr => ?_⟩
                · rw [if_pos rfl, List.length_append, List.length_singleton]
                · rw [if_neg (by omega)]; exact hfull9 x hx
                · split
                  · rw [List.length_append, List.length_singleton]; omega
                  · exact hle9 x
                · split at hr
                  · rcases List.mem_append.mp hr with hr | hr
                    · exact hok9 _ _ hr
                    · rw [List.mem_singleton.mp hr]; exact ⟨by show w0.length = 6; omega, him⟩
                  · exact hok9 _ _ hr
            · show if decide ((((rw9 i).length : Nat) : Int) < ((sz : Nat) : Int)) = true then _ else _
              rw [decide_eq_false (show ¬ (((rw9 i).length : Nat) : Int) < ((sz : Nat) : Int) by omega)]
              refine iteF ?_
              refine ⟨_, G9, rw9, rfl, C9, fun x hx => ?_, hle9, hok9⟩
              by_cases e : x = i
              · subst e; have := hle9 x; omega
              · exact hfull9 x (by omega)
          · rintro σ H8 ⟨v10, G8, rw8, rfl, C8, hfull, hle, hok⟩
            rw [List.length_map, List.length_range, Int.toNat_natCast] at hfull
            refine ⟨le_line (Nat.le_of_ble_eq_true rfl), fun p9 hp9 => ?_⟩
            have C9 := C8.put (ob := .lst [.int 2, .int 3]) hp9
            refine ⟨_, two_get (decide (((mm : Nat) : Int) > 4)) upd_same, ?_⟩
            rw [ekq]
            refine ⟨le_line (Nat.le_of_ble_eq_true rfl), fun e he => ?_⟩
            have C10 := C9.put (ob := .tup [.int (kq : Nat), .int 6, .ref S]) he
            have he' : upd (upd H8 p9 (.lst [.int 2, .int 3])) e (.tup [.int (kq : Nat), .int 6, .ref S]) e = some (.tup [.int (kq : Nat), .int 6, .ref S]) := upd_same
            generalize upd (upd H8 p9 (.lst [.int 2, .int 3])) e (.tup [.int (kq : Nat), .int 6, .ref S]) = H10 at *
            have ok : Om.CodeOk kq 6 ((List.range mm).map rw8) := by
              refine ⟨kq1, kq3, by decide, by decide, by simp; omega, by simp; omega, fun st hst => ?_, fun st hst r hr => ?_⟩
              · obtain ⟨x, hx, rfl⟩ := List.mem_map.mp hst
                rw [hfull x (List.mem_range.mp hx), pk]
              · obtain ⟨x, hx, rfl⟩ := List.mem_map.mp hst
                rw [List.length_map, List.length_range]
                exact hok x r hr
            have sG : Same _ (woA a H10) := fun x u e => woA.at (C10.s _ _ e) (ne_of_none e C10.ga)
            refine q (.ref e) kq 6 _ (woA a H10) _ ok ?_ ⟨woA.same, by unfold woA; rw [if_pos rfl], C10.st, C10.o⟩
            refine .tup (woA.at he' (C10.st.tup he')) (.cons (.int _) (.cons (.int _) (.cons (.lst (woA.at C10.hS C10.Sa) ?_) .nil)))
            refine DVs.ofGet (by simp; exact tl) fun x v d h1 h2 => ?_
            rw [List.getElem?_map] at h1
            obtain ⟨t, ht, rfl⟩ := Option.map_eq_some_iff.mp h1
            have hx : x < mm := by rw [← tl]; exact (List.getElem?_eq_some_iff.mp ht).1
            rw [List.getElem?_map, List.getElem?_map, List.getElem?_range hx] at h2
            have := (Option.some.inj h2).symm
            subst this
            obtain ⟨xs, h3, h4⟩ := C10.ht _ _ ht
            exact .lst (woA.at h3 (fun z => C10.at' (z ▸ List.mem_of_getElem? ht))) (h4.mono sG)
  · exact h.elim
end

end K31
end
section
set_option Elab.async false
set_option linter.all false
set_option maxRecDepth 100000
set_option maxHeartbeats 4000000
namespace K31
open PySem L2
section
variable {P : Program} {w : World} {K : PySem.W.Frag} {mg : Str → Option Value} {base : Heap}
abbrev sAnyC : Stmt := top 39
def spAnyC : Sp := fun vs H Q _ => match vs with
  | [.ref a] => Sto H a ∧ ∀ v k n rows G H', Om.CodeOk k n rows → DV G v (codeD k n rows) → Gh G H H' a → Q v H'
  | _ => False
theorem scAnyC : FnScope ["store"] ["store"] (defScope sAnyC) := ⟨rfl, rfl, rfl, by decide +kernel, rfl, by decide +kernel, by decide +kernel⟩
local macro_rules | `(tactic| walk_at "T.n") => `(tactic| with_reducible first | exact vn "store" 0)
theorem ok_anyC (D : FnX K mg "_law_any_code" sAnyC ["store"]) (c1 : Can P w K mg base "_law_take" 1 ["store", "many"] spTake) (c2 : Can P w K mg base "_law_chained" 2 ["store"] spChained) (c3 : Can P w K mg base "_law_code" 3 ["store", "most"] spCodeS) : Can P w K mg base "_law_any_code" 4 ["store"] spAnyC := by
  refine can_fn (k := 3) D scAnyC (fun vs H Q E h => ?_) (fun f cdv A outer s H vs Q E hr h => ?_)
  all_goals
    unfold spAnyC at h
    split at h
  · rfl
  · exact h.elim
  · rename_i a
    obtain ⟨st0, q⟩ := h
    have nd := scAnyC.nd
    refine ⟨_, (by walk_at "T.top"), ?_⟩
    refine ⟨st0, by decide, by decide, fun r H1 r0 r1 st1 o1 => ?_⟩
    refine ite2 (fun c => ?_) (fun c => ?_)
    · exact ⟨st1, fun v k n rows G H' ok dv M => q v k n rows G H' ok dv ⟨M.s, M.ga, M.st, o1.trans M.o⟩⟩
    · exact ⟨st1, by decide, by decide, fun v k n rows G H' ok _ dv M => q v k n rows G H' ok dv ⟨M.s, M.ga, M.st, o1.trans M.o⟩⟩
  · exact h.elim
end
section
variable {P : Program} {w : World} {K : PySem.W.Frag} {mg : Str → Option Value} {base : Heap}
end

end K31
end
section
set_option Elab.async false
set_option linter.all false
set_option maxRecDepth 100000
set_option maxHeartbeats 4000000
namespace K31
open PySem L2
namespace OmX
open Om
theorem iter_mono {E : Nat → Nat → Stp → Prop} : ∀ (m : Nat) {R R' : R2n}, (∀ x y, R x y → R' x y) → ∀ x y, iterR E R m x y → iterR E R' m x y
  | 0, _, _, h => h
  | m + 1, _, _, h => fun x y ⟨a, b, s, r, e, q⟩ => ⟨a, b, s, iter_mono m h a b r, e, q⟩
theorem uns_one {k n : Nat} {rows : Rows} (ok : CodeOk k n rows) {m : Nat} (h : Uns rows (m + 1)) : Uns rows m := by
  obtain ⟨x, y, h1, h2, h3⟩ := h
  rw [iter_front] at h1
  refine ⟨x, y, iter_mono m (fun a b ⟨a', b', s, r, e, q⟩ => ?_) x y h1, h2, h3⟩
  have e2 : s.2 = (a, b) := q
  obtain ⟨f1, f2, _, f4⟩ := e
  rw [e2] at f4
  injection f4 with g1 g2
  rw [g1, g2]
  exact ⟨(ok.stp f1).2.2, (ok.stp f2).2.2⟩
theorem uns_le {k n : Nat} {rows : Rows} (ok : CodeOk k n rows) {d : Nat} : ∀ {m : Nat}, d ≤ m → Uns rows m → Uns rows d := fun {m} hm h => by
  induction m with
  | zero => rw [Nat.le_zero.mp hm]; exact h
  | succ m ih =>
    rcases Nat.lt_or_ge d (m + 1) with z | z
    · exact ih (by omega) (uns_one ok h)
    · rw [show d = m + 1 by omega]; exact h
theorem aft_pth {rows : Rows} {ws : List (List Bool)} {x : Nat} (h : afts rows (fun x => x < rows.length) ws x) : ∃ t, Pth rows ws.length t ws.flatten x := by
  obtain ⟨t, h1, _⟩ := afts_pth (T := fun _ => True) (fun _ _ _ => trivial) (m := 0) (w := []) (fun x hx => ⟨[], .nil hx, trivial⟩) x h
  rw [Nat.zero_add, List.nil_append] at h1
  exact ⟨t, h1⟩
theorem one_end {k n : Nat} {rows : Rows} (ok : CodeOk k n rows) {d : Nat} (nu : ¬ Uns rows d) {ls : List Nat} {s : Nat} (hd : d ≤ ls.length) (hs : s < rows.length) (hls : ∀ l ∈ ls, l < 2 ^ k) (x : Nat) : afts rows (fun x => x < rows.length) (words rows s ls) x ↔ x = (send rows s ls).2 := by
  have h0 := words_afts ok (S := fun x => x < rows.length) hs hs hls
  constructor
  · intro h
    refine Classical.byContradiction fun ne => nu (uns_le ok hd ?_)
    obtain ⟨t, h1⟩ := aft_pth h
    obtain ⟨t', h2⟩ := aft_pth h0
    have h3 := (iter_iff ok _ _ _).mpr ⟨t, t', _, h1, h2⟩
    rw [words_len] at h3
    exact ⟨x, _, h3, iter_all ok _ _ _ h3, ne⟩
  · rintro rfl
    exact h0
theorem uns0 {k n : Nat} {rows : Rows} (ok : CodeOk k n rows) (h : ¬ Uns rows 0) : rows.length = 1 := by
  have s1 := ok.s1
  refine Classical.byContradiction fun ne => h ⟨0, 1, ⟨by omega, by omega⟩, ⟨by omega, by omega⟩, by decide⟩
def Side (rows : Rows) (p q : Nat × Nat) (ls : List Nat) : Prop := ∃ ms : List Nat, words rows p.1 ls = words rows p.2 ms ∧ (send rows p.1 ls).2 = q.1 ∧ (send rows p.2 ms).2 = q.2 ∧ (∀ l ∈ ms, l < (rows.getD 0 []).length ∨ True) ∧ ∀ S : Sn, S p.2 → afts rows S (words rows p.2 ms) q.2
theorem Side.nil (rows : Rows) (q : Nat × Nat) : Side rows q q [] := ⟨[], rfl, rfl, rfl, (fun _ h => nomatch h), fun S h => h⟩
theorem Side.cons {rows : Rows} {p p' q : Nat × Nat} {ls : List Nat} {l tn : Nat} (h : Side rows p q ls) (st : St rows p'.1 p'.2 ((l, tn), p)) : Side rows p' q (l :: ls) := by
  obtain ⟨ms, h1, h2, h3, _, h5⟩ := h
  obtain ⟨f1, f2, f3, f4⟩ := st
  have e1 : (step rows p'.1 l).2 = p.1 := by rw [show p = _ from f4]
  have e2 : (step rows p'.2 tn).2 = p.2 := by rw [show p = _ from f4]
  have w1 : words rows p'.1 (l :: ls) = (step rows p'.1 l).1 :: words rows (step rows p'.1 l).2 ls := rfl
  have w2 : words rows p'.2 (tn :: ms) = (step rows p'.2 tn).1 :: words rows (step rows p'.2 tn).2 ms := rfl
  refine ⟨tn :: ms, ?_, ?_, ?_, (fun _ _ => .inr trivial), fun S hS => ?_⟩
  · rw [w1, w2, e1, e2, h1, show (step rows p'.1 l).1 = (step rows p'.2 tn).1 from f3]
  · show (send rows (step rows p'.1 l).2 ls).2 = _
    rw [e1]; exact h2
  · show (send rows (step rows p'.2 tn).2 ms).2 = _
    rw [e2]; exact h3
  · rw [w2, afts_cons, e2]
    exact h5 _ ⟨p'.2, tn, hS, f2, Prod.ext rfl e2⟩
theorem Side.both {k n : Nat} {rows : Rows} (ok : CodeOk k n rows) {p q : Nat × Nat} {ls : List Nat} (h : Side rows p q ls) (hp : AllR rows p.1 p.2) (hls : ∀ l ∈ ls, l < 2 ^ k) : afts rows (fun x => x < rows.length) (words rows p.1 ls) q.1 ∧ afts rows (fun x => x < rows.length) (words rows p.1 ls) q.2 := by
  obtain ⟨ms, h1, h2, h3, _, h5⟩ := h
  constructor
  · rw [← h2]
    exact words_afts ok hp.1 hp.1 hls
  · rw [h1]
    exact h5 _ hp.2
theorem words_alike {rows : Rows} {x y : Nat} {ls ms : List Nat} (hl : ls.length = ms.length) (h : ∀ j, j < ls.length → Alike rows x y ls ms j) : words rows x ls = words rows y ms := by
  have : ∀ i, i ≤ ls.length → words rows x (ls.take i) = words rows y (ms.take i) := fun i => by
    induction i with
    | zero => intro _; rfl
    | succ i ih =>
      intro hi
      have i1 : i < ls.length := by omega
      rw [take_succ_getD i1, take_succ_getD (show i < ms.length by omega), words_snoc, words_snoc, ih (by omega)]
      exact congrArg (fun z => _ ++ [z]) (h i i1)
  have z := this ls.length (Nat.le_refl _)
  rwa [List.take_length, hl, List.take_length] at z
def again (m e : Nat) (ls : List Nat) : List Nat := (List.replicate m (ls.take e)).flatten ++ ls.drop e
theorem again_send {rows : Rows} {x e : Nat} {ls : List Nat} (hx : (send rows x (ls.take e)).2 = x) : ∀ m, (send rows x (again m e ls)).2 = (send rows x ls).2 ∧ words rows x (again m e ls) = (List.replicate m (words rows x (ls.take e))).flatten ++ words rows x (ls.drop e) := fun m => by
  have base : (send rows x (ls.drop e)).2 = (send rows x ls).2 := by
    have := send_app rows (ls.take e) (ls.drop e) x
    rw [List.take_append_drop, hx] at this
    rw [this]
  induction m with
  | zero => exact ⟨base, by show words rows x (([] : List (List Nat)).flatten ++ ls.drop e) = _; simp⟩
  | succ m ih =>
    have e1 : again (m + 1) e ls = ls.take e ++ again m e ls := by unfold again; rw [List.replicate_succ, List.flatten_cons, List.append_assoc]
    rw [e1, send_app, words_app, hx, ih.2, List.replicate_succ, List.flatten_cons, List.append_assoc]
    exact ⟨ih.1, rfl⟩
theorem never_again {k : Nat} {rows : Rows} {one other : Nat} {e : Int} {xs ys : List Int} (h : Shows k rows (one : Nat) (other : Nat) 0 e xs ys) (m : Nat) :
    words rows one (again m e.toNat (nats xs)) = words rows other (again m e.toNat (nats ys)) ∧ (send rows one (again m e.toNat (nats xs))).2 ≠ (send rows other (again m e.toNat (nats ys))).2 := by
  obtain ⟨h1, ⟨h2, h3, h4⟩, h5, h6, h7, h8, h9, h10, h11⟩ := h
  have l1 := nats_len xs
  have l2 := nats_len ys
  simp only [Int.toNat_natCast] at h9 h10 h11
  have wa := words_alike (x := one) (y := other) (ls := nats xs) (ms := nats ys) (by rw [l1, l2, h1]) (fun j hj => h9 j (by rw [← l1]; exact hj))
  have p0 : pst rows one other (nats xs) (nats ys) (0 : Int).toNat = (one, other) := rfl
  rw [p0] at h10
  have a1 : (send rows one ((nats xs).take e.toNat)).2 = one := (congrArg Prod.fst h10).symm
  have a2 : (send rows other ((nats ys).take e.toNat)).2 = other := (congrArg Prod.snd h10).symm
  have b1 := again_send a1 m
  have b2 := again_send a2 m
  have t1 : words rows one ((nats xs).take e.toNat) = words rows other ((nats ys).take e.toNat) := by rw [← words_take, ← words_take, wa]
  have t2 : words rows one ((nats xs).drop e.toNat) = words rows other ((nats ys).drop e.toNat) := by
    have z1 := words_drop rows (nats xs) one e.toNat (by omega)
    have z2 := words_drop rows (nats ys) other e.toNat (by omega)
    rw [a1] at z1
    rw [a2] at z2
    rw [← z1, ← z2, wa]
  refine ⟨by rw [b1.2, b2.2, t1, t2], ?_⟩
  rw [b1.1, b2.1]
  have q1 : (pst rows one other (nats xs) (nats ys) xs.length) = ((send rows one (nats xs)).2, (send rows other (nats ys)).2) := by
    unfold pst
    rw [← l1, List.take_length, l1, h1, ← l2, List.take_length]
  rw [q1] at h11
  exact h11
end OmX

end K31
end
section
set_option Elab.async false
set_option linter.all false
set_option maxRecDepth 100000
set_option maxHeartbeats 4000000
namespace K31
open PySem L2
section
variable {P : Program} {w : World} {K : PySem.W.Frag} {mg : Str → Option Value} {base : Heap}
theorem eqv_nilR (ds : List PyData) : PyData.eqv (.list ds) (.list []) = decide (ds = []) := by
  rw [PyData.eqv]
  cases ds <;> simp [PyData.eqvAll]
theorem glast {H : Hp} {l : Addr} {xs : List V} {x : V} (hl : H l = some (.lst (xs ++ [x]))) : getV H (.ref l) (-1) = some x := by
  rw [getV_lst hl]
  unfold atI ixN
  rw [if_neg (by decide), List.length_append, List.length_singleton, if_pos (by omega)]
  show (xs ++ [x])[((-1 : Int) + ((xs.length + 1 : Nat) : Int)).toNat]? = _
  rw [show ((-1 : Int) + ((xs.length + 1 : Nat) : Int)).toNat = xs.length by omega, List.getElem?_append_right (Nat.le_refl _), Nat.sub_self]
  rfl
abbrev Pr := Nat × Nat
abbrev itP (rows : Om.Rows) (j : Nat) (p : Pr) : Prop := Om.iterR (Om.St rows) (Om.AllR rows) j p.1 p.2
def Came (rows : Om.Rows) (H : Hp) (j : Nat) (kvs : List (List Key × V)) (p : Pr) : Prop := ∃ (q b : Addr) (l tn : Nat) (p' : Pr), valV kvs (kk p) = some (.ref q) ∧ H q = some (.tup [.ref b, .int (l : Nat)]) ∧ H b = some (.tup [.int (p'.1 : Nat), .int (p'.2 : Nat)]) ∧ itP rows j p' ∧ Om.St rows p'.1 p'.2 ((l, tn), p)
structure LevV (rows : Om.Rows) (H : Hp) (j : Nat) (kvs : List (List Key × V)) (ks : List Pr) : Prop where
  kd : KD ks kvs
  mem : ∀ p, p ∈ ks ↔ itP rows j p
  came : ∀ i, j = i + 1 → ∀ p ∈ ks, Came rows H i kvs p
theorem Came.mono {rows : Om.Rows} {H H' : Hp} {j : Nat} {kvs : List (List Key × V)} {p : Pr} (h : Came rows H j kvs p) (s : ∀ b xs, H b = some (.tup xs) → H' b = some (.tup xs)) : Came rows H' j kvs p := by
  obtain ⟨q, b, l, tn, p', h1, h2, h3, h4⟩ := h
  exact ⟨q, b, l, tn, p', h1, s _ _ h2, s _ _ h3, h4⟩
theorem LevV.mono {rows : Om.Rows} {H H' : Hp} {j : Nat} {kvs : List (List Key × V)} {ks : List Pr} (h : LevV rows H j kvs ks) (s : ∀ b xs, H b = some (.tup xs) → H' b = some (.tup xs)) : LevV rows H' j kvs ks := ⟨h.kd, h.mem, fun i e p hp => (h.came i e p hp).mono s⟩
structure Lvs (rows : Om.Rows) (H0 H : Hp) (L : Addr) (ds : List Addr) : Prop where
  s : Same H0 H
  nL : H0 L = none
  hL : H L = some (.lst (ds.map V.ref))
  n0 : ∀ d ∈ ds, H0 d = none
  nd : ds.Nodup
  lv : ∀ (j : Nat) d, ds[j]? = some d → ∃ kvs ks, (H d = some (.dT kvs) ∨ (j + 1 < ds.length ∧ ∃ o, H d = some (.frz o (.dT kvs)))) ∧ LevV rows H j kvs ks
theorem Lvs.same {rows : Om.Rows} {H0 H H' : Hp} {L : Addr} {ds : List Addr} (h : Lvs rows H0 H L ds) (s : Same H H') : Lvs rows H0 H' L ds :=
  ⟨h.s.trans s, h.nL, s _ _ h.hL, h.n0, h.nd, fun j d e => let ⟨kvs, ks, a, b⟩ := h.lv j d e; ⟨kvs, ks, a.imp (s _ _) (fun ⟨x, o, y⟩ => ⟨x, o, s _ _ y⟩), b.mono fun b xs e => s _ _ e⟩⟩
theorem Lvs.more {rows : Om.Rows} {H0 H H2 : Hp} {L D F : Addr} {ds : List Addr} {o : Obj} {kvs fkvs : List (List Key × V)} {fks : List Pr} (h : Lvs rows H0 H L (ds ++ [D])) (nF : H F = none) (hD : H D = some (.dT kvs)) (st : ∀ b u, b ≠ F → b ≠ D → H b = some u → H2 b = some u) (hD2 : H2 D = some (.frz o (.dT kvs)))
    (hF : H2 F = some (.dT fkvs)) (lf : LevV rows H2 (ds.length + 1) fkvs fks) : Lvs rows H0 (upd H2 L (.lst ((ds ++ [D]).map V.ref ++ [.ref F]))) L ((ds ++ [D]) ++ [F]) := by
  have FL : F ≠ L := fun z => by rw [z, h.hL] at nF; cases nF
  have DL : D ≠ L := fun z => by rw [z, h.hL] at hD; cases hD
  have FD : F ≠ D := fun z => by rw [z, hD] at nF; cases nF
  have F0 : H0 F = none := by
    cases e : H0 F with
    | none => rfl
    | some u => rw [h.s _ _ e] at nF; cases nF
  have D0 := h.n0 D (by simp)
  have tp : ∀ b xs, H b = some (.tup xs) → upd H2 L (.lst ((ds ++ [D]).map V.ref ++ [.ref F])) b = some (.tup xs) := fun b xs e => by
    rw [upd_ne (ne_of e h.hL (fun z => nomatch z))]
    exact st _ _ (ne_of_none e nF) (ne_of e hD (fun z => nomatch z)) e
  refine ⟨fun b u e => ?_, h.nL, by rw [upd_same]; simp, fun d hd => ?_, ?_, fun j d e => ?_⟩
  · rw [upd_ne (ne_of_none e h.nL)]
    exact st _ _ (ne_of_none e F0) (ne_of_none e D0) (h.s _ _ e)
  · rcases List.mem_append.mp hd with z | z
    · exact h.n0 d z
    · rw [List.mem_singleton.mp z]; exact F0
  · rw [List.nodup_append]
    refine ⟨h.nd, by simp, fun a ha b hb => ?_⟩
    rw [List.mem_singleton.mp hb]
    rintro rfl
    obtain ⟨j, hj⟩ := List.mem_iff_getElem?.mp ha
    obtain ⟨kv, _, z, _⟩ := h.lv j a hj
    rcases z with z | ⟨_, _, z⟩ <;> rw [nF] at z <;> cases z
  · rcases Nat.lt_or_ge j (ds ++ [D]).length with jl | jl
    · rw [List.getElem?_append_left jl] at e
      obtain ⟨kv, ks, z, lz⟩ := h.lv j d e
      have jl' : j + 1 < ((ds ++ [D]) ++ [F]).length := by rw [List.length_append (bs := [F])]; simp only [List.length_singleton]; omega
      refine ⟨kv, ks, ?_, lz.mono tp⟩
      by_cases dD : d = D
      · subst dD
        refine .inr ⟨jl', o, ?_⟩
        rw [upd_ne DL, hD2]
        rcases z with z | ⟨_, _, z⟩
        · rw [hD] at z; cases z; rfl
        · rw [hD] at z; cases z
      · have dF : d ≠ F := fun y => by
          rcases z with z | ⟨_, _, z⟩ <;> rw [y, nF] at z <;> cases z
        have dL : d ≠ L := fun y => by
          rcases z with z | ⟨_, _, z⟩ <;> rw [y, h.hL] at z <;> cases z
        rcases z with z | ⟨_, o', z⟩
        · exact .inl (by rw [upd_ne dL]; exact st _ _ dF dD z)
        · exact .inr ⟨jl', o', by rw [upd_ne dL]; exact st _ _ dF dD z⟩
    · have je : j = (ds ++ [D]).length := by
        have := (List.getElem?_eq_some_iff.mp e).1
        rw [List.length_append (bs := [F]), List.length_singleton] at this
        omega
      subst je
      rw [List.getElem?_append_right (Nat.le_refl _), Nat.sub_self] at e
      cases e
      refine ⟨fkvs, fks, .inl (by rw [upd_ne FL]; exact hF), ?_⟩
      rw [List.length_append, List.length_singleton]
      refine lf.mono fun b xs e => ?_
      have bL : b ≠ L := fun z => by
        have := st _ _ (Ne.symm FL) (Ne.symm DL) h.hL
        rw [z, this] at e
        cases e
      rw [upd_ne bL]
      exact e
theorem Lvs.last {rows : Om.Rows} {H0 H : Hp} {L D : Addr} {ds : List Addr} (h : Lvs rows H0 H L (ds ++ [D])) : ∃ kvs ks, H D = some (.dT kvs) ∧ LevV rows H ds.length kvs ks := by
  obtain ⟨kvs, ks, z, l⟩ := h.lv ds.length D (by rw [List.getElem?_append_right (Nat.le_refl _), Nat.sub_self]; rfl)
  refine ⟨kvs, ks, z.resolve_right fun ⟨x, _⟩ => ?_, l⟩
  rw [List.length_append, List.length_singleton] at x
  omega
abbrev sLate : Stmt := top 45
def spLate : Sp := fun vs H Q _ => match vs with
  | [cv, .int m0] => ∃ (k n : Nat) (rows : Om.Rows) (m : Nat), DV H cv (codeD k n rows) ∧ Om.CodeOk k n rows ∧ m0 = (m : Nat) ∧ m ≤ 64 ∧ (∀ H', Same H H' → ¬ Om.Uns rows m → Q .non H') ∧
      ∀ (a t b : Addr) (p q : Pr) (ls : List Nat) H', Same H H' → H' a = some (.tup [.int (p.1 : Nat), .ref t, .ref b]) → H' t = some (.lst ((ni ls).map V.int)) → H' b = some (.tup [.int (q.1 : Nat), .int (q.2 : Nat)]) → ls.length = m → (∀ l ∈ ls, l < 2 ^ k) → Om.AllR rows p.1 p.2 → OmX.Side rows p q ls → q.1 ≠ q.2 → q.1 < rows.length → q.2 < rows.length → Q (.ref a) H'
  | _ => False
theorem scLate : FnScope ["code", "many", "levels", "pair", "k", "found", "letter", "turn", "behind", "unlike", "here", "text", "level"] ["code", "many"] (defScope sLate) := ⟨rfl, rfl, rfl, by decide +kernel, rfl, by decide +kernel, by decide +kernel⟩
local macro_rules | `(tactic| walk_at "T.n") => `(tactic| with_reducible first | exact vn "pair" 0)
local macro_rules | `(tactic| walk_at "T.gn") => `(tactic| with_reducible first | exact gn "pair" 0 (by with_unfolding_all assumption))
local macro_rules | `(tactic| walk_at "T.sc") => `(tactic| (have ndc : (["pair"] : List Str).Nodup := (by decide +kernel)); ((with_reducible refine' s_comp "unlike" 9 ["pair"] [] ?b1 ?b0 ?b2 (fun cl C s H fp => ?b3) (fun cl C s H fp => ?b4) (fun cl C s H fp => ?b5)); (case b1 => exact ndc); (case b0 => assumption); (case b2 => walk_at "T.i"); (case b3 => walk_at "T.g"); (case b4 => walk_at "T.pf"); (case b5 => walk_at "T.e")))
local macro_rules | `(tactic| walk_at "T.n") => `(tactic| with_reducible first | exact vn "code" 0 | exact vn "many" 1 | exact vn "levels" 2 | exact vn "pair" 3 | exact vn "found" 5 | exact vn "letter" 6 | exact vn "behind" 8 | exact vn "unlike" 9 | exact vn "here" 10 | exact vn "text" 11 | exact vn "level" 12)
local macro_rules | `(tactic| walk_at "T.gn") => `(tactic| with_reducible first | exact gn "levels" 2 (by with_unfolding_all assumption) | exact gn "pair" 3 (by with_unfolding_all assumption) | exact gn "k" 4 (by with_unfolding_all assumption) | exact gn "found" 5 (by with_unfolding_all assumption) | exact gn "letter" 6 (by with_unfolding_all assumption) | exact gn "turn" 7 (by with_unfolding_all assumption) | exact gn "behind" 8 (by with_unfolding_all assumption) | exact gn "unlike" 9 (by with_unfolding_all assumption) | exact gn "here" 10 (by with_unfolding_all assumption) | exact gn "text" 11 (by with_unfolding_all assumption) | exact gn "level" 12 (by with_unfolding_all assumption))
local macro_rules | `(tactic| walk_at "T.n") => `(tactic| with_reducible first | exact vn "code" 0 | exact vn "many" 1 | exact vn "levels" 2 | exact vn "pair" 3 | exact vn "found" 5 | exact vn "letter" 6 | exact vn "behind" 8 | exact vn "unlike" 9 | exact vn "here" 10 | exact vn "text" 11 | exact vn "level" 12 | exact vn "pair" 0)
local macro_rules | `(tactic| walk_at "T.gn") => `(tactic| with_reducible first | exact gn "levels" 2 (by with_unfolding_all assumption) | exact gn "pair" 3 (by with_unfolding_all assumption) | exact gn "k" 4 (by with_unfolding_all assumption) | exact gn "found" 5 (by with_unfolding_all assumption) | exact gn "letter" 6 (by with_unfolding_all assumption) | exact gn "turn" 7 (by with_unfolding_all assumption) | exact gn "behind" 8 (by with_unfolding_all assumption) | exact gn "here" 10 (by with_unfolding_all assumption) | exact gn "text" 11 (by with_unfolding_all assumption) | exact gn "level" 12 (by with_unfolding_all assumption) | exact gn "pair" 0 (by with_unfolding_all assumption))
local macro_rules | `(tactic| walk_at "T.ty") => `(tactic| ((with_reducible refine' e_rev ?a1 ?a2); (case a1 => walk_at "T.e"); (case a2 => walk_at "T.o")))
local macro_rules | `(tactic| walk_at "T.e") => `(tactic| first | (with_reducible exact pe_dnewT) | ((with_reducible refine' ix_atD ?a0 ?a1 ?a2); (case a0 => exact Room.units (by assumption)); (case a1 => with_reducible exact vn "level" 12); (case a2 => walk_at "T.e")) | fail "no")
local macro_rules | `(tactic| walk_at "T.g") => `(tactic| ((with_reducible refine' g_subD ?a0 ?a1 ?a2); (case a0 => exact Room.units (by assumption)); (case a1 => walk_at "T.e"); (case a2 => walk_at "T.e")))
local macro_rules | `(tactic| walk_at "T.i") => `(tactic| ((with_reducible refine' pi_lstF ?a1); (case a1 => walk_at "T.e")))
theorem ok_late (D : FnX K mg "_law_late_wire" sLate ["code", "many"]) (g1 : mg "range" = none) (c1 : Can P w K mg base "_law_pairs" 1 ["code"] spPairs) (c2 : Can P w K mg base "_law_steps" 1 ["code", "pair"] spSteps) : Can P w K mg base "_law_late_wire" 2 ["code", "many"] spLate := by
  refine can_fn (k := 1) D scLate (fun vs H Q E h => ?_) (fun f cdv A outer s H vs Q E hr h => ?_)
  all_goals
    unfold spLate at h
    split at h
  · rfl
  · exact h.elim
  · rename_i cv m0
    obtain ⟨k, n, rows, m, hc, ok, rfl, m64, qn, q⟩ := h
    have nd := scLate.nd
    have s8 := ok.s8
    refine ⟨_, (by walk_at "T.top"), ?_⟩
    intro D0 hD0
    have z1 := Same.upd (o := .dT []) hD0
    have d1 : upd H D0 (.dT []) D0 = some (.dT []) := upd_same
    generalize upd H D0 (.dT []) = H1 at *
    refine ⟨le_line (Nat.le_of_ble_eq_true rfl), fun L hL => ?_⟩
    have z2 := Same.upd (o := .lst [.ref D0]) hL
    have l2 : upd H1 L (.lst [.ref D0]) L = some (.lst [.ref D0]) := upd_same
    have d2 := z2 _ _ d1
    have S2 := z1.trans z2
    have L0 : H L = none := by
      cases e : H L with
      | none => rfl
      | some u => rw [z1 _ _ e] at hL; cases hL
    generalize upd H1 L (.lst [.ref D0]) = H2 at *
    clear hL z2 d1 z1
    refine ⟨k, n, rows, hc.mono S2, s8, fun pl xs H3 s3 hpl dx => ?_⟩
    have S3 := S2.trans s3
    have d3 := s3 _ _ d2
    have l3 := s3 _ _ l2
    have xl : xs.length = (prs rows.length rows.length).length := by rw [dx.length, List.length_map]
    have DL : D0 ≠ L := ne_of d3 l3 (fun z => nomatch z)
    refine .inr (.inl ⟨⟨_, SqL.of hpl⟩, ?_⟩)
    refine for_by (it_list _ pl xs) (fun i σ H4 => ∃ (v3 : Option V) (kvs : List (List Key × V)) (ks : List Pr), σ = [some cv, some (.int (m : Nat)), some (.ref L), v3, none, none, none, none, none, none, none, none, none] ∧ SameT D0 H3 H4 ∧ H4 D0 = some (.dT kvs) ∧ KD ks kvs ∧ ∀ p, p ∈ ks ↔ p ∈ (prs rows.length rows.length).take i)
      ⟨none, [], [], rfl, SameT.refl _ _, d3, KD.nil, fun p => by simp⟩ (fun i σ H4 _ ⟨_, _, _, _, s4, _⟩ => SqL.of (s4 _ _ (ne_of hpl d3 (fun z => nomatch z)) hpl)) ?_ ?_
    · rintro i z σ H4 hi hz ⟨v3, kvs, ks, rfl, s4, d4, kd, km⟩
      have hi' : i < (prs rows.length rows.length).length := by omega
      obtain ⟨z', e1, e2⟩ := dx.get (i := i) (d := pairD (prs rows.length rows.length)[i]) (by rw [List.getElem?_map, List.getElem?_eq_getElem hi']; rfl)
      rw [hz] at e1
      cases e1
      have pm : (prs rows.length rows.length)[i].1 < rows.length ∧ (prs rows.length rows.length)[i].2 < rows.length := prs_mem.mp (by exact List.getElem_mem hi')
      have ti : (prs rows.length rows.length).take (i + 1) = (prs rows.length rows.length).take i ++ [(prs rows.length rows.length)[i]] := by rw [List.take_add_one, List.getElem?_eq_getElem hi']; rfl
      generalize (prs rows.length rows.length)[i] = pr at *
      obtain ⟨b, rfl, hb⟩ := pair_inv e2
      have hb4 := s4 _ _ (ne_of hb d3 (fun z => nomatch z)) hb
      have l4 := s4 _ _ (Ne.symm DL) l3
      refine ⟨_, gl l4 (by decide) rfl, ?_⟩
      refine .inr ⟨_, _, rfl, .inr ⟨kvs, kk pr, b, d4, rfl, hb4, kd.lt_line, rfl⟩, ?_⟩
      obtain ⟨ks', kd', km'⟩ := kd.set (p := pr) (v := .non) (by omega) (by omega)
      refine ⟨_, _, ks', rfl, fun x u nx e => by rw [upd_ne nx]; exact s4 _ _ nx e, upd_same, kd', fun p => ?_⟩
      rw [km', km, ti]
      simp
    rintro σ H4 ⟨v3, kvs, ks, rfl, s4, d4, kd, km⟩
    have S4 : Same H H4 := fun b u e => s4 _ _ (ne_of_none e hD0) (S3 _ _ e)
    have Lv0 : Lvs rows H H4 L [D0] := by
      refine ⟨S4, L0, s4 _ _ (Ne.symm DL) l3, fun d hd => by rw [List.mem_singleton.mp hd]; exact hD0, by simp, fun j d e => ?_⟩
      cases j with
      | zero =>
        cases e
        refine ⟨kvs, ks, .inl d4, kd, fun p => ?_, fun i e => by omega⟩
        rw [km, xl, List.take_length]
        exact prs_mem
      | succ j => simp at e
    clear S3 s4 d4 kd km d3 l3 d2 l2 dx hpl s3 S2 xl DL
    refine ⟨by omega, by omega, ?_⟩
    refine for_by (it_range 0 _) (fun i σ H5 => ∃ (v3 v4 v5 v6 v7 v8 : Option V) (ds : List Addr) (Dt : Addr), σ = [some cv, some (.int (m : Nat)), some (.ref L), v3, v4, v5, v6, v7, v8, none, none, none, none] ∧ Lvs rows H H5 L (ds ++ [Dt]) ∧ ds.length = i)
      ⟨v3, none, none, none, none, none, [], D0, rfl, Lv0, rfl⟩ (fun _ _ _ _ _ => trivial) ?_ ?_
    · rintro i x σ H5 hi hx ⟨v3, v4, v5, v6, v7, v8, ds, Dt, rfl, Vl, rfl⟩
      have i64 : ds.length < 64 := by
        rw [List.length_map, List.length_range] at hi
        omega
      intro F hF
      obtain ⟨tk, tks, hDt, lt⟩ := Vl.last
      have FD : F ≠ Dt := fun z => by rw [z, hDt] at hF; cases hF
      have z6 := Same.upd (o := .dT []) hF
      have f6 : upd H5 F (.dT []) F = some (.dT []) := upd_same
      have V6 := Vl.same z6
      have hD6 := z6 _ _ hDt
      have lt6 := lt.mono fun b xs e => z6 _ _ e
      generalize upd H5 F (.dT []) = H6 at *
      refine ⟨_, glast (xs := ds.map V.ref) (x := .ref Dt) (by rw [V6.hL]; simp), ?_⟩
      refine .inl ⟨tk, hD6, fun o bz kz => ?_⟩
      have st7 : ∀ b u, b ≠ Dt → H6 b = some u → upd H6 Dt (.frz o (.dT tk)) b = some u := fun b u n e => by rw [upd_ne n]; exact e
      have hD7 : upd H6 Dt (.frz o (.dT tk)) Dt = some (.frz o (.dT tk)) := upd_same
      have f7 := st7 _ _ FD f6
      generalize upd H6 Dt (.frz o (.dT tk)) = H7 at *
      have tp7 : ∀ b ys, H6 b = some (.tup ys) → H7 b = some (.tup ys) := fun b ys e => st7 _ _ (ne_of e hD6 (fun z => nomatch z)) e
      have S7 : Same H H7 := fun b u e => st7 _ _ (ne_of_none e (Vl.n0 Dt (by simp))) (V6.s _ _ e)
      have H0F : H F = none := by
        cases e : H F with
        | none => rfl
        | some u => rw [Vl.s _ _ e] at hF; cases hF
      have bl := lt.kd.blen kz
      refine for_by (it_keys Dt o (bz.map V.ref)) (fun j σ H8 => ∃ (v3 v6 v7 v8 : Option V) (fk : List (List Key × V)) (fks : List Pr), σ = [some cv, some (.int (m : Nat)), some (.ref L), v3, some x, some (.ref F), v6, v7, v8, none, none, none, none] ∧ SameT F H7 H8 ∧ H8 F = some (.dT fk) ∧ KD fks fk ∧ (∀ p ∈ fks, Came rows H8 ds.length fk p) ∧ ∀ p ∈ tks.take j, ∀ s, Om.St rows p.1 p.2 s → s.2 ∈ fks)
        ⟨v3, v6, v7, v8, [], [], rfl, SameT.refl _ _, f7, KD.nil, (fun p h => nomatch h), fun p h => by simp at h⟩ (fun j σ H8 _ ⟨_, _, _, _, _, _, _, s8', _⟩ => ⟨_, s8' _ _ (Ne.symm FD) hD7⟩) ?_ ?_
      · rintro j v σ H8 hj hv ⟨v3, v6, v7, v8, fk, fks, rfl, s8', f8, kdf, cm, cov⟩
        rw [bl] at hj
        obtain ⟨b, rfl, hb⟩ := lt.kd.key kz hj hv
        have hb8 := s8' _ _ (ne_of (tp7 _ _ hb) f7 (fun z => nomatch z)) (tp7 _ _ hb)
        have pj := (lt.mem _).mp (List.getElem_mem hj)
        have tj : tks.take (j + 1) = tks.take j ++ [tks[j]] := by rw [List.take_add_one, List.getElem?_eq_getElem hj]; rfl
        have al := Om.iter_all ok _ _ _ pj
        generalize tks[j] = pr at *
        have S8 : Same H H8 := fun b u e => s8' _ _ (ne_of_none e H0F) (S7 _ _ e)
        refine ⟨k, n, rows, pr.1, pr.2, hc.mono S8, ok, hb8, al.1, al.2, fun t ss H9 s9 ht9 hst h64 hmem => ?_⟩
        obtain ⟨t', zs, et, ht, dz⟩ := hst.lst_inv
        cases et
        have zl : zs.length = ss.length := by rw [dz.length, List.length_map]
        have f9 := s9 _ _ f8
        have hb9 := s9 _ _ hb8
        refine .inr (.inl ⟨⟨_, SqL.of ht⟩, ?_⟩)
        refine for_by (it_list _ t zs) (fun c σ H10 => ∃ (v6 v7 v8 : Option V) (fk : List (List Key × V)) (fks : List Pr), σ = [some cv, some (.int (m : Nat)), some (.ref L), some (.ref b), some x, some (.ref F), v6, v7, v8, none, none, none, none] ∧ SameT F H9 H10 ∧ H10 F = some (.dT fk) ∧ KD fks fk ∧ (∀ p ∈ fks, Came rows H10 ds.length fk p) ∧ (∀ p ∈ tks.take j, ∀ s, Om.St rows p.1 p.2 s → s.2 ∈ fks) ∧ ∀ s ∈ ss.take c, s.2 ∈ fks)
          ⟨v6, v7, v8, fk, fks, rfl, SameT.refl _ _, f9, kdf, (fun p hp => (cm p hp).mono fun b xs e => s9 _ _ e), cov, fun s h => by simp at h⟩ (fun c σ H10 _ ⟨_, _, _, _, _, _, s10, _⟩ => SqL.of (s10 _ _ (ne_of ht f9 (fun z => nomatch z)) ht)) ?_ ?_
        · clear cm cov kdf
          rintro c z σ H10 hc' hz ⟨v6, v7, v8, fk, fks, rfl, s10, f10, kdf, cm, cov, cs⟩
          have hc1 : c < ss.length := by omega
          obtain ⟨z', e1, e2⟩ := dz.get (i := c) (d := stepD ss[c]) (by rw [List.getElem?_map, List.getElem?_eq_getElem hc1]; rfl)
          rw [hz] at e1
          cases e1
          have stp := (hmem ss[c]).mp (List.getElem_mem hc1)
          have tc : ss.take (c + 1) = ss.take c ++ [ss[c]] := by rw [List.take_add_one, List.getElem?_eq_getElem hc1]; rfl
          generalize ss[c] = sp at *
          obtain ⟨sa, sr, rfl, hsa, hsr⟩ := step_inv e2
          have hsa10 := s10 _ _ (ne_of hsa f9 (fun z => nomatch z)) hsa
          have hsr10 := s10 _ _ (ne_of hsr f9 (fun z => nomatch z)) hsr
          have hb10 := s10 _ _ (ne_of hb9 f9 (fun z => nomatch z)) hb9
          refine ⟨_, .inl hsa10, rfl, rfl, ?_⟩
          refine ⟨le_line (Nat.le_of_ble_eq_true rfl), fun y hy => ?_⟩
          have zy := Same.upd (o := .tup [.ref b, .int (sp.1.1 : Nat)]) hy
          have hy11 : upd H10 y (.tup [.ref b, .int (sp.1.1 : Nat)]) y = some (.tup [.ref b, .int (sp.1.1 : Nat)]) := upd_same
          have f11 := zy _ _ f10
          have hsr11 := zy _ _ hsr10
          have hb11 := zy _ _ hb10
          have s11 : SameT F H9 (upd H10 y (.tup [.ref b, .int (sp.1.1 : Nat)])) := fun b u nb e => zy _ _ (s10 _ _ nb e)
          have cm11 := fun p hp => (cm p hp).mono (H' := upd H10 y (.tup [.ref b, .int (sp.1.1 : Nat)])) fun b xs e => zy _ _ e
          generalize upd H10 y (.tup [.ref b, .int (sp.1.1 : Nat)]) = H11 at *
          refine .inr ⟨_, _, rfl, .inr ⟨fk, kk sp.2, sr, f11, rfl, hsr11, kdf.lt_line, rfl⟩, ?_⟩
          have sl : sp.2.1 < rows.length ∧ sp.2.2 < rows.length := by
            obtain ⟨g1, g2, _, g4⟩ := stp
            rw [g4]
            exact ⟨(ok.stp g1).2.2, (ok.stp g2).2.2⟩
          obtain ⟨fks', kdf', kmf⟩ := kdf.set (p := sp.2) (v := .ref y) (by omega) (by omega)
          have tpF : ∀ b xs, H11 b = some (.tup xs) → upd H11 F (.dT (putK fk (kk sp.2) (.ref y))) b = some (.tup xs) := fun b xs e => by rw [upd_ne (ne_of e f11 (fun z => nomatch z))]; exact e
          refine ⟨_, _, _, _, fks', rfl, fun b u nb e => by rw [upd_ne nb]; exact s11 _ _ nb e, upd_same, kdf', fun p hp => ?_, fun p hp s hs => (kmf _).mpr (.inl (cov p hp s hs)), fun s hs => ?_⟩
          · by_cases ep : p = sp.2
            · subst ep
              exact ⟨y, b, sp.1.1, sp.1.2, pr, valV_put_eq, tpF _ _ hy11, tpF _ _ hb11, pj, stp⟩
            · have hp' := ((kmf p).mp hp).resolve_right ep
              obtain ⟨q', b', l', tn', p', g1, g2, g3, g4⟩ := cm11 p hp'
              exact ⟨q', b', l', tn', p', by rw [valV_put_ne ep]; exact g1, tpF _ _ g2, tpF _ _ g3, g4⟩
          · rw [tc] at hs
            rcases List.mem_append.mp hs with hs | hs
            · exact (kmf _).mpr (.inl (cs s hs))
            · rw [List.mem_singleton.mp hs]
              exact (kmf _).mpr (.inr rfl)
        · rintro σ H10 ⟨v6', v7', v8', fk', fks', rfl, s10, f10, kdf', cm', cov', cs'⟩
          rw [zl, List.take_length] at cs'
          refine ⟨_, _, _, _, fk', fks', rfl, fun b u nb e => s10 _ _ nb (s9 _ _ (s8' _ _ nb e)), f10, kdf', cm', fun p hp s hs => ?_⟩
          rw [tj] at hp
          rcases List.mem_append.mp hp with hp | hp
          · exact cov' p hp s hs
          · rw [List.mem_singleton.mp hp] at hs
            exact cs' s ((hmem s).mpr hs)
      · rintro σ H8 ⟨v3, v6, v7, v8, fk, fks, rfl, s8', f8, kdf, cm, cov⟩
        rw [bl, List.take_length] at cov
        have FL : F ≠ L := fun z => by rw [z, Vl.hL] at hF; cases hF
        have DtL : Dt ≠ L := fun z => by rw [z, Vl.hL] at hDt; cases hDt
        have hL8 : H8 L = some (.lst ((ds ++ [Dt]).map V.ref)) := s8' _ _ (Ne.symm FL) (st7 _ _ (Ne.symm DtL) V6.hL)
        refine ⟨⟨_, rfl, hL8⟩, _, hL8, lt_line (by simp; omega), ?_⟩
        have lf : LevV rows H8 (ds.length + 1) fk fks := by
          refine ⟨kdf, fun p => ⟨fun hp => ?_, fun ⟨x', y', s, h1, h2, h3⟩ => ?_⟩, fun i e p hp => ?_⟩
          · obtain ⟨_, _, l, tn, p', _, _, _, g1, g2⟩ := cm p hp
            exact ⟨p'.1, p'.2, _, g1, g2, rfl⟩
          · have := cov (x', y') ((lt.mem _).mpr h1) s h2
            rw [h3] at this
            exact this
          · have : i = ds.length := by omega
            subst this
            exact cm p hp
        refine ⟨_, _, _, _, _, _, ds ++ [Dt], F, rfl, ?_, by simp⟩
        exact Vl.more hF hDt (fun b u n1 n2 e => s8' _ _ n1 (st7 _ _ n2 (z6 _ _ e))) (s8' _ _ (Ne.symm FD) hD7) f8 lf
    rintro σ H5 ⟨v3, v4, v5, v6, v7, v8, ds, Dt, rfl, Vl, dl⟩
    have dl : ds.length = m := by rw [dl, List.length_map, List.length_range]; omega
    clear Lv0 S4
    obtain ⟨tk, tks, hDt, lt⟩ := Vl.last
    rw [dl] at lt
    refine ⟨_, glast (xs := ds.map V.ref) (x := .ref Dt) (by rw [Vl.hL]; simp), ?_⟩
    refine .inl ⟨tk, hDt, fun o bz kz => ?_⟩
    have st6 : ∀ b u, b ≠ Dt → H5 b = some u → upd H5 Dt (.frz o (.dT tk)) b = some u := fun b u n e => by rw [upd_ne n]; exact e
    have hD6 : upd H5 Dt (.frz o (.dT tk)) Dt = some (.frz o (.dT tk)) := upd_same
    generalize upd H5 Dt (.frz o (.dT tk)) = H6 at *
    have tp6 : ∀ b ys, H5 b = some (.tup ys) → H6 b = some (.tup ys) := fun b ys e => st6 _ _ (ne_of e hDt (fun z => nomatch z)) e
    have S6 : Same H H6 := fun b u e => st6 _ _ (ne_of_none e (Vl.n0 Dt (by simp))) (Vl.s _ _ e)
    have DtL : Dt ≠ L := fun z => by rw [z, Vl.hL] at hDt; cases hDt
    have hL6 : H6 L = some (.lst ((ds ++ [Dt]).map V.ref)) := st6 _ _ (Ne.symm DtL) Vl.hL
    have lv6 : ∀ (j : Nat) d, (ds ++ [Dt])[j]? = some d → ∃ kvs ks, (H6 d = some (.dT kvs) ∨ ∃ o, H6 d = some (.frz o (.dT kvs))) ∧ LevV rows H6 j kvs ks := fun j d e => by
      obtain ⟨kv, ks, z, lz⟩ := Vl.lv j d e
      by_cases dD : d = Dt
      · subst dD
        rcases z with z | ⟨_, _, z⟩
        · rw [hDt] at z
          cases z
          exact ⟨tk, ks, .inr ⟨o, hD6⟩, lz.mono tp6⟩
        · rw [hDt] at z; cases z
      · exact ⟨kv, ks, z.imp (st6 _ _ dD) (fun ⟨_, o', z⟩ => ⟨o', st6 _ _ dD z⟩), lz.mono tp6⟩
    have bl := lt.kd.blen kz
    clear Vl st6
    intro C hC
    refine comp_by (it_keys Dt o (bz.map V.ref)) (fun i τ H7 ys => (∃ v, τ = [v]) ∧ Same H6 H7 ∧ H7 C = some (.lst ys) ∧ DVs H7 ys (((tks.take i).filter (fun p => decide (p.1 ≠ p.2))).map pairD)) (le_line (by have := lt.kd.le; omega)) ⟨⟨none, rfl⟩, Same.upd hC, upd_same, .nil⟩ ?_ ?_ ?_
    · rintro i τ H7 ys hi ⟨_, s7, h7, dv⟩
      have := dv.length
      have t64 := lt.kd.le
      have fl := List.length_filter_le (fun p : Pr => decide (p.1 ≠ p.2)) (tks.take i)
      rw [List.length_map] at this
      rw [List.length_take] at fl
      exact ⟨⟨_, s7 _ _ hD6⟩, h7, by omega⟩
    · rintro i v τ H7 ys hi hv ⟨⟨v0, rfl⟩, s7, h7, dv⟩
      rw [bl] at hi
      obtain ⟨b, rfl, hb⟩ := lt.kd.key kz hi hv
      have hb7 := s7 _ _ (tp6 _ _ hb)
      have tj : tks.take (i + 1) = tks.take i ++ [tks[i]] := by rw [List.take_add_one, List.getElem?_eq_getElem hi]; rfl
      rw [tj, List.filter_append]
      generalize tks[i] = pr at *
      refine ⟨_, gt hb7 (by decide) rfl, _, gt hb7 (by decide) rfl, ?_⟩
      dsimp only [rNeU, rEqU]
      by_cases e : pr.1 = pr.2
      · refine if_negP (by rw [e]; simp) ?_
        refine ⟨⟨_, rfl⟩, s7, h7, ?_⟩
        rw [show [pr].filter (fun p : Pr => decide (p.1 ≠ p.2)) = [] by simp [e], List.append_nil]
        exact dv
      · refine iteP (by simp; omega) ?_
        refine ⟨h7, ⟨_, rfl⟩, s7.own hC, upd_same, ?_⟩
        rw [show [pr].filter (fun p : Pr => decide (p.1 ≠ p.2)) = [pr] by simp [e], List.map_append]
        have tC : ∀ b ys', H7 b = some (.tup ys') → upd H7 C (.lst (ys ++ [.ref b])) b = some (.tup ys') := fun b ys' e => by rw [upd_ne (ne_of e h7 (fun z => nomatch z))]; exact e
        refine DVs.app (dv.imp fun x d hd h => ?_) (.cons (pair_DV (by rw [upd_ne (ne_of hb7 h7 (fun z => nomatch z))]; exact hb7)) .nil)
        obtain ⟨x', _, rfl⟩ := List.mem_map.mp hd
        obtain ⟨c, rfl, hc'⟩ := pair_inv h
        exact pair_DV (by rw [upd_ne (ne_of hc' h7 (fun z => nomatch z))]; exact hc')
    rintro τ H7 ys ⟨_, s7, h7, dv⟩
    rw [bl, List.take_length] at dv
    have S7 := S6.trans s7
    refine ⟨Nat.zero_le _, fun y hy => ?_⟩
    have z8 := Same.upd (o := .lst []) hy
    have h8 : upd H7 y (.lst []) y = some (.lst []) := upd_same
    have hC8 := z8 _ _ h7
    have dv8 := dv.mono z8
    have s8' := s7.trans z8
    have S8 := S7.trans z8
    generalize upd H7 y (.lst []) = H8 at *
    refine ⟨_, .list [], .lst hC8 dv8, .lst h8 .nil, pairs_shaped _, pairs_shaped [], ?_⟩
    rw [eqv_nilR]
    refine ite2 (fun em => ?_) (fun em => ?_)
    · have em := of_decide_eq_true em
      refine qn _ S8 fun ⟨x, y, h1, h2, h3⟩ => ?_
      have hm : (x, y) ∈ tks.filter (fun p => decide (p.1 ≠ p.2)) := List.mem_filter.mpr ⟨(lt.mem _).mpr h1, by simpa using h3⟩
      rw [List.map_eq_nil_iff.mp em] at hm
      cases hm
    obtain ⟨qq, rest, eq⟩ : ∃ qq rest, tks.filter (fun p => decide (p.1 ≠ p.2)) = qq :: rest := by
      cases e : tks.filter (fun p => decide (p.1 ≠ p.2)) with
      | nil => exact absurd (decide_eq_true (by rw [e]; rfl)) em
      | cons a b => exact ⟨a, b, rfl⟩
    have qm : qq ∈ tks.filter (fun p => decide (p.1 ≠ p.2)) := by rw [eq]; exact List.mem_cons_self
    have qi := (lt.mem _).mp (List.mem_filter.mp qm).1
    have qne : qq.1 ≠ qq.2 := by simpa using (List.mem_filter.mp qm).2
    have qal := Om.iter_all ok _ _ _ qi
    obtain ⟨v0, hv0, dvq⟩ := dv8.get (i := 0) (d := pairD qq) (by rw [eq]; rfl)
    obtain ⟨qb, rfl, hqb⟩ := pair_inv dvq
    refine ⟨_, gl hC8 (by decide) hv0, ?_⟩
    refine ⟨Nat.zero_le _, fun T0 hT0 => ?_⟩
    have z9 := Same.upd (o := .lst []) hT0
    have h9 : upd H8 T0 (.lst []) T0 = some (.lst []) := upd_same
    have s9 := s8'.trans z9
    have S9 := S8.trans z9
    have hC9 := z9 _ _ hC8
    have hqb9 := z9 _ _ hqb
    generalize upd H8 T0 (.lst []) = H9 at *
    refine ⟨_, s9 _ _ hL6, fun L1 hL1 => ?_⟩
    have c1 : cutV ((ds ++ [Dt]).map V.ref) (some 1) none = ((ds ++ [Dt]).drop 1).map V.ref := by
      cases ds with
      | nil => exact cut_1 _ _
      | cons a b => exact cut_1 _ _
    rw [c1]
    have z10 := Same.upd (o := .lst (((ds ++ [Dt]).drop 1).map V.ref)) hL1
    have h10 : upd H9 L1 (.lst (((ds ++ [Dt]).drop 1).map V.ref)) L1 = some (.lst (((ds ++ [Dt]).drop 1).map V.ref)) := upd_same
    generalize upd H9 L1 (.lst (((ds ++ [Dt]).drop 1).map V.ref)) = H10 at *
    refine ⟨rfl, _, h10, fun L2 hL2 => ?_⟩
    have z11 := Same.upd (o := .lst (((ds ++ [Dt]).drop 1).map V.ref).reverse) hL2
    have h11 : upd H10 L2 (.lst (((ds ++ [Dt]).drop 1).map V.ref).reverse) L2 = some (.lst (((ds ++ [Dt]).drop 1).map V.ref).reverse) := upd_same
    generalize upd H10 L2 (.lst (((ds ++ [Dt]).drop 1).map V.ref).reverse) = H11 at *
    have z911 := z10.trans z11
    have s11 := s9.trans z911
    have S11 := S9.trans z911
    have hC11 := z911 _ _ hC9
    have hqb11 := z911 _ _ hqb9
    have hT11 := z911 _ _ h9
    have lv11 : ∀ (j : Nat) d, (ds ++ [Dt])[j]? = some d → ∃ kvs ks, (H11 d = some (.dT kvs) ∨ ∃ o, H11 d = some (.frz o (.dT kvs))) ∧ LevV rows H11 j kvs ks := fun j d e => by
      obtain ⟨kv, ks, z, lz⟩ := lv6 j d e
      exact ⟨kv, ks, z.imp (s11 _ _) (fun ⟨o', z⟩ => ⟨o', s11 _ _ z⟩), lz.mono fun b ys e => s11 _ _ e⟩
    have rlen : (((ds ++ [Dt]).drop 1).map V.ref).reverse.length = m := by simp [dl]
    clear lv6 hD6 tp6 S6 hL6 bl kz dv8 dv h7 s7 S7 z8 h8 hC8 s8' S8 z9 h9 s9 S9 hC9 hqb9 hqb dvq z10 h10 z11 z911 s11 em eq
    refine .inr (.inl ⟨⟨_, SqL.of h11⟩, ?_⟩)
    refine for_by (it_list _ L2 _) (fun c σ H12 => ∃ (v6 v12 : Option V) (hb T : Addr) (p : Pr) (ls : List Nat), σ = [some cv, some (.int (m : Nat)), some (.ref L), v3, v4, v5, v6, v7, v8, some (.ref C), some (.ref hb), some (.ref T), v12] ∧ Same H11 H12 ∧ H12 hb = some (.tup [.int (p.1 : Nat), .int (p.2 : Nat)]) ∧ H12 T = some (.lst ((ni ls).map V.int)) ∧ ls.length = c ∧ (∀ l ∈ ls, l < 2 ^ k) ∧ itP rows (m - c) p ∧ OmX.Side rows p qq ls)
      ⟨v6, none, qb, T0, qq, [], rfl, Same.refl _, hqb11, hT11, rfl, (fun l h => nomatch h), qi, OmX.Side.nil rows qq⟩ (fun c σ H12 _ ⟨_, _, _, _, _, _, _, s12, _⟩ => SqL.of (s12 _ _ h11)) ?_ ?_
    · rintro c v σ H12 hc' hv ⟨v6, v12, hb, T, p, ls, rfl, s12, hhb, hT, ll, lval, it, sd⟩
      rw [rlen] at hc'
      obtain ⟨j, hj⟩ : ∃ j, m - c = j + 1 := ⟨m - c - 1, by omega⟩
      have hd : ∃ d, (ds ++ [Dt])[j + 1]? = some d ∧ v = .ref d := by
        have dlen : (ds ++ [Dt]).length = m + 1 := by simp [dl]
        have jl : j + 1 < (ds ++ [Dt]).length := by omega
        refine ⟨(ds ++ [Dt])[j + 1], List.getElem?_eq_getElem jl, ?_⟩
        rw [List.getElem?_reverse (by simp [dl]; omega), List.getElem?_map, List.getElem?_drop] at hv
        rw [show 1 + ((((ds ++ [Dt]).drop 1).map V.ref).length - 1 - c) = j + 1 by simp [dl]; omega, List.getElem?_eq_getElem jl] at hv
        exact (Option.some.inj hv).symm
      obtain ⟨d, hd, rfl⟩ := hd
      obtain ⟨kv, ks, rd, lz⟩ := lv11 _ d hd
      rw [hj] at it
      obtain ⟨q', b', l', tn', p', g1, g2, g3, g4, g5⟩ := lz.came j rfl p ((lz.mem p).mpr it)
      have rd12 : H12 d = some (.dT kv) ∨ ∃ o, H12 d = some (.frz o (.dT kv)) := rd.imp (s12 _ _) (fun ⟨o, z⟩ => ⟨o, s12 _ _ z⟩)
      refine .inr ⟨d, .ref q', rfl, .inr ⟨kv, kk p, hb, rd12, rfl, hhb, g1.symm⟩, ?_⟩
      refine ⟨_, .inl (s12 _ _ g2), rfl, rfl, ?_⟩
      refine ⟨le_line (Nat.le_of_ble_eq_true rfl), fun l1 hl1 => ?_⟩
      have z13 := Same.upd (o := .lst [.int (l' : Nat)]) hl1
      have h13 : upd H12 l1 (.lst [.int (l' : Nat)]) l1 = some (.lst [.int (l' : Nat)]) := upd_same
      generalize upd H12 l1 (.lst [.int (l' : Nat)]) = H13 at *
      have nl : ((ni ls).map V.int).length = ls.length := by unfold ni; simp
      refine ⟨_, _, h13, z13 _ _ hT, le_line (by rw [nl]; simp only [List.length_singleton]; omega), fun l2 hl2 => ?_⟩
      have z14 := Same.upd (o := .lst ([.int (l' : Nat)] ++ (ni ls).map V.int)) hl2
      have ss := (s12.trans z13).trans z14
      have l8 : l' < 2 ^ k := by
        have := g5.1
        have al := Om.iter_all ok _ _ _ g4
        have e0 : rows.getD p'.1 [] = rows[p'.1]'al.1 := by rw [List.getD_eq_getElem?_getD, List.getElem?_eq_getElem al.1]; rfl
        rw [e0, ok.len _ (List.getElem_mem al.1)] at this
        exact this
      refine ⟨_, _, b', l2, p', l' :: ls, rfl, ss, ss _ _ g3, by rw [upd_same]; rfl, by simp [ll], fun l hl => ?_, by rw [show m - (c + 1) = j by omega]; exact g4, sd.cons g5⟩
      rcases List.mem_cons.mp hl with rfl | hl
      · exact l8
      · exact lval l hl
    · rintro σ H12 ⟨v6, v12, hb, T, p, ls, rfl, s12, hhb, hT, ll, lval, it, sd⟩
      rw [rlen] at ll it
      rw [Nat.sub_self] at it
      refine ⟨_, gt hhb (by decide) rfl, ?_⟩
      refine ⟨_, gl (s12 _ _ hC11) (by decide) hv0, le_line (Nat.le_of_ble_eq_true rfl), fun a ha => ?_⟩
      have za := Same.upd (o := .tup [.int (p.1 : Nat), .ref T, .ref qb]) ha
      exact q a T qb p qq ls _ ((S11.trans s12).trans za) upd_same (za _ _ hT) (za _ _ (s12 _ _ hqb11)) ll lval it sd qne qal.1 qal.2
  · exact h.elim
end

end K31
end
section
set_option Elab.async false
set_option linter.all false
set_option maxRecDepth 100000
set_option maxHeartbeats 4000000
namespace K31
open PySem L2
section
variable {P : Program} {w : World} {K : PySem.W.Frag} {mg : Str → Option Value} {base : Heap}
theorem three_getN {H : Hp} {p : Addr} {k : Nat} (k1 : 1 ≤ k) (k3 : k ≤ 3) (h : H p = some (.lst [.int 2, .int 4, .int 8])) : getV H (.ref p) ((k : Int) - 1) = some (.int ((2 ^ k : Nat) : Int)) := by
  have : k = 1 ∨ k = 2 ∨ k = 3 := by omega
  rcases this with rfl | rfl | rfl
  · exact gl h (by decide) rfl
  · exact gl h (by decide) rfl
  · exact gl h (by decide) rfl
theorem ni_map (ns : List Nat) : (ns.map fun i => V.int (i : Nat)) = (ni ns).map V.int := by unfold ni; rw [List.map_map]; rfl
theorem rise_eq {xs ys : List Nat} (h1 : xs.Pairwise (· < ·)) (h2 : ys.Pairwise (· < ·)) (h : ∀ x, x ∈ xs ↔ x ∈ ys) : xs = ys := by
  have p : xs.Perm ys := (List.perm_ext_iff_of_nodup (h1.imp fun z => Nat.ne_of_lt z) (h2.imp fun z => Nat.ne_of_lt z)).mpr h
  exact List.Perm.eq_of_pairwise (le := (· ≤ ·)) (fun a b _ _ h1 h2 => Nat.le_antisymm h1 h2) (h1.imp Nat.le_of_lt) (h2.imp Nat.le_of_lt) p
abbrev sWell : Stmt := top 46
def spWell : Sp := fun vs H Q _ => match vs with
  | [.ref a, cv, .int m0] => ∃ (k n : Nat) (rows : Om.Rows) (m : Nat) (G : Hp), DV G cv (codeD k n rows) ∧ Om.CodeOk k n rows ∧ Gh G H H a ∧ m0 = (m : Nat) ∧ Om.SetBy rows (some m) ∧ ∀ H', Gh G H H' a → Q (.bl true) H'
  | _ => False
theorem scWell : FnScope ["store", "code", "many", "size", "k", "place", "text", "wire", "last", "found"] ["store", "code", "many"] (defScope sWell) := ⟨rfl, rfl, rfl, by decide +kernel, rfl, by decide +kernel, by decide +kernel⟩
local macro_rules | `(tactic| walk_at "T.n") => `(tactic| with_reducible first | exact vn "j" 0 | exact vn "store" 1 | exact vn "size" 2)
local macro_rules | `(tactic| walk_at "T.gn") => `(tactic| with_reducible first | exact gn "j" 0 (by with_unfolding_all assumption))
local macro_rules | `(tactic| walk_at "T.sc") => `(tactic| (have ndc : (["j", "store", "size"] : List Str).Nodup := (by decide +kernel)); ((with_reducible refine' s_comp "text" 6 ["j", "store", "size"] [0, 3] ?b1 ?b0 ?b2 (fun cl C s H fp => ?b3) (fun cl C s H fp => ?b4) (fun cl C s H fp => ?b5)); (case b1 => exact ndc); (case b0 => assumption); (case b2 => walk_at "T.i"); (case b3 => walk_at "T.g"); (case b4 => walk_at "T.pf"); (case b5 => walk_at "T.e")))
local macro_rules | `(tactic| walk_at "T.n") => `(tactic| with_reducible first | exact vn "store" 0 | exact vn "code" 1 | exact vn "many" 2 | exact vn "size" 3 | exact vn "place" 5 | exact vn "text" 6 | exact vn "wire" 7 | exact vn "last" 8 | exact vn "found" 9)
local macro_rules | `(tactic| walk_at "T.gn") => `(tactic| with_reducible first | exact gn "size" 3 (by with_unfolding_all assumption) | exact gn "k" 4 (by with_unfolding_all assumption) | exact gn "place" 5 (by with_unfolding_all assumption) | exact gn "text" 6 (by with_unfolding_all assumption) | exact gn "wire" 7 (by with_unfolding_all assumption) | exact gn "last" 8 (by with_unfolding_all assumption) | exact gn "found" 9 (by with_unfolding_all assumption))
local macro_rules | `(tactic| walk_at "T.cmp") => `(tactic| (with_reducible exact op_inL))
theorem ok_well (D : FnX K mg "_law_settled_well" sWell ["store", "code", "many"]) (g1 : mg "range" = none) (g2 : mg "len" = none) (c1 : Can P w K mg base "_law_take" 1 ["store", "many"] spTake) (c2 : Can P w K mg base "sent" 4 ["code", "state", "text"] spSent) (c3 : Can P w K mg base "ends" 4 ["code", "wire"] spEnds) (c4 : Can P w K mg base "_law_late_wire" 2 ["code", "many"] spLate) : Can P w K mg base "_law_settled_well" 5 ["store", "code", "many"] spWell := by
  refine can_fn (k := 4) D scWell (fun vs H Q E h => ?_) (fun f cdv A outer s H vs Q E hr h => ?_)
  all_goals
    unfold spWell at h
    split at h
  · rfl
  · exact h.elim
  · rename_i a cv m0
    obtain ⟨k, n, rows, m, G, dv, ok, M0, rfl, sb, q⟩ := h
    have nd := scWell.nd
    obtain ⟨ca, cb, ss, rfl, hca, hcb, hss⟩ := code_inv dv
    have sl : ss.length = rows.length := by rw [hss.length, List.length_map]
    have k1 := ok.k1
    have k3 := ok.k3
    have s1 := ok.s1
    have s8 := ok.s8
    have p8 : 2 ^ k ≤ 8 := by
      have : k = 0 ∨ k = 1 ∨ k = 2 ∨ k = 3 := by omega
      rcases this with rfl | rfl | rfl | rfl <;> decide
    have pk : 0 < 2 ^ k := Nat.pow_pos (by decide)
    obtain ⟨m64', mu, nu⟩ := sb
    have m64 : m ≤ 64 := Nat.le_trans m64' (Nat.mul_le_mul s8 s8)
    refine ⟨_, (by walk_at "T.top"), ?_⟩
    refine ⟨le_line (Nat.le_of_ble_eq_true rfl), fun p1 hp1 => ?_⟩
    have M1 := M0.new (o := .lst [.int 2, .int 4, .int 8]) hp1
    refine ⟨_, gt (M1.s _ _ hca) (by decide) rfl, _, three_getN k1 k3 upd_same, ?_⟩
    generalize upd H p1 (.lst [.int 2, .int 4, .int 8]) = H1 at *
    refine ⟨by omega, by omega, for_by (it_range 0 _) (fun i σ H2 => ∃ (v4 v5 v6 v7 v8 : Option V), σ = [some (.ref a), some (.ref ca), some (.int (m : Nat)), some (.int ((2 ^ k : Nat) : Int)), v4, v5, v6, v7, v8, none] ∧ Gh G H H2 a)
      ⟨none, none, none, none, none, rfl, M1⟩ (fun _ _ _ _ _ => trivial) ?_ ?_⟩
    · rintro i z σ H2 hi hz ⟨v4, v5, v6, v7, v8, rfl, M2⟩
      refine ⟨_, gt (M2.s _ _ hca) (by decide) rfl, _, lenL (M2.s _ _ hcb), ?_⟩
      refine ⟨M2.st, by omega, by omega, fun pl H3 l0 l1 d3 o3 => ?_⟩
      have M3 := M2.take d3 o3
      refine ⟨M3.st, by omega, by omega, fun r H4 n0 n1 d4 o4 => ?_⟩
      have M4 := M3.take d4 o4
      obtain ⟨pl, rfl⟩ : ∃ x : Nat, pl = (x : Int) := ⟨pl.toNat, by omega⟩
      obtain ⟨r, rfl⟩ : ∃ x : Nat, r = (x : Int) := ⟨r.toNat, by omega⟩
      refine ⟨by omega, by omega, fun T hT => ?_⟩
      have gT := M4.freeG hT
      have T0 := M4.free0 hT
      have Ta := M4.ne hT
      refine comp_by (it_range 0 _) (fun i τ H4 ys => (∃ v, τ = [v, some (.ref a), some (.int ((2 ^ k : Nat) : Int))]) ∧ Gh G H H4 a ∧ H4 T = some (.lst ys) ∧ ∃ ls : List Nat, ys = (ni ls).map V.int ∧ ls.length = i ∧ ∀ l ∈ ls, l < 2 ^ k) (by rw [List.length_map, List.length_range]; exact le_line (by omega))
        ⟨⟨none, rfl⟩, M4.new hT, upd_same, [], rfl, rfl, by simp⟩ ?_ ?_ ?_
      · rintro i τ H4 ys hi ⟨_, M4, h4, ls, rfl, ll, _⟩
        refine ⟨trivial, h4, ?_⟩
        unfold ni
        simp
        omega
      · rintro i x τ H4 ys hi hx ⟨⟨v, rfl⟩, M4, h4, ls, rfl, ll, lb⟩
        refine ⟨M4.st, by exact_mod_cast pk, by omega, fun r H5 r0 r1 d5 o5 => ?_⟩
        have M5 := M4.take d5 o5
        refine ⟨o5 _ _ h4 Ta, ⟨_, rfl⟩, M5.own gT T0 Ta, upd_same, ls ++ [r.toNat], ?_, by rw [List.length_append, ll]; rfl, fun l hl => ?_⟩
        · unfold ni
          rw [List.map_append, List.map_append]
          congr 1
          have : ((r.toNat : Nat) : Int) = r := by omega
          simp [this]
        · rcases List.mem_append.mp hl with hl | hl
          · exact lb l hl
          · rw [List.mem_singleton.mp hl]; omega
      · rintro τ H5 ys ⟨_, M5, h5, ls, rfl, ll, lb⟩
        rw [List.length_map, List.length_range] at ll
        have ll : ls.length = m + r := by omega
        have plr : pl < rows.length := by omega
        refine ⟨k, n, rows, pl, ls, dv.mono M5.s, ok, rfl, plr, h5, by omega, lb, fun p6 H6 s6 hp6 => ?_⟩
        have M6 := M5.same s6
        refine ⟨_, .inl hp6, rfl, rfl, ?_⟩
        have w0 : (Om.send rows pl ls).1 = (Om.words rows pl ls).flatten := by rw [Om.words_flat]
        rw [w0]
        have wl : (Om.words rows pl ls).length = ls.length := Om.words_len ..
        have wn := Om.words_n ok plr lb
        refine ⟨_, k, n, rows, dv.mono M6.s, ok, rfl, by omega, wn, fun l7 H7 s7 nl so => ?_⟩
        have M7 := M6.same s7
        obtain ⟨xs, hx, xr, xb, xm⟩ := so
        have ex : xs = [(Om.send rows pl ls).2] := rise_eq xr (by simp) fun x => by
          rw [xm, OmX.one_end ok nu (by omega) plr lb, List.mem_singleton]
        subst ex
        rw [ni_map] at hx
        refine ⟨le_line (Nat.le_of_ble_eq_true rfl), fun l8 hl8 => ?_⟩
        have z8 := Same.upd (o := .lst [.int ((Om.send rows pl ls).2 : Nat)]) hl8
        have h8 : upd H7 l8 (.lst [.int ((Om.send rows pl ls).2 : Nat)]) l8 = some (.lst ((ni [(Om.send rows pl ls).2]).map V.int)) := upd_same
        refine ⟨_, _, ints_DV (z8 _ _ hx), ints_DV h8, ints_shaped _, ints_shaped _, ?_⟩
        rw [eqv_ints]
        refine if_negP (by simp) ?_
        exact ⟨_, _, _, _, _, rfl, M7.same z8⟩
    · rintro σ H2 ⟨v4, v5, v6, v7, v8, rfl, M2⟩
      refine ite2 (fun e0 => ?_) (fun e0 => ?_)
      · have e0 : m = 0 := by simpa using e0
        subst e0
        have r1 := OmX.uns0 ok nu
        refine ⟨_, gt (M2.s _ _ hca) (by decide) rfl, _, lenL (M2.s _ _ hcb), ?_⟩
        rw [sl, r1]
        exact q _ M2
      · have e0 : m ≠ 0 := by simpa using e0
        obtain ⟨m, rfl⟩ : ∃ j, m = j + 1 := ⟨m - 1, by omega⟩
        dsimp only [tNext]
        refine ⟨k, n, rows, m, dv.mono M2.s, ok, by omega, by omega, fun H3 _ nu' => absurd (mu m (by omega)) nu', fun f t b p qq ls H3 s3 hf ht hb ll lb hall side ne q1 q2 => ?_⟩
        dsimp only [gName]
        have M3 := M2.same s3
        dsimp only [tSeq, tIfS, tBU, tOp, tV, tC, rIsU]
        refine if_negP (c := decide (V.ref f = V.non) = true) (by simp) ?_
        refine ⟨_, gt hf (by decide) rfl, _, gt hf (by decide) rfl, k, n, rows, p.1, ls, dv.mono M3.s, ok, rfl, hall.1, ht, by omega, lb, fun p6 H6 s6 hp6 => ?_⟩
        have M6 := M3.same s6
        have w0 : (Om.send rows p.1 ls).1 = (Om.words rows p.1 ls).flatten := by rw [Om.words_flat]
        rw [w0] at hp6
        have wl : (Om.words rows p.1 ls).length = ls.length := Om.words_len ..
        have wn := Om.words_n ok hall.1 lb
        refine ⟨_, gt hp6 (by decide) rfl, _, k, n, rows, dv.mono M6.s, ok, rfl, by omega, wn, fun l7 H7 s7 nl so => ?_⟩
        have M7 := M6.same s7
        obtain ⟨xs, hx, xr, xb, xm⟩ := so
        rw [ni_map] at hx
        have bo := OmX.Side.both ok side hall lb
        have i1 : ((qq.1 : Nat) : Int) ∈ ni xs := List.mem_map_of_mem ((xm _).mpr bo.1)
        have i2 : ((qq.2 : Nat) : Int) ∈ ni xs := List.mem_map_of_mem ((xm _).mpr bo.2)
        have hf7 := s7 _ _ (s6 _ _ hf)
        have hb7 := s7 _ _ (s6 _ _ hb)
        refine ⟨_, gt hf7 (by decide) rfl, _, gt hb7 (by decide) rfl, _, hx, ?_⟩
        rw [if_neg (by decide), decide_eq_true i1]
        refine iteP rfl ?_
        refine ⟨_, gt hf7 (by decide) rfl, _, gt hb7 (by decide) rfl, _, hx, ?_⟩
        rw [if_neg (by decide), decide_eq_true i2]
        exact q _ M7
  · exact h.elim
end

end K31
end
section
set_option Elab.async false
set_option linter.all false
set_option maxRecDepth 100000
set_option maxHeartbeats 4000000
namespace K31
open PySem L2
section
variable {P : Program} {w : World} {K : PySem.W.Frag} {mg : Str → Option Value} {base : Heap}
theorem nn_ni {xs : List Int} (h : ∀ l ∈ xs, 0 ≤ l) : ni (Om.nats xs) = xs := by
  unfold ni Om.nats
  rw [List.map_map]
  conv => rhs; rw [← List.map_id xs]
  exact List.map_congr_left fun x hx => Int.toNat_of_nonneg (h x hx)
theorem again_vals {xs : List Int} (h : ∀ l ∈ xs, 0 ≤ l) (i e : Nat) : ([] : List V) ++ (List.replicate i ((xs.map V.int).take e)).flatten ++ (xs.map V.int).drop e = (ni (OmX.again i e (Om.nats xs))).map V.int := by
  have : ni (OmX.again i e (Om.nats xs)) = (List.replicate i (xs.take e)).flatten ++ xs.drop e := by
    conv => rhs; rw [← nn_ni h]
    unfold OmX.again ni
    simp [List.map_flatten, List.map_replicate, List.map_take, List.map_drop]
  rw [this]
  simp [List.map_flatten, List.map_replicate, List.map_take, List.map_drop]
theorem again_len {xs : List Nat} {i e : Nat} (hi : i ≤ 3) (hx : xs.length ≤ 64) : (OmX.again i e xs).length ≤ 200 ∧ ((List.replicate i (xs.take e)).flatten).length ≤ 192 := by
  have h1 : ((List.replicate i (xs.take e)).flatten).length = i * (xs.take e).length := by
    rw [List.length_flatten, List.map_replicate, List.sum_replicate_nat]
  have h2 : (xs.take e).length + (xs.drop e).length = xs.length := by rw [← List.length_append, List.take_append_drop]
  have h3 : i * (xs.take e).length ≤ 3 * (xs.take e).length := Nat.mul_le_mul_right _ hi
  unfold OmX.again
  rw [List.length_append, h1]
  omega
theorem cut_hd (xs : List V) (b : Nat) (h : b ≤ xs.length) : cutV xs none (some (b : Int)) = xs.take b := by
  have := cut_nat xs 0 b (Nat.zero_le _) h
  rw [List.drop_zero, Nat.sub_zero] at this
  rw [← this]
  rfl
theorem cut_tl (xs : List V) (a : Nat) (h : a ≤ xs.length) : cutV xs (some (a : Int)) none = xs.drop a := by
  have := cut_nat xs a xs.length h (Nat.le_refl _)
  rw [List.take_of_length_le (by rw [List.length_drop]; exact Nat.le_refl _)] at this
  rw [← this]
  unfold cutV
  congr 2
  have e := HT.sIx_nat xs.length xs.length xs.length
  rw [e, Nat.min_self]
  rfl
theorem again_ev {σ : St} {H : Hp} {Q : VK} {tx tb te tm : TE} {T : Addr} {xs : List Int} {i e : Nat} (px : ∀ H Q, Q (.ref T) H → tx σ H Q) (pb : ∀ H Q, Q (.int 0) H → tb σ H Q) (pe : ∀ H Q, Q (.int (e : Nat)) H → te σ H Q) (pm : ∀ H Q, Q (.int (i : Nat)) H → tm σ H Q)
    (hT : H T = some (.lst (xs.map V.int))) (he : e ≤ xs.length) (hx : xs.length ≤ 64) (hi : i ≤ 3) (h0 : ∀ l ∈ xs, 0 ≤ l)
    (q : ∀ l H', Same H H' → H' l = some (.lst ((ni (OmX.again i e (Om.nats xs))).map V.int)) → Q (.ref l) H') :
    tOp rAddU (tOp rAddU (tSl rSlU tx tNoPart (tPartU tb)) (tOp rMulU (tSl rSlU tx (tPartU tb) (tPartU te)) tm)) (tSl rSlU tx (tPartU te) tNoPart) σ H Q := by
  have al := again_len (xs := Om.nats xs) (i := i) (e := e) hi (by rw [Om.nats_len]; exact hx)
  have xl : (xs.map V.int).length = xs.length := List.length_map ..
  refine px _ _ ?_
  refine pb _ _ ?_
  refine ⟨_, hT, fun l1 hl1 => ?_⟩
  have c1 : cutV (xs.map V.int) none (some 0) = [] := by
    have := cut_hd (xs.map V.int) 0 (Nat.zero_le _)
    rwa [List.take_zero] at this
  have c2 : cutV (xs.map V.int) (some 0) (some (e : Nat)) = (xs.map V.int).take e := by
    have := cut_nat (xs.map V.int) 0 e (Nat.zero_le _) (by omega)
    rwa [List.drop_zero, Nat.sub_zero] at this
  have c3 : cutV (xs.map V.int) (some (e : Nat)) none = (xs.map V.int).drop e := cut_tl _ _ (by omega)
  rw [c1]
  have z1 := Same.upd (o := .lst []) hl1
  have k1 : upd H l1 (.lst []) l1 = some (.lst []) := upd_same
  generalize upd H l1 (.lst []) = H1 at *
  refine px _ _ ?_
  refine pb _ _ ?_
  refine pe _ _ ?_
  refine ⟨_, z1 _ _ hT, fun l2 hl2 => ?_⟩
  rw [c2]
  have z2 := Same.upd (o := .lst ((xs.map V.int).take e)) hl2
  have k2 : upd H1 l2 (.lst ((xs.map V.int).take e)) l2 = some (.lst ((xs.map V.int).take e)) := upd_same
  generalize upd H1 l2 (.lst ((xs.map V.int).take e)) = H2 at *
  refine pm _ _ ?_
  have rl : (List.replicate i ((xs.map V.int).take e)).flatten.length ≤ 192 := by
    have : (List.replicate i ((xs.map V.int).take e)).flatten.length = i * ((xs.map V.int).take e).length := by
      rw [List.length_flatten, List.map_replicate, List.sum_replicate_nat]
    have h3 : i * ((xs.map V.int).take e).length ≤ 3 * ((xs.map V.int).take e).length := Nat.mul_le_mul_right _ hi
    have h4 : ((xs.map V.int).take e).length ≤ xs.length := by rw [List.length_take]; omega
    omega
  have tl : ((xs.map V.int).take e).length * i ≤ 192 := by
    have h3 : ((xs.map V.int).take e).length * i ≤ ((xs.map V.int).take e).length * 3 := Nat.mul_le_mul_left _ hi
    have h4 : ((xs.map V.int).take e).length ≤ xs.length := by rw [List.length_take]; omega
    omega
  refine ⟨_, k2, by omega, by omega, by rw [Int.toNat_natCast]; exact le_line (by omega), fun l3 hl3 => ?_⟩
  rw [Int.toNat_natCast]
  have z3 := Same.upd (o := .lst (List.replicate i ((xs.map V.int).take e)).flatten) hl3
  have k3 : upd H2 l3 (.lst (List.replicate i ((xs.map V.int).take e)).flatten) l3 = some (.lst (List.replicate i ((xs.map V.int).take e)).flatten) := upd_same
  generalize upd H2 l3 (.lst (List.replicate i ((xs.map V.int).take e)).flatten) = H3 at *
  have z13 := (z1.trans z2).trans z3
  refine ⟨_, _, z3 _ _ (z2 _ _ k1), k3, le_line (by rw [List.length_nil]; omega), fun l4 hl4 => ?_⟩
  have z4 := Same.upd (o := .lst ([] ++ (List.replicate i ((xs.map V.int).take e)).flatten)) hl4
  have k4 : upd H3 l4 (.lst ([] ++ (List.replicate i ((xs.map V.int).take e)).flatten)) l4 = some (.lst ([] ++ (List.replicate i ((xs.map V.int).take e)).flatten)) := upd_same
  generalize upd H3 l4 (.lst ([] ++ (List.replicate i ((xs.map V.int).take e)).flatten)) = H4 at *
  have z14 := z13.trans z4
  refine px _ _ ?_
  refine pe _ _ ?_
  refine ⟨_, z14 _ _ hT, fun l5 hl5 => ?_⟩
  rw [c3]
  have z5 := Same.upd (o := .lst ((xs.map V.int).drop e)) hl5
  have k5 : upd H4 l5 (.lst ((xs.map V.int).drop e)) l5 = some (.lst ((xs.map V.int).drop e)) := upd_same
  generalize upd H4 l5 (.lst ((xs.map V.int).drop e)) = H5 at *
  refine ⟨_, _, z5 _ _ k4, k5, le_line (by rw [List.length_append, List.length_nil, List.length_drop]; omega), fun l6 hl6 => ?_⟩
  refine q l6 _ ((z14.trans z5).trans (Same.upd hl6)) ?_
  rw [upd_same, again_vals h0]
abbrev sNever : Stmt := top 47
def spNever : Sp := fun vs H Q _ => match vs with
  | [cv, .ref an] => ∃ (k n : Nat) (rows : Om.Rows) (T U : Addr) (one other : Nat) (e : Int) (xs ys : List Int), DV H cv (codeD k n rows) ∧ Om.CodeOk k n rows ∧ H an = some (.tup [.int (one : Nat), .int (other : Nat), .ref T, .ref U, .int 0, .int e]) ∧ H T = some (.lst (xs.map V.int)) ∧ H U = some (.lst (ys.map V.int)) ∧ xs.length ≤ 64 ∧ ys.length ≤ 64 ∧ Om.Shows k rows (one : Nat) (other : Nat) 0 e xs ys ∧ ∀ H', Same H H' → Q (.bl true) H'
  | _ => False
theorem scNever : FnScope ["code", "told", "one", "other", "text", "turn", "begin", "behind", "many", "first", "second", "wire", "last", "same", "end", "where"] ["code", "told"] (defScope sNever) := ⟨rfl, rfl, rfl, by decide +kernel, rfl, by decide +kernel, by decide +kernel⟩
local macro_rules | `(tactic| walk_at "T.n") => `(tactic| with_reducible first | exact vn "code" 0 | exact vn "told" 1 | exact vn "one" 2 | exact vn "other" 3 | exact vn "text" 4 | exact vn "turn" 5 | exact vn "begin" 6 | exact vn "behind" 7 | exact vn "many" 8 | exact vn "first" 9 | exact vn "second" 10 | exact vn "wire" 11 | exact vn "last" 12 | exact vn "same" 13 | exact vn "end" 14 | exact vn "where" 15)
local macro_rules | `(tactic| walk_at "T.gn") => `(tactic| with_reducible first | exact gn "one" 2 (by with_unfolding_all assumption) | exact gn "other" 3 (by with_unfolding_all assumption) | exact gn "text" 4 (by with_unfolding_all assumption) | exact gn "turn" 5 (by with_unfolding_all assumption) | exact gn "begin" 6 (by with_unfolding_all assumption) | exact gn "behind" 7 (by with_unfolding_all assumption) | exact gn "many" 8 (by with_unfolding_all assumption) | exact gn "first" 9 (by with_unfolding_all assumption) | exact gn "second" 10 (by with_unfolding_all assumption) | exact gn "wire" 11 (by with_unfolding_all assumption) | exact gn "last" 12 (by with_unfolding_all assumption) | exact gn "same" 13 (by with_unfolding_all assumption) | exact gn "end" 14 (by with_unfolding_all assumption) | exact gn "where" 15 (by with_unfolding_all assumption))
local macro_rules | `(tactic| walk_at "T.cmp") => `(tactic| (with_reducible exact op_notInL))
theorem ok_never (D : FnX K mg "_law_never_well" sNever ["code", "told"]) (g1 : mg "range" = none) (c2 : Can P w K mg base "sent" 4 ["code", "state", "text"] spSent) (c3 : Can P w K mg base "ends" 4 ["code", "wire"] spEnds) : Can P w K mg base "_law_never_well" 5 ["code", "told"] spNever := by
  refine can_fn (k := 4) D scNever (fun vs H Q E h => ?_) (fun f cdv A outer s H vs Q E hr h => ?_)
  all_goals
    unfold spNever at h
    split at h
  · rfl
  · exact h.elim
  · rename_i cv an
    obtain ⟨k, n, rows, T, U, one, other, e, xs, ys, dv, ok, han, hT, hU, x64, y64, sh, q⟩ := h
    have nd := scNever.nd
    refine ⟨_, (by walk_at "T.top"), ?_⟩
    refine ⟨_, .inl han, rfl, rfl, ?_⟩
    dsimp only [gName]
    refine ⟨by omega, by omega, for_by (it_range 0 _) (fun i σ H2 => ∃ (v8 v9 v10 v11 v12 v13 v14 v15 : Option V), σ = [some cv, some (.ref an), some (.int (one : Nat)), some (.int (other : Nat)), some (.ref T), some (.ref U), some (.int 0), some (.int e), v8, v9, v10, v11, v12, v13, v14, v15] ∧ Same H H2)
      ⟨none, none, none, none, none, none, none, none, rfl, Same.refl _⟩ (fun _ _ _ _ _ => trivial) ?_ ?_⟩
    · rintro i z σ H2 hi hz ⟨v8, v9, v10, v11, v12, v13, v14, v15, rfl, s2⟩
      rw [List.length_map, List.length_range] at hi
      have ez : z = .int (i : Nat) := by
        rw [List.getElem?_map, List.getElem?_range hi] at hz
        have := (Option.some.inj hz).symm
        rw [this]; simp
      subst ez
      dsimp only [gName]
      have hi3 : i ≤ 3 := by simpa using Nat.lt_succ_iff.mp (show i < 4 from by simpa using hi)
      have sh' := sh
      obtain ⟨exy, ⟨_, e0, e1⟩, ⟨_, o1⟩, ⟨_, o2⟩, ix, iy, _⟩ := sh'
      have na := OmX.never_again sh i
      obtain ⟨e, rfl⟩ : ∃ j : Nat, e = (j : Int) := ⟨e.toNat, by omega⟩
      rw [Int.toNat_natCast] at na
      have alx := again_len (xs := Om.nats xs) (i := i) (e := e) hi3 (by rw [Om.nats_len]; exact x64)
      have aly := again_len (xs := Om.nats ys) (i := i) (e := e) hi3 (by rw [Om.nats_len]; exact y64)
      have lb : ∀ {zs : List Int}, Om.InR k zs → ∀ l ∈ OmX.again i e (Om.nats zs), l < 2 ^ k := fun {zs} hz l hl => by
        have nl := Om.nats_lt hz
        rcases List.mem_append.mp hl with hl | hl
        · obtain ⟨x, hx, hl'⟩ := List.mem_flatten.mp hl
          rw [(List.mem_replicate.mp hx).2] at hl'
          exact nl l (List.mem_of_mem_take hl')
        · exact nl l (List.mem_of_mem_drop hl)
      refine again_ev (tx := tV 4) (tb := tV 6) (te := tV 7) (tm := tV 8) (T := T) (e := e) (i := i) (fun _ _ q => q) (fun _ _ q => q) (fun _ _ q => q) (fun _ _ q => q) (s2 _ _ hT) (by omega) x64 hi3 (fun l hl => (ix l hl).1) fun l1 H3 s3 h3 => ?_
      dsimp only [gName]
      refine again_ev (tx := tV 5) (tb := tV 6) (te := tV 7) (tm := tV 8) (T := U) (e := e) (i := i) (fun _ _ q => q) (fun _ _ q => q) (fun _ _ q => q) (fun _ _ q => q) (s3 _ _ (s2 _ _ hU)) (by omega) y64 hi3 (fun l hl => (iy l hl).1) fun l2 H4 s4 h4 => ?_
      dsimp only [gName]
      have s24 := (s2.trans s3).trans s4
      have lbx := lb ix
      have lby := lb iy
      have h3' := s4 _ _ h3
      generalize OmX.again i e (Om.nats xs) = ls at *
      generalize OmX.again i e (Om.nats ys) = ms at *
      have o1' : one < rows.length := by omega
      have o2' : other < rows.length := by omega
      refine ⟨k, n, rows, one, ls, dv.mono s24, ok, rfl, o1', h3', alx.1, lbx, fun p5 H5 s5 hp5 => ?_⟩
      refine ⟨_, .inl hp5, rfl, rfl, ?_⟩
      dsimp only [gName]
      have s25 := s24.trans s5
      refine ⟨k, n, rows, other, ms, dv.mono s25, ok, rfl, o2', s5 _ _ h4, aly.1, lby, fun p6 H6 s6 hp6 => ?_⟩
      refine ⟨_, .inl hp6, rfl, rfl, ?_⟩
      dsimp only [gName]
      have s26 := s25.trans s6
      have w0 : (Om.send rows one ls).1 = (Om.words rows one ls).flatten := by rw [Om.words_flat]
      have w1 : (Om.send rows other ms).1 = (Om.words rows other ms).flatten := by rw [Om.words_flat]
      have wl : (Om.words rows one ls).length = ls.length := Om.words_len ..
      have wn := Om.words_n ok o1' lbx
      rw [w0, w1, ← na.1]
      refine ⟨_, k, n, rows, dv.mono s26, ok, rfl, by have := alx.1; omega, wn, fun l7 H7 s7 nl so => ?_⟩
      dsimp only [gName]
      obtain ⟨zs, hz', xr, xb, xm⟩ := so
      rw [ni_map] at hz'
      have a1 := Om.words_afts ok (S := fun x => x < rows.length) o1' o1' lbx
      have a2 := Om.words_afts ok (S := fun x => x < rows.length) o2' o2' lby
      rw [← na.1] at a2
      have i1 : (((Om.send rows one ls).2 : Nat) : Int) ∈ ni zs := List.mem_map_of_mem ((xm _).mpr a1)
      have i2 : (((Om.send rows other ms).2 : Nat) : Int) ∈ ni zs := List.mem_map_of_mem ((xm _).mpr a2)
      dsimp only [List.set]
      refine if_negP (by simp) ?_
      refine if_negP (by rw [decide_eq_true_eq]; exact fun z => na.2 (Int.ofNat.inj z)) ?_
      refine ⟨_, hz', ?_⟩
      rw [if_pos rfl, decide_eq_true i1]
      refine iteF ?_
      refine ⟨_, hz', ?_⟩
      rw [if_pos rfl, decide_eq_true i2]
      refine iteF ?_
      exact ⟨_, _, _, _, _, _, _, _, rfl, s26.trans s7⟩
    · rintro σ H2 ⟨v8, v9, v10, v11, v12, v13, v14, v15, rfl, s2⟩
      exact q _ s2
  · exact h.elim
end

end K31
end
section
set_option Elab.async false
set_option linter.all false
set_option maxRecDepth 100000
set_option maxHeartbeats 4000000
namespace K31
open PySem L2
section
variable {P : Program} {w : World} {K : PySem.W.Frag} {mg : Str → Option Value} {base : Heap}
abbrev sLaw : Stmt := top 48
def spLaw (K : PySem.W.Frag) : Sp := fun vs H Q _ => match vs with
  | [.ref a] => ∃ ns : List Int, SqL K H a (ns.map V.int) ∧ ns.length ≤ 63 ∧ ∀ H', Q (.bl true) H'
  | _ => False
theorem scLaw : FnScope ["script", "at", "store", "code", "many", "told"] ["script"] (defScope sLaw) := ⟨rfl, rfl, rfl, by decide +kernel, rfl, by decide +kernel, by decide +kernel⟩
local macro_rules | `(tactic| walk_at "T.n") => `(tactic| with_reducible first | exact vn "script" 0 | exact vn "at" 1 | exact vn "store" 2 | exact vn "code" 3 | exact vn "many" 4 | exact vn "told" 5)
local macro_rules | `(tactic| walk_at "T.gn") => `(tactic| with_reducible first | exact gn "at" 1 (by with_unfolding_all assumption) | exact gn "store" 2 (by with_unfolding_all assumption) | exact gn "code" 3 (by with_unfolding_all assumption) | exact gn "many" 4 (by with_unfolding_all assumption) | exact gn "told" 5 (by with_unfolding_all assumption))
local macro_rules | `(tactic| walk_at "T.b") => `(tactic| ((with_reducible refine' fn_lenS ?a0 ?a9 ?a1); (case a0 => with_reducible assumption); (case a9 => rfl); (case a1 => walk_at "T.a")))
theorem ok_law {f : Addr} {fd : FuncData} (D : Fun K "law" "law" sLaw f fd) (g1 : mg "range" = none) (g2 : mg "len" = none) (g3 : mg "min" = none) (g4 : mg "max" = none)
    (c1 : Can P w K mg base "_law_cell" 1 ["script", "k"] (spCell K)) (c2 : Can P w K mg base "_law_store" 1 ["cell"] spStore) (c3 : Can P w K mg base "_law_any_code" 4 ["store"] spAnyC) (c4 : Can P w K mg base "settles" 4 ["code"] spSettles)
    (c5 : Can P w K mg base "unsettled" 4 ["code"] spUnset) (c6 : Can P w K mg base "_law_settled_well" 5 ["store", "code", "many"] spWell) (c7 : Can P w K mg base "_law_never_well" 5 ["code", "told"] spNever) : FnOk P w K mg base CX0 6 f fd ["script"] (spLaw K) := by
  refine D.ok (k := 5) scLaw (fun vs H Q E h => ?_) (fun cdv A outer s H vs Q E hr h => ?_)
  all_goals
    unfold spLaw at h
    split at h
  · rfl
  · exact h.elim
  · rename_i sc
    obtain ⟨ns, hS, hl, q⟩ := h
    have nd := scLaw.nd
    refine ⟨_, (by walk_at "T.top"), ?_⟩
    refine ⟨_, hS, ?_⟩
    have b10 : ∀ m : Int, (if (8 : Int) < m then (8 : Int) else m) ≤ 8 := fun m => by split <;> omega
    refine ⟨by split <;> split <;> omega, by split <;> split <;> omega, for_by (it_range 0 _) (fun i σ H2 => ∃ (v1 v2 v3 v4 v5 : Option V), σ = [some (.ref sc), v1, v2, v3, v4, v5] ∧ SqL K H2 sc (ns.map V.int))
      ⟨none, none, none, none, none, rfl, hS⟩ (fun _ _ _ _ _ => trivial) ?_ ?_⟩
    · rintro i z σ H0 hi hz ⟨v1, v2, v3, v4, v5, rfl, hS0⟩
      rw [List.length_map, List.length_range] at hi
      have ez : z = .int (i : Nat) := by
        rw [List.getElem?_map, List.getElem?_range hi] at hz
        have := (Option.some.inj hz).symm
        rw [this]; simp
      subst ez
      have hi10 : i < 8 := by
        have := b10 (if (3 : Int) > (((ns.map V.int).length : Nat) : Int) then 3 else (((ns.map V.int).length : Nat) : Int))
        omega
      refine ⟨ns, hS0, by omega, by omega, fun c => ?_⟩
      intro a g b ha
      refine ⟨⟨_, _, _, upd_same⟩, fun cv k n rows G H1 ok dv M1 => ?_⟩
      have S0 : Same H0 H1 := fun b u e => M1.o b u (Same.upd ha _ _ e) (ne_of_none e ha)
      have dv1 := dv.mono M1.s
      have A1 : Gh G H1 H1 a := ⟨M1.s, M1.ga, M1.st, Off.refl⟩
      refine ⟨k, n, rows, dv1, ok, fun r H2 s2 hset => ?_⟩
      have A2 := A1.same s2
      have dv2 := dv1.mono s2
      dsimp only [gName]
      refine ⟨k, n, rows, dv2, ok, fun d H3 s3 hset' => ?_, fun an T U one other e xs ys H3 s3 hset' nT nU TU han hT hU x64 y64 hsh htold => ?_⟩
      · have er : r = some d := Om.SetBy.eq hset hset'
        subst er
        have A3 := A2.same s3
        obtain ⟨ca, cb, cs, rfl, hca, hcb, hcs⟩ := code_inv dv
        refine ⟨k, n, rows, d, G, dv, ok, ⟨A3.s, A3.ga, A3.st, Off.refl⟩, rfl, hset, fun H4 M4 => ?_⟩
        exact ⟨_, _, _, _, _, rfl, Same.seq (fun b u e => M4.o b u (s3 _ _ (s2 _ _ (S0 _ _ e))) (ne_of_none e ha)) hS0⟩
      · have er : r = none := Om.SetBy.eq hset hset'
        subst er
        refine ⟨k, n, rows, T, U, one, other, e, xs, ys, dv2.mono s3, ok, han, hT, hU, x64, y64, hsh, fun H4 s4 => ?_⟩
        exact ⟨_, _, _, _, _, rfl, (((S0.trans s2).trans s3).trans s4).seq hS0⟩
    · rintro σ H2 ⟨v1, v2, v3, v4, v5, rfl, _⟩
      exact q _
  · exact h.elim
end

end K31
end
section
set_option Elab.async false
set_option linter.all false
set_option maxRecDepth 100000
set_option maxHeartbeats 4000000
namespace K31
open PySem L2
theorem fnX_1 {K : PySem.W.Frag} {h : Heap} {mg : Str → Option Value} {x : Str} {st : Stmt} {p0 : Str} (D : DefIn K x st) (X : K.In h) (G : h.Ns mainGlobals mg)
    (hb : ∀ (kV doc pm : Value) (an : Option Addr) (cdv ct : Value) (a0 : Value), bindArgs (PySem.W.fnOf x x (defArgs st) (defBody st) (defScope st) .none kV doc pm an cdv ct) ⟨[a0], []⟩ = pure ([p0].zip [a0])) : FnX K mg x st [p0] :=
  D.fnX X G fun kV doc pm an cdv ct us hl => match us, hl with
    | [a0], _ => hb kV doc pm an cdv ct a0
theorem fnX_2 {K : PySem.W.Frag} {h : Heap} {mg : Str → Option Value} {x : Str} {st : Stmt} {p0 p1 : Str} (D : DefIn K x st) (X : K.In h) (G : h.Ns mainGlobals mg)
    (hb : ∀ (kV doc pm : Value) (an : Option Addr) (cdv ct : Value) (a0 a1 : Value), bindArgs (PySem.W.fnOf x x (defArgs st) (defBody st) (defScope st) .none kV doc pm an cdv ct) ⟨[a0, a1], []⟩ = pure ([p0, p1].zip [a0, a1])) : FnX K mg x st [p0, p1] :=
  D.fnX X G fun kV doc pm an cdv ct us hl => match us, hl with
    | [a0, a1], _ => hb kV doc pm an cdv ct a0 a1
theorem fnX_3 {K : PySem.W.Frag} {h : Heap} {mg : Str → Option Value} {x : Str} {st : Stmt} {p0 p1 p2 : Str} (D : DefIn K x st) (X : K.In h) (G : h.Ns mainGlobals mg)
    (hb : ∀ (kV doc pm : Value) (an : Option Addr) (cdv ct : Value) (a0 a1 a2 : Value), bindArgs (PySem.W.fnOf x x (defArgs st) (defBody st) (defScope st) .none kV doc pm an cdv ct) ⟨[a0, a1, a2], []⟩ = pure ([p0, p1, p2].zip [a0, a1, a2])) : FnX K mg x st [p0, p1, p2] :=
  D.fnX X G fun kV doc pm an cdv ct us hl => match us, hl with
    | [a0, a1, a2], _ => hb kV doc pm an cdv ct a0 a1 a2
theorem fnX_6 {K : PySem.W.Frag} {h : Heap} {mg : Str → Option Value} {x : Str} {st : Stmt} {p0 p1 p2 p3 p4 p5 : Str} (D : DefIn K x st) (X : K.In h) (G : h.Ns mainGlobals mg)
    (hb : ∀ (kV doc pm : Value) (an : Option Addr) (cdv ct : Value) (a0 a1 a2 a3 a4 a5 : Value), bindArgs (PySem.W.fnOf x x (defArgs st) (defBody st) (defScope st) .none kV doc pm an cdv ct) ⟨[a0, a1, a2, a3, a4, a5], []⟩ = pure ([p0, p1, p2, p3, p4, p5].zip [a0, a1, a2, a3, a4, a5])) : FnX K mg x st [p0, p1, p2, p3, p4, p5] :=
  D.fnX X G fun kV doc pm an cdv ct us hl => match us, hl with
    | [a0, a1, a2, a3, a4, a5], _ => hb kV doc pm an cdv ct a0 a1 a2 a3 a4 a5
theorem all_mk {l : PySem.W.OpenLaw} {w : World} {K : PySem.W.Frag} {h : Heap} {mg : Str → Option Value} {fa : Addr} (X : K.In h) (G : h.Ns mainGlobals mg) (hfa : mg "law" = some (.ref fa))
    (d1 : DefIn K "is_whole" sWhole) (d2 : DefIn K "is_letter" sLetter) (d3 : DefIn K "is_letter_list" sLetterL) (d4 : DefIn K "sent" sSent) (d5 : DefIn K "every_state" sEvery) (d6 : DefIn K "pair_steps" sPSteps) (d7 : DefIn K "pair_graph" sGraph) (d8 : DefIn K "layer_behind" sLayer) (d9 : DefIn K "layers_of" sLayers) (d10 : DefIn K "comes_back" sComes) (d11 : DefIn K "longest_walk" sWalk) (d12 : DefIn K "first_return" sFirst) (d13 : DefIn K "backward_graph" sBack) (d14 : DefIn K "unlike_pairs" sUnlP) (d15 : DefIn K "unsettled" sUnset) (d16 : DefIn K "settles" sSettles) (d17 : DefIn K "words_of" sWordsOf) (d18 : DefIn K "is_word" sWord) (d19 : DefIn K "given_words" sGiven) (d20 : DefIn K "whole_words" sWholeW) (d21 : DefIn K "states_behind_word" sBehW) (d22 : DefIn K "states_behind" sBeh) (d23 : DefIn K "ends" sEnds) (d24 : DefIn K "_law_cell" sCell) (d25 : DefIn K "_law_store" sStore) (d26 : DefIn K "_law_take" sTake) (d27 : DefIn K "_law_word" sWordN) (d28 : DefIn K "_law_branch" sBranch) (d29 : DefIn K "_law_code" sCodeS) (d30 : DefIn K "_law_pairs" sPairs) (d31 : DefIn K "_law_steps" sSteps) (d32 : DefIn K "_law_chained" sChained) (d33 : DefIn K "_law_any_code" sAnyC) (d34 : DefIn K "_law_late_wire" sLate) (d35 : DefIn K "_law_settled_well" sWell) (d36 : DefIn K "_law_never_well" sNever) (dl : DefIn K "law" sLaw)
    (z1 : PySem.W.nsIn K mainGlobals "len" = some none) (z2 : PySem.W.nsIn K mainGlobals "range" = some none) (z3 : PySem.W.nsIn K mainGlobals "isinstance" = some none) (z4 : PySem.W.nsIn K mainGlobals "int" = some none) (z5 : PySem.W.nsIn K mainGlobals "bool" = some none) (z6 : PySem.W.nsIn K mainGlobals "list" = some none) (z7 : PySem.W.nsIn K mainGlobals "str" = some none) (z8 : PySem.W.nsIn K mainGlobals "sorted" = some none) (z9 : PySem.W.nsIn K mainGlobals "all" = some none) (z10 : PySem.W.nsIn K mainGlobals "max" = some none) (z11 : PySem.W.nsIn K mainGlobals "min" = some none) (z12 : PySem.W.nsIn K mainGlobals "enumerate" = some none) (z13 : PySem.W.nsIn K mainGlobals "reversed" = some none) :
    ∃ fd : FuncData, (∀ (s : Shared) (v : Value), BindsTo s fd ⟨[v], []⟩ [("script", v)]) ∧ ∀ base : Heap, K.In base → base.Ns mainGlobals mg → FnOk l.prog w K mg base CX0 6 fa fd ["script"] (spLaw K) := by
  obtain ⟨f, oc, od, an, osl, kV, dc, pm, cd, ct, h1, h2, h3, h4⟩ := dl
  have e := hfa.symm.trans (PySem.W.mg_of X G h1)
  cases e
  have F := fun_mk (st := sLaw) h2 h3 h4
  refine ⟨PySem.W.fnOf "law" "law" (defArgs sLaw) (defBody sLaw) (defScope sLaw) .none kV dc pm an cd ct, fun s v => .of_eq rfl, fun base _ _ => ?_⟩
  have z_len := PySem.W.mg_none_of X G z1
  have z_range := PySem.W.mg_none_of X G z2
  have z_isinstance := PySem.W.mg_none_of X G z3
  have z_int := PySem.W.mg_none_of X G z4
  have z_bool := PySem.W.mg_none_of X G z5
  have z_list := PySem.W.mg_none_of X G z6
  have z_str := PySem.W.mg_none_of X G z7
  have z_sorted := PySem.W.mg_none_of X G z8
  have z_all := PySem.W.mg_none_of X G z9
  have z_max := PySem.W.mg_none_of X G z10
  have z_min := PySem.W.mg_none_of X G z11
  have z_enumerate := PySem.W.mg_none_of X G z12
  have z_reversed := PySem.W.mg_none_of X G z13
  have c_whole := ok_whole (P := l.prog) (w := w) (base := base) (fnX_1 d1 X G (fun _ _ _ _ _ _ _ => rfl)) z_isinstance z_int z_bool
  have c_letter := ok_letter (P := l.prog) (w := w) (base := base) (fnX_2 d2 X G (fun _ _ _ _ _ _ _ _ => rfl)) c_whole
  have c_letterL := ok_letterL (P := l.prog) (w := w) (base := base) (fnX_2 d3 X G (fun _ _ _ _ _ _ _ _ => rfl)) z_isinstance z_list z_all c_letter
  have c_sent := ok_sent (P := l.prog) (w := w) (base := base) (fnX_3 d4 X G (fun _ _ _ _ _ _ _ _ _ => rfl)) c_letterL
  have c_every := ok_every (P := l.prog) (w := w) (base := base) (fnX_1 d5 X G (fun _ _ _ _ _ _ _ => rfl)) z_list z_range z_len
  have c_psteps := ok_psteps (P := l.prog) (w := w) (base := base) (fnX_3 d6 X G (fun _ _ _ _ _ _ _ _ _ => rfl)) z_enumerate
  have c_graph := ok_graph (P := l.prog) (w := w) (base := base) (fnX_2 d7 X G (fun _ _ _ _ _ _ _ _ => rfl)) c_psteps
  have c_layer := ok_layer (P := l.prog) (w := w) (base := base) (fnX_2 d8 X G (fun _ _ _ _ _ _ _ _ => rfl)) 
  have c_layers := ok_layers (P := l.prog) (w := w) (base := base) (fnX_2 d9 X G (fun _ _ _ _ _ _ _ _ => rfl)) z_len c_layer
  have c_comes := ok_comes (P := l.prog) (w := w) (base := base) (fnX_2 d10 X G (fun _ _ _ _ _ _ _ _ => rfl)) z_len
  have c_walk := ok_walk (P := l.prog) (w := w) (base := base) (fnX_1 d11 X G (fun _ _ _ _ _ _ _ => rfl)) z_list z_reversed
  have c_first := ok_first (P := l.prog) (w := w) (base := base) (fnX_1 d12 X G (fun _ _ _ _ _ _ _ => rfl)) z_enumerate
  have c_back := ok_back (P := l.prog) (w := w) (base := base) (fnX_1 d13 X G (fun _ _ _ _ _ _ _ => rfl)) c_graph c_every
  have c_unlP := ok_unlP (P := l.prog) (w := w) (base := base) (fnX_1 d14 X G (fun _ _ _ _ _ _ _ => rfl)) 
  have c_unset := ok_unset (P := l.prog) (w := w) (base := base) (fnX_1 d15 X G (fun _ _ _ _ _ _ _ => rfl)) z_reversed c_back c_layers c_unlP c_comes c_walk c_first
  have c_settles := ok_settles (P := l.prog) (w := w) (base := base) (fnX_1 d16 X G (fun _ _ _ _ _ _ _ => rfl)) z_len c_back c_layers c_unlP c_comes
  have c_wordsOf := ok_wordsOf (P := l.prog) (w := w) (base := base) (fnX_2 d17 X G (fun _ _ _ _ _ _ _ _ => rfl)) z_range z_len
  have c_word := ok_word (P := l.prog) (w := w) (base := base) (fnX_2 d18 X G (fun _ _ _ _ _ _ _ _ => rfl)) z_isinstance z_str z_len
  have c_given := ok_given (P := l.prog) (w := w) (base := base) (fnX_2 d19 X G (fun _ _ _ _ _ _ _ _ => rfl)) z_isinstance z_str c_wordsOf
  have c_wholeW := ok_wholeW (P := l.prog) (w := w) (base := base) (fnX_2 d20 X G (fun _ _ _ _ _ _ _ _ => rfl)) z_enumerate c_given c_word
  have c_behW := ok_behW (P := l.prog) (w := w) (base := base) (fnX_3 d21 X G (fun _ _ _ _ _ _ _ _ _ => rfl)) z_sorted
  have c_beh := ok_beh (P := l.prog) (w := w) (base := base) (fnX_3 d22 X G (fun _ _ _ _ _ _ _ _ _ => rfl)) c_behW
  have c_ends := ok_ends (P := l.prog) (w := w) (base := base) (fnX_2 d23 X G (fun _ _ _ _ _ _ _ _ => rfl)) c_beh c_every c_wholeW
  have c_cell := ok_cell (P := l.prog) (w := w) (base := base) (fnX_2 d24 X G (fun _ _ _ _ _ _ _ _ => rfl)) z_len
  have c_store := ok_store (P := l.prog) (w := w) (base := base) (fnX_1 d25 X G (fun _ _ _ _ _ _ _ => rfl)) 
  have c_take := ok_take (P := l.prog) (w := w) (base := base) (fnX_2 d26 X G (fun _ _ _ _ _ _ _ _ => rfl)) 
  have c_wordN := ok_wordN (P := l.prog) (w := w) (base := base) (fnX_2 d27 X G (fun _ _ _ _ _ _ _ _ => rfl)) z_range
  have c_branch := ok_branch (P := l.prog) (w := w) (base := base) (fnX_6 d28 X G (fun _ _ _ _ _ _ _ _ _ _ _ _ => rfl)) z_len c_take c_wordN
  have c_codeS := ok_codeS (P := l.prog) (w := w) (base := base) (fnX_2 d29 X G (fun _ _ _ _ _ _ _ _ => rfl)) z_range c_take c_wordN c_branch
  have c_pairs := ok_pairs (P := l.prog) (w := w) (base := base) (fnX_1 d30 X G (fun _ _ _ _ _ _ _ => rfl)) z_range z_len
  have c_steps := ok_steps (P := l.prog) (w := w) (base := base) (fnX_2 d31 X G (fun _ _ _ _ _ _ _ _ => rfl)) z_enumerate
  have c_chained := ok_chained (P := l.prog) (w := w) (base := base) (fnX_1 d32 X G (fun _ _ _ _ _ _ _ => rfl)) z_range z_len z_int c_take c_wordN
  have c_anyC := ok_anyC (P := l.prog) (w := w) (base := base) (fnX_1 d33 X G (fun _ _ _ _ _ _ _ => rfl)) c_take c_chained c_codeS
  have c_late := ok_late (P := l.prog) (w := w) (base := base) (fnX_2 d34 X G (fun _ _ _ _ _ _ _ _ => rfl)) z_range c_pairs c_steps
  have c_well := ok_well (P := l.prog) (w := w) (base := base) (fnX_3 d35 X G (fun _ _ _ _ _ _ _ _ _ => rfl)) z_range z_len c_take c_sent c_ends c_late
  have c_never := ok_never (P := l.prog) (w := w) (base := base) (fnX_2 d36 X G (fun _ _ _ _ _ _ _ _ => rfl)) z_range c_sent c_ends
  exact ok_law F z_range z_len z_min z_max c_cell c_store c_anyC c_settles c_unset c_well c_never
theorem walk {l : PySem.W.OpenLaw} {q : Program} {loose : List Str} {XP : (Str → Option Value) → Heap → Prop} {YP : World → Heap → Prop} {d : DefRec} {K : Params → PySem.W.Frag} (hn : l.most = some 63) (hdf : d.params.defaults = [])
    (hY : ∀ (w : World) (h : Heap), YP w h → (K w.params).In h)
    (F : ∀ (w : World) (mg : Str → Option Value) (fa : Addr) (h : Heap), (K w.params).In h → h.Ns mainGlobals mg → mg d.name = some (.ref fa) →
      ∃ fd : FuncData, (∀ (s : Shared) (u : Value), BindsTo s fd ⟨[u], []⟩ [("script", u)]) ∧ ∀ base : Heap, (K w.params).In base → base.Ns mainGlobals mg → FnOk l.prog w (K w.params) mg base CX0 6 fa fd ["script"] (spLaw (K w.params))) :
    PySem.W.WalkO q loose XP YP l.row.toRowW d [] (fun f vs => PySem.call f vs) :=
  L2.walk_of (n := 63) (k := 6) (x := "script") (CX := fun _ => CX0) (sp := fun w => spLaw (K w.params)) hn (by decide) hdf ⟨rfl, by decide, by decide⟩ hY F (fun _ _ a ns hl _ hS => ⟨ns, hS, hl, fun _ => rfl⟩) fun _ _ _ _ _ z => z
end K31
open PySem PySem.W PyProof.Rows
local macro_rules | `(tactic| walk_at "k_def") => `(tactic| ((refine' L2.DefIn.mk ?a ?l ?c ?k); (case a => k_is); (case l => k_is); (case c => k_is); (case k => k_is)))
set_option maxRecDepth 100000 in
set_option maxHeartbeats 0 in
theorem PySem.Challenge.cw_ownbeat_k31_whole_known_behind_so_many_holds : PySem.Challenge.rw_ownbeat_k31_whole_known_behind_so_many.Holds := by
  w_on; o_law
  refine PySem.W.holds_open (q := KH.V) (loose := []) (Xt := (fun s => xlAt KH.V [] s && recOk (RowW.records (OpenRow.toRowW KH.Rw.row)) s)) (N := 3998) (XP := PySem.W.XL KH.V []) (Yf := PySem.W.Hook.obs KH.hk) (Ya := PySem.W.Hook.val KH.hk) (YP := PySem.W.Hook.says KH.hk) ?hl (PySem.W.Hook.of KH.hk) (PySem.W.Hook.keeps KH.hk) (fun s e => PySem.W.xl_of s (Bool.and_eq_true_iff.mp e).1) PySem.W.XL.keeps (by rfl) (by rfl) (by rfl) (fun s e => PySem.W.recFacts_of (Bool.and_eq_true_iff.mp e).2) (by rfl) (by first | assumption | decide +kernel) (by decide +kernel) ⟨rfl, rfl, rfl, rfl, rfl, by decide +kernel⟩ ?hw ?hc
  (case hl => exact KH.HL)
  (case hw => w_witness2)
  delta KH.hk
  k_fill
  refine K31.walk (l := PySem.Challenge.rw_ownbeat_k31_whole_known_behind_so_many) rfl rfl (fun w h Y => PySem.W.kIn_of Y) ?F
  case F =>
    intro w mg fa h KX G hmg
    refine' K31.all_mk KX G hmg ?d1 ?d2 ?d3 ?d4 ?d5 ?d6 ?d7 ?d8 ?d9 ?d10 ?d11 ?d12 ?d13 ?d14 ?d15 ?d16 ?d17 ?d18 ?d19 ?d20 ?d21 ?d22 ?d23 ?d24 ?d25 ?d26 ?d27 ?d28 ?d29 ?d30 ?d31 ?d32 ?d33 ?d34 ?d35 ?d36 ?dl ?z1 ?z2 ?z3 ?z4 ?z5 ?z6 ?z7 ?z8 ?z9 ?z10 ?z11 ?z12 ?z13
    (case d1 => walk_at "k_def")
    (case d2 => walk_at "k_def")
    (case d3 => walk_at "k_def")
    (case d4 => walk_at "k_def")
    (case d5 => walk_at "k_def")
    (case d6 => walk_at "k_def")
    (case d7 => walk_at "k_def")
    (case d8 => walk_at "k_def")
    (case d9 => walk_at "k_def")
    (case d10 => walk_at "k_def")
    (case d11 => walk_at "k_def")
    (case d12 => walk_at "k_def")
    (case d13 => walk_at "k_def")
    (case d14 => walk_at "k_def")
    (case d15 => walk_at "k_def")
    (case d16 => walk_at "k_def")
    (case d17 => walk_at "k_def")
    (case d18 => walk_at "k_def")
    (case d19 => walk_at "k_def")
    (case d20 => walk_at "k_def")
    (case d21 => walk_at "k_def")
    (case d22 => walk_at "k_def")
    (case d23 => walk_at "k_def")
    (case d24 => walk_at "k_def")
    (case d25 => walk_at "k_def")
    (case d26 => walk_at "k_def")
    (case d27 => walk_at "k_def")
    (case d28 => walk_at "k_def")
    (case d29 => walk_at "k_def")
    (case d30 => walk_at "k_def")
    (case d31 => walk_at "k_def")
    (case d32 => walk_at "k_def")
    (case d33 => walk_at "k_def")
    (case d34 => walk_at "k_def")
    (case d35 => walk_at "k_def")
    (case d36 => walk_at "k_def")
    (case dl => walk_at "k_def")
    (case z1 => k_is)
    (case z2 => k_is)
    (case z3 => k_is)
    (case z4 => k_is)
    (case z5 => k_is)
    (case z6 => k_is)
    (case z7 => k_is)
    (case z8 => k_is)
    (case z9 => k_is)
    (case z10 => k_is)
    (case z11 => k_is)
    (case z12 => k_is)
    (case z13 => k_is)
end
end
