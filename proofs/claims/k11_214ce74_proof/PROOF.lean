import PyProof.Rows.All
import Wide.All
import OpenK.AllK
import Wide.FinOn
import PyProof.EqAt
import PyProof.EqKinds
import PyProof.TupleCall
import Lean
import PyProof.CompFree
import PyProof.IsInstanceH
import PyProof.IsiPairs
import PyProof.ConsumeWalk
import PyProof.IsiNone
import KE.KIntText
import PyProof.Rows.EqDataRows
import PyProof.RangeIter
import PyProof.ZipIter
import PyProof.EnumMake
import PyProof.WalksEnum
import PyProof.Rows.ZipGen
import PyProof.Rows.SortWalk
import KE.KEqDict
import KE.KDictLaws
import PyProof.Rows.SumAny
import PyProof.Rows.FStr
import PyProof.ListRange
import PyProof.DictWalks
import PyProof.DictCopy
import KE.KDictOf
import PyProof.Rows.StrRev
import PyProof.ListStr
import KE.KRevSl
import KE.KLam
import PyProof.Rows.SetFrom
import PyProof.SetRoads
import KE.KNestM
import PyProof.StrLawsIdx
import KE.KRevIter
import PyProof.StrLawsChain
import PyProof.FitsReplace
import PyProof.MeetsStr2
import PyProof.TupleIter
import PyProof.StrLawsIn
import KE.KTryMore
import PyProof.ExcClass2
import PyProof.ExcInit
import PyProof.InstStoreFacts
import PyProof.ExcBaseAll.ValueError
import PyProof.RulesAs
import PyProof.NsDelKeeps
import OpenK.KRaise
import PyProof.ExcArgs
import PyProof.StrLoop
import PyProof.StrWalks
import PyProof.DictUpdate
import PyProof.AttrMissHeap
import PyProof.Rows.SeqMore2
import PySem.Challenge.RW_ownbeat_k11_whole_read_as_sent
set_option Elab.async false
set_option linter.all false
set_option maxRecDepth 100000
set_option maxHeartbeats 4000000
theorem gE_ {α:Type _} {l:List α} {i:Nat} (h:i<l.length):l[i]?=some l[i]:=List.getElem?_eq_getElem h
theorem lM_ {α β:Type _} {as:List α} (f:α->β):(as.map f).length=as.length:=List.length_map f
theorem gM_ {α β:Type _} {f:α->β} {l:List α} {i:Nat}:(l.map f)[i]?=Option.map f l[i]?:=List.getElem?_map
theorem lA_ {α:Type _} {as bs:List α}:(as++bs).length=as.length+bs.length:=List.length_append
theorem mO_ {α:Type _} {l:List α} {i:Nat} {a:α} (e:l[i]?=some a):a∈l:=List.mem_of_getElem? e
theorem mA_ {α:Type _} {a:α} {s t:List α} (h:a∈s++t):a∈s\/a∈t:=List.mem_append.mp h
theorem gS_ {α:Type _} {l:List α} {i:Nat} {a:α} (h:l[i]?=some a):∃ h:i<l.length,l[i]=a:=List.getElem?_eq_some_iff.mp h
theorem mC_ {α:Type _} (y:α) {a:α} {l:List α} (h:a∈l):a∈y::l:=List.mem_cons_of_mem y h
theorem mS_ {α:Type _} {a b:α} (h:a∈[b]):a=b:=List.mem_singleton.mp h
theorem mM_ {α β:Type _} {b:β} {f:α->β} {l:List α} (h:b∈l.map f):∃ a,a∈l/\f a=b:=List.mem_map.mp h
theorem oI_ {α:Type _} {a b:α} (h:some a=some b):a=b:=Option.some.inj h
theorem mG_ {α:Type _} {a:α} {l:List α} (h:a∈l):∃ i:Nat,l[i]?=some a:=List.mem_iff_getElem?.mp h
theorem lZ_ {n:Nat} (h:Nat.ble n 1000=true):n<=PySem.sizeLine:=Nat.le_trans (Nat.le_of_ble_eq_true h) (by decide)
section
namespace KH
open PySem PySem.W
abbrev Pw:Program:=PySem.Challenge.pw_ownbeat_k11_whole_read_as_sent
abbrev Rw:OpenLaw:=PySem.Challenge.rw_ownbeat_k11_whole_read_as_sent
abbrev tp (i:Nat):Stmt:=Pw.main.body.getD i (.Pass ⟨0,0,0,0⟩)
abbrev cm:Stmt->Nat->Stmt
 | .ClassDef _ _ _ body _ _ _ _ _ _ _,i=>body.getD i (.Pass ⟨0,0,0,0⟩)
 | s,_=>s
abbrev dA (s:Stmt):Arguments:=match s with
 | .FunctionDef _ a _ _ _ _ _ _ _ _=>a
 | _=>{ posonlyargs:=[],args:=[],vararg:=none,kwonlyargs:=[],kw_defaults:=[],kwarg:=none,defaults:=[] }
abbrev dB (s:Stmt):List Stmt:=match s with
 | .FunctionDef _ _ b _ _ _ _ _ _ _=>b
 | _=>[]
abbrev dS (s:Stmt):Scope:=match s with
 | .FunctionDef _ _ _ _ _ _ sc _ _ _=>sc
 | _=>{ kind:=.function,names:=[],isGenerator:=false,isCoroutine:=false }
abbrev en (P:Params) (k:Str) (t:Nat) (v:Value):DictEntry:=⟨PyData.keyHash P k,.str k t,v⟩
abbrev tu (l:List Value):Obj:=⟨.type "tuple",none,.seq l.toArray 0,#[]⟩
abbrev di (l:List DictEntry):Obj:=⟨.type "dict",none,.dict l.toArray 0,#[]⟩
abbrev co (n:Str) (t1:Nat) (q:Str) (t2 t3:Nat) (l c:Int) (a b:Nat) (x y:Value) (z:Nat) (d:Int) (t4:Nat):Obj:=⟨.type "code",none,.fields #[.str n t1,.str q t2,.str "/claim/cut.py" t3,.int l 0,.int c 0,.int 0 0,.int 0 0,.int 3 0,.ref a,.bool true,.int 181 0,.ref b,.none,x,y,.ref z,.int d 0,.int l 0,.str "/claim/cut.py" t4],#[]⟩
abbrev fu (n q:Str) (st:Stmt) (m:Str) (t c:Nat):Obj:=⟨.type "function",none,.func ⟨n,q,dA st,.stmts (dB st),dS st,3,[],.none,.none,.none,.str m t,none,.ref c,.none,0⟩,#[]⟩
abbrev cl (n:Str) (self ns a t1 t2:Nat):Obj:=⟨.type "type",none,.cls ⟨n,[.ref 24],[.ref self,.ref 24,.type "ValueError",.type "Exception",.type "BaseException",.type "object"],ns,n,true,[],[],false,none,false⟩,#[some (.ref a),none,some (.str n t1),some (.str n t2),some (.builtin "ValueError.__new__"),some (.bool true)]⟩
noncomputable def K (P:Params):Frag:=
 (nat_lit 2,⟨.none,none,.dict #[],#[]⟩) ::
 (nat_lit 3,⟨.type "dict",none,.dict #[en P "__name__" 165 (.str "law_ownbeat_k11_whole_read_as_sent" 551),en P "__doc__" 166 (.none),en P "__package__" 167 (.none),en P "__loader__" 168 (.builtin "__main__.__loader__#opaque"),en P "__spec__" 169 (.none),en P "__annotations__" 170 (.ref 6),en P "__builtins__" 171 (.ref 4),en P "__file__" 173 (.str "/claim/cut.py" 172),en P "__cached__" 174 (.none),en P "BeatError" 206 (.ref 24),en P "NoLetter" 222 (.ref 37),en P "NoCode" 238 (.ref 49),en P "NoWire" 263 (.ref 68),en P "is_whole" 272 (.ref 77),en P "is_letter" 280 (.ref 84),en P "is_letter_list" 286 (.ref 89),en P "words_of" 292 (.ref 94),en P "texts_from" 306 (.ref 101),en P "state_texts" 314 (.ref 108),en P "reached" 321 (.ref 115),en P "pair_graph" 332 (.ref 122),en P "pair_steps" 346 (.ref 129),en P "pairs_on_the_way" 361 (.ref 136),en P "layers_of" 371 (.ref 143),en P "layer_behind" 383 (.ref 150),en P "comes_back" 391 (.ref 157),en P "longest_walk" 402 (.ref 164),en P "first_return" 412 (.ref 171),en P "is_plain" 420 (.ref 176),en P "has_unlike_words" 426 (.ref 181),en P "read_plain" 432 (.ref 186),en P "given_words" 440 (.ref 193),en P "late" 449 (.ref 200),en P "never" 455 (.ref 205),en P "first_pairs" 466 (.ref 212),en P "never_shows" 478 (.ref 219),en P "has_never_shape" 486 (.ref 226),en P "read" 492 (.ref 231),en P "guesses_behind" 506 (.ref 238),en P "shared_count" 512 (.ref 243),en P "is_within" 523 (.ref 250),en P "sent" 535 (.ref 257),en P "letters" 541 (.ref 262),en P "letter_of" 550 (.ref 269),en P "_law_deck" 562 (.ref 276),en P "_law_draw" 573 (.ref 283),en P "_law_few" 579 (.ref 288),en P "_law_words" 585 (.ref 293),en P "_law_code" 591 (.ref 298),en P "_law_row" 602 (.ref 305),en P "_law_never_right" 619 (.ref 312),en P "_law_late_right" 625 (.ref 317),en P "_law_long_right" 631 (.ref 322),en P "law" 637 (.ref 327)] 54,#[]⟩) ::
 (nat_lit 15,tu [.type "ValueError"]) ::
 (nat_lit 22,tu []) ::
 (nat_lit 23,⟨.type "dict",none,.dict #[en P "__module__" 196 (.str "ownbeat.errors" 187),en P "__firstlineno__" 200 (.int 2 199),en P "__static_attributes__" 201 (.ref 22),en P "__weakref__" 203 (.ref 25),en P "__doc__" 204 (.none)] 3,#[]⟩) ::
 (nat_lit 24,⟨.type "type",none,.cls ⟨"BeatError",[.type "ValueError"],[.ref 24,.type "ValueError",.type "Exception",.type "BaseException",.type "object"],23,"BeatError",true,[],[.ref 37,.ref 49,.ref 68],false,none,false⟩,#[some (.ref 15),none,some (.str "BeatError" 189),some (.str "BeatError" 197),some (.builtin "ValueError.__new__"),some (.bool true)]⟩) ::
 (nat_lit 25,⟨.type "getset_descriptor",none,.fields #[.str "__weakref__" 202,.ref 24,.builtin "ExceptionGroup.__weakref__",.none],#[]⟩) ::
 (nat_lit 28,tu [.ref 24]) ::
 (nat_lit 35,tu []) ::
 (nat_lit 36,⟨.type "dict",none,.dict #[en P "__module__" 214 (.str "ownbeat.errors" 187),en P "__firstlineno__" 218 (.int 4 217),en P "__static_attributes__" 219 (.ref 35),en P "__doc__" 220 (.none)] 2,#[]⟩) ::
 (nat_lit 37,cl "NoLetter" 37 36 28 207 215) ::
 (nat_lit 40,tu [.ref 24]) ::
 (nat_lit 47,tu []) ::
 (nat_lit 48,⟨.type "dict",none,.dict #[en P "__module__" 230 (.str "ownbeat.errors" 187),en P "__firstlineno__" 234 (.int 6 233),en P "__static_attributes__" 235 (.ref 47),en P "__doc__" 236 (.none)] 2,#[]⟩) ::
 (nat_lit 49,cl "NoCode" 49 48 40 223 231) ::
 (nat_lit 52,tu [.ref 24]) ::
 (nat_lit 59,tu []) ::
 (nat_lit 61,tu [.str "self" 254,.str "at" 255]) ::
 (nat_lit 62,tu []) ::
 (nat_lit 64,co "__init__" 251 "NoWire.__init__" 252 253 10 2 59 60 (.ref 61) (.ref 62) 63 256 257) ::
 (nat_lit 65,fu "__init__" "NoWire.__init__" (cm (tp 4) 0) "ownbeat.errors" 187 64) ::
 (nat_lit 66,tu [.str "at" 259]) ::
 (nat_lit 67,⟨.type "dict",none,.dict #[en P "__module__" 246 (.str "ownbeat.errors" 187),en P "__firstlineno__" 250 (.int 8 249),en P "__init__" 258 (.ref 65),en P "__static_attributes__" 260 (.ref 66),en P "__doc__" 261 (.none)] 2,#[]⟩) ::
 (nat_lit 68,cl "NoWire" 68 67 52 239 247) ::
 (nat_lit 71,tu []) ::
 (nat_lit 73,tu [.str "thing" 269]) ::
 (nat_lit 74,tu []) ::
 (nat_lit 76,co "is_whole" 266 "is_whole" 267 268 14 1 71 72 (.ref 73) (.ref 74) 75 270 271) ::
 (nat_lit 77,fu "is_whole" "is_whole" (tp 6) "ownbeat.walks" 264 76) ::
 (nat_lit 78,tu []) ::
 (nat_lit 80,tu [.str "k" 276,.str "thing" 277]) ::
 (nat_lit 81,tu []) ::
 (nat_lit 83,co "is_letter" 273 "is_letter" 274 275 16 2 78 79 (.ref 80) (.ref 81) 82 278 279) ::
 (nat_lit 84,fu "is_letter" "is_letter" (tp 7) "ownbeat.walks" 264 83) ::
 (nat_lit 85,tu []) ::
 (nat_lit 88,co "is_letter_list" 281 "is_letter_list" 282 283 18 2 85 86 (.none) (.none) 87 284 285) ::
 (nat_lit 89,fu "is_letter_list" "is_letter_list" (tp 8) "ownbeat.walks" 264 88) ::
 (nat_lit 90,tu []) ::
 (nat_lit 93,co "words_of" 287 "words_of" 288 289 20 2 90 91 (.none) (.none) 92 290 291) ::
 (nat_lit 94,fu "words_of" "words_of" (tp 9) "ownbeat.walks" 264 93) ::
 (nat_lit 95,tu []) ::
 (nat_lit 97,tu [.str "start" 296,.str "steps" 297,.str "texts" 298,.str "queue" 299,.str "place" 300,.str "node" 301,.str "letter" 302,.str "to" 303]) ::
 (nat_lit 98,tu []) ::
 (nat_lit 100,co "texts_from" 293 "texts_from" 294 295 22 2 95 96 (.ref 97) (.ref 98) 99 304 305) ::
 (nat_lit 101,fu "texts_from" "texts_from" (tp 10) "ownbeat.walks" 264 100) ::
 (nat_lit 102,tu []) ::
 (nat_lit 104,tu [.str "code" 310]) ::
 (nat_lit 105,tu [.str "code" 311]) ::
 (nat_lit 107,co "state_texts" 307 "state_texts" 308 309 34 1 102 103 (.ref 104) (.ref 105) 106 312 313) ::
 (nat_lit 108,fu "state_texts" "state_texts" (tp 11) "ownbeat.walks" 264 107) ::
 (nat_lit 109,tu []) ::
 (nat_lit 111,tu [.str "code" 318]) ::
 (nat_lit 112,tu []) ::
 (nat_lit 114,co "reached" 315 "reached" 316 317 36 1 109 110 (.ref 111) (.ref 112) 113 319 320) ::
 (nat_lit 115,fu "reached" "reached" (tp 12) "ownbeat.walks" 264 114) ::
 (nat_lit 116,tu []) ::
 (nat_lit 118,tu [.str "code" 325,.str "states" 326,.str "graph" 327,.str "one" 328,.str "other" 329]) ::
 (nat_lit 119,tu []) ::
 (nat_lit 121,co "pair_graph" 322 "pair_graph" 323 324 38 2 116 117 (.ref 118) (.ref 119) 120 330 331) ::
 (nat_lit 122,fu "pair_graph" "pair_graph" (tp 13) "ownbeat.walks" 264 121) ::
 (nat_lit 123,tu []) ::
 (nat_lit 125,tu [.str "code" 336,.str "one" 337,.str "other" 338,.str "steps" 339,.str "letter" 340,.str "row" 341,.str "another" 342,.str "beside" 343]) ::
 (nat_lit 126,tu []) ::
 (nat_lit 128,co "pair_steps" 333 "pair_steps" 334 335 44 3 123 124 (.ref 125) (.ref 126) 127 344 345) ::
 (nat_lit 129,fu "pair_steps" "pair_steps" (tp 14) "ownbeat.walks" 264 128) ::
 (nat_lit 130,tu []) ::
 (nat_lit 132,tu [.str "code" 350,.str "pair" 351,.str "one" 352,.str "other" 353,.str "pairs" 354,.str "letter" 355,.str "another" 356,.str "row" 357,.str "beside" 358]) ::
 (nat_lit 133,tu []) ::
 (nat_lit 135,co "pairs_on_the_way" 347 "pairs_on_the_way" 348 349 51 4 130 131 (.ref 132) (.ref 133) 134 359 360) ::
 (nat_lit 136,fu "pairs_on_the_way" "pairs_on_the_way" (tp 15) "ownbeat.walks" 264 135) ::
 (nat_lit 137,tu []) ::
 (nat_lit 139,tu [.str "first" 365,.str "graph" 366,.str "layers" 367,.str "layer" 368]) ::
 (nat_lit 140,tu []) ::
 (nat_lit 142,co "layers_of" 362 "layers_of" 363 364 61 2 137 138 (.ref 139) (.ref 140) 141 369 370) ::
 (nat_lit 143,fu "layers_of" "layers_of" (tp 16) "ownbeat.walks" 264 142) ::
 (nat_lit 144,tu []) ::
 (nat_lit 146,tu [.str "layer" 375,.str "graph" 376,.str "behind" 377,.str "node" 378,.str "label" 379,.str "to" 380]) ::
 (nat_lit 147,tu []) ::
 (nat_lit 149,co "layer_behind" 372 "layer_behind" 373 374 68 2 144 145 (.ref 146) (.ref 147) 148 381 382) ::
 (nat_lit 150,fu "layer_behind" "layer_behind" (tp 17) "ownbeat.walks" 264 149) ::
 (nat_lit 151,tu []) ::
 (nat_lit 153,tu [.str "layers" 387,.str "graph" 388]) ::
 (nat_lit 154,tu []) ::
 (nat_lit 156,co "comes_back" 384 "comes_back" 385 386 75 2 151 152 (.ref 153) (.ref 154) 155 389 390) ::
 (nat_lit 157,fu "comes_back" "comes_back" (tp 18) "ownbeat.walks" 264 156) ::
 (nat_lit 158,tu []) ::
 (nat_lit 160,tu [.str "layers" 395,.str "node" 396,.str "walk" 397,.str "layer" 398,.str "ahead" 399]) ::
 (nat_lit 161,tu []) ::
 (nat_lit 163,co "longest_walk" 392 "longest_walk" 393 394 77 1 158 159 (.ref 160) (.ref 161) 162 400 401) ::
 (nat_lit 164,fu "longest_walk" "longest_walk" (tp 19) "ownbeat.walks" 264 163) ::
 (nat_lit 165,tu []) ::
 (nat_lit 167,tu [.str "walk" 406,.str "places" 407,.str "place" 408,.str "step" 409]) ::
 (nat_lit 168,tu []) ::
 (nat_lit 170,co "first_return" 403 "first_return" 404 405 85 1 165 166 (.ref 167) (.ref 168) 169 410 411) ::
 (nat_lit 171,fu "first_return" "first_return" (tp 20) "ownbeat.walks" 264 170) ::
 (nat_lit 172,tu []) ::
 (nat_lit 175,co "is_plain" 415 "is_plain" 416 417 93 1 172 173 (.none) (.none) 174 418 419) ::
 (nat_lit 176,fu "is_plain" "is_plain" (tp 22) "ownbeat.reading" 413 175) ::
 (nat_lit 177,tu []) ::
 (nat_lit 180,co "has_unlike_words" 421 "has_unlike_words" 422 423 95 1 177 178 (.none) (.none) 179 424 425) ::
 (nat_lit 181,fu "has_unlike_words" "has_unlike_words" (tp 23) "ownbeat.reading" 413 180) ::
 (nat_lit 182,tu []) ::
 (nat_lit 185,co "read_plain" 427 "read_plain" 428 429 97 2 182 183 (.none) (.none) 184 430 431) ::
 (nat_lit 186,fu "read_plain" "read_plain" (tp 24) "ownbeat.reading" 413 185) ::
 (nat_lit 187,tu []) ::
 (nat_lit 189,tu [.str "code" 436,.str "wire" 437]) ::
 (nat_lit 190,tu []) ::
 (nat_lit 192,co "given_words" 433 "given_words" 434 435 110 2 187 188 (.ref 189) (.ref 190) 191 438 439) ::
 (nat_lit 193,fu "given_words" "given_words" (tp 25) "ownbeat.reading" 413 192) ::
 (nat_lit 194,tu []) ::
 (nat_lit 196,tu [.str "code" 444,.str "graph" 445,.str "layers" 446]) ::
 (nat_lit 197,tu []) ::
 (nat_lit 199,co "late" 441 "late" 442 443 114 1 194 195 (.ref 196) (.ref 197) 198 447 448) ::
 (nat_lit 200,fu "late" "late" (tp 26) "ownbeat.reading" 413 199) ::
 (nat_lit 201,tu []) ::
 (nat_lit 204,co "never" 450 "never" 451 452 118 1 201 202 (.none) (.none) 203 453 454) ::
 (nat_lit 205,fu "never" "never" (tp 27) "ownbeat.reading" 413 204) ::
 (nat_lit 206,tu []) ::
 (nat_lit 208,tu [.str "code" 459,.str "pairs" 460,.str "state" 461,.str "label" 462,.str "pair" 463]) ::
 (nat_lit 209,tu []) ::
 (nat_lit 211,co "first_pairs" 456 "first_pairs" 457 458 129 1 206 207 (.ref 208) (.ref 209) 210 464 465) ::
 (nat_lit 212,fu "first_pairs" "first_pairs" (tp 28) "ownbeat.reading" 413 211) ::
 (nat_lit 213,tu []) ::
 (nat_lit 215,tu [.str "code" 470,.str "answer" 471,.str "state" 472,.str "one" 473,.str "other" 474,.str "pairs" 475]) ::
 (nat_lit 216,tu []) ::
 (nat_lit 218,co "never_shows" 467 "never_shows" 468 469 136 2 213 214 (.ref 215) (.ref 216) 217 476 477) ::
 (nat_lit 219,fu "never_shows" "never_shows" (tp 29) "ownbeat.reading" 413 218) ::
 (nat_lit 220,tu []) ::
 (nat_lit 222,tu [.str "code" 482,.str "answer" 483]) ::
 (nat_lit 223,tu []) ::
 (nat_lit 225,co "has_never_shape" 479 "has_never_shape" 480 481 148 2 220 221 (.ref 222) (.ref 223) 224 484 485) ::
 (nat_lit 226,fu "has_never_shape" "has_never_shape" (tp 30) "ownbeat.reading" 413 225) ::
 (nat_lit 227,tu []) ::
 (nat_lit 230,co "read" 487 "read" 488 489 154 2 227 228 (.none) (.none) 229 490 491) ::
 (nat_lit 231,fu "read" "read" (tp 31) "ownbeat.reading" 413 230) ::
 (nat_lit 232,tu []) ::
 (nat_lit 234,tu [.str "code" 496,.str "guesses" 497,.str "word" 498,.str "behind" 499,.str "state" 500,.str "tail" 501,.str "letter" 502,.str "row" 503]) ::
 (nat_lit 235,tu []) ::
 (nat_lit 237,co "guesses_behind" 493 "guesses_behind" 494 495 167 3 232 233 (.ref 234) (.ref 235) 236 504 505) ::
 (nat_lit 238,fu "guesses_behind" "guesses_behind" (tp 32) "ownbeat.reading" 413 237) ::
 (nat_lit 239,tu []) ::
 (nat_lit 242,co "shared_count" 507 "shared_count" 508 509 174 1 239 240 (.none) (.none) 241 510 511) ::
 (nat_lit 243,fu "shared_count" "shared_count" (tp 33) "ownbeat.reading" 413 242) ::
 (nat_lit 244,tu []) ::
 (nat_lit 246,tu [.str "thing" 518,.str "least" 519,.str "greatest" 520]) ::
 (nat_lit 247,tu []) ::
 (nat_lit 249,co "is_within" 515 "is_within" 516 517 180 3 244 245 (.ref 246) (.ref 247) 248 521 522) ::
 (nat_lit 250,fu "is_within" "is_within" (tp 35) "ownbeat.codes" 513 249) ::
 (nat_lit 251,tu []) ::
 (nat_lit 253,tu [.str "code" 527,.str "state" 528,.str "text" 529,.str "words" 530,.str "letter" 531,.str "row" 532]) ::
 (nat_lit 254,tu []) ::
 (nat_lit 256,co "sent" 524 "sent" 525 526 182 3 251 252 (.ref 253) (.ref 254) 255 533 534) ::
 (nat_lit 257,fu "sent" "sent" (tp 36) "ownbeat.codes" 513 256) ::
 (nat_lit 258,tu []) ::
 (nat_lit 261,co "letters" 536 "letters" 537 538 191 2 258 259 (.none) (.none) 260 539 540) ::
 (nat_lit 262,fu "letters" "letters" (tp 37) "ownbeat.codes" 513 261) ::
 (nat_lit 263,tu []) ::
 (nat_lit 265,tu [.str "bits" 545,.str "letter" 546,.str "bit" 547]) ::
 (nat_lit 266,tu []) ::
 (nat_lit 268,co "letter_of" 542 "letter_of" 543 544 199 1 263 264 (.ref 265) (.ref 266) 267 548 549) ::
 (nat_lit 269,fu "letter_of" "letter_of" (tp 38) "ownbeat.codes" 513 268) ::
 (nat_lit 270,tu []) ::
 (nat_lit 272,tu [.str "script" 556,.str "pools" 557,.str "k" 558,.str "cell" 559]) ::
 (nat_lit 273,tu []) ::
 (nat_lit 275,co "_law_deck" 553 "_law_deck" 554 555 205 1 270 271 (.ref 272) (.ref 273) 274 560 561) ::
 (nat_lit 276,fu "_law_deck" "_law_deck" (tp 40) "law_ownbeat_k11_whole_read_as_sent" 551 275) ::
 (nat_lit 277,tu []) ::
 (nat_lit 279,tu [.str "deck" 566,.str "many" 567,.str "pool" 568,.str "found" 569,.str "number" 570]) ::
 (nat_lit 280,tu []) ::
 (nat_lit 282,co "_law_draw" 563 "_law_draw" 564 565 213 2 277 278 (.ref 279) (.ref 280) 281 571 572) ::
 (nat_lit 283,fu "_law_draw" "_law_draw" (tp 41) "law_ownbeat_k11_whole_read_as_sent" 551 282) ::
 (nat_lit 284,tu []) ::
 (nat_lit 287,co "_law_few" 574 "_law_few" 575 576 225 2 284 285 (.none) (.none) 286 577 578) ::
 (nat_lit 288,fu "_law_few" "_law_few" (tp 42) "law_ownbeat_k11_whole_read_as_sent" 551 287) ::
 (nat_lit 289,tu []) ::
 (nat_lit 292,co "_law_words" 580 "_law_words" 581 582 232 5 289 290 (.none) (.none) 291 583 584) ::
 (nat_lit 293,fu "_law_words" "_law_words" (tp 43) "law_ownbeat_k11_whole_read_as_sent" 551 292) ::
 (nat_lit 294,tu []) ::
 (nat_lit 297,co "_law_code" 586 "_law_code" 587 588 250 4 294 295 (.none) (.none) 296 589 590) ::
 (nat_lit 298,fu "_law_code" "_law_code" (tp 44) "law_ownbeat_k11_whole_read_as_sent" 551 297) ::
 (nat_lit 299,tu []) ::
 (nat_lit 301,tu [.str "deck" 595,.str "many" 596,.str "gap" 597,.str "states" 598,.str "k" 599]) ::
 (nat_lit 302,tu []) ::
 (nat_lit 304,co "_law_row" 592 "_law_row" 593 594 261 1 299 300 (.ref 301) (.ref 302) 303 600 601) ::
 (nat_lit 305,fu "_law_row" "_law_row" (tp 45) "law_ownbeat_k11_whole_read_as_sent" 551 304) ::
 (nat_lit 306,tu []) ::
 (nat_lit 308,tu [.str "deck" 606,.str "code" 607,.str "found" 608,.str "state" 609,.str "ones" 610,.str "others" 611,.str "begin" 612,.str "ahead" 613,.str "turns" 614,.str "one" 615,.str "other" 616]) ::
 (nat_lit 309,tu []) ::
 (nat_lit 311,co "_law_never_right" 603 "_law_never_right" 604 605 269 2 306 307 (.ref 308) (.ref 309) 310 617 618) ::
 (nat_lit 312,fu "_law_never_right" "_law_never_right" (tp 46) "law_ownbeat_k11_whole_read_as_sent" 551 311) ::
 (nat_lit 313,tu []) ::
 (nat_lit 316,co "_law_late_right" 620 "_law_late_right" 621 622 281 3 313 314 (.none) (.none) 315 623 624) ::
 (nat_lit 317,fu "_law_late_right" "_law_late_right" (tp 47) "law_ownbeat_k11_whole_read_as_sent" 551 316) ::
 (nat_lit 318,tu []) ::
 (nat_lit 321,co "_law_long_right" 626 "_law_long_right" 627 628 300 3 318 319 (.none) (.none) 320 629 630) ::
 (nat_lit 322,fu "_law_long_right" "_law_long_right" (tp 48) "law_ownbeat_k11_whole_read_as_sent" 551 321) ::
 (nat_lit 323,tu []) ::
 (nat_lit 326,co "law" 632 "law" 633 634 306 1 323 324 (.none) (.none) 325 635 636) ::
 (nat_lit 327,fu "law" "law" (tp 49) "law_ownbeat_k11_whole_read_as_sent" 551 326) :: []
def V:Program:=view Pw [1,2,3,4,6,7,8,9,10,11,12,13,14,15,16,17,18,19,20,22,23,24,25,26,27,28,29,30,31,32,33,35,36,37,38,40,41,42,43,44,45,46,47,48,49]
noncomputable abbrev hk:Hook:=kmHook K [2,3,15,22,23,24,25,28,35,36,37,40,47,48,49,52,59,61,62,64,65,66,67,68,71,73,74,76,77,78,80,81,83,84,85,88,89,90,93,94,95,97,98,100,101,102,104,105,107,108,109,111,112,114,115,116,118,119,121,122,123,125,126,128,129,130,132,133,135,136,137,139,140,142,143,144,146,147,149,150,151,153,154,156,157,158,160,161,163,164,165,167,168,170,171,172,175,176,177,180,181,182,185,186,187,189,190,192,193,194,196,197,199,200,201,204,205,206,208,209,211,212,213,215,216,218,219,220,222,223,225,226,227,230,231,232,234,235,237,238,239,242,243,244,246,247,249,250,251,253,254,256,257,258,261,262,263,265,266,268,269,270,272,273,275,276,277,279,280,282,283,284,287,288,289,292,293,294,297,298,299,301,302,304,305,306,308,309,311,312,313,316,317,318,321,322,323,326,327] (fun _=>by kernel_rfl) [103]
theorem HL:LeftO (Rw.row).prog V [] (fun s=>xlAt V [] s && recOk (RowW.records (OpenRow.toRowW Rw.row)) s) (Hook.obs hk) (Hook.val hk) 4406:=by
 intro w
 rw [Fast.te14364793385576792824,Fast.te4187177175401517315,Fast.te5923862056798008813]
 kernel_rfl
end KH
noncomputable def PySem.W.Fast.tw7002155849999773082:PySem.Program:=PySem.Challenge.pw_ownbeat_k11_whole_read_as_sent
theorem PySem.W.Fast.te7002155849999773082:PySem.Challenge.pw_ownbeat_k11_whole_read_as_sent=PySem.W.Fast.tw7002155849999773082:=rfl
noncomputable def PySem.W.Fast.tw3502692703685414197:PySem.W.OpenLaw:=PySem.Challenge.rw_ownbeat_k11_whole_read_as_sent
theorem PySem.W.Fast.te3502692703685414197:PySem.Challenge.rw_ownbeat_k11_whole_read_as_sent=PySem.W.Fast.tw3502692703685414197:=rfl
noncomputable def PySem.W.Fast.tw5761066807429076752:PySem.Program:=KH.V
theorem PySem.W.Fast.te5761066807429076752:KH.V=PySem.W.Fast.tw5761066807429076752:=rfl
noncomputable def PySem.W.Fast.tw13718576055750932966:PySem.Params->PySem.W.Frag:=KH.K
theorem PySem.W.Fast.te13718576055750932966:KH.K=PySem.W.Fast.tw13718576055750932966:=rfl
noncomputable def PySem.W.Fast.tw770474345414848920:PySem.Program:=KH.Pw
theorem PySem.W.Fast.te770474345414848920:KH.Pw=PySem.W.Fast.tw770474345414848920:=rfl
noncomputable def PySem.W.Fast.tw14237125333626191895:PySem.W.OpenLaw:=KH.Rw
theorem PySem.W.Fast.te14237125333626191895:KH.Rw=PySem.W.Fast.tw14237125333626191895:=rfl
end
set_option compiler.extract_closed false
namespace L2
open PySem PySem.Spec PyProof.Rows
abbrev Key:=Sum Int Str
def qfi:Key->Value->Bool
 | .inl k,v=>Value.isInt k v
 | .inr x,v=>Value.isStrOf x v
def qok (w:World):Key->Int
 | .inl k=>hashInt k
 | .inr x=>hashStr w x
theorem qan:∀ {k:Key} {v:Value},qfi k v=true->(∃ i t,k=Sum.inl i/\v=Value.int i t)\/(∃ x t,k=Sum.inr x/\v=Value.str x t)
 | .inl i,v,h=>by
  obtain ⟨t,e⟩:=Value.isInt_shape (k:=i) (v:=v) h
  exact .inl ⟨i,t,rfl,e⟩
 | .inr x,v,h=>by
  obtain ⟨t,e⟩:=Value.isStrOf_shape (x:=x) (v:=v) h
  exact .inr ⟨x,t,rfl,e⟩
theorem qgE (i:Int) (t:Tok):qfi (.inl i) (.int i t)=true:=by simp [qfi,Value.isInt]
theorem qgD (x:Str) (t:Tok):qfi (.inr x) (.str x t)=true:=by simp [qfi,Value.isStrOf]
theorem qlU (a b:Int):decide ((Sum.inl a:Key)=Sum.inl b)=(a == b):=by
 by_cases e:a=b
 ·subst e;simp
 ·have h:¬ (Sum.inl a:Key)=Sum.inl b:=fun q=>e (Sum.inl.inj q)
  rw [decide_eq_false h]
  exact (beq_eq_false_iff_ne.mpr e).symm
theorem qlR (a b:Str):decide ((Sum.inr a:Key)=Sum.inr b)=decide (a=b):=by
 by_cases e:a=b
 ·subst e;simp
 ·have h:¬ (Sum.inr a:Key)=Sum.inr b:=fun q=>e (Sum.inr.inj q)
  rw [decide_eq_false h,decide_eq_false e]
theorem qlT (a:Int) (b:Str):decide ((Sum.inl a:Key)=Sum.inr b)=false:=decide_eq_false (fun q=>nomatch q)
theorem qlS (a:Str) (b:Int):decide ((Sum.inr a:Key)=Sum.inl b)=false:=decide_eq_false (fun q=>nomatch q)
def qat (prog:Program) (w:World):PySem.KeyKind prog w Key where
 is:=qfi
 hash:=qok w
 inj:=fun v a b ha hb=>by
  rcases qan ha with ⟨i,t,rfl,rfl⟩ | ⟨x,t,rfl,rfl⟩
  ·rcases qan hb with ⟨j,u,rfl,e⟩ | ⟨y,u,rfl,e⟩
   ·injection e with e1 _;rw [e1]
   ·exact nomatch e
  ·rcases qan hb with ⟨j,u,rfl,e⟩ | ⟨y,u,rfl,e⟩
   ·exact nomatch e
   ·injection e with e1 _;rw [e1]
 byValue:=fun k v h=>by
  rcases qan h with ⟨i,t,rfl,rfl⟩ | ⟨x,t,rfl,rfl⟩<;>rfl
 pyHash:=fun hv h=>by
  rcases qan hv with ⟨i,t,rfl,rfl⟩ | ⟨x,t,rfl,rfl⟩
  ·exact wpAny_pyHash_int h
  ·exact wpAny_pyHash_str h
 eqBool:=fun hu hv h=>by
  rcases qan hu with ⟨i,t,rfl,rfl⟩ | ⟨x,t,rfl,rfl⟩
  ·rcases qan hv with ⟨j,u,rfl,rfl⟩ | ⟨y,u,rfl,rfl⟩
   ·rw [qlU] at h;exact wpAny_eqBool_int h
   ·rw [qlT] at h;exact SeqAt.EqAt.int_str i t y u _ _ _ _ h
  ·rcases qan hv with ⟨j,u,rfl,rfl⟩ | ⟨y,u,rfl,rfl⟩
   ·rw [qlS] at h;exact SeqAt.EqAt.str_int x t j u _ _ _ _ h
   ·rw [qlR] at h;exact wpAny_eqBool_str h
 «strs» := fun k x t v h=>by
  rcases qan h with ⟨i,u,rfl,e⟩ | ⟨y,u,rfl,e⟩
  ·exact nomatch e
  ·injection e with e1 _
   subst e1
   cases v<;>rfl
theorem qej (prog:Program) (w:World) (i:Int) (t:Tok):(qat prog w).is (.inl i) (.int i t)=true:=qgE i t
theorem qei (prog:Program) (w:World) (x:Str) (t:Tok):(qat prog w).is (.inr x) (.str x t)=true:=qgD x t
end L2
namespace L2
open PySem PySem.Spec PyProof.Rows
inductive V where
 | non | bl (b:Bool) | int (i:Int) | str (x:Str) | byt (b:Array UInt8) | flt (b:UInt64) | ref (a:Addr) | ty (n:String)
 deriving DecidableEq
def RelV:V->Value->Prop
 | .non,u=>u=Value.none
 | .bl b,u=>u=Value.bool b
 | .int i,u=>∃ t,u=Value.int i t
 | .str x,u=>∃ t,u=Value.str x t
 | .byt b,u=>∃ t,u=Value.bytes b t
 | .flt b,u=>∃ t,u=Value.float b t
 | .ref a,u=>u=Value.ref a
 | .ty n,u=>u=Value.type n
abbrev Vals:List V->List Value->Prop:=Paired RelV
theorem Vals.length {xs:List V} {us:List Value} (r:Vals xs us):xs.length=us.length:=Paired.length r
theorem Vals.get:∀ {xs:List V} {us:List Value} {i:Nat} {x:V},Vals xs us->xs[i]? = some x->∃ u,us[i]? = some u/\RelV x u
 | _,_,_,_,.nil,e=>by simp at e
 | _,_,0,_,.cons r _,e=>by simp at e;subst e;exact ⟨_,rfl,r⟩
 | _,_,i+1,x,.cons _ t,e=>by
  obtain ⟨u,h1,h2⟩:=Vals.get (i:=i) (x:=x) t (by simpa using e)
  exact ⟨u,by simpa using h1,h2⟩
theorem Vals.set {x:V} {u:Value} (r:RelV x u):∀ {xs:List V} {us:List Value} (i:Nat),Vals xs us->Vals (xs.set i x) (us.set i u)
 | _,_,_,.nil=>.nil
 | _,_,0,.cons _ t=>.cons r t
 | _,_,i+1,.cons q t=>.cons q (Vals.set r i t)
theorem Vals.append:∀ {xs ys:List V} {us ws:List Value},Vals xs us->Vals ys ws->Vals (xs++ys) (us++ws)
 | _,_,_,_,.nil,s=>s
 | _,_,_,_,.cons r t,s=>.cons r (Vals.append t s)
theorem Vals.take:∀ {xs:List V} {us:List Value} (n:Nat),Vals xs us->Vals (xs.take n) (us.take n)
 | _,_,0,_=>.nil
 | _,_,_+1,.nil=>.nil
 | _,_,n+1,.cons r t=>.cons r (Vals.take n t)
theorem Vals.drop:∀ {xs:List V} {us:List Value} (n:Nat),Vals xs us->Vals (xs.drop n) (us.drop n)
 | _,_,0,r=>r
 | _,_,_+1,.nil=>.nil
 | _,_,n+1,.cons _ t=>Vals.drop n t
def RelO:Option V->Option Value->Prop
 | some v,some u=>RelV v u
 | none,none=>True
 | _,_=>False
def KV {κ:Type}:List (κ×V)->List (κ×Value)->Prop:=Paired fun (p:κ×V) (q:κ×Value)=>p.1=q.1/\RelV p.2 q.2
def kV:Key->V
 | .inl i=>.int i
 | .inr x=>.str x
inductive HO where
  | lst (xs:List V)
  | tup (xs:List V)
  | dK (kvs:List (Key×V)) | dT (kvs:List (List Key×V))
  | set (S:Int->Bool) (n:Nat)
  | ins (C dx:Addr) (fs:List (Str×V))
  | own (x:Addr)
  | xd (fs:List (Str×V))
  | met (f x:Addr)
  | rng (lo hi:Int)
  | frz (o:Obj) (u:HO)
  | tbl (ps:Array Value)
  | ext (φ:Heap->Prop)
abbrev Hp:=Addr->Option HO
def upd (H:Hp) (a:Addr) (o:HO):Hp:=fun b=>if b=a then some o else H b
theorem qaa {H:Hp} {a:Addr} {o:HO}:upd H a o a=some o:=by unfold upd;rw [if_pos rfl]
theorem qab {H:Hp} {a b:Addr} {o:HO} (h:b≠a):upd H a o b=H b:=by unfold upd;rw [if_neg h]
theorem qbf {H:Hp} {a:Addr} {o u:HO}:upd (upd H a o) a u=upd H a u:=by
 funext b;unfold upd;split<;>rfl
theorem qax {H:Hp} {a b:Addr} {o u:HO} (h:H a=some o) (h':H b=some u) (d:o≠u):a≠b:=by
 intro e;subst e;rw [h] at h';exact d (oI_ h')
theorem qac {H:Hp} {a b:Addr} {o:HO} (h:H a=some o) (h':H b=none):a≠b:=by
 intro e;subst e;rw [h] at h';cases h'
section
variable (P:Program) (w:World)
def ObjOk (H:Hp) (h:Heap) (a:Addr):HO->Prop
 | .lst xs=>xs.length<=sizeLine/\∃ (its:List Value) (n:Nat),Vals xs its/\h.get? a=some { cls:=.type "list",data:=.seq its.toArray n }
 | .tup xs=>xs.length<=sizeLine/\∃ its:List Value,Vals xs its/\IsTup h a its.toArray
 | .dK kvs=>kvs.length<=sizeLine/\(a == sysModules)=false/\∃ vs,KV kvs vs/\h.DictOf (qat P w) a vs
 | .dT kvs=>kvs.length<=sizeLine/\(a == sysModules)=false/\∃ xs:List (List Key×Addr×Value),
   Paired (fun (p:List Key×V) (q:List Key×Addr×Value)=>p.1=q.1/\H q.2.1=some (.tup (p.1.map kV))/\RelV p.2 q.2.2) kvs xs ∧
   ∃ o es ep,h.get? a=some o/\o.ExactDict/\o.data = .dict es ep/\es.toList=xs.map (entryOfKey (tupleKind (qat P w)))/\(xs.map (·.1)).Nodup
 | .set S n=>h.SetOf (intKind P w) a S n
 | .ins C dx fs=>H dx=some (.own a)/\fs.length<=1000/\dx≠a/\h.get? a=some (PySem.W.instObj C dx) ∧
   ∃ mA,h.Ns1 dx mA/\(∀ f,RelO (fs.lookup f) (mA f))/\PySem.Within mA (fs.map (·.1))
 | .own _=>∃ o,h.get? a=some o
 | .xd fs=>∃ mA,h.Ns1 a mA/\∀ f,RelO (fs.lookup f) (mA f)
 | .rng lo hi=>∃ t u v,h.get? a=some { cls:=.type "range",data:=.fields #[.int lo t,.int hi u,.int 1 v] }
 | .frz o u=>h.get? a=some o/\ObjOk H h a u
 | .tbl ps=>h.get? a=some { cls:=.none,data:=.fields ps }
 | .met f x=>h.get? a=some (PySem.W.methodObj (.ref f) (.ref x))
 | .ext φ=>φ h/\(∃ o,h.get? a=some o)/\∀ h1 h2:Heap,φ h1->(∀ o,h1.get? a=some o->h2.get? a=some o)->φ h2
def HOk (H:Hp) (h:Heap):Prop:=∀ a o,H a=some o->ObjOk P w H h a o
end
section
variable {P:Program} {w:World} {H H':Hp} {h h':Heap} {a:Addr} {o:HO}
theorem ObjOk.lt (x:ObjOk P w H h a o):a < h.objs.size:=by
 cases o with
 | lst xs=>obtain ⟨_,_,_,_,e⟩:=x;exact Heap.lt_size e
 | tup xs=>obtain ⟨_,_,_,p⟩:=x;exact p.lt
 | dK kvs=>obtain ⟨_,_,_,_,o,_,_,e,_⟩:=x;exact Heap.lt_size e
 | dT kvs=>obtain ⟨_,_,_,_,o,_,_,e,_⟩:=x;exact Heap.lt_size e
 | set S n=>obtain ⟨o,_,_,_,e,_⟩:=x;exact Heap.lt_size e
 | ins C dx fs=>obtain ⟨_,_,_,e,_⟩:=x;exact Heap.lt_size e
 | own y=>obtain ⟨_,e⟩:=x;exact Heap.lt_size e
 | xd fs=>obtain ⟨_,⟨_,_,_,e,_⟩,_⟩:=x;exact Heap.lt_size e
 | rng lo hi=>obtain ⟨_,_,_,e⟩:=x;exact Heap.lt_size e
 | frz ob u=>obtain ⟨e,_⟩:=x;exact Heap.lt_size e
 | tbl ps=>exact Heap.lt_size (show h.get? a=some _ from x)
 | met f y=>exact Heap.lt_size (show h.get? a=some _ from x)
 | ext φ=>obtain ⟨_,⟨_,e⟩,_⟩:=x;exact Heap.lt_size e
theorem Paired.mapP {α β:Type} {F G:α->β->Prop}:∀ {l₁:List α} {l₂:List β},Paired F l₁ l₂->(∀ a b,F a b->G a b)->Paired G l₁ l₂
 | _,_,.nil,_=>.nil
 | _,_,.cons r t,f=>.cons (f _ _ r) (Paired.mapP t f)
theorem ObjOk.stay (x:ObjOk P w H h a o) (k:∀ b u,(b=a\/H b=some (.own a))->h.get? b=some u->h'.get? b=some u)
  (ho:∀ b,H b=some (.own a)->H' b=some (.own a)) (ht:∀ b xs,H b=some (.tup xs)->H' b=some (.tup xs)):ObjOk P w H' h' a o:=by
 induction o with
 | lst xs=>obtain ⟨z,its,n,r,e⟩:=x;exact ⟨z,its,n,r,k _ _ (.inl rfl) e⟩
 | tup xs=>obtain ⟨z,its,r,ob,e,c⟩:=x;exact ⟨z,its,r,ob,k _ _ (.inl rfl) e,c⟩
 | dK kvs=>obtain ⟨z,y,vs,r,ob,es,ep,e,c⟩:=x;exact ⟨z,y,vs,r,ob,es,ep,k _ _ (.inl rfl) e,c⟩
 | dT kvs=>
  obtain ⟨z,y,xs,r,ob,es,ep,e,c⟩:=x
  exact ⟨z,y,xs,Paired.mapP r fun p q z=>⟨z.1,ht _ _ z.2.1,z.2.2⟩,ob,es,ep,k _ _ (.inl rfl) e,c⟩
 | set S n=>obtain ⟨ob,es,ep,t,e,c⟩:=x;exact ⟨ob,es,ep,t,k _ _ (.inl rfl) e,c⟩
 | ins C dx fs=>
  obtain ⟨d,z,ne,e,mA,⟨od,es,ep,e2,c⟩,r⟩:=x
  exact ⟨ho _ d,z,ne,k _ _ (.inl rfl) e,mA,⟨od,es,ep,k _ _ (.inr d) e2,c⟩,r⟩
 | own y=>obtain ⟨ob,e⟩:=x;exact ⟨ob,k _ _ (.inl rfl) e⟩
 | xd fs=>obtain ⟨mA,⟨od,es,ep,e,c⟩,r⟩:=x;exact ⟨mA,⟨od,es,ep,k _ _ (.inl rfl) e,c⟩,r⟩
 | rng lo hi=>obtain ⟨t,u,v,e⟩:=x;exact ⟨t,u,v,k _ _ (.inl rfl) e⟩
 | frz ob u ih=>obtain ⟨e,q⟩:=x;exact ⟨k _ _ (.inl rfl) e,ih q⟩
 | tbl ps=>
  have e:h.get? a=some { cls:=.none,data:=.fields ps }:=x
  show h'.get? a=some { cls:=.none,data:=.fields ps }
  exact k a _ (.inl rfl) e
 | met f y=>
  have e:h.get? a=some (PySem.W.methodObj (.ref f) (.ref y)):=x
  show h'.get? a=some (PySem.W.methodObj (.ref f) (.ref y))
  exact k a _ (.inl rfl) e
 | ext φ=>obtain ⟨p,⟨o,e⟩,st⟩:=x;exact ⟨st _ _ p fun o q=>k _ _ (.inl rfl) q,⟨o,k _ _ (.inl rfl) e⟩,st⟩
theorem HOk.lt (x:HOk P w H h) (e:H a=some o):a < h.objs.size:=(x a o e).lt
theorem HOk.fresh (x:HOk P w H h) (e:h.objs.size<=a):H a=none:=by
 cases q:H a with
 | none=>rfl
 | some u=>exact absurd (Nat.lt_of_lt_of_le (x.lt q) e) (Nat.lt_irrefl _)
theorem HOk.kept (x:HOk P w H h) (k:∀ b u,h.get? b=some u->h'.get? b=some u):HOk P w H h':=fun a o e=>
 (x a o e).stay (fun b u _ q=>k b u q) (fun _ q=>q) fun _ _ q=>q
theorem HOk.laid (x:HOk P w H h) (k:∀ b u,h.get? b=some u->h'.get? b=some u) (hp:h.objs.size<=a) (new:ObjOk P w (upd H a o) h' a o):HOk P w (upd H a o) h':=fun b u e=>by
 have hn:=x.fresh hp
 by_cases hb:b=a
 ·subst hb;rw [qaa] at e;cases e;exact new
 ·rw [qab hb] at e
  exact (x b u e).stay (fun c v _ q=>k c v q) (fun c q=>by rw [qab (qac q hn)];exact q) fun c xs q=>by rw [qab (qac q hn)];exact q
end
def Rd (H:Hp) (a:Addr) (u:HO):Prop:=H a=some u\/∃ o,H a=some (.frz o u)
theorem Rd.of {H:Hp} {a:Addr} {u:HO} (h:H a=some u):Rd H a u:=.inl h
theorem Rd.ok {P:Program} {w:World} {H:Hp} {h:Heap} {a:Addr} {u:HO} (r:Rd H a u) (x:HOk P w H h):ObjOk P w H h a u:=by
 rcases r with r | ⟨o,r⟩
 ·exact x a u r
 ·obtain ⟨_,q⟩:=x a _ r
  exact q
def Mut:Option HO->Prop
 | some (.lst _)=>True
 | some (.dK _)=>True
 | some (.dT _)=>True
 | some (.set _ _)=>True
 | some (.ins _ _ _)=>True
 | some (.ext _)=>True
 | _=>False
section
variable {P:Program} {w:World} {H:Hp} {h h':Heap} {x e:Addr} {o':HO}
theorem HOk.write (ok:HOk P w H h) (mu:Mut (H x)) (he:e=x\/H e=some (.own x)) (k:∀ b u,b≠e->h.get? b=some u->h'.get? b=some u) (heo:∃ u,h'.get? e=some u)
  (new:ObjOk P w (upd H x o') h' x o'):HOk P w (upd H x o') h':=fun b u q=>by
 have nown:∀ c y,H c=some (.own y)->c≠x:=fun c y r z=>by subst z;rw [r] at mu;exact mu
 have ntup:∀ c xs,H c=some (.tup xs)->c≠x:=fun c xs r z=>by subst z;rw [r] at mu;exact mu
 by_cases hb:b=x
 ·subst hb;rw [qaa] at q;cases q;exact new
 ·rw [qab hb] at q
  by_cases hbe:b=e
  ·have q':H b=some (.own x):=by
    rcases he with z | z
    ·exact absurd (hbe.trans z) hb
    ·rw [hbe];exact z
   rw [q] at q';cases q'
   obtain ⟨v,hv⟩:=heo
   exact ⟨v,by rw [hbe];exact hv⟩
  ·refine (ok b u q).stay (fun c v hc r=>k c v ?_ r) (fun c r=>by rw [qab (nown c b r)];exact r) fun c xs r=>by rw [qab (ntup c xs r)];exact r
   rcases hc with rfl | hc
   ·exact hbe
   ·rintro rfl
    rcases he with z | z
    ·exact nown c b hc z
    ·rw [hc] at z;cases z;exact hb rfl
end
structure Un (fs ex:List Addr) (H H':Hp) (h h':Heap):Prop where
 keep:∀ b o,h.get? b=some o->H b=none->b ∉ fs->b ∉ ex->h'.get? b=some o
 slot:∀ b o,h.get? b=some o->H b=none->b∈fs->b ∉ ex->∃ sl,h'.get? b=some { o with slots:=sl }
 free:∀ b o,h.get? b=some o->H b=none->b ∉ ex->H' b=none
 there:∀ b o,h.get? b=some o->b ∉ ex->∃ o',h'.get? b=some o'
 tups:∀ b xs,H b=some (.tup xs)->H' b=some (.tup xs)
 frzs:∀ b o u,H b=some (.frz o u)->H' b=some (.frz o u)
 tbls:∀ b ps,H b=some (.tbl ps)->∃ more,H' b=some (.tbl (ps++more))
section
variable {fs fs' ex ex':List Addr} {H H1 H2:Hp} {h h1 h2 h':Heap} {a x e:Addr} {o:HO}
theorem Un.any (u:Un fs ex H H1 h h1) {b:Addr} {ob:Obj} (q:h.get? b=some ob) (n:H b=none) (hx:b ∉ ex):∃ sl,h1.get? b=some { ob with slots:=sl }:=by
 by_cases hb:b∈fs
 ·exact u.slot b ob q n hb hx
 ·exact ⟨ob.slots,u.keep b ob q n hb hx⟩
theorem Un.trans (a:Un fs ex H H1 h h1) (b:Un fs ex H1 H2 h1 h2):Un fs ex H H2 h h2 where
 keep:=fun c ob q n hc hx=>b.keep c ob (a.keep c ob q n hc hx) (a.free c ob q n hx) hc hx
 slot:=fun c ob q n hc hx=>by
  obtain ⟨sl,e1⟩:=a.slot c ob q n hc hx
  obtain ⟨sl',e2⟩:=b.slot c _ e1 (a.free c ob q n hx) hc hx
  exact ⟨sl',e2⟩
 free:=fun c ob q n hx=>by
  obtain ⟨o',e1⟩:=a.there c ob q hx
  exact b.free c o' e1 (a.free c ob q n hx) hx
 there:=fun c ob q hx=>by
  obtain ⟨o',e1⟩:=a.there c ob q hx
  exact b.there c o' e1 hx
 tups:=fun c xs q=>b.tups c xs (a.tups c xs q)
 frzs:=fun c ob xs q=>b.frzs c ob xs (a.frzs c ob xs q)
 tbls:=fun c ps q=>by
  obtain ⟨m1,e1⟩:=a.tbls c ps q
  obtain ⟨m2,e2⟩:=b.tbls c _ e1
  exact ⟨m1++m2,by rw [e2,Array.append_assoc]⟩
theorem Un.kept (k:∀ b u,h.get? b=some u->h'.get? b=some u):Un fs ex H H h h':=
 ⟨fun b ob q _ _ _=>k b ob q,fun b ob q _ _ _=>⟨ob.slots,k b ob q⟩,fun _ _ _ n _=>n,fun b ob q _=>⟨ob,k b ob q⟩,fun _ _ q=>q,fun _ _ _ q=>q,fun _ ps q=>⟨#[],by rw [q];simp⟩⟩
theorem Un.refl:Un fs ex H H h h:=Un.kept fun _ _ q=>q
theorem Un.laid (k:∀ b u,h.get? b=some u->h'.get? b=some u) (hp:h.objs.size<=a) (hn:H a=none):Un fs ex H (upd H a o) h h' where
 keep:=fun b u q _ _ _=>k b u q
 slot:=fun b u q _ _ _=>⟨u.slots,k b u q⟩
 free:=fun b u q n _=>by rw [qab (Nat.ne_of_lt (Nat.lt_of_lt_of_le (Heap.lt_size q) hp))];exact n
 there:=fun b u q _=>⟨u,k b u q⟩
 tups:=fun b xs q=>by rw [qab (qac q hn)];exact q
 frzs:=fun b u xs q=>by rw [qab (qac q hn)];exact q
 tbls:=fun b ps q=>⟨#[],by rw [qab (qac q hn),q];simp⟩
theorem Un.write (mu:Mut (H x)) (he:e=x\/H e=some (.own x)) (k:∀ b u,b≠e->h.get? b=some u->h'.get? b=some u) (heo:∃ u,h'.get? e=some u):Un fs ex H (upd H x o) h h':=by
 have hx:∀ b,H b=none->b≠x:=fun b n z=>by subst z;rw [n] at mu;exact mu
 have hb:∀ b,H b=none->b≠e:=fun b n z=>by
  subst z
  rcases he with r | r
  ·exact hx b n r
  ·rw [n] at r;cases r
 have hm:∀ b u,H b=some u->¬ Mut (some u)->b≠x:=fun b u q nm z=>by subst z;rw [q] at mu;exact nm mu
 refine ⟨fun b u q n _ _=>k b u (hb b n) q,fun b u q n _ _=>⟨u.slots,k b u (hb b n) q⟩,fun b u q n _=>by rw [qab (hx b n)];exact n,fun b u q _=>?_,
  fun b xs q=>by rw [qab (hm b _ q fun z=>z)];exact q,fun b u xs q=>by rw [qab (hm b _ q fun z=>z)];exact q,fun b ps q=>⟨#[],by rw [qab (hm b _ q fun z=>z),q];simp⟩⟩
 by_cases hbe:b=e
 ·subst hbe;exact heo
 ·exact ⟨u,k b u hbe q⟩
theorem Un.mono (u:Un fs ex H H1 h h1) (hs:∀ b∈fs,b∈fs') (hx:∀ b∈ex,b∈ex'):Un fs' ex' H H1 h h1:=
 ⟨fun b ob q n hb he=>u.keep b ob q n (fun z=>hb (hs b z)) fun z=>he (hx b z),fun _ _ q n _ he=>u.any q n fun z=>he (hx _ z),fun b ob q n he=>u.free b ob q n fun z=>he (hx b z),fun b ob q he=>u.there b ob q fun z=>he (hx b z),u.tups,u.frzs,u.tbls⟩
end
def trk (h:Heap) (H:Hp):List Addr:=(List.range h.objs.size).filter fun a=>(H a).isSome
def qeV (h:Heap) (H:Hp):Heap:=PySem.W.hideAll h (trk h H)
theorem qdw (h:Heap) (H:Hp):(qeV h H).objs.size=h.objs.size:=PySem.W.hideAll_size _ _
theorem qbo {h:Heap} {H:Hp} {b:Addr} {o:Obj} (e:h.get? b=some o) (n:H b=none):(qeV h H).get? b=some o:=
 PySem.W.hideAll_get _ e fun hm=>by
  have q:(H b).isSome=true:=(List.mem_filter.mp hm).2
  rw [n] at q;simp at q
theorem qgq {h:Heap} {H:Hp} {b:Addr} {o:Obj} (e:(qeV h H).get? b=some o):h.get? b=some o/\H b=none:=by
 have e':h.get? b=some o:=PySem.W.of_hideAll (trk h H) e
 refine ⟨e',?_⟩
 cases q:H b with
 | none=>rfl
 | some x=>
  have hm:b∈trk h H:=List.mem_filter.mpr ⟨List.mem_range.mpr (Heap.lt_size e'),by simp [q]⟩
  have z:(qeV h H).get? b=none:=PySem.W.hideAll_none (trk h H) hm
  rw [z] at e;cases e
def qkv (g h:Heap) (L:Addr):List (Addr×Obj):=(List.range h.objs.size).filterMap fun a=>if a=L\/(g.get? a).isSome=true then none else (h.get? a).map fun o=>(a,o)
def qf1 (g h:Heap) (L d:Addr):List (Addr×Obj):=(qkv g h L).filter fun p=>decide (p.1≠d)
end L2
namespace L2
open PySem PySem.Spec PyProof.Rows
structure Mod (K:PySem.W.Frag) (mg:Str->Option Value) (base:Heap):Prop where
 kin:K.In base
 glob:base.Ns mainGlobals mg
 blt:∃ mb,base.Ns builtinsNs mb/\∀ x:Str,x≠"__name__"->mb x=bootBuiltins x
 nolimit:base.NoLimit
structure Cx where
 prog:Program
 w:World
 K:PySem.W.Frag
 mg:Str->Option Value
 base:Heap
 A:Around
 N:List Str
 s₀:Shared
 H₀:Hp
 env:Env
 outer:List Env
 stack:List Env
 ex:List Addr
 fn:Str->Bool
 calm:Bool
 pn:List (Addr×Obj)
 xe:Value->Shared->Prop
def frs (l:List Env):List Addr:=l.filterMap (·.frame)
abbrev Cx.fs (X:Cx):List Addr:=frs X.outer
def Vis (sc:Scope) (x:Str):Prop:=sc.names.lookup x=some .local\/sc.names.lookup x=some .cell\/sc.names.lookup x=some .free
def Loc (sc:Scope) (x:Str):Prop:=sc.names.lookup x=some .local\/sc.names.lookup x=some .cell
def qox (env:Env) (h:Heap) (m:Str->Option Value) (x:Str) (u:Value):Prop:=
 (env.kindOf x=some .local/\m x=some u)\/((env.kindOf x=some .cell\/env.kindOf x=some .free)/\∃ c,env.cells.lookup x=some c/\h.IsCell c (some u))
structure Cx.Ok (X:Cx):Prop where
 mod:Mod X.K X.mg X.base
 kind:X.env.scope.kind = .function
 glob:X.env.globals=mainGlobals
 blt:X.env.builtins=builtinsNs
 above:X.s₀.heap.objs.size<=X.env.locals
 inj:∀ x y c,X.env.cells.lookup x=some c->X.env.cells.lookup y=some c->x=y
 has:∀ x,(X.env.kindOf x=some .cell\/X.env.kindOf x=some .free)->∃ c,X.env.cells.lookup x=some c
 cab:∀ x c,X.fn x=true->X.env.cells.lookup x=some c->X.s₀.heap.objs.size<=c
 hd:X.calm=true->X.A.handled=none
 frames:X.A.frames=some X.stack
 stk:X.stack=X.outer\/(X.stack=X.env :: X.outer/\X.env.frame=some X.env.locals)
 exf:∀ b∈X.ex,b≠X.env.locals/\∀ x c,X.env.cells.lookup x=some c->c≠b
 bs:∀ b o,X.base.get? b=some o->X.s₀.heap.get? b=some o/\X.H₀ b=none
 bsz:X.base.objs.size<=X.s₀.heap.objs.size
 noex:∀ b o,X.base.get? b=some o->b ∉ X.ex
 exfs:∀ b∈X.ex,b ∉ X.fs
 funs:X.s₀.heap.FunFrames X.base X.outer
 frf:∀ b∈X.fs,X.H₀ b=none
structure Inv (X:Cx) (pins:List (Addr×Obj)) (σ:List (Option V)) (H:Hp) (s:Shared):Prop where
 ok:X.Ok
 os:s.os=X.s₀.os
 bare:AllBare s.gens
 base:Un X.fs X.ex X.H₀ H X.s₀.heap s.heap
 loc:∃ m,s.heap.Ns X.env.locals m/\∀ (i:Nat) (x:Str) (v:V),X.N[i]? = some x->σ[i]? = some (some v)->Vis X.env.scope x->∃ u,RelV v u/\qox X.env s.heap m x u
 cell:∀ x c,X.env.cells.lookup x=some c->∃ v,s.heap.IsCell c v
 free:H X.env.locals=none
 freeC:∀ x c,X.env.cells.lookup x=some c->H c=none
 pin:∀ p∈X.pn++pins,s.heap.get? p.1=some p.2/\H p.1=none/\p.1≠X.env.locals/\p.1 ∉ X.fs/\∀ v,p.2.data≠.cell v
 hok:HOk X.prog X.w H s.heap
 len:σ.length=X.N.length
section
variable {X:Cx} {pins:List (Addr×Obj)} {σ:List (Option V)} {H H':Hp} {s:Shared} {h':Heap}
theorem Cx.Ok.nofr (ok:X.Ok) {b:Addr} {o:Obj} (e:X.base.get? b=some o):b ∉ X.fs:=fun hb=>by
 have:=(ok.funs.mem hb).1
 rw [e] at this;cases this
theorem Inv.bs (I:Inv X pins σ H s):∀ b o,X.base.get? b=some o->s.heap.get? b=some o/\H b=none:=fun b o e=>
 ⟨I.base.keep b o (I.ok.bs b o e).1 (I.ok.bs b o e).2 (I.ok.nofr e) (I.ok.noex b o e),I.base.free b o (I.ok.bs b o e).1 (I.ok.bs b o e).2 (I.ok.noex b o e)⟩
theorem Inv.bk (I:Inv X pins σ H s):∀ b o,X.base.get? b=some o->s.heap.get? b=some o:=fun b o e=>(I.bs b o e).1
theorem Inv.mod (I:Inv X pins σ H s):Mod X.K X.mg X.base:=I.ok.mod
theorem Inv.kIn (I:Inv X pins σ H s):X.K.In s.heap:=I.ok.mod.kin.keeps I.bk
theorem Inv.nolimit (I:Inv X pins σ H s):s.heap.NoLimit:=I.ok.mod.nolimit.keeps I.bk
theorem Inv.fr (I:Inv X pins σ H s):∃ m,Fr X.base X.env.locals s.heap m:=
 let ⟨m,hn,_⟩:=I.loc
 ⟨m,hn,I.bk,Nat.le_trans I.ok.bsz I.ok.above⟩
theorem Inv.lt (I:Inv X pins σ H s):X.env.locals < s.heap.objs.size:=let ⟨_,hn,_⟩:=I.loc;hn.lt
theorem Inv.sz (I:Inv X pins σ H s):X.s₀.heap.objs.size<=s.heap.objs.size:=Nat.le_trans I.ok.above (Nat.le_of_lt I.lt)
theorem Inv.nofs (I:Inv X pins σ H s) {a:Addr} (h:s.heap.objs.size<=a):a ∉ X.fs:=fun hb=>by
 obtain ⟨_,o,ho,_⟩:=I.ok.funs.mem hb
 exact absurd (Nat.lt_of_lt_of_le (Heap.lt_size ho) (Nat.le_trans I.sz h)) (Nat.lt_irrefl _)
theorem Inv.cne (I:Inv X pins σ H s):∀ x c,X.env.cells.lookup x=some c->c≠X.env.locals:=fun x c e z=>by
 obtain ⟨v,o,ho,hd⟩:=I.cell x c e
 obtain ⟨m,⟨o',es,ep,ho',hd',_⟩,_⟩:=I.loc
 rw [z,ho'] at ho;cases ho;rw [hd'] at hd;cases hd
theorem Inv.funs (I:Inv X pins σ H s):s.heap.FunFrames X.base X.outer:=by
 have all:∀ (l:List Env),(∀ b∈frs l,b∈X.fs)->X.s₀.heap.FunFrames X.base l->s.heap.FunFrames X.base l:=by
  intro l
  induction l with
  | nil=>intro _ _;trivial
  | cons env r ih=>
   intro hs hl
   obtain ⟨hk,⟨L,o,hf,hn,ho,hd⟩,hr⟩:=hl
   have hL:L∈X.fs:=hs L (by unfold frs;rw [List.filterMap_cons,hf];exact List.mem_cons_self)
   obtain ⟨sl,e⟩:=I.base.slot L o ho (I.ok.frf L hL) hL fun z=>I.ok.exfs L z hL
   exact ⟨hk,⟨L,_,hf,hn,e,hd⟩,ih (fun b hb=>hs b (by unfold frs;rw [List.filterMap_cons,hf];exact mC_ _ hb)) hr⟩
 exact all X.outer (fun _ hb=>hb) I.ok.funs
theorem Inv.stack (I:Inv X pins σ H s):s.heap.FunFrames X.base X.stack:=by
 rcases I.ok.stk with e | ⟨e,hf⟩
 ·rw [e];exact I.funs
 ·rw [e]
  obtain ⟨m,hn,_⟩:=I.loc
  refine .cons (by rw [I.ok.kind];decide) hf hn ?_ I.funs
  exact Heap.get?_none_of_le (Nat.le_trans I.ok.bsz I.ok.above)
theorem Inv.stkSub (I:Inv X pins σ H s):∀ b∈frs X.stack,b∈X.env.locals :: X.fs:=fun b hb=>by
 rcases I.ok.stk with e | ⟨e,hf⟩
 ·rw [e] at hb;exact mC_ _ hb
 ·rw [e] at hb
  unfold frs at hb
  rw [List.filterMap_cons,hf] at hb
  exact hb
theorem Inv.stkFree (I:Inv X pins σ H s):∀ b∈frs X.stack,H b=none:=fun b hb=>by
 rcases List.mem_cons.mp (I.stkSub b hb) with e | hb
 ·rw [e];exact I.free
 ·obtain ⟨_,o,ho,_⟩:=I.ok.funs.mem hb
  exact I.base.free b o ho (I.ok.frf b hb) fun z=>I.ok.exfs b z hb
theorem Inv.step {g':Array GenState} {t':Nat} {d':Drawn} {ch:List Addr} (I:Inv X pins σ H s)
  (hch:∀ b∈ch,(b∈X.ex\/X.s₀.heap.objs.size<=b)/\b≠X.env.locals/\(∀ x c,X.env.cells.lookup x=some c->c≠b)/\∀ p∈X.pn++pins,p.1≠b)
  (keep:∀ b o,b≠X.env.locals->b ∉ X.fs->b ∉ ch->s.heap.get? b=some o->H b=none->h'.get? b=some o)
  (slot:∀ b o,b≠X.env.locals->b∈X.fs->b ∉ ch->s.heap.get? b=some o->H b=none->∃ sl,h'.get? b=some { o with slots:=sl }) (free:∀ b o,b ∉ ch->s.heap.get? b=some o->H b=none->H' b=none)
  (there:∀ b o,b ∉ ch->s.heap.get? b=some o->∃ o',h'.get? b=some o')
  (tups:∀ b xs,H b=some (.tup xs)->H' b=some (.tup xs)) (frzs:∀ b o u,H b=some (.frz o u)->H' b=some (.frz o u)) (tbls:∀ b ps,H b=some (.tbl ps)->∃ more,H' b=some (.tbl (ps++more)))
  (ns:∀ m,s.heap.Ns X.env.locals m->h'.Ns X.env.locals m) (hok:HOk X.prog X.w H' h') (hg:AllBare g') :
  Inv X pins σ H' { s with heap:=h',gens:=g',drawn:=d',toks:=t' }:=by
 have neL:∀ b o,X.s₀.heap.get? b=some o->b≠X.env.locals:=fun b o e=>Nat.ne_of_lt (Nat.lt_of_lt_of_le (Heap.lt_size e) I.ok.above)
 have neC:∀ b o,X.s₀.heap.get? b=some o->b ∉ X.ex->b ∉ ch:=fun b o e hx hb=>by
  rcases (hch b hb).1 with z | z
  ·exact hx z
  ·exact absurd (Nat.lt_of_lt_of_le (Heap.lt_size e) z) (Nat.lt_irrefl _)
 have cellK:∀ x c,X.env.cells.lookup x=some c->∀ v,s.heap.IsCell c v->h'.IsCell c v:=fun x c e v ⟨o,ho,hd⟩=>by
  have nch:c ∉ ch:=fun z=>(hch c z).2.2.1 x c e rfl
  by_cases hc:c∈X.fs
  ·obtain ⟨sl,q⟩:=slot c o (I.cne x c e) hc nch ho (I.freeC x c e)
   exact ⟨_,q,hd⟩
  ·exact ⟨o,keep c o (I.cne x c e) hc nch ho (I.freeC x c e),hd⟩
 refine ⟨I.ok,I.os,hg,⟨fun b o e n hb hx=>?_,fun b o e n hb hx=>?_,fun b o e n hx=>?_,fun b o e hx=>?_,fun b xs e=>tups b xs (I.base.tups b xs e),fun b o xs e=>frzs b o xs (I.base.frzs b o xs e),fun b ps e=>?_⟩,?_,fun x c e=>?_,?_,fun x c e=>?_,fun p hp=>?_,hok,I.len⟩
 ·exact keep b o (neL b o e) hb (neC b o e hx) (I.base.keep b o e n hb hx) (I.base.free b o e n hx)
 ·obtain ⟨sl,e1⟩:=I.base.slot b o e n hb hx
  obtain ⟨sl',e2⟩:=slot b _ (neL b o e) hb (neC b o e hx) e1 (I.base.free b o e n hx)
  exact ⟨sl',e2⟩
 ·obtain ⟨o',e1⟩:=I.base.there b o e hx
  exact free b o' (neC b o e hx) e1 (I.base.free b o e n hx)
 ·obtain ⟨o',e1⟩:=I.base.there b o e hx
  exact there b o' (neC b o e hx) e1
 ·obtain ⟨m1,e1⟩:=I.base.tbls b ps e
  obtain ⟨m2,e2⟩:=tbls b _ e1
  exact ⟨m1++m2,by rw [e2,Array.append_assoc]⟩
 ·obtain ⟨m,hn,hl⟩:=I.loc
  refine ⟨m,ns m hn,fun i x v e1 e2 e3=>?_⟩
  obtain ⟨u,r,l⟩:=hl i x v e1 e2 e3
  refine ⟨u,r,?_⟩
  rcases l with l | ⟨k,c,e,z⟩
  ·exact .inl l
  ·exact .inr ⟨k,c,e,cellK x c e _ z⟩
 ·obtain ⟨v,z⟩:=I.cell x c e
  exact ⟨v,cellK x c e v z⟩
 ·obtain ⟨m,⟨o,_,_,ho,_⟩,_⟩:=I.loc
  exact free _ o (fun z=>(hch _ z).2.1 rfl) ho I.free
 ·obtain ⟨v,o,ho,hd⟩:=I.cell x c e
  exact free c o (fun z=>(hch c z).2.2.1 x c e rfl) ho (I.freeC x c e)
 ·obtain ⟨e,n,ne,nf,d⟩:=I.pin p hp
  have nch:p.1 ∉ ch:=fun z=>(hch p.1 z).2.2.2 p hp rfl
  exact ⟨keep p.1 p.2 ne nf nch e n,free p.1 p.2 nch e n,ne,nf,d⟩
theorem Inv.un {t':Nat} (I:Inv X pins σ H s) (u:Un X.fs [] H H' s.heap h') (hok:HOk X.prog X.w H' h'):Inv X pins σ H' { s with heap:=h',toks:=t' }:=by
 obtain ⟨m,⟨o,es,ep,ho,r⟩,_⟩:=id I.loc
 obtain ⟨sl,hL⟩:=u.any ho I.free (by simp)
 exact I.step (g':=s.gens) (d':=s.drawn) (ch:=[]) (fun _ z=>nomatch z) (fun b o _ hb _ e n=>u.keep b o e n hb (by simp)) (fun b o _ hb _ e n=>u.slot b o e n hb (by simp)) (fun b o _ e n=>u.free b o e n (by simp)) (fun b o _ e=>u.there b o e (by simp)) u.tups u.frzs u.tbls (fun m' hm=>by
  obtain ⟨o',es',ep',ho',r'⟩:=hm
  rw [ho] at ho';cases ho'
  exact ⟨_,es',ep',hL,r'⟩) hok I.bare
theorem Inv.call {g':Array GenState} {t':Nat} {d':Drawn} {ch:List Addr} (I:Inv X pins σ H s) (u:Un (frs X.stack) ch H H' s.heap h') (hok:HOk X.prog X.w H' h') (hg:AllBare g')
  (hch:∀ b∈ch,(b∈X.ex\/X.s₀.heap.objs.size<=b)/\b≠X.env.locals/\(∀ x c,X.env.cells.lookup x=some c->c≠b)/\∀ p∈X.pn++pins,p.1≠b) :
  Inv X pins σ H' { s with heap:=h',gens:=g',drawn:=d',toks:=t' }:=by
 obtain ⟨m,⟨o,es,ep,ho,r⟩,_⟩:=id I.loc
 obtain ⟨sl,hL⟩:=u.any ho I.free fun z=>(hch _ z).2.1 rfl
 exact I.step (ch:=ch) hch (fun b o hL hb hc e n=>u.keep b o e n (fun z=>(List.mem_cons.mp (I.stkSub b z)).elim hL hb) hc) (fun b o _ _ hc e n=>u.any e n hc) (fun b o hc e n=>u.free b o e n hc) (fun b o hc e=>u.there b o e hc) u.tups u.frzs u.tbls (fun m' hm=>by
  obtain ⟨o',es',ep',ho',r'⟩:=hm
  rw [ho] at ho';cases ho'
  exact ⟨_,es',ep',hL,r'⟩) hok hg
theorem Inv.turned {t':Nat} {it:Addr} (I:Inv X pins σ H s) (k:∀ b o,b≠it->s.heap.get? b=some o->h'.get? b=some o) (hn:H it=none) (hL:it≠X.env.locals)
  (h1:it∈X.ex\/X.s₀.heap.objs.size<=it) (h2:∀ x c,X.env.cells.lookup x=some c->c≠it) (h3:∀ p∈X.pn++pins,p.1≠it):Inv X pins σ H { s with heap:=h',toks:=t' }:=by
 have nit:∀ b u,H b=some u->b≠it:=fun b u e z=>by rw [z,hn] at e;cases e
 refine I.step (g':=s.gens) (d':=s.drawn) (ch:=[it]) (fun b hb=>?_) (fun b o _ _ hc e _=>k b o (fun z=>hc (by simp [z])) e) (fun b o _ _ hc e _=>⟨o.slots,k b o (fun z=>hc (by simp [z])) e⟩) (fun _ _ _ _ n=>n)
  (fun b o hc e=>⟨o,k b o (fun z=>hc (by simp [z])) e⟩) (fun _ _ e=>e) (fun _ _ _ e=>e) (fun b ps e=>⟨#[],by rw [e];simp⟩) (fun m hm=>?_) (fun b u e=>?_) I.bare
 ·have e:b=it:=by simpa using hb
  subst e
  exact ⟨h1,hL,h2,h3⟩
 ·obtain ⟨o,es,ep,ho,r⟩:=hm
  exact ⟨o,es,ep,k _ o (Ne.symm hL) ho,r⟩
 ·refine (I.hok b u e).stay (fun c v hc q=>k c v ?_ q) (fun _ q=>q) fun _ _ q=>q
  rcases hc with z | z
  ·rw [z];exact nit b u e
  ·exact nit c _ z
theorem Inv.tok (I:Inv X pins σ H s) (t:Nat):Inv X pins σ H { s with toks:=t }:=I.un (h':=s.heap) (t':=t) Un.refl I.hok
theorem Inv.kept {t':Nat} (I:Inv X pins σ H s) (k:∀ b u,s.heap.get? b=some u->h'.get? b=some u):Inv X pins σ H { s with heap:=h',toks:=t' }:=I.un (Un.kept k) (I.hok.kept k)
theorem Inv.laid {a:Addr} {o:HO} {t':Nat} (I:Inv X pins σ H s) (k:∀ b u,s.heap.get? b=some u->h'.get? b=some u) (hp:s.heap.objs.size<=a) (new:ObjOk X.prog X.w (upd H a o) h' a o) :
  Inv X pins σ (upd H a o) { s with heap:=h',toks:=t' }:=I.un (Un.laid k hp (I.hok.fresh hp)) (I.hok.laid k hp new)
theorem Inv.write {x e:Addr} {o:HO} {t':Nat} (I:Inv X pins σ H s) (mu:Mut (H x)) (he:e=x\/H e=some (.own x)) (k:∀ b u,b≠e->s.heap.get? b=some u->h'.get? b=some u) (heo:∃ u,h'.get? e=some u)
  (new:ObjOk X.prog X.w (upd H x o) h' x o):Inv X pins σ (upd H x o) { s with heap:=h',toks:=t' }:=I.un (Un.write mu he k heo) (I.hok.write mu he k heo new)
theorem Inv.pins_of {pins':List (Addr×Obj)} (I:Inv X pins σ H s) (h:∀ p∈pins',s.heap.get? p.1=some p.2/\H p.1=none/\p.1≠X.env.locals/\p.1 ∉ X.fs/\∀ v,p.2.data≠.cell v):Inv X pins' σ H s:=
 ⟨I.ok,I.os,I.bare,I.base,I.loc,I.cell,I.free,I.freeC,fun p hp=>(mA_ hp).elim (fun z=>I.pin p (List.mem_append_left _ z)) (h p),I.hok,I.len⟩
theorem qeO {N:List Str} (hN:N.Nodup) {i j:Nat} {x:Str} (a:N[i]? = some x) (b:N[j]? = some x):i=j:=by
 obtain ⟨h1,e1⟩:=gS_ a
 obtain ⟨h2,e2⟩:=gS_ b
 exact (List.getElem_inj hN).mp (e1.trans e2.symm)
theorem qfE {M:Model} {A:Around} {E:Value->Shared->Prop} {i:Nat} {x:Str} {v:V} {u:Value} {Q:Unit->Shared->Prop} (I:Inv X pins σ H s) (hN:X.N.Nodup) (hi:X.N[i]? = some x) (hx:Loc X.env.scope x) (r:RelV v u)
  (h:∀ s',Inv X pins (σ.set i (some v)) H s'->(∃ a,Heap.SameBut a s.heap s'.heap/\(a=X.env.locals\/X.env.cells.lookup x=some a))->Q () s') (hf:X.fn x=true\/X.env.scope.names.lookup x=some .local:=by first | exact .inl rfl | exact .inr rfl | assumption):wpAny M A (storeName X.env x u) Q E s:=by
 obtain ⟨m,hn,hl⟩:=id I.loc
 have hcls:(X.env.scope.kind == .class || (X.env.scope.kind == .module && X.env.locals != X.env.globals))=false:=by rw [I.ok.kind];rfl
 have hiσ:i < σ.length:=by rw [I.len];exact (gS_ hi).1
 have cne:=I.cne
 have tracked:∀ {a:Addr} {h':Heap},(∃ o,s.heap.get? a=some o/\H a=none)->Heap.SameBut a s.heap h'->HOk X.prog X.w H h':=fun {a h'} ha hs b ob e=>by
  obtain ⟨_,_,hfree⟩:=ha
  refine (I.hok b ob e).stay (fun c w' hc q=>(hs.2 c ?_).trans q) (fun _ q=>q) fun _ _ q=>q
  rintro rfl
  rcases hc with rfl | hc
  ·rw [hfree] at e;cases e
  ·rw [hfree] at hc;cases hc
 rcases hx with hk | hk
 ·refine wpAny_storeName_local hk hn (fun h' hn' hs=>?_) hcls
  obtain ⟨oL,_,_,hoL,_⟩:=id hn
  refine h _ ⟨I.ok,I.os,I.bare,⟨fun b o e n hb hx=>?_,fun b o e n hb hx=>?_,I.base.free,fun b o e hx=>?_,I.base.tups,I.base.frzs,I.base.tbls⟩,⟨_,hn',fun j y v' e1 e2 e3=>?_⟩,fun y c e=>?_,I.free,I.freeC,fun p hp=>?_,tracked ⟨oL,hoL,I.free⟩ hs,by simpa using I.len⟩ ⟨_,hs,.inl rfl⟩
  ·exact (hs.2 b (Nat.ne_of_lt (Nat.lt_of_lt_of_le (Heap.lt_size e) I.ok.above))).trans (I.base.keep b o e n hb hx)
  ·obtain ⟨sl,e1⟩:=I.base.slot b o e n hb hx
   exact ⟨sl,(hs.2 b (Nat.ne_of_lt (Nat.lt_of_lt_of_le (Heap.lt_size e) I.ok.above))).trans e1⟩
  ·obtain ⟨o',e1⟩:=I.base.there b o e hx
   exact ⟨o',(hs.2 b (Nat.ne_of_lt (Nat.lt_of_lt_of_le (Heap.lt_size e) I.ok.above))).trans e1⟩
  ·by_cases hj:j=i
   ·subst hj
    rw [hi] at e1;cases e1
    rw [List.getElem?_set_self hiσ] at e2
    cases e2
    exact ⟨u,r,.inl ⟨hk,by simp⟩⟩
   ·rw [List.getElem?_set_ne (Ne.symm hj)] at e2
    obtain ⟨u',r',q⟩:=hl j y v' e1 e2 e3
    refine ⟨u',r',?_⟩
    rcases q with ⟨k,e⟩ | ⟨k,c,e,z⟩
    ·refine .inl ⟨k,?_⟩
     have:y≠x:=fun e=>hj (qeO hN e1 (e ▸ hi))
     simp [this,e]
    ·exact .inr ⟨k,c,e,z.sameBut hs (cne y c e)⟩
  ·obtain ⟨w',z⟩:=I.cell y c e
   exact ⟨w',z.sameBut hs (cne y c e)⟩
  ·obtain ⟨e,n,ne,nf,d⟩:=I.pin p hp
   exact ⟨(hs.2 p.1 ne).trans e,n,ne,nf,d⟩
 ·have hfn:X.fn x=true:=by
   rcases hf with z | z
   ·exact z
   ·rw [z] at hk;cases hk
  obtain ⟨c,hc⟩:=I.ok.has x (.inl hk)
  obtain ⟨w',z⟩:=I.cell x c hc
  refine wpAny_storeName_cell I.ok.kind hk hc z (fun h' hc' hs=>?_)
  obtain ⟨oc,hoc,hocd⟩:=id z
  refine h { s with heap:=h' } ⟨I.ok,I.os,I.bare,⟨fun b o e n hb hx=>?_,fun b o e n hb hx=>?_,I.base.free,fun b o e hx=>?_,I.base.tups,I.base.frzs,I.base.tbls⟩,⟨m,hn.sameBut hs (Ne.symm (cne x c hc)),fun j y v' e1 e2 e3=>?_⟩,fun y c' e=>?_,I.free,I.freeC,fun p hp=>?_,tracked ⟨oc,hoc,I.freeC x c hc⟩ hs,by simpa using I.len⟩ ⟨c,hs,.inr hc⟩
  ·exact (hs.2 b (Nat.ne_of_lt (Nat.lt_of_lt_of_le (Heap.lt_size e) (I.ok.cab x c hfn hc)))).trans (I.base.keep b o e n hb hx)
  ·obtain ⟨sl,e1⟩:=I.base.slot b o e n hb hx
   exact ⟨sl,(hs.2 b (Nat.ne_of_lt (Nat.lt_of_lt_of_le (Heap.lt_size e) (I.ok.cab x c hfn hc)))).trans e1⟩
  ·obtain ⟨o',e1⟩:=I.base.there b o e hx
   exact ⟨o',(hs.2 b (Nat.ne_of_lt (Nat.lt_of_lt_of_le (Heap.lt_size e) (I.ok.cab x c hfn hc)))).trans e1⟩
  ·by_cases hj:j=i
   ·subst hj
    rw [hi] at e1;cases e1
    rw [List.getElem?_set_self hiσ] at e2
    cases e2
    exact ⟨u,r,.inr ⟨.inl hk,c,hc,hc'⟩⟩
   ·rw [List.getElem?_set_ne (Ne.symm hj)] at e2
    obtain ⟨u',r',q⟩:=hl j y v' e1 e2 e3
    refine ⟨u',r',?_⟩
    rcases q with q | ⟨k,c',e,z'⟩
    ·exact .inl q
    ·refine .inr ⟨k,c',e,z'.sameBut hs ?_⟩
     rintro rfl
     exact hj (qeO hN e1 (I.ok.inj _ _ _ e hc ▸ hi))
  ·by_cases hcc:c'=c
   ·subst hcc;exact ⟨_,hc'⟩
   ·obtain ⟨w2,z2⟩:=I.cell y c' e
    exact ⟨w2,z2.sameBut hs hcc⟩
  ·obtain ⟨e,n,ne,nf,d⟩:=I.pin p hp
   refine ⟨(hs.2 p.1 ?_).trans e,n,ne,nf,d⟩
   intro q
   rw [q,hoc] at e
   have q':oc=p.2:=oI_ e
   exact d w' (by rw [<-q'];exact hocd)
theorem qcz {M:Model} {A:Around} {E:Value->Shared->Prop} {i:Nat} {x:Str} {v:V} {u:Value} {Q:Unit->Shared->Prop} (I:Inv X pins σ H s) (hN:X.N.Nodup) (hi:X.N[i]? = some x) (hx:Loc X.env.scope x) (r:RelV v u)
  (h:∀ s',Inv X pins (σ.set i (some v)) H s'->Q () s') (hf:X.fn x=true\/X.env.scope.names.lookup x=some .local:=by first | exact .inl rfl | exact .inr rfl | assumption):wpAny M A (storeName X.env x u) Q E s:=
 qfE I hN hi hx r (fun s' I' _=>h s' I') hf
theorem Inv.call' {s':Shared} {ch:List Addr} (I:Inv X pins σ H s) (ho:s'.os=s.os) (u:Un (frs X.stack) ch H H' s.heap s'.heap) (hok:HOk X.prog X.w H' s'.heap) (hg:AllBare s'.gens)
  (hch:∀ b∈ch,(b∈X.ex\/X.s₀.heap.objs.size<=b)/\b≠X.env.locals/\(∀ x c,X.env.cells.lookup x=some c->c≠b)/\∀ p∈X.pn++pins,p.1≠b):Inv X pins σ H' s':=by
 obtain ⟨h',g',d',t',o'⟩:=s'
 have e:o'=s.os:=ho
 subst e
 exact I.call (g':=g') (t':=t') (d':=d') u hok hg hch
end
abbrev XK:=Value->Option Addr->Hp->Prop
abbrev St:=List (Option V)
abbrev VK:=V->Hp->Prop
abbrev TE:=St->Hp->VK->Prop
abbrev TT:=St->Hp->(Bool->Hp->Prop)->Prop
abbrev TA:=St->Hp->(List V->Hp->Prop)->Prop
structure Ends where
 nx:St->Hp->Prop
 rt:VK
 bk:St->Hp->Prop:=fun _ _=>False
 ct:St->Hp->Prop:=fun _ _=>False
abbrev TS:=Ends->St->Hp->Prop
def EP (X:Cx) (pins:List (Addr×Obj)) (σ:St) (Q:VK) (u:Value) (s':Shared):Prop:=∃ v H',Inv X pins σ H' s'/\RelV v u/\Q v H'
def TP (X:Cx) (pins:List (Addr×Obj)) (σ:St) (Q:Bool->Hp->Prop) (b:Bool) (s':Shared):Prop:=∃ H',Inv X pins σ H' s'/\Q b H'
def AP (X:Cx) (pins:List (Addr×Obj)) (σ:St) (Q:List V->Hp->Prop) (us:List Value) (s':Shared):Prop:=∃ vs H',Inv X pins σ H' s'/\Vals vs us/\Q vs H'
def SP (X:Cx) (pins:List (Addr×Obj)) (D:Ends) (f:Flow) (s':Shared):Prop:=
 match f with
 | .next=>∃ σ' H',Inv X pins σ' H' s'/\D.nx σ' H'
 | .brk=>∃ σ' H',Inv X pins σ' H' s'/\D.bk σ' H'
 | .cont=>∃ σ' H',Inv X pins σ' H' s'/\D.ct σ' H'
 | .ret u=>∃ v σ' H',Inv X pins σ' H' s'/\RelV v u/\D.rt v H'
def PE (X:Cx) (e:Expr) (t:TE):Prop:=
 ∀ (pins:List (Addr×Obj)) (s:Shared) (σ:St) (H:Hp) (Q:VK),Inv X pins σ H s->t σ H Q->wpAny (model X.prog X.w) X.A (eval e X.env) (EP X pins σ Q) X.xe s
def PT (X:Cx) (e:Expr) (t:TT):Prop:=
 ∀ (pins:List (Addr×Obj)) (s:Shared) (σ:St) (H:Hp) (Q:Bool->Hp->Prop),Inv X pins σ H s->t σ H Q->wpAny (model X.prog X.w) X.A (isTrue e X.env (eval e X.env)) (TP X pins σ Q) X.xe s
def PW (X:Cx) (e:Expr) (t:TT):Prop:=
 ∀ (qc3:Sem Value) (pins:List (Addr×Obj)) (s:Shared) (σ:St) (H:Hp) (Q:Bool->Hp->Prop),Inv X pins σ H s->t σ H Q->wpAny (model X.prog X.w) X.A (isTrue e X.env qc3) (TP X pins σ Q) X.xe s
theorem PW.pt {X:Cx} {e:Expr} {t:TT} (h:PW X e t):PT X e t:=h _
def PA (X:Cx) (es:List Expr) (t:TA):Prop:=
 ∀ (pos:Pos) (pins:List (Addr×Obj)) (s:Shared) (σ:St) (H:Hp) (Q:List V->Hp->Prop),Inv X pins σ H s->t σ H Q->wpAny (model X.prog X.w) X.A (spliced (backTo pos (starEach es X.env))) (AP X pins σ Q) X.xe s
def PS (X:Cx) (st:Stmt) (t:TS):Prop:=
 ∀ (pins:List (Addr×Obj)) (s:Shared) (σ:St) (H:Hp) (D:Ends),Inv X pins σ H s->t D σ H->wpAny (model X.prog X.w) X.A (exec st X.env) (SP X pins D) X.xe s
def PSs (X:Cx) (st:List Stmt) (t:TS):Prop:=
 ∀ (pins:List (Addr×Obj)) (s:Shared) (σ:St) (H:Hp) (D:Ends),Inv X pins σ H s->t D σ H->wpAny (model X.prog X.w) X.A (execs st X.env) (SP X pins D) X.xe s
theorem thn {α:Type} {t:Sem α} {Q Q':α->Shared->Prop} {M:Model} {A:Around} {E:Value->Shared->Prop} {s:Shared} (h:wpAny M A t Q E s) (hQ:∀ a s,Q a s->Q' a s):wpAny M A t Q' E s:=wpAny_mono h hQ fun _ _ x=>x
end L2
namespace L2
open PySem PySem.Spec PyProof.Rows
section
variable {X:Cx}
def qmJ (i:Nat):TE:=fun σ H Q=>∃ v,σ[i]? = some (some v)/\Q v H
def tC (v:V):TE:=fun _ H Q=>Q v H
theorem qli {i:Nat} {x:Str} {pos:Pos} (hN:X.N[i]? = some x) (hv:Vis X.env.scope x) (hd:(x == ("__debug__" : Str))=false:=by decide) (hcd:(x == ("__classdict__" : Str))=false:=by decide):PE X (.Name x pos) (qmJ i):=by
 intro pins s σ H Q I h
 obtain ⟨v,e,h⟩:=h
 obtain ⟨m,hn,hl⟩:=I.loc
 obtain ⟨u,r,l⟩:=hl i x v hN e hv
 have fin:EP X pins σ Q u s:=⟨v,H,I,r,h⟩
 rcases l with ⟨hk,hm⟩ | ⟨hk,c,hc,hcell⟩
 ·exact wpAny_Name (wpAny_loadName_local I.ok.kind hk hn hm fin) hd
 ·rcases hk with hk | hk
  ·exact wpAny_Name (wpAny_loadName_cell I.ok.kind hk hc hcell fin) hd
  ·exact wpAny_Name (wpAny_loadName_free I.ok.kind hk hc hcell fin hcd) hd
theorem qis {i j pos}:PE X (.Constant (.int i) j pos) (tC (.int i)):=fun _ _ _ H _ I h=>wpAny_Constant_int ⟨.int i,H,I.tok _,⟨_,rfl⟩,h⟩
theorem qnc {b j pos}:PE X (.Constant (.bool b) j pos) (tC (.bl b)):=fun _ _ _ H _ I h=>Constant_bool ⟨.bl b,H,I,rfl,h⟩
theorem qlm {j pos}:PE X (.Constant .none j pos) (tC .non):=fun _ _ _ H _ I h=>Constant_none ⟨.non,H,I,rfl,h⟩
theorem qlk {x j pos}:PE X (.Constant (.str x) j pos) (tC (.str x)):=fun _ _ _ H _ I h=>Calls.Constant_str ⟨.str x,H,I.tok _,⟨_,rfl⟩,h⟩
def Gl (X:Cx) (x:Str):Prop:=X.env.kindOf x=some .globalImplicit
theorem qgy {E:Value->Shared->Prop} {pins:List (Addr×Obj)} {s:Shared} {σ:St} {H:Hp} {x:Str} {u:Value} {pos:Pos} {Q:Value->Shared->Prop} (I:Inv X pins σ H s) (hg:Gl X x) (hm:X.mg x=some u) (h:Q u s)
  (hd:(x == ("__debug__" : Str))=false:=by decide):wpAny (model X.prog X.w) X.A (eval (.Name x pos) X.env) Q E s:=
 Calls.Name_function_global I.ok.kind hg (Calls.loadGlobal_global (by rw [I.ok.glob];exact I.mod.glob.keeps I.bk) hm h) hd
theorem qa0 {E:Value->Shared->Prop} {pins:List (Addr×Obj)} {s:Shared} {σ:St} {H:Hp} {x:Str} {u:Value} {pos:Pos} {Q:Value->Shared->Prop} (I:Inv X pins σ H s) (hg:Gl X x) (hm:X.mg x=none) (hv:bootBuiltins x=some u) (h:Q u s)
  (hn:x≠"__name__" := by decide) (hd:(x == ("__debug__" : Str))=false:=by decide):wpAny (model X.prog X.w) X.A (eval (.Name x pos) X.env) Q E s:=by
 obtain ⟨mb,h1,h2⟩:=I.mod.blt
 exact Calls.Name_function_global I.ok.kind hg (Calls.loadGlobal_builtin (by rw [I.ok.glob];exact I.mod.glob.keeps I.bk) hm (by rw [I.ok.blt];exact h1.keeps I.bk) ((h2 x hn).trans hv) h) hd
theorem qjF {x:Str} {v:V} {u:Value} {pos:Pos} (hg:Gl X x) (hm:X.mg x=none) (hv:bootBuiltins x=some u) (r:RelV v u) (hn:x≠"__name__" := by decide) (hd:(x == ("__debug__" : Str))=false:=by decide):PE X (.Name x pos) (tC v):=
 fun _ _ _ H _ I h=>qa0 I hg hm hv ⟨v,H,I,r,h⟩ hn hd
variable {a b:Expr} {ta tb:TE} {pos:Pos}
variable {tA tB':TT} {qf1:List Expr}
def qky (t u:TT):TT:=fun σ H Q=>t σ H fun c H1=>if c=true then u σ H1 Q else Q false H1
def tOr (t u:TT):TT:=fun σ H Q=>t σ H fun c H1=>if c=true then Q true H1 else u σ H1 Q
def qn7 (t:TT):TT:=fun σ H Q=>t σ H fun c H1=>Q (!c) H1
theorem qjo (ha:PT X a tA):PW X (.BoolOp .And [a] pos) tA:=by
 intro wh pins s σ H Q I h
 refine isTrue_and (thn (ha pins s σ H Q I h) fun c s1 e=>?_)
 cases c with
 | true=>exact isTrue_and_nil e
 | false=>exact e
theorem qk9 (ha:PT X a tA):PW X (.BoolOp .Or [a] pos) tA:=by
 intro wh pins s σ H Q I h
 refine isTrue_or (thn (ha pins s σ H Q I h) fun c s1 e=>?_)
 cases c with
 | false=>exact isTrue_or_nil e
 | true=>exact e
theorem qla (ha:PT X a tA) (hb:PW X (.BoolOp .And (b :: qf1) pos) tB'):PW X (.BoolOp .And (a :: b :: qf1) pos) (qky tA tB'):=by
 intro wh pins s σ H Q I h
 refine isTrue_and (thn (ha pins s σ H _ I h) fun c s1 ⟨H1,I1,q1⟩=>?_)
 cases c with
 | true=>exact hb wh pins s1 σ H1 Q I1 q1
 | false=>exact ⟨H1,I1,q1⟩
theorem qm5 (ha:PT X a tA) (hb:PW X (.BoolOp .Or (b :: qf1) pos) tB'):PW X (.BoolOp .Or (a :: b :: qf1) pos) (tOr tA tB'):=by
 intro wh pins s σ H Q I h
 refine isTrue_or (thn (ha pins s σ H _ I h) fun c s1 ⟨H1,I1,q1⟩=>?_)
 cases c with
 | true=>exact ⟨H1,I1,q1⟩
 | false=>exact hb wh pins s1 σ H1 Q I1 q1
theorem qlb (ha:PT X a tA):PT X (.UnaryOp .Not a pos) (qn7 tA):=by
 intro pins s σ H Q I h
 exact isTrue_not (ha pins s σ H (fun c H1=>Q (!c) H1) I h)
theorem qll {op} {t:TE} (h:PE X a t):PE X (.BoolOp op [a] pos) t:=fun pins s σ H Q I hw=>BoolOp_one (h pins s σ H Q I hw)
def tIf (t:TT) (ta tb:TE):TE:=fun σ H Q=>t σ H fun c H1=>if c=true then ta σ H1 Q else tb σ H1 Q
theorem qhC {c:Expr} (hc:PT X c tA) (ha:PE X a ta) (hb:PE X b tb):PE X (.IfExp c a b pos) (tIf tA ta tb):=by
 intro pins s σ H Q I h
 refine wpAny_IfExp (thn (hc pins s σ H _ I h) fun d s1 ⟨H1,I1,q1⟩=>?_)
 cases d with
 | true=>exact ha pins s1 σ H1 Q I1 q1
 | false=>exact hb pins s1 σ H1 Q I1 q1
end
end L2
namespace L2
open PySem PySem.Spec PyProof.Rows
def SqL (K:PySem.W.Frag) (H:Hp) (a:Addr) (xs:List V):Prop:=
 Rd H a (.lst xs) ∨
  ∃ (o:Obj) (its:Array Value) (n:Nat),K.lookup a=some o/\o.cls = .type "list"/\o.dict=none/\o.data = .seq its n/\its.size<=sizeLine/\Vals xs its.toList
def SqT (K:PySem.W.Frag) (H:Hp) (a:Addr) (xs:List V):Prop:=
 Rd H a (.tup xs) ∨
  ∃ (o:Obj) (its:Array Value) (n:Nat),K.lookup a=some o/\o.cls = .type "tuple"/\o.data = .seq its n/\its.size<=sizeLine/\Vals xs its.toList
def qou:Value->Option V
 | .none=>some .non
 | .bool b=>some (.bl b)
 | .int i _=>some (.int i)
 | .str x _=>some (.str x)
 | .bytes b _=>some (.byt b)
 | .float b _=>some (.flt b)
 | .ref a=>some (.ref a)
 | .type n=>some (.ty n)
 | _=>none
theorem RelV.abs {x:V} {u:Value} (r:RelV x u):qou u=some x:=by
 cases x with
 | non=>cases r;rfl
 | bl _=>cases r;rfl
 | int _=>obtain ⟨t,rfl⟩:=r;rfl
 | str _=>obtain ⟨t,rfl⟩:=r;rfl
 | byt _=>obtain ⟨t,rfl⟩:=r;rfl
 | flt _=>obtain ⟨t,rfl⟩:=r;rfl
 | ref _=>cases r;rfl
 | ty _=>cases r;rfl
theorem RelV.inj {x y:V} {u:Value} (r:RelV x u) (q:RelV y u):x=y:=oI_ (r.abs.symm.trans q.abs)
theorem Vals.inj:∀ {xs ys:List V} {us:List Value},Vals xs us->Vals ys us->xs=ys
 | _,_,_,.nil,.nil=>rfl
 | _,_,_,.cons r t,.cons r' t'=>by rw [r.inj r',Vals.inj t t']
section
variable {X:Cx} {pins:List (Addr×Obj)} {σ:St} {H:Hp} {s:Shared} {a:Addr} {xs ys:List V}
theorem SqL.of {K:PySem.W.Frag} (h:H a=some (.lst xs)):SqL K H a xs:=.inl (.inl h)
theorem SqT.of {K:PySem.W.Frag} (h:H a=some (.tup xs)):SqT K H a xs:=.inl (.inl h)
theorem Inv.list (I:Inv X pins σ H s) (h:SqL X.K H a xs):∃ its:List Value,Vals xs its/\PlainL s.heap a its.toArray/\xs.length<=sizeLine:=by
 rcases h with h | ⟨o,its,n,hk,hc,hd,hs,hz,r⟩
 ·obtain ⟨z,its,n,r,e⟩:=h.ok I.hok
  exact ⟨its,r,⟨_,n,e,rfl,rfl,rfl⟩,z⟩
 ·refine ⟨its.toList,r,⟨o,n,I.kIn a o hk,hc,hd,by simpa using hs⟩,?_⟩
  have e:=r.length
  simp only [Array.length_toList] at e
  omega
theorem Inv.tuple (I:Inv X pins σ H s) (h:SqT X.K H a xs):∃ its:List Value,Vals xs its/\IsTup s.heap a its.toArray/\xs.length<=sizeLine:=by
 rcases h with h | ⟨o,its,n,hk,hc,hs,hz,r⟩
 ·obtain ⟨z,its,r,p⟩:=h.ok I.hok
  exact ⟨its,r,p,z⟩
 ·refine ⟨its.toList,r,⟨o,I.kIn a o hk,hc,n,by simpa using hs⟩,?_⟩
  have e:=r.length
  simp only [Array.length_toList] at e
  omega
theorem Inv.list_inj (I:Inv X pins σ H s) (h:SqL X.K H a xs) (h':SqL X.K H a ys):xs=ys:=by
 obtain ⟨its,r,⟨o,n,e,_,_,d⟩,_⟩:=I.list h
 obtain ⟨its',r',⟨o',n',e',_,_,d'⟩,_⟩:=I.list h'
 rw [e] at e';cases e'
 rw [d] at d'
 injection d' with d1 _
 have:its=its':=by simpa using congrArg Array.toList d1
 subst this
 exact r.inj r'
end
abbrev Cx.wish (X:Cx) (E:Value->Shared->Prop):Cx:={ X with xe:=E }
abbrev Cx.nox (X:Cx):Cx:=X.wish fun _ _=>False
theorem Cx.Ok.wish {X:Cx} (ok:X.Ok) (E:Value->Shared->Prop):(X.wish E).Ok:=
 ⟨ok.mod,ok.kind,ok.glob,ok.blt,ok.above,ok.inj,ok.has,ok.cab,ok.hd,ok.frames,ok.stk,ok.exf,ok.bs,ok.bsz,ok.noex,ok.exfs,ok.funs,ok.frf⟩
theorem Cx.Ok.unwish {X:Cx} {E:Value->Shared->Prop} (ok:(X.wish E).Ok):X.Ok:=
 ⟨ok.mod,ok.kind,ok.glob,ok.blt,ok.above,ok.inj,ok.has,ok.cab,ok.hd,ok.frames,ok.stk,ok.exf,ok.bs,ok.bsz,ok.noex,ok.exfs,ok.funs,ok.frf⟩
section
variable {X:Cx} {pins:List (Addr×Obj)} {σ:St} {H:Hp} {s:Shared} {E:Value->Shared->Prop}
theorem Inv.wish (I:Inv X pins σ H s) (E:Value->Shared->Prop):Inv (X.wish E) pins σ H s:=⟨I.ok.wish E,I.os,I.bare,I.base,I.loc,I.cell,I.free,I.freeC,I.pin,I.hok,I.len⟩
theorem Inv.unwish (I:Inv (X.wish E) pins σ H s):Inv X pins σ H s:=⟨I.ok.unwish,I.os,I.bare,I.base,I.loc,I.cell,I.free,I.freeC,I.pin,I.hok,I.len⟩
theorem SP.unwish {D:Ends} {f:Flow} {s':Shared} (h:SP (X.wish E) pins D f s'):SP X pins D f s':=by
 cases f with
 | next=>obtain ⟨σ',H',I,q⟩:=h;exact ⟨σ',H',I.unwish,q⟩
 | brk=>obtain ⟨σ',H',I,q⟩:=h;exact ⟨σ',H',I.unwish,q⟩
 | cont=>obtain ⟨σ',H',I,q⟩:=h;exact ⟨σ',H',I.unwish,q⟩
 | ret u=>obtain ⟨v,σ',H',I,r,q⟩:=h;exact ⟨v,σ',H',I.unwish,r,q⟩
theorem PE.nox {e:Expr} {t:TE} (h:PE X.nox e t):PE X e t:=fun pins s σ H Q I hw=>
 wpAny_mono (h pins s σ H Q (I.wish _) hw) (fun _ _ ⟨v,H',I',r,q⟩=>⟨v,H',I'.unwish,r,q⟩) fun _ _ z=>False.elim z
theorem PT.nox {e:Expr} {t:TT} (h:PT X.nox e t):PT X e t:=fun pins s σ H Q I hw=>
 wpAny_mono (h pins s σ H Q (I.wish _) hw) (fun _ _ ⟨H',I',q⟩=>⟨H',I'.unwish,q⟩) fun _ _ z=>False.elim z
theorem PSs.nox {st:List Stmt} {t:TS} (h:PSs X.nox st t):PSs X st t:=fun pins s σ H D I hw=>
 wpAny_mono (h pins s σ H D (I.wish _) hw) (fun _ _ q=>q.unwish) fun _ _ z=>False.elim z
end
section
variable {X:Cx} {st:Stmt} {qf1:List Stmt} {t u:TS} {e:Expr} {te:TE} {pos:Pos}
def qaG:TS:=fun D σ H=>D.nx σ H
def qfr (t u:TS):TS:=fun D σ H=>t { D with nx:=u D } σ H
theorem qjq:PSs X [] qaG:=fun _ _ σ H _ I h=>wpAny_execs_nil ⟨σ,H,I,h⟩
theorem qeK (h1:PS X st t) (h2:PSs X qf1 u):PSs X (st :: qf1) (qfr t u):=by
 intro pins s σ H D I h
 refine wpAny_execs_cons (thn (h1 pins s σ H { D with nx:=u D } I h) fun f s1 q=>?_)
 cases f with
 | next=>
  obtain ⟨σ',H',I',q⟩:=q
  exact h2 pins s1 σ' H' D I' q
 | ret v=>exact q
 | brk=>exact q
 | cont=>exact q
theorem qed (h1:PS X st t):PSs X [st] t:=by
 intro pins s σ H D I h
 refine wpAny_execs_cons (thn (h1 pins s σ H D I h) fun f s1 q=>?_)
 cases f with
 | next=>exact wpAny_execs_nil q
 | ret v=>exact q
 | brk=>exact q
 | cont=>exact q
theorem Inv.quiet {pins:List (Addr×Obj)} {σ:St} {H:Hp} {s:Shared} (I:Inv X pins σ H s):interactive X.env=false:=by simp [interactive,I.ok.kind]
def qkJ (te:TE):TS:=fun D σ H=>te σ H fun _ H1=>D.nx σ H1
theorem qjr (he:PE X e te) (hs:swapsWith e none pos.line X.env=pure false:=by rfl):PS X (.Expr e pos) (qkJ te):=by
 intro pins s σ H D I h
 exact wpAny_Expr_any (thn (he pins s σ H _ I h) fun v s1 ⟨x,H1,I1,r1,q1⟩=>⟨σ,H1,I1,q1⟩) I.quiet hs
def qmM (te:TE):TS:=fun D σ H=>te σ H D.rt
theorem qiq (he:PE X e te):PS X (.Return (some e) pos) (qmM te):=by
 intro pins s σ H D I h
 exact wpAny_Return_some (thn (he pins s σ H _ I h) fun v s1 ⟨x,H1,I1,r1,q1⟩=>⟨x,σ,H1,I1,r1,q1⟩)
def qfs (c:TT) (t u:TS):TS:=fun D σ H=>c σ H fun b H1=>if b=true then t D σ H1 else u D σ H1
theorem qm6 {c:Expr} {a b:List Stmt} {tc:TT} (hc:PT X c tc) (ha:PSs X a t) (hb:PSs X b u):PS X (.If c a b pos) (qfs tc t u):=by
 intro pins s σ H D I h
 refine wpAny_If (thn (hc pins s σ H _ I h) fun d s1 ⟨H1,I1,q1⟩=>?_)
 cases d with
 | true=>exact ha pins s1 σ H1 D I1 q1
 | false=>exact hb pins s1 σ H1 D I1 q1
def qim:TS:=fun _ _ _=>False
theorem qhw:PS X st qim:=fun _ _ _ _ _ _ h=>h.elim
end
abbrev TG:=V->St->Hp->(St->Hp->Prop)->Prop
abbrev TGs:=List V->St->Hp->(St->Hp->Prop)->Prop
def PG (X:Cx) (target:Expr) (t:TG):Prop:=
 ∀ (pins:List (Addr×Obj)) (s:Shared) (σ:St) (H:Hp) (v:V) (u:Value) (Q:St->Hp->Prop),Inv X pins σ H s->RelV v u->t v σ H Q →
  wpAny (model X.prog X.w) X.A (assign target X.env u) (fun _ s'=>∃ σ' H',Inv X pins σ' H' s'/\Q σ' H') X.xe s
def PGs (X:Cx) (ts:List Expr) (t:TGs):Prop:=
 ∀ (pins:List (Addr×Obj)) (s:Shared) (σ:St) (H:Hp) (vs:List V) (us:List Value) (Q:St->Hp->Prop),Inv X pins σ H s->Vals vs us->t vs σ H Q →
  wpAny (model X.prog X.w) X.A (assignInOrder ((assignEach ts X.env).map (·.2)) us) (fun _ s'=>∃ σ' H',Inv X pins σ' H' s'/\Q σ' H') X.xe s
abbrev qnG:=V->V->V->Hp->(Hp->Prop)->Prop
def qmF (X:Cx) (t:qnG):Prop:=
 ∀ (pins:List (Addr×Obj)) (s:Shared) (σ:St) (H:Hp) (o i v:V) (ov iv u:Value) (Q:Hp->Prop),Inv X pins σ H s->RelV o ov->RelV i iv->RelV v u->t o i v H Q →
  wpAny (model X.prog X.w) X.A (setItem ov iv u) (fun _ s'=>∃ H',Inv X pins σ H' s'/\Q H') X.xe s
abbrev TIp:=V->V->Hp->VK->Prop
def PIp (X:Cx) (op:Operator) (t:TIp):Prop:=
 ∀ (pins:List (Addr×Obj)) (s:Shared) (σ:St) (H:Hp) (x y:V) (v u:Value) (Q:VK),Inv X pins σ H s->RelV x v->RelV y u->t x y H Q →
  wpAny (model X.prog X.w) X.A (inplaceOp op v u) (EP X pins σ Q) X.xe s
section
variable {X:Cx} {pos:Pos}
def qai (i:Nat):TG:=fun v σ H Q=>Q (σ.set i (some v)) H
theorem qjw {i:Nat} {x:Str} (hN:X.N.Nodup) (hi:X.N[i]? = some x) (hx:Loc X.env.scope x) (hf:X.fn x=true\/X.env.scope.names.lookup x=some .local:=by first | exact .inl rfl | exact .inr rfl | assumption):PG X (.Name x pos) (qai i):=by
 intro pins s σ H v u Q I r h
 exact wpAny_assign_Name (qcz I hN hi hx r (fun s' I'=>⟨_,H,I',h⟩) hf)
def qor:TGs:=fun vs σ H Q=>vs=[]/\Q σ H
def qnu (t:TG) (u:TGs):TGs:=fun vs σ H Q=>∃ v r,vs=v :: r/\t v σ H fun σ' H'=>u r σ' H' Q
theorem qjv:PGs X [] qor:=by
 intro pins s σ H vs us Q I r h
 obtain ⟨e,h⟩:=h
 subst e
 cases r
 exact assignInOrder_nil ⟨σ,H,I,h⟩
theorem qhz {e:Expr} {es:List Expr} {t:TG} {u:TGs} (h1:PG X e t) (h2:PGs X es u)
  (hs:(assignEach (e :: es) X.env).map (·.2)=assign e X.env :: (assignEach es X.env).map (·.2):=by rfl):PGs X (e :: es) (qnu t u):=by
 intro pins s σ H vs us Q I r h
 obtain ⟨v,vr,e1,h⟩:=h
 subst e1
 cases r with
 | cons r rr=>
  rw [hs]
  refine assignInOrder_cons (thn (h1 pins s σ H _ _ _ I r h) fun _ s1 ⟨σ1,H1,I1,q1⟩=>?_)
  exact h2 pins s1 σ1 H1 _ _ Q I1 rr q1
def qoq (K:PySem.W.Frag) (n:Nat) (t:TGs):TG:=fun v σ H Q=>∃ a xs,v = .ref a/\SqT K H a xs/\xs.length=n/\t xs σ H Q
theorem qlg {es:List Expr} {k:Nat} {t:TGs} {n:Nat} (hc:X.calm=true) (h:PGs X es t)
  (hn:(assignEach es X.env).length=n:=by rfl) (hst:(assignEach es X.env).findIdx? (·.1)=none:=by rfl):PG X (.Tuple es k pos) (qoq X.K n t):=by
 intro pins s σ H v u Q I r hw
 obtain ⟨a,xs,e1,hq,hl,hw⟩:=hw
 subst e1
 cases r
 obtain ⟨its,rv,ht,hz⟩:=I.tuple hq
 refine assign_Tuple_tuple (I.ok.hd hc) ht (by simp [hn,<-hl,rv.length]) hst fun h' hx=>?_
 have I1:Inv X pins σ H { s with heap:=h' }:=I.kept (t':=s.toks) fun b o e=>hx b o (Nat.ne_of_lt (Heap.lt_size e)) e
 exact h pins _ σ H xs _ Q I1 (by simpa using rv) hw
def qnt (to ti:TE) (t:qnG):TG:=fun v σ H Q=>to σ H fun o H1=>ti σ H1 fun i H2=>t o i v H2 fun H3=>Q σ H3
theorem qir {o i:Expr} {to ti:TE} {t:qnG} (ho:PE X o to) (hi:PE X i ti) (hs:qmF X t)
  (ha:∀ v,assign (.Subscript o i pos) X.env v=(do
   let ov <-holding [v] (eval o X.env)
   let iv <-holding [v,ov] (eval i X.env)
   standAt pos
   holding [v,ov,iv] (setItem ov iv v)
   release [v,ov,iv] []):=by intro _;rfl):PG X (.Subscript o i pos) (qnt to ti t):=by
 intro pins s σ H v u Q I r h
 rw [ha]
 refine wpAny_bind (wpAny_holding (thn (ho pins s σ H _ I h) fun ov s1 ⟨x,H1,I1,r1,q1⟩=>?_))
 refine wpAny_bind (wpAny_holding (thn (hi pins s1 σ H1 _ I1 q1) fun iv s2 ⟨y,H2,I2,r2,q2⟩=>?_))
 refine wpAny_bind (wpAny_standAt (wpAny_bind (wpAny_holding (thn (hs pins s2 σ H2 x y v ov iv u _ I2 r1 r2 r q2) fun _ s3 ⟨H3,I3,q3⟩=>?_))))
 exact wpAny_release ⟨σ,H3,I3,q3⟩
def qmu (te:TE) (g:TG):TS:=fun D σ H=>te σ H fun x H1=>g x σ H1 D.nx
theorem qle {tg e:Expr} {te:TE} {g:TG} (he:PE X e te) (hg:PG X tg g) (hs:swapsWithSole [tg] e pos.line X.env=pure false:=by rfl) (hw:swappedStores [tg] e X.env=pure none:=by rfl)
  (h1:(assignEach [tg] X.env).map (·.2)=[assign tg X.env]:=by rfl):PS X (.Assign [tg] e pos) (qmu te g):=by
 intro pins s σ H D I h
 refine wpAny_Assign_stores (thn (he pins s σ H _ I h) fun v s1 ⟨x,H1,I1,r1,q1⟩=>?_) hs hw
 rw [h1]
 exact thn (hg pins s1 σ H1 x v _ I1 r1 q1) fun _ s2 q=>q
def qoa (i:Nat) (te:TE) (ti:TIp):TS:=fun D σ H=>∃ x,σ[i]? = some (some x)/\te σ H fun y H1=>ti x y H1 fun z H2=>D.nx (σ.set i (some z)) H2
theorem qld {i:Nat} {x:Str} {e:Expr} {te:TE} {op:Operator} {ti:TIp} {pos':Pos} (hN:X.N.Nodup) (hi:X.N[i]? = some x) (hx:Loc X.env.scope x) (he:PE X e te) (ho:PIp X op ti) (hf:X.fn x=true\/X.env.scope.names.lookup x=some .local:=by first | exact .inl rfl | exact .inr rfl | assumption) :
  PS X (.AugAssign (.Name x pos') op e pos) (qoa i te ti):=by
 intro pins s σ H D I h
 obtain ⟨v,e1,h⟩:=h
 obtain ⟨m,hn,hl⟩:=I.loc
 have vis:Vis X.env.scope x:=by rcases hx with k | k;exact .inl k;exact .inr (.inl k)
 obtain ⟨u,r,l⟩:=hl i x v hi e1 vis
 refine wpAny_AugAssign_Name ?_
 have go:wpAny (model X.prog X.w) X.A (eval e X.env) (fun w s₂=>wpAny (model X.prog X.w) X.A (inplaceOp op u w) (fun r s₃=>wpAny (model X.prog X.w) X.A (storeName X.env x r) (fun _=>SP X pins D .next) X.xe s₃) X.xe s₂) X.xe s:=by
  refine thn (he pins s σ H _ I h) fun w s1 ⟨y,H1,I1,r1,q1⟩=>?_
  refine thn (ho pins s1 σ H1 v y u w _ I1 r r1 q1) fun z s2 ⟨zv,H2,I2,r2,q2⟩=>?_
  exact qcz I2 hN hi hx r2 (fun s3 I3=>⟨_,H2,I3,q2⟩) hf
 rcases l with ⟨hk,hm⟩ | ⟨hk,c,hc,hcell⟩
 ·exact wpAny_loadName_local I.ok.kind hk hn hm go
 ·rcases hk with hk | hk
  ·exact wpAny_loadName_cell I.ok.kind hk hc hcell go
  ·rcases hx with k | k
   ·have:X.env.scope.names.lookup x=some .free:=hk
    rw [k] at this;cases this
   ·have:X.env.scope.names.lookup x=some .free:=hk
    rw [k] at this;cases this
def ipI (f:Int->Int->Int):TIp:=fun x y H Q=>∃ i j,x = .int i/\y = .int j/\Q (.int (f i j)) H
theorem ql1:PIp X .Add (ipI fun i j=>i+j):=by
 intro pins s σ H x y v u Q I r1 r2 h
 obtain ⟨i,j,e1,e2,q⟩:=h
 subst e1;subst e2
 obtain ⟨t,rfl⟩:=r1
 obtain ⟨t',rfl⟩:=r2
 exact iadd_int ⟨.int _,H,I.tok _,⟨_,rfl⟩,q⟩
end
section
variable {X:Cx} {pos:Pos}
def qil (c:TT) (tb:TS):TS:=fun D σ H=>∃ W:Nat->St->Hp->Prop,(∃ m,W m σ H)/\∀ m σ H,W m σ H →
 c σ H fun b H1=>if b=true then ∃ N:St->Hp->Prop,(∀ σ' H',N σ' H'->∃ m',m' < m/\W m' σ' H')/\tb { D with nx:=N,ct:=N,bk:=D.nx } σ H1 else D.nx σ H1
theorem qhv {c:Expr} {body:List Stmt} {tc:TT} {tb:TS} (hp:PassesOwn (model X.prog X.w) X.A X.env X.xe) (hc:PT X c tc) (hb:PSs X body tb):PS X (.While c body [] pos) (qil tc tb):=by
 intro pins s σ H D I h
 obtain ⟨W,⟨m0,w0⟩,turn⟩:=h
 refine wpAny_While (codeAny_whileLoop (fun n s'=>∃ σ' H',Inv X pins σ' H' s'/\W n σ' H') ?_ m0 ⟨σ,H,I,w0⟩)
 rintro n s1 ⟨σ1,H1,I1,w1⟩
 refine wpAny_passesOwn hp (thn (hc pins s1 σ1 H1 _ I1 (turn n σ1 H1 w1)) fun b s2 ⟨H2,I2,q2⟩=>?_)
 cases b with
 | true=>
  obtain ⟨N,hN,q2⟩:=q2
  rw [if_pos rfl]
  refine wpAny_passesOwn hp (thn (hb pins s2 σ1 H2 _ I2 q2) fun f s3 q3=>?_)
  cases f with
  | next=>
   obtain ⟨σ3,H3,I3,n3⟩:=q3
   obtain ⟨m',hm,w3⟩:=hN σ3 H3 n3
   exact ⟨m',hm,σ3,H3,I3,w3⟩
  | cont=>
   obtain ⟨σ3,H3,I3,n3⟩:=q3
   obtain ⟨m',hm,w3⟩:=hN σ3 H3 n3
   exact ⟨m',hm,σ3,H3,I3,w3⟩
  | brk=>exact q3
  | ret v=>exact q3
 | false=>
  rw [if_neg Bool.false_ne_true]
  exact wpAny_execs_nil ⟨σ1,H2,I2,q2⟩
end
structure It where
 go:Nat->Hp->Prop
 yld:Nat->Hp->V->Hp->Prop
 stop:Nat->Hp->Prop
def qft (X:Cx) (pins:List (Addr×Obj)) (H:Hp) (b:Addr):Prop:=
 H b=none/\b≠X.env.locals/\b ∉ X.fs/\(b∈X.ex\/X.s₀.heap.objs.size<=b)/\(∀ x c,X.env.cells.lookup x=some c->c≠b)/\∀ p∈X.pn++pins,p.1≠b
theorem Inv.fpOk {X:Cx} {pins:List (Addr×Obj)} {σ:St} {H H':Hp} {s:Shared} {b:Addr} (I:Inv X pins σ H s) (hb:s.heap.objs.size<=b) (hn:H' b=none):qft X pins H' b:=by
 refine ⟨hn,Nat.ne_of_gt (Nat.lt_of_lt_of_le I.lt hb),I.nofs hb,.inr (Nat.le_trans I.sz hb),fun x c e z=>?_,fun p hp z=>?_⟩
 ·obtain ⟨v,q⟩:=I.cell x c e
  exact absurd (Nat.lt_of_lt_of_le q.lt (by rw [z];exact hb)) (Nat.lt_irrefl _)
 ·exact absurd (Nat.lt_of_lt_of_le (Heap.lt_size (I.pin p hp).1) (by rw [z];exact hb)) (Nat.lt_irrefl _)
structure Turn (P:Program) (w:World) (K:PySem.W.Frag) (tg:Expr) (J:It) (fp:List Addr) (it:Addr) (tn:Nat->Heap->Prop):Prop where
 mem:it∈fp
 obj:∀ i h,tn i h->∀ b∈fp,∃ o,h.get? b=some o/\∀ v,o.data≠.cell v
 keep:∀ i h h',tn i h->(∀ b∈fp,∀ o,h.get? b=some o->h'.get? b=some o)->tn i h'
 item:∀ (X:Cx),X.prog=P->X.w=w->X.K=K->X.calm=true->∀ (i:Nat) (pins:List (Addr×Obj)) (s:Shared) (σ:St) (H:Hp) (E:Value->Shared->Prop),Inv X pins σ H s->(∀ b∈fp,qft X pins H b)->tn i s.heap->J.go i H →
  wpAny (model P w) X.A (pyNext (.ref it)) (fun r s1=>∃ u,r=some u ∧
   wpAny (model P w) X.A (letOwnedTupleGo tg (.ref it) u) (fun _ s2=>∃ x H',Inv X pins σ H' s2/\RelV x u/\J.yld i H x H'/\tn (i+1) s2.heap/\∀ b∈fp,H' b=none) E s1) E s
 done:∀ (X:Cx),X.prog=P->X.w=w->X.K=K->X.calm=true->∀ (i:Nat) (pins:List (Addr×Obj)) (s:Shared) (σ:St) (H:Hp) (E:Value->Shared->Prop),Inv X pins σ H s->(∀ b∈fp,qft X pins H b)->tn i s.heap->J.stop i H →
  wpAny (model P w) X.A (pyNext (.ref it)) (fun r s1=>r=none/\Inv X pins σ H s1) E s
 self:∀ (A:Around) (i:Nat) (s:Shared) (Q:Value->Shared->Prop) (E:Value->Shared->Prop),tn i s.heap->Q (.ref it) s->wpAny (model P w) A (pyIter (.ref it)) Q E s
abbrev TI:=St->Hp->(It->Hp->Prop)->Prop
def PIE (X:Cx) (pins:List (Addr×Obj)) (σ:St) (tg:Expr) (R:It->Hp->Prop) (itv:Value) (s2:Shared):Prop:=
 ∃ (it:Addr) (fp:List Addr) (tn:Nat->Heap->Prop) (J:It) (H':Hp),itv = .ref it/\Inv X pins σ H' s2/\Turn X.prog X.w X.K tg J fp it tn/\tn 0 s2.heap/\(∀ b∈fp,qft X pins H' b)/\R J H'
def PI (X:Cx) (tg iter:Expr) (wi:TI):Prop:=
 ∀ (pins:List (Addr×Obj)) (s:Shared) (σ:St) (H:Hp) (R:It->Hp->Prop),Inv X pins σ H s->wi σ H R →
  wpAny (model X.prog X.w) X.A (eval iter X.env) (fun v s1=>wpAny (model X.prog X.w) X.A (pyIter v) (PIE X pins σ tg R) X.xe s1) X.xe s
theorem qh6 {M:Model} {A:Around} {E:Value->Shared->Prop} {s:Shared} {tg:Expr} {it:Addr} {u:Value} {o:Obj} {n:String} {vs:Array Value} {Q:Unit->Shared->Prop} (ho:s.heap.get? it=some o) (hc:o.cls = .type n) (hd:o.data = .fields vs)
  (hn:["enumerate","zip","dict_itemiterator","dict_reverseitemiterator","odict_iterator","itertools.zip_longest","itertools.pairwise"].contains n=false) (hQ:Q () s):wpAny M A (letOwnedTupleGo tg (.ref it) u) Q E s:=by
 unfold letOwnedTupleGo
 cases tg<;>first
  | exact wpAny_pure hQ
  | (cases u<;>first
    | exact wpAny_pure hQ
    | (refine wpAny_bind (wpAny_load ho ?_)
       rw [hc,hd]
       show wpAny M A (if (["enumerate","zip","dict_itemiterator","dict_reverseitemiterator","odict_iterator","itertools.zip_longest","itertools.pairwise"].contains n && vs[0]? == some (rawInt _))=true then _ else _) Q E s
       rw [if_neg (by intro h;rw [hn,Bool.false_and] at h;cases h)]
       exact wpAny_pure hQ))
def Itl (K:PySem.W.Frag) (a:Addr):It:=
 ⟨fun i H=>∃ xs x,SqL K H a xs/\xs[i]? = some x,fun i H x H'=>H'=H/\∀ xs,SqL K H a xs->xs[i]? = some x,fun i H=>∃ xs,SqL K H a xs/\xs.length<=i⟩
def Itr (lo:Int) (n:Nat):It:=⟨fun i _=>i < n,fun i H x H'=>H'=H/\x = .int (lo+i),fun i _=>n<=i⟩
theorem qc8 {P:Program} {w:World} {K:PySem.W.Frag} {tg:Expr} (a it:Addr):Turn P w K tg (Itl K a) [it] it (fun i h=>h.IsListIter it a i) where
 mem:=by simp
 obj:=fun i h st b hb=>by
  have e:b=it:=by simpa using hb
  subst e
  obtain ⟨o,e,c,d⟩:=st
  exact ⟨o,e,fun v z=>by rw [d] at z;cases z⟩
 keep:=fun i h h' st k=>st.at fun o e=>k it (by simp) o e
 item:=by
  intro X hP hw hK hc i pins s σ H E I hf st hg
  subst hP hw hK
  obtain ⟨xs,x,hq,hx⟩:=hg
  obtain ⟨its,rv,p,hz⟩:=I.list hq
  obtain ⟨u,hu,ru⟩:=rv.get hx
  obtain ⟨f0,f1,f2,f3,f4,f5⟩:=hf it (by simp)
  refine wpAny_pyNext_list_item st p.isList (x:=u) (by simpa using hu) fun h' st' sb=>?_
  have I1:Inv X pins σ H { s with heap:=h' }:=I.turned (t':=s.toks) (fun b o hb e=>(sb.2 b hb).trans e) f0 f1 f3 f4 f5
  obtain ⟨o,e,c,d⟩:=id st'
  exact ⟨u,rfl,qh6 (s:={ s with heap:=h' }) e c d (by decide) ⟨x,H,I1,ru,⟨rfl,fun ys hy=>by rw [I.list_inj hy hq];exact hx⟩,st',fun b hb=>(hf b hb).1⟩⟩
 done:=by
  intro X hP hw hK hc i pins s σ H E I hf st hg
  subst hP hw hK
  obtain ⟨xs,hq,hx⟩:=hg
  obtain ⟨its,rv,p,hz⟩:=I.list hq
  obtain ⟨f0,f1,f2,f3,f4,f5⟩:=hf it (by simp)
  have hl:=rv.length
  exact wpAny_pyNext_list_end (I.ok.hd hc) st p.isList (by simp;omega) fun h' eb=>⟨rfl,I.turned (t':=s.toks) (fun b o hb e=>eb b o hb e) f0 f1 f3 f4 f5⟩
 self:=fun _ _ _ _ _ st h=>wpAny_pyIter_listiter st h
theorem qe3 {P:Program} {w:World} {K:PySem.W.Frag} {tg:Expr} (it:Addr) (lo:Int) (n:Nat):Turn P w K tg (Itr lo n) [it] it (fun i h=>IsRangeIter h it (lo+(i:Nat) * 1) ((n:Int) - (i:Nat)) 1) where
 mem:=by simp
 obj:=fun i h st b hb=>by
  have e:b=it:=by simpa using hb
  subst e
  exact ⟨_,st,fun v z=>by
   have z':Data.fields _=Data.cell v:=z
   cases z'⟩
 keep:=fun i h h' st k=>k it (by simp) _ st
 item:=by
  intro X hP hw hK hc i pins s σ H E I hf st hg
  subst hP hw hK
  obtain ⟨f0,f1,f2,f3,f4,f5⟩:=hf it (by simp)
  have W:=Walks.range (prog:=X.prog) (w:=X.w) (I.ok.hd hc) it lo 1 n
  refine W.item i s _ _ hg st fun v h' tk hv st' kk=>?_
  obtain ⟨t,rfl⟩:=hv
  have I1:Inv X pins σ H { s with heap:=h',toks:=tk }:=I.turned (fun b o hb e=>kk b o (by simpa using hb) e) f0 f1 f3 f4 f5
  refine ⟨_,rfl,qh6 (s:={ s with heap:=h',toks:=tk }) (n:= "range_iterator") st' rfl rfl (by decide) ⟨.int (lo+i),H,I1,⟨t,?_⟩,⟨rfl,rfl⟩,st',fun b hb=>(hf b hb).1⟩⟩
  rw [Int.mul_one]
 done:=by
  intro X hP hw hK hc i pins s σ H E I hf st hg
  subst hP hw hK
  obtain ⟨f0,f1,f2,f3,f4,f5⟩:=hf it (by simp)
  exact wpAny_pyNext_range_end (I.ok.hd hc) st (by have:n<=i:=hg;omega) fun h' eb=>⟨rfl,I.turned (t':=s.toks) (fun b o hb e=>eb b o hb e) f0 f1 f3 f4 f5⟩
 self:=fun _ _ _ _ _ st h=>wpAny_pyIter_rangeiter st h
end L2
namespace L2
open PySem PySem.Spec PyProof.Rows
section
variable {X:Cx} {tg:Expr}
theorem qeG {pins:List (Addr×Obj)} {σ:St} {H:Hp} {s:Shared} {R:It->Hp->Prop} {E:Value->Shared->Prop} {lo hi:Int} {t u v:Tok} {tk:Nat} (I:Inv X pins σ H s) (h1 : -(2 ^ 62)<=lo) (h2:lo < 2 ^ 62) (h3 : -(2 ^ 62)<=hi) (h4:hi < 2 ^ 62)
  (q:R (Itr lo (hi - lo).toNat) H):wpAny (model X.prog X.w) X.A (pyIter (.ref s.heap.objs.size)) (PIE X pins σ tg R) E { s with heap:=s.heap.push { cls:=.type "range",data:=.fields #[.int lo t,.int hi u,.int 1 v] },toks:=tk }:=by
 refine wpAny_pyIter_range (IsRange.new ..) (small_one h1 h2 h3 h4) ?_
 have I1:Inv X pins σ H { s with heap:=s.heap.push { cls:=.type "range",data:=.fields #[.int lo t,.int hi u,.int 1 v] },toks:=tk }:=I.kept fun b o e=>Heap.get?_push_of_some _ e
 refine ⟨(s.heap.push { cls:=.type "range",data:=.fields #[.int lo t,.int hi u,.int 1 v] }).objs.size,[(s.heap.push { cls:=.type "range",data:=.fields #[.int lo t,.int hi u,.int 1 v] }).objs.size],_,_,H,rfl,
  I1.kept (t':=tk) fun b o e=>Heap.get?_push_of_some _ e,qe3 _ lo (hi - lo).toNat,?_,fun b hb=>?_,q⟩
 ·have e1:lo+((0:Nat):Int) * 1=lo:=by simp
  have e2:(((hi - lo).toNat:Nat):Int) - ((0:Nat):Int)=Builtin.Range.rangeSize lo hi 1:=by rw [rangeSize_one];split<;>omega
  show IsRangeIter _ _ (lo+((0:Nat):Int) * 1) ((((hi - lo).toNat:Nat):Int) - ((0:Nat):Int)) 1
  rw [e1,e2]
  exact Heap.get?_push_size _ rfl
 ·have e:b=(s.heap.push { cls:=.type "range",data:=.fields #[.int lo t,.int hi u,.int 1 v] }).objs.size:=by simpa using hb
  subst e
  exact I1.fpOk (Nat.le_refl _) (I1.hok.fresh (Nat.le_refl _))
def qnN (wi:TI) (g:TG) (tb:TS):TS:=fun D σ H=>wi σ H fun J H1=>∃ W:Nat->Nat->St->Hp->Prop,(∃ m,W 0 m σ H1)/\∀ i m σ H,W i m σ H →
 (J.stop i H/\D.nx σ H)\/(J.go i H/\∃ N:St->Hp->Prop,(∀ σ' H',N σ' H'->∃ m',m' < m/\W (i+1) m' σ' H')/\∀ x H',J.yld i H x H'->g x σ H' fun σ2 H2=>tb { D with nx:=N,ct:=N,bk:=D.nx } σ2 H2)
def qdh (fp:List Addr) (h:Heap):List (Addr×Obj):=fp.filterMap fun b=>(h.get? b).map fun o=>(b,o)
theorem qa6 {fp:List Addr} {h:Heap} {b:Addr} {o:Obj} (hb:b∈fp) (e:h.get? b=some o):(b,o)∈qdh fp h:=List.mem_filterMap.mpr ⟨b,hb,by rw [e];rfl⟩
theorem qgp {fp:List Addr} {h:Heap} {p:Addr×Obj} (hp:p∈qdh fp h):p.1∈fp/\h.get? p.1=some p.2:=by
 obtain ⟨b,hb,e⟩:=List.mem_filterMap.mp hp
 cases q:h.get? b with
 | none=>rw [q] at e;cases e
 | some o=>
  rw [q] at e
  have e':(b,o)=p:=oI_ e
  subst e'
  exact ⟨hb,q⟩
theorem Inv.pinned {pins:List (Addr×Obj)} {σ:St} {H:Hp} {s:Shared} {fp:List Addr} (I:Inv X pins σ H s) (hf:∀ b∈fp,qft X pins H b) (ho:∀ b∈fp,∃ o,s.heap.get? b=some o/\∀ v,o.data≠.cell v):Inv X (pins++qdh fp s.heap) σ H s:=
 I.pins_of fun p hp=>(mA_ hp).elim (fun z=>I.pin p (List.mem_append_right _ z)) fun z=>by
  obtain ⟨hb,e⟩:=qgp z
  obtain ⟨f0,f1,f2,_⟩:=hf p.1 hb
  obtain ⟨o,e',d⟩:=ho p.1 hb
  rw [e] at e';cases e'
  exact ⟨e,f0,f1,f2,d⟩
theorem Inv.unpinned {pins pl:List (Addr×Obj)} {σ:St} {H:Hp} {s:Shared} (I:Inv X (pins++pl) σ H s):Inv X pins σ H s:=I.pins_of fun p hp=>I.pin p (List.mem_append_right _ (List.mem_append_left _ hp))
theorem qlc {iter:Expr} {body:List Stmt} {wi:TI} {g:TG} {tb:TS} {pos:Pos} (hp:PassesOwn (model X.prog X.w) X.A X.env X.xe) (hc:X.calm=true) (hi:PI X tg iter wi) (hg:PG X tg g) (hb:PSs X body tb)
  (hs:∀ x,foldedSetIterable iter X.env x=pure x:=by intro _;rfl):PS X (.For tg iter body [] pos) (qnN wi g tb):=by
 intro pins s σ H D I h
 refine wpAny_For (thn (hi pins s σ H _ I h) fun v s1 h1=>thn h1 fun itv s2 h2=>?_) hs
 obtain ⟨it,fp,tn,J,H2,e,I2,T,st2,f2,W,⟨m0,w0⟩,turn⟩:=h2
 subst e
 have stat:∀ {H':Hp},(∀ b∈fp,H' b=none)->∀ b∈fp,qft X pins H' b:=fun hn b hb=>⟨hn b hb,(f2 b hb).2⟩
 refine codeAny_forLoop_any (fun n s'=>∃ i σ' H',Inv X pins σ' H' s'/\tn i s'.heap/\(∀ b∈fp,H' b=none)/\W i n σ' H') ?_ m0 ⟨0,σ,H2,I2,st2,fun b hb=>(f2 b hb).1,w0⟩
 rintro n s3 ⟨i,σ3,H3,I3,st3,fr3,w3⟩
 rcases turn i n σ3 H3 w3 with ⟨stop,qn⟩ | ⟨go,N,hN,step⟩
 ·refine wpAny_passesOwn hp (thn (T.done X rfl rfl rfl hc i pins s3 σ3 H3 X.xe I3 (stat fr3) st3 stop) fun r s4 ⟨hr,I4⟩=>?_)
  subst hr
  exact wpAny_execs_nil ⟨σ3,H3,I4,qn⟩
 ·refine wpAny_passesOwn hp (thn (T.item X rfl rfl rfl hc i pins s3 σ3 H3 X.xe I3 (stat fr3) st3 go) fun r s4 ⟨u,hr,h4⟩=>?_)
  subst hr
  refine wpAny_passesOwn hp (thn h4 fun _ s5 ⟨x,H5,I5,r5,y5,st5,fr5⟩=>?_)
  have I5':=I5.pinned (stat fr5) (T.obj _ _ st5)
  refine wpAny_passesOwn hp (thn (hg _ s5 σ3 H5 x u _ I5' r5 (step x H5 y5)) fun _ s6 ⟨σ6,H6,I6,q6⟩=>?_)
  refine wpAny_passesOwn hp (thn (hb _ s6 σ6 H6 _ I6 q6) fun f s7 q7=>?_)
  have again:∀ {σ7:St} {H7:Hp},Inv X (pins++qdh fp s5.heap) σ7 H7 s7->N σ7 H7->∃ m,m < n/\∃ i σ' H',Inv X pins σ' H' s7/\tn i s7.heap/\(∀ b∈fp,H' b=none)/\W i m σ' H':=fun {σ7 H7} I7 n7=>by
   obtain ⟨m',hm,w7⟩:=hN σ7 H7 n7
   refine ⟨m',hm,i+1,σ7,H7,I7.unpinned,T.keep _ _ _ st5 fun b hb o e=>(I7.pin (b,o) (List.mem_append_right _ (List.mem_append_right _ (qa6 hb e)))).1,fun b hb=>?_,w7⟩
   obtain ⟨o,e,d⟩:=T.obj _ _ st5 b hb
   exact (I7.pin (b,o) (List.mem_append_right _ (List.mem_append_right _ (qa6 hb e)))).2.1
  cases f with
  | next=>obtain ⟨σ7,H7,I7,n7⟩:=q7;exact again I7 n7
  | cont=>obtain ⟨σ7,H7,I7,n7⟩:=q7;exact again I7 n7
  | brk=>obtain ⟨σ7,H7,I7,q7⟩:=q7;exact ⟨σ7,H7,I7.unpinned,q7⟩
  | ret v=>obtain ⟨x7,σ7,H7,I7,r7,q7⟩:=q7;exact ⟨x7,σ7,H7,I7.unpinned,r7,q7⟩
end
end L2
namespace L2
open PySem PySem.Spec PyProof.Rows
abbrev R2:=V->V->Hp->VK->Prop
def OpR (X:Cx) (f:Value->Value->Sem Value) (r:R2):Prop:=
 ∀ (pins:List (Addr×Obj)) (s:Shared) (σ:St) (H:Hp) (x y:V) (v u:Value) (Q:VK),Inv X pins σ H s->RelV x v->RelV y u->r x y H Q →
  wpAny (model X.prog X.w) X.A (f v u) (EP X pins σ Q) X.xe s
def UnR (X:Cx) (f:Value->Sem Value) (r:V->Hp->VK->Prop):Prop:=
 ∀ (pins:List (Addr×Obj)) (s:Shared) (σ:St) (H:Hp) (x:V) (v:Value) (Q:VK),Inv X pins σ H s->RelV x v->r x H Q →
  wpAny (model X.prog X.w) X.A (f v) (EP X pins σ Q) X.xe s
def CallR (X:Cx) (f:Value) (r:List V->Hp->VK->Prop):Prop:=
 ∀ (pins:List (Addr×Obj)) (s:Shared) (σ:St) (H:Hp) (xs:List V) (us:List Value) (Q:VK),Inv X pins σ H s->Vals xs us->r xs H Q →
  wpAny (model X.prog X.w) X.A (call f us) (EP X pins σ Q) X.xe s
def qow (X:Cx) (r:V->Hp->(Bool->Hp->Prop)->Prop):Prop:=
 ∀ (pins:List (Addr×Obj)) (s:Shared) (σ:St) (H:Hp) (x:V) (v:Value) (Q:Bool->Hp->Prop),Inv X pins σ H s->RelV x v->r x H Q →
  wpAny (model X.prog X.w) X.A (truthy v) (TP X pins σ Q) X.xe s
def tOp (r:R2) (ta tb:TE):TE:=fun σ H Q=>ta σ H fun x H1=>tb σ H1 fun y H2=>r x y H2 Q
def tUn (r:V->Hp->VK->Prop) (ta:TE):TE:=fun σ H Q=>ta σ H fun x H1=>r x H1 Q
def rI (C:Int->Int->Prop) (g:Int->Int->V):R2:=fun x y H Q=>∃ i j,x = .int i/\y = .int j/\C i j/\Q (g i j) H
def rI0 (g:Int->Int->V):R2:=fun x y H Q=>∃ i j,x = .int i/\y = .int j/\Q (g i j) H
def rU (g:Int->V):V->Hp->VK->Prop:=fun x H Q=>∃ i,x = .int i/\Q (g i) H
section
variable {X:Cx} {a b c:Expr} {ta tb tc:TE} {pos:Pos}
theorem qnF (ha:PE X a ta) (hb:PE X b tb) {pins:List (Addr×Obj)} {s:Shared} {σ:St} {H:Hp} {R:V->V->Hp->Prop} (I:Inv X pins σ H s)
  (h:ta σ H fun x H1=>tb σ H1 fun y H2=>R x y H2) {Q:Value->Shared->Prop} {f:Value->Value->Sem Value}
  (hf:∀ v u s2 x y H2,Inv X pins σ H2 s2->RelV x v->RelV y u->R x y H2->wpAny (model X.prog X.w) X.A (f v u) Q X.xe s2) :
  wpAny (model X.prog X.w) X.A (eval a X.env) (fun v s₁=>wpAny (model X.prog X.w) X.A (eval b X.env) (fun u s₂=>wpAny (model X.prog X.w) X.A (f v u) Q X.xe s₂) X.xe s₁) X.xe s:=by
 refine thn (ha pins s σ H _ I h) fun v s1 ⟨x,H1,I1,r1,q1⟩=>?_
 refine thn (hb pins s1 σ H1 _ I1 q1) fun u s2 ⟨y,H2,I2,r2,q2⟩=>?_
 exact hf v u s2 x y H2 I2 r1 r2 q2
theorem qnb {op:Operator} {r:R2} (ho:OpR X (binaryOp op) r) (ha:PE X a ta) (hb:PE X b tb):PE X (.BinOp a op b pos) (tOp r ta tb):=by
 intro pins s σ H Q I h
 exact wpAny_BinOp (qnF ha hb I h fun v u s2 x y H2 I2 rx ry q=>ho pins s2 σ H2 x y v u Q I2 rx ry q)
theorem qna {op:UnaryOp} {r:V->Hp->VK->Prop} (ho:UnR X (unaryOp op) r) (ha:PE X a ta):PE X (.UnaryOp op a pos) (tUn r ta):=by
 intro pins s σ H Q I h
 exact UnaryOp_ (thn (ha pins s σ H _ I h) fun v s1 ⟨x,H1,I1,r1,q1⟩=>ho pins s1 σ H1 x v Q I1 r1 q1)
theorem opI {f:Value->Value->Sem Value} {C:Int->Int->Prop} {g:Int->Int->Int}
  (rule:∀ (i j:Int) (t u:Tok) (s:Shared) (Q:Value->Shared->Prop) (E:Value->Shared->Prop),C i j->Q (.int (g i j) s.toks) { s with toks:=s.toks+1 }->wpAny (model X.prog X.w) X.A (f (.int i t) (.int j u)) Q E s) :
  OpR X f (rI C fun i j=>.int (g i j)):=by
 intro pins s σ H x y v u Q I rx ry h
 obtain ⟨i,j,rfl,rfl,hc,q⟩:=h
 obtain ⟨t,rfl⟩:=rx
 obtain ⟨t',rfl⟩:=ry
 exact rule i j t t' s _ _ hc ⟨.int (g i j),H,I.tok _,⟨_,rfl⟩,q⟩
theorem qnX {f:Value->Value->Sem Value} {g:Int->Int->Int}
  (rule:∀ (i j:Int) (t u:Tok) (s:Shared) (Q:Value->Shared->Prop) (E:Value->Shared->Prop),Q (.int (g i j) s.toks) { s with toks:=s.toks+1 }->wpAny (model X.prog X.w) X.A (f (.int i t) (.int j u)) Q E s) :
  OpR X f (rI0 fun i j=>.int (g i j)):=by
 intro pins s σ H x y v u Q I rx ry h
 obtain ⟨i,j,rfl,rfl,q⟩:=h
 obtain ⟨t,rfl⟩:=rx
 obtain ⟨t',rfl⟩:=ry
 exact rule i j t t' s _ _ ⟨.int (g i j),H,I.tok _,⟨_,rfl⟩,q⟩
theorem qmC {f:Value->Value->Sem Value} {g:Int->Int->Bool}
  (rule:∀ (i j:Int) (t u:Tok) (s:Shared) (Q:Value->Shared->Prop) (E:Value->Shared->Prop),Q (.bool (g i j)) s->wpAny (model X.prog X.w) X.A (f (.int i t) (.int j u)) Q E s) :
  OpR X f (rI0 fun i j=>.bl (g i j)):=by
 intro pins s σ H x y v u Q I rx ry h
 obtain ⟨i,j,rfl,rfl,q⟩:=h
 obtain ⟨t,rfl⟩:=rx
 obtain ⟨t',rfl⟩:=ry
 exact rule i j t t' s _ _ ⟨.bl (g i j),H,I,rfl,q⟩
def qoA (i j:Int):Prop:=0 < j/\j < 1073741824
def qoz (i j:Int):Prop:=0<=j/\j<=1000000/\i.natAbs < 2 ^ 64
def CMul (i j:Int):Prop:=(-(2 ^ 64) < i/\i < 2 ^ 64)\/(-(2 ^ 64) < j/\j < 2 ^ 64)
theorem CMul.ok {i j:Int} (h:CMul i j):IntMulOk i j:=by
 rcases h with ⟨h1,h2⟩ | ⟨h1,h2⟩
 ·exact .of_left (intBits_le_64 h1 h2)
 ·exact .of_right (intBits_le_64 h1 h2)
theorem op_add:OpR X (binaryOp .Add) (rI0 fun i j=>.int (i+j)):=qnX fun _ _ _ _ _ _ _ q=>add_int q
theorem op_sub:OpR X (binaryOp .Sub) (rI0 fun i j=>.int (i - j)):=qnX fun _ _ _ _ _ _ _ q=>sub_int q
theorem op_mul:OpR X (binaryOp .Mult) (rI CMul fun i j=>.int (i * j)):=opI fun _ _ _ _ _ _ _ hc q=>mul_int q hc.ok
theorem op_fdiv:OpR X (binaryOp .FloorDiv) (rI qoA fun i j=>.int (i / j)):=opI fun i j _ _ _ _ _ hc q=>by
 have h1:(0:Int) < j:=hc.1
 have h2:j < 1073741824:=hc.2
 exact floordiv_int (by omega) (by rw [Int.fdiv_eq_ediv_of_nonneg i (by omega)];exact q) (.inl (PyProof.noPylong_small (by omega)))
theorem op_mod:OpR X (binaryOp .Mod) (rI (fun _ j=>0 < j) fun i j=>.int (i % j)):=opI fun i j _ _ _ _ _ hc q=>by
 have h1:(0:Int) < j:=hc
 exact mod_int' (by omega) (by rw [Int.fmod_eq_emod_of_nonneg i (by omega)];exact q)
theorem op_pow:OpR X (binaryOp .Pow) (rI qoz fun i j=>.int (i ^ j.toNat)):=opI fun _ _ _ _ _ _ _ hc q=>pow_int_small hc.1 hc.2.1 hc.2.2 q
theorem unI {f:Value->Sem Value} {g:Int->Int}
  (rule:∀ (i:Int) (t:Tok) (s:Shared) (Q:Value->Shared->Prop) (E:Value->Shared->Prop),Q (.int (g i) s.toks) { s with toks:=s.toks+1 }->wpAny (model X.prog X.w) X.A (f (.int i t)) Q E s) :
  UnR X f (rU fun i=>.int (g i)):=by
 intro pins s σ H x v Q I rx h
 obtain ⟨i,rfl,q⟩:=h
 obtain ⟨t,rfl⟩:=rx
 exact rule i t s _ _ ⟨.int (g i),H,I.tok _,⟨_,rfl⟩,q⟩
theorem qkD:UnR X (unaryOp .USub) (rU fun i=>.int (-i)):=unI fun _ _ _ _ _ q=>neg_int q
end
def qnP:V->V->Bool
 | .non,.non=>true | .non,.int _=>true | .int _,.non=>true | .non,.bl _=>true | .bl _,.non=>true | .non,.str _=>true | .str _,.non=>true
 | .int _,.int _=>true | .bl _,.bl _=>true | .str _,.str _=>true | .byt _,.byt _=>true
 | .int _,.str _=>true | .str _,.int _=>true | .bl _,.str _=>true | .str _,.bl _=>true
 | _,_=>false
def rEq:R2:=fun x y H Q=>qnP x y=true/\Q (.bl (decide (x=y))) H
def rNe:R2:=fun x y H Q=>qnP x y=true/\Q (.bl (!decide (x=y))) H
theorem qgV {i j:Int}:decide (V.int i=V.int j)=(i == j):=by
 rw [Bool.eq_iff_iff]
 simp
theorem qiK {i j:Bool}:decide (V.bl i=V.bl j)=(i == j):=by
 rw [Bool.eq_iff_iff]
 simp
theorem qgU {i j:Str}:decide (V.str i=V.str j)=(i == j):=by
 rw [Bool.eq_iff_iff]
 simp
theorem qgW {i j:Array UInt8}:decide (V.byt i=V.byt j)=(i.toList == j.toList):=by
 rw [Bool.eq_iff_iff]
 cases i
 cases j
 simp
section
variable {X:Cx} {a b c:Expr} {ta tb tc:TE} {pos:Pos}
theorem qal {pins:List (Addr×Obj)} {σ:St} {H:Hp} {s:Shared} {Q:VK} {k k':Bool} (I:Inv X pins σ H s) (q:Q (.bl k) H) (e:k=k'):EP X pins σ Q (.bool k') s:=by
 subst e
 exact ⟨.bl k,H,I,rfl,q⟩
theorem op_eq:OpR X (compareOp .Eq) rEq:=by
 intro pins s σ H x y v u Q I rx ry h
 obtain ⟨hs,q⟩:=h
 cases x with
 | non=>
  cases rx
  cases y with
  | non=>cases ry;exact PySem.EqNone.eq_none_none (qal I q (by simp))
  | bl j=>cases ry;exact PySem.EqNone.eq_none_bool (qal I q (by simp))
  | int j=>obtain ⟨t',rfl⟩:=ry;exact PySem.EqNone.eq_none_int (qal I q (by simp))
  | str j=>obtain ⟨t',rfl⟩:=ry;exact PySem.EqNone.eq_none_str (qal I q (by simp))
  | _=>exact absurd (show false=true from hs) Bool.false_ne_true
 | bl i=>
  cases rx
  cases y with
  | non=>cases ry;exact PySem.EqNone.eq_bool_none (qal I q (by simp))
  | bl j=>cases ry;exact eq_bool (qal I q qiK)
  | str j=>obtain ⟨t',rfl⟩:=ry;exact PySem.EqMixed.eq_bool_str (qal I q (by simp))
  | _=>exact absurd (show false=true from hs) Bool.false_ne_true
 | int i=>
  obtain ⟨t,rfl⟩:=rx
  cases y with
  | non=>cases ry;exact PySem.EqNone.eq_int_none (qal I q (by simp))
  | int j=>obtain ⟨t',rfl⟩:=ry;exact eq_int (qal I q qgV)
  | str j=>obtain ⟨t',rfl⟩:=ry;exact PySem.EqMixed.eq_int_str (qal I q (by simp))
  | _=>exact absurd (show false=true from hs) Bool.false_ne_true
 | str i=>
  obtain ⟨t,rfl⟩:=rx
  cases y with
  | non=>cases ry;exact PySem.EqNone.eq_str_none (qal I q (by simp))
  | bl j=>cases ry;exact PySem.EqMixed.eq_str_bool (qal I q (by simp))
  | int j=>obtain ⟨t',rfl⟩:=ry;exact PySem.EqMixed.eq_str_int (qal I q (by simp))
  | str j=>obtain ⟨t',rfl⟩:=ry;exact eq_str (qal I q qgU)
  | _=>exact absurd (show false=true from hs) Bool.false_ne_true
 | byt i=>
  obtain ⟨t,rfl⟩:=rx
  cases y with
  | byt j=>obtain ⟨t',rfl⟩:=ry;exact PySem.W.eq_bytes (qal I q qgW)
  | _=>exact absurd (show false=true from hs) Bool.false_ne_true
 | _=>cases y<;>exact absurd (show false=true from hs) Bool.false_ne_true
theorem op_ne:OpR X (compareOp .NotEq) rNe:=by
 intro pins s σ H x y v u Q I rx ry h
 obtain ⟨hs,q⟩:=h
 cases x with
 | non=>
  cases rx
  cases y with
  | non=>cases ry;exact PySem.EqNone.ne_none_none (qal I q (by simp))
  | bl j=>cases ry;exact PySem.EqNone.ne_none_bool (qal I q (by simp))
  | int j=>obtain ⟨t',rfl⟩:=ry;exact PySem.EqNone.ne_none_int (qal I q (by simp))
  | str j=>obtain ⟨t',rfl⟩:=ry;exact PySem.EqNone.ne_none_str (qal I q (by simp))
  | _=>exact absurd (show false=true from hs) Bool.false_ne_true
 | bl i=>
  cases rx
  cases y with
  | non=>cases ry;exact PySem.EqNone.ne_bool_none (qal I q (by simp))
  | bl j=>cases ry;exact ne_bool (qal I q (congrArg not qiK))
  | str j=>obtain ⟨t',rfl⟩:=ry;exact PySem.EqMixed.ne_bool_str (qal I q (by simp))
  | _=>exact absurd (show false=true from hs) Bool.false_ne_true
 | int i=>
  obtain ⟨t,rfl⟩:=rx
  cases y with
  | non=>cases ry;exact PySem.EqNone.ne_int_none (qal I q (by simp))
  | int j=>obtain ⟨t',rfl⟩:=ry;exact ne_int (qal I q (congrArg not qgV))
  | str j=>obtain ⟨t',rfl⟩:=ry;exact PySem.EqMixed.ne_int_str (qal I q (by simp))
  | _=>exact absurd (show false=true from hs) Bool.false_ne_true
 | str i=>
  obtain ⟨t,rfl⟩:=rx
  cases y with
  | non=>cases ry;exact PySem.EqNone.ne_str_none (qal I q (by simp))
  | bl j=>cases ry;exact PySem.EqMixed.ne_str_bool (qal I q (by simp))
  | int j=>obtain ⟨t',rfl⟩:=ry;exact PySem.EqMixed.ne_str_int (qal I q (by simp))
  | str j=>obtain ⟨t',rfl⟩:=ry;exact ne_str (qal I q (congrArg not qgU))
  | _=>exact absurd (show false=true from hs) Bool.false_ne_true
 | byt i=>
  obtain ⟨t,rfl⟩:=rx
  cases y with
  | byt j=>obtain ⟨t',rfl⟩:=ry;exact PySem.W.ne_bytes (qal I q (congrArg not qgW))
  | _=>exact absurd (show false=true from hs) Bool.false_ne_true
 | _=>cases y<;>exact absurd (show false=true from hs) Bool.false_ne_true
theorem op_lt:OpR X (compareOp .Lt) (rI0 fun i j=>.bl (decide (i < j))):=qmC fun _ _ _ _ _ _ _ q=>lt_int q
theorem op_le:OpR X (compareOp .LtE) (rI0 fun i j=>.bl (decide (i<=j))):=qmC fun _ _ _ _ _ _ _ q=>le_int q
theorem op_gt:OpR X (compareOp .Gt) (rI0 fun i j=>.bl (decide (j < i))):=qmC fun _ _ _ _ _ _ _ q=>gt_int q
theorem op_ge:OpR X (compareOp .GtE) (rI0 fun i j=>.bl (decide (j<=i))):=qmC fun _ _ _ _ _ _ _ q=>ge_int q
theorem op_isN:OpR X (compareOp .Is) (fun x y H Q=>y = .non/\Q (.bl (decide (x = .non))) H):=by
 intro pins s σ H x y v u Q I rx ry h
 obtain ⟨rfl,q⟩:=h
 cases ry
 refine is_none_gen (qal I q ?_)
 cases x<;>first
  | (cases rx;rfl)
  | (obtain ⟨t,rfl⟩:=rx;rfl)
theorem op_notN:OpR X (compareOp .IsNot) (fun x y H Q=>y = .non/\Q (.bl (!decide (x = .non))) H):=by
 intro pins s σ H x y v u Q I rx ry h
 obtain ⟨rfl,q⟩:=h
 cases ry
 refine isnot_none_gen (qal I q ?_)
 cases x<;>first
  | (cases rx;rfl)
  | (obtain ⟨t,rfl⟩:=rx;rfl)
theorem OpR.or {f:Value->Value->Sem Value} {r r':R2} (h:OpR X f r) (h':OpR X f r'):OpR X f (fun x y H Q=>r x y H Q\/r' x y H Q):=by
 intro pins s σ H x y v u Q I rx ry q
 rcases q with q | q
 ·exact h pins s σ H x y v u Q I rx ry q
 ·exact h' pins s σ H x y v u Q I rx ry q
theorem qix (b:Expr) {op:CmpOp} (h:op≠.In:=by decide) (h2:op≠.NotIn:=by decide):behindInMarks op b=false:=by
 have e1:(op == CmpOp.In)=false:=by cases op<;>first | rfl | exact absurd rfl h
 have e2:(op == CmpOp.NotIn)=false:=by cases op<;>first | rfl | exact absurd rfl h2
 cases b<;>simp [behindInMarks,e1,e2]
theorem qjD {op:CmpOp} {r:R2} (ho:OpR X (compareOp op) r) (ha:PE X a ta) (hb:PE X b tb) (hm:behindInMarks op b=false):PE X (.Compare a [op] [b] pos) (tOp r ta tb):=by
 intro pins s σ H Q I h
 exact wpAny_Compare1 (qnF ha hb I h fun v u s2 x y H2 I2 rx ry q=>ho pins s2 σ H2 x y v u Q I2 rx ry q) hm
def qov (K:PySem.W.Frag) (x:V) (H:Hp) (k:Bool):Prop:=
 match x with
 | .non=>k=false
 | .bl b=>k=b
 | .int i=>k=(i != 0)
 | .str y=>y.length<=sizeLine/\k=((y.length:Int) != 0)
 | .byt y=>y.size<=sizeLine/\k=((y.size:Int) != 0)
 | .ref p=>(∃ xs,SqL K H p xs/\k=!xs.isEmpty)\/(∃ xs,SqT K H p xs/\k=!xs.isEmpty)\/∃ kvs,H p=some (.dK kvs)/\k=!kvs.isEmpty
 | _=>False
theorem qfl {κ:Type} {kvs:List (κ×V)} {vs:List (κ×Value)} (r:KV kvs vs):(!vs.isEmpty)=!kvs.isEmpty:=by
 cases r<;>rfl
theorem qcu {xs:List V} {its:List Value} (r:Vals xs its):(!its.toArray.isEmpty)=!xs.isEmpty:=by
 cases r<;>simp
theorem qcb:(sizeLine:Nat) < 2 ^ 63:=by rw [sizeLine_eq];decide
theorem qfA:qow X (fun x H Q=>∃ k,qov X.K x H k/\Q k H):=by
 intro pins s σ H x v Q I rx h
 obtain ⟨k,e,q⟩:=h
 have hl:=qcb
 have hs:sizeLine=16777216:=sizeLine_eq
 cases x with
 | non=>
  cases rx
  have e':k=false:=e
  subst e'
  exact truthy_none ⟨H,I,q⟩
 | bl b=>
  cases rx
  have e':k=b:=e
  subst e'
  exact wpAny_truthy_bool ⟨H,I,q⟩
 | int i=>
  obtain ⟨t,rfl⟩:=rx
  have e':k=(i != 0):=e
  subst e'
  exact PySem.P.truthy_int ⟨H,I,q⟩
 | str y=>
  obtain ⟨t,rfl⟩:=rx
  obtain ⟨hy,e'⟩ : y.length<=sizeLine/\k=((y.length:Int) != 0):=e
  subst e'
  exact PySem.P.truthy_str (by omega) ⟨H,I.tok _,q⟩
 | byt y=>
  obtain ⟨t,rfl⟩:=rx
  obtain ⟨hy,e'⟩ : y.size<=sizeLine/\k=((y.size:Int) != 0):=e
  subst e'
  exact PySem.W.truthy_bytes (by omega) ⟨H,I.tok _,q⟩
 | ref p=>
  cases rx
  have e':(∃ xs,SqL X.K H p xs/\k=!xs.isEmpty)\/(∃ xs,SqT X.K H p xs/\k=!xs.isEmpty)\/∃ kvs,H p=some (.dK kvs)/\k=!kvs.isEmpty:=e
  rcases e' with ⟨xs,hx,e'⟩ | ⟨xs,hx,e'⟩ | ⟨kvs,hx,e'⟩
  ·subst e'
   obtain ⟨its,r,pl,hz⟩:=I.list hx
   have hlen:=r.length
   exact wpAny_truthy_list pl.isList (by simp only [List.size_toArray];omega) ⟨H,I.tok _,by rw [qcu r];exact q⟩
  ·subst e'
   obtain ⟨its,r,pl,hz⟩:=I.tuple hx
   have hlen:=r.length
   exact truthy_tuple pl (by simp only [List.size_toArray];omega) ⟨H,I.tok _,by rw [qcu r];exact q⟩
  ·subst e'
   obtain ⟨hz,hS,vs,r,m⟩ : kvs.length<=sizeLine/\(p == sysModules)=false/\∃ vs,KV kvs vs/\s.heap.DictOf (qat X.prog X.w) p vs:=I.hok p _ hx
   have hlen:kvs.length=vs.length:=Paired.length r
   exact wpAny_truthy_dict hS m (by omega) ⟨H,I.tok _,by rw [qfl r];exact q⟩
 | _=>exact (show False from e).elim
theorem op_add_str:OpR X (binaryOp .Add) (fun x y H Q=>∃ i j,x = .str i/\y = .str j/\i.length+j.length<=sizeLine/\Q (.str (i++j)) H):=by
 intro pins s σ H x y v u Q I rx ry h
 obtain ⟨i,j,rfl,rfl,hz,q⟩:=h
 obtain ⟨t,rfl⟩:=rx
 obtain ⟨t',rfl⟩:=ry
 exact add_str (fun t' tk=>⟨.str (i++j),H,I.tok _,⟨_,rfl⟩,q⟩) hz
theorem qaP {x:V} {us:List Value} (r:Vals [x] us):∃ u,us=[u]/\RelV x u:=by
 cases r with
 | cons r1 r2=>cases r2;exact ⟨_,rfl,r1⟩
theorem qe2 {x y:V} {us:List Value} (r:Vals [x,y] us):∃ u w',us=[u,w']/\RelV x u/\RelV y w':=by
 cases r with
 | cons r1 r2=>
  cases r2 with
  | cons r3 r4=>cases r4;exact ⟨_,_,rfl,r1,r3⟩
theorem qg4 (hc:X.calm=true):CallR X (.builtin "max") (fun xs H Q=>∃ i j,xs=[.int i,.int j]/\Q (.int (if j > i then j else i)) H):=by
 intro pins s σ H xs us Q I r h
 obtain ⟨i,j,rfl,q⟩:=h
 obtain ⟨u,w',rfl,⟨t,rfl⟩,⟨t',rfl⟩⟩:=qe2 r
 refine max_two_ints (I.ok.hd hc) fun h' tk k=>⟨_,H,I.kept k,?_,q⟩
 by_cases hj:j > i
 ·rw [if_pos hj,if_pos hj];exact ⟨_,rfl⟩
 ·rw [if_neg hj,if_neg hj];exact ⟨_,rfl⟩
theorem qg2 (hc:X.calm=true):CallR X (.builtin "min") (fun xs H Q=>∃ i j,xs=[.int i,.int j]/\Q (.int (if j < i then j else i)) H):=by
 intro pins s σ H xs us Q I r h
 obtain ⟨i,j,rfl,q⟩:=h
 obtain ⟨u,w',rfl,⟨t,rfl⟩,⟨t',rfl⟩⟩:=qe2 r
 refine min_two_ints (I.ok.hd hc) fun h' tk k=>⟨_,H,I.kept k,?_,q⟩
 by_cases hj:j < i
 ·rw [if_pos hj,if_pos hj];exact ⟨_,rfl⟩
 ·rw [if_neg hj,if_neg hj];exact ⟨_,rfl⟩
theorem call_int1:CallR X (.type "int") (fun xs H Q=>(∃ i,xs=[.int i]/\Q (.int i) H)\/∃ k,xs=[.bl k]/\Q (.int (if k then 1 else 0)) H):=by
 intro pins s σ H xs us Q I r h
 rcases h with ⟨i,rfl,q⟩ | ⟨k,rfl,q⟩
 ·obtain ⟨u,rfl,t,rfl⟩:=qaP r
  exact call_int_int ⟨.int i,H,I,⟨_,rfl⟩,q⟩
 ·obtain ⟨u,rfl,r1⟩:=qaP r
  cases r1
  exact call_int_bool ⟨.int (if k then 1 else 0),H,I.tok _,⟨_,rfl⟩,q⟩
end
end L2
namespace L2
open PySem PySem.Spec PyProof.Rows
section
variable {prog:Program} {w:World} {A:Around} {E:Value->Shared->Prop} {s:Shared} {K:PySem.W.Frag} {x dx C f:Addr} {mA:Str->Option Value} {name:Str} {v:Value}
end
def qco (f:Str) (v:V):List (Str×V)->List (Str×V)
 | []=>[(f,v)]
 | (g,x) :: r=>if g=f then (g,v) :: r else (g,x) :: qco f v r
theorem RelO.some_of {v:V} {o:Option Value} (r:RelO (some v) o):∃ u,o=some u/\RelV v u:=by
 cases o with
 | none=>exact (show False from r).elim
 | some u=>exact ⟨u,rfl,r⟩
section
variable {P:Program} {w:World} {H H':Hp} {h h':Heap} {a C dx:Addr} {fs fs':List (Str×V)}
end
section
variable {X:Cx} {pins:List (Addr×Obj)} {σ:St} {H:Hp} {s:Shared} {a C dx:Addr} {fs:List (Str×V)} {f:Str} {v:V} {A:Around} {E:Value->Shared->Prop}
theorem Inv.made (I:Inv X pins σ H s):Inv X pins σ (upd (upd H s.heap.objs.size (.own (s.heap.objs.size+1))) (s.heap.objs.size+1) (.ins C s.heap.objs.size []))
  { s with heap:=(s.heap.push PySem.W.emptyDict).push (PySem.W.instObj C s.heap.objs.size) }:=by
 have e1:(s.heap.push PySem.W.emptyDict).get? s.heap.objs.size=some PySem.W.emptyDict:=Heap.get?_push_size s.heap rfl
 have e2:((s.heap.push PySem.W.emptyDict).push (PySem.W.instObj C s.heap.objs.size)).get? (s.heap.objs.size+1)=some (PySem.W.instObj C s.heap.objs.size):=by
  have:=Heap.get?_push_size (s.heap.push PySem.W.emptyDict) (o:=PySem.W.instObj C s.heap.objs.size) rfl
  rwa [Heap.size_push] at this
 have e3:(s.heap.push PySem.W.emptyDict).Ns s.heap.objs.size (fun _=>none):=⟨PySem.W.emptyDict,#[],_,e1,rfl,(fun e he=>absurd he (by simp)),fun _=>rfl⟩
 have I1:=I.laid (a:=s.heap.objs.size) (o:=.own (s.heap.objs.size+1)) (h':=s.heap.push PySem.W.emptyDict) (t':=s.toks) (fun b u q=>Heap.get?_push_of_some _ q) (Nat.le_refl _) ⟨_,e1⟩
 refine I1.laid (a:=s.heap.objs.size+1) (o:=.ins C s.heap.objs.size []) (t':=s.toks) (fun b u q=>Heap.get?_push_of_some _ q) (Nat.le_of_eq (Heap.size_push _ _)) ?_
 have ne:s.heap.objs.size≠s.heap.objs.size+1:=Nat.ne_of_lt (Nat.lt_succ_self _)
 refine ⟨by rw [qab ne,qaa],Nat.zero_le _,ne,e2,fun _=>none,(Heap.Ns1.of_empty e3).at fun o q=>Heap.get?_push_of_some _ q,fun _=>True.intro,fun y hy=>absurd rfl hy⟩
end
section
variable {X:Cx} {o e value:Expr} {f:Str} {pos pos' tpos:Pos} {ta tv:TE}
end
section
variable {X:Cx} {pins:List (Addr×Obj)} {σ:St} {H:Hp} {s:Shared} {A:Around} {E:Value->Shared->Prop} {Q:Value->Shared->Prop} {c:Value} {b:Bool}
end
end L2
namespace L2
open PySem PySem.Spec PyProof.Rows
structure Room (k:Nat) (A:Around):Prop where
 hd:A.handled=none
 dp:A.depth+3 * k+5 < recursionLimit
 un:A.units+16 * k+200 < cLine
theorem Room.mono {j k:Nat} {A:Around} (r:Room k A) (h:j<=k):Room j A:=⟨r.hd,by have:=r.dp;omega,by have:=r.un;omega⟩
theorem Room.deeper {k:Nat} {A:Around} (r:Room (k+1) A) (env:Env):Room k (A.deeper env):=
 ⟨r.hd,by have:=r.dp;show A.depth+1+3 * k+5 < _;omega,by have:=r.un;show A.units+3+16 * k+200 < _;omega⟩
theorem Room.in1 {k:Nat} {A:Around} (r:Room (k+1) A):Room k A.in1:=
 ⟨r.hd,by have:=r.dp;show A.depth+3 * k+5 < _;omega,by have:=r.un;show A.units+1+16 * k+200 < _;omega⟩
theorem Room.depth {k:Nat} {A:Around} (r:Room k A):A.depth < recursionLimit:=by have:=r.dp;omega
theorem Room.units {k:Nat} {A:Around} (r:Room k A):A.units+64 < cLine:=by have:=r.un;omega
def qmO:TA:=fun _ H Q=>Q [] H
def qkL (ta:TE) (tr:TA):TA:=fun σ H Q=>ta σ H fun x H1=>tr σ H1 fun xs H2=>Q (x :: xs) H2
section
variable {X:Cx} {e:Expr} {es:List Expr} {te:TE} {t:TA} {pos:Pos}
theorem qlw:PA X [] qmO:=fun _ _ _ _ H Q I h=>Calls.spliced_nil ⟨[],H,I,.nil,h⟩
theorem qjH (ha:PE X e te) (hr:PA X es t) (hs:starEach (e :: es) X.env=(false,eval e X.env) :: starEach es X.env:=by rfl):PA X (e :: es) (qkL te t):=by
 intro pos pins s σ H Q I h
 rw [hs]
 show wpAny _ _ (spliced ((false,eval e X.env) :: backTo pos (starEach es X.env))) _ _ s
 refine Calls.spliced_cons (thn (ha pins s σ H _ I h) fun u s1 ⟨x,H1,I1,r1,q1⟩=>?_)
 exact thn (hr pos pins s1 σ H1 _ I1 q1) fun us s2 ⟨xs,H2,I2,r2,q2⟩=>⟨x :: xs,H2,I2,.cons r1 r2,q2⟩
def qn4 (t:TA):TE:=fun σ H Q=>t σ H fun xs H1=>xs.length<=sizeLine/\∀ p,H1 p=none->Q (.ref p) (upd H1 p (.tup xs))
def qn8 (t:TA):TE:=fun σ H Q=>t σ H fun xs H1=>xs.length<=sizeLine/\∀ p,H1 p=none->Q (.ref p) (upd H1 p (.lst xs))
theorem qlj {x1} (h:PA X es t):PE X (.Tuple es x1 pos) (qn4 t):=by
 intro pins s σ H Q I hq
 refine wpAny_Tuple_spliced (thn (h pos pins s σ H _ I hq) fun us s1 ⟨xs,H1,I1,r,z,q⟩=>⟨by rw [<-r.length];exact z,?_⟩)
 have hf:H1 s1.heap.objs.size=none:=I1.hok.fresh (Nat.le_refl _)
 refine ⟨.ref s1.heap.objs.size,upd H1 s1.heap.objs.size (.tup xs),I1.laid (t':=s1.toks) (fun b u e=>Heap.get?_push_of_some _ e) (Nat.le_refl _) ?_,rfl,q _ hf⟩
 exact ⟨z,us,r,⟨_,Heap.get?_push_size _ rfl,rfl,_,rfl⟩⟩
theorem qlq (h:PA X es t):PE X (.List es pos) (qn8 t):=by
 intro pins s σ H Q I hq
 refine wpAny_List_spliced (thn (h pos pins s σ H _ I hq) fun us s1 ⟨xs,H1,I1,r,z,q⟩=>⟨by rw [<-r.length];exact z,?_⟩)
 have hf:H1 s1.heap.objs.size=none:=I1.hok.fresh (Nat.le_refl _)
 refine ⟨.ref s1.heap.objs.size,upd H1 s1.heap.objs.size (.lst xs),I1.laid (t':=s1.toks) (fun b u e=>Heap.get?_push_of_some _ e) (Nat.le_refl _) ?_,rfl,q _ hf⟩
 exact ⟨z,us,0,r,Heap.get?_push_size _ rfl⟩
end
abbrev Sp:=List V->Hp->VK->XK->Prop
abbrev CXT:=List Env->Hp->Shared->XK->Value->Shared->Prop
structure Env0 (P:Program) (w:World) (K:PySem.W.Frag) (mg:Str->Option Value) (base:Heap) (A:Around) (outer:List Env) (s:Shared) (H:Hp):Prop where
 frames:A.frames=some outer
 mod:Mod K mg base
 bs:∀ b o,base.get? b=some o->s.heap.get? b=some o/\H b=none
 bsz:base.objs.size<=s.heap.objs.size
 funs:s.heap.FunFrames base outer
 frf:∀ b∈frs outer,H b=none
 hok:HOk P w H s.heap
 bare:AllBare s.gens
def CE (outer:List Env) (P:Program) (w:World) (H:Hp) (s:Shared) (Q:VK) (u:Value) (s':Shared):Prop:=
 ∃ v H',s'.os=s.os/\AllBare s'.gens/\Un (frs outer) [] H H' s.heap s'.heap/\HOk P w H' s'.heap/\RelV v u/\Q v H'
def CR (CX:CXT) (outer:List Env) (P:Program) (w:World) (H:Hp) (s:Shared) (Q:VK) (E:XK) (r:Result) (s':Shared):Prop:=
 match r with
 | .ok (.ret u)=>CE outer P w H s Q u s'
 | .ok _=>False
 | .error e=>CX outer H s E e s'
structure FnOk (P:Program) (w:World) (K:PySem.W.Frag) (mg:Str->Option Value) (base:Heap) (CX:CXT) (k:Nat) (f:Addr) (fd:FuncData) (ps:List Str) (sp:Sp):Prop where
 len:∀ vs H Q E,sp vs H Q E->vs.length=ps.length
 run:∀ (A:Around) (outer:List Env) (s:Shared) (H:Hp) (args:Args) (us:List Value) (vs:List V) (Q:VK) (E:XK),Room k A->Env0 P w K mg base A outer s H->BindsTo s fd args (ps.zip us)->Vals vs us->sp vs H Q E →
  codeAny (model P w) A (.call (.ref f) args) (CR CX outer P w H s Q E) s
theorem FnOk.mono {P:Program} {w:World} {K:PySem.W.Frag} {mg:Str->Option Value} {base:Heap} {CX:CXT} {j k:Nat} {f:Addr} {fd:FuncData} {ps:List Str} {sp:Sp} (F:FnOk P w K mg base CX j f fd ps sp) (h:j<=k) :
  FnOk P w K mg base CX k f fd ps sp:=⟨F.len,fun A outer s H args us vs Q E hr=>F.run A outer s H args us vs Q E (hr.mono h)⟩
theorem FnOk.imp {P:Program} {w:World} {K:PySem.W.Frag} {mg:Str->Option Value} {base:Heap} {CX:CXT} {k:Nat} {f:Addr} {fd:FuncData} {ps:List Str} {sp sp':Sp} (F:FnOk P w K mg base CX k f fd ps sp)
  (h:∀ vs H Q E,sp' vs H Q E->sp vs H Q E):FnOk P w K mg base CX k f fd ps sp':=
 ⟨fun vs H Q E q=>F.len vs H Q E (h _ _ _ _ q),fun A outer s H args us vs Q E hr he hb hv hs=>F.run A outer s H args us vs Q E hr he hb hv (h _ _ _ _ hs)⟩
theorem Env0.in1 {P:Program} {w:World} {K:PySem.W.Frag} {mg:Str->Option Value} {base:Heap} {A:Around} {outer:List Env} {s:Shared} {H:Hp} (e:Env0 P w K mg base A outer s H) :
  Env0 P w K mg base A.in1 outer s H:=⟨e.frames,e.mod,e.bs,e.bsz,e.funs,e.frf,e.hok,e.bare⟩
section
variable {X:Cx} {pins:List (Addr×Obj)} {σ:St} {H:Hp} {s s':Shared}
theorem Inv.env0 (I:Inv X pins σ H s):Env0 X.prog X.w X.K X.mg X.base X.A X.stack s H:=
 ⟨I.ok.frames,I.ok.mod,I.bs,Nat.le_trans I.ok.bsz I.sz,I.stack,I.stkFree,I.hok,I.bare⟩
theorem Inv.after {Q:VK} {u:Value} (I:Inv X pins σ H s) (h:CE X.stack X.prog X.w H s Q u s'):EP X pins σ Q u s':=by
 obtain ⟨v,H',os,bare,un,hok,r,q⟩:=h
 obtain ⟨hh,g,d,t,os'⟩:=s'
 obtain rfl:os'=s.os:=os
 exact ⟨v,H',I.call (h':=hh) (g':=g) (d':=d) (t':=t) (ch:=[]) un hok bare (fun b z=>absurd z (by simp)),r,q⟩
end
def qiU (sp:Sp) (dvs:List V) (E:XK) (t:TA):TE:=fun σ H Q=>t σ H fun vs H1=>sp (vs++dvs) H1 Q E
def Binds (K:PySem.W.Frag) (fd:FuncData) (ps:List Str) (ds:List Value):Prop:=
 ∀ (s:Shared) (us:List Value),K.In s.heap->(us++ds).length=ps.length->BindsTo s fd ⟨us,[]⟩ (ps.zip (us++ds))
theorem Binds.all {K:PySem.W.Frag} {fd:FuncData} {ps:List Str} (h:∀ us:List Value,us.length=ps.length->bindArgs fd ⟨us,[]⟩=pure (ps.zip us)):Binds K fd ps []:=fun s us _ hl=>by
 rw [List.append_nil] at hl ⊢
 exact .of_eq (h us hl)
def qhd (CX:CXT) (X:Cx) (E:XK):Prop:=∀ (pins:List (Addr×Obj)) (σ:St) (H:Hp) (s:Shared) (e:Value) (s':Shared),Inv X pins σ H s->CX X.stack H s E e s'->X.xe e s'
section
variable {X:Cx} {CX:CXT} {k:Nat} {f C:Addr} {fd:FuncData} {ps:List Str} {sp:Sp} {dvs:List V} {ds:List Value} {E:XK} {x m:Str} {p pos apos:Pos} {e o:Expr} {es:List Expr} {ta:TE} {t:TA}
theorem qip {pins:List (Addr×Obj)} {σ:St} {H:Hp} {s:Shared} {Q:VK} {us:List Value} {vs:List V} (F:FnOk X.prog X.w X.K X.mg X.base CX k f fd ps sp) (hr:Room k X.A) (hb:Binds X.K fd ps ds) (hd:Vals dvs ds) (hx:qhd CX X E)
  (I:Inv X pins σ H s) (r:Vals vs us) (h:sp (vs++dvs) H Q E):wpAny (model X.prog X.w) X.A (call (.ref f) us) (EP X pins σ Q) X.xe s:=by
 have r2:Vals (vs++dvs) (us++ds):=r.append hd
 have hl:(us++ds).length=ps.length:=by rw [<-r2.length];exact F.len _ _ _ _ h
 refine wpAny_call (codeAny_mono (F.run X.A X.stack s H ⟨us,[]⟩ (us++ds) (vs++dvs) Q E hr I.env0 (hb s us I.kIn hl) r2 h) fun r s' hq=>?_)
 cases r with
 | error e=>exact hx pins σ H s e s' I hq
 | ok fl=>
  cases fl with
  | ret u=>exact I.after hq
  | next=>exact False.elim hq
  | brk=>exact False.elim hq
  | cont=>exact False.elim hq
theorem qjE (F:FnOk X.prog X.w X.K X.mg X.base CX k f fd ps sp) (hr:Room k X.A) (hg:Gl X x) (hm:X.mg x=some (.ref f)) (hk:PySem.W.keepIn X.K (.ref f)=true) (hb:Binds X.K fd ps ds) (hd:Vals dvs ds) (hx:qhd CX X E)
  (ha:PA X (e :: es) t) (hdb:(x == ("__debug__" : Str))=false:=by decide) (he:starEach (e :: es) X.env=(false,eval e X.env) :: starEach es X.env:=by rfl) (hpl:(backTo pos (starEach es X.env)).any (·.1)=false:=by rfl) :
  PE X (.Call (.Name x p) (e :: es) [] pos) (qiU sp dvs E t):=by
 intro pins s σ H Q I h
 refine wpAny_Call_Name_kw (qgy I hg hm ?_ hdb)
 refine PySem.W.callWith_K (h₀:=X.base) I.ok.mod.kin hk (thn (ha pos pins s σ H _ I h) fun us s1 ⟨vs,H1,I1,r,q⟩=>⟨I1.kIn,?_⟩) he hpl
 exact qip F hr hb hd hx I1 r q
end
section
variable {X:Cx} {CX:CXT} {k:Nat} {f C:Addr} {fd:FuncData} {ps ks:List Str} {sp:Sp} {E:XK} {x m:Str} {p pos apos kpos:Pos} {e o:Expr} {es:List Expr} {kws:List Keyword} {te ta:TE} {t tk:TA} {nm:Option Str}
variable {g:List Value->List Value->List Value} {gV:List V->List V->List V}
end
structure FnScope (N P:List Str) (sc:Scope):Prop where
 kind:sc.kind = .function
 co:sc.isCoroutine=false
 gen:sc.isGenerator=false
 nd:N.Nodup
 pre:N.take P.length=P
 par:∀ x∈P,sc.names.lookup x=some .local\/sc.names.lookup x=some .cell
 nofree:∀ y∈sc.names,y.2≠.free
theorem qdN {kindOf:Str->Option NameKind} {x:Str}:∀ {binds:List (Str×Value)} {m:Str->Option Value},(∀ v,(x,v) ∉ binds)->bindL kindOf binds m x=m x
 | [],_,_=>rfl
 | (n,v) :: r,m,h=>by
  unfold bindL
  rw [qdN fun w hw=>h w (mC_ _ hw)]
  split
  ·have:x≠n:=by rintro rfl;exact h v List.mem_cons_self
   simp [this]
  ·rfl
theorem qdP {kindOf:Str->Option NameKind} {x:Str}:∀ {binds:List (Str×Value)} {m:Str->Option Value},(∀ v,(x,v) ∉ binds)->bindC kindOf binds m x=m x
 | [],_,_=>rfl
 | (n,v) :: r,m,h=>by
  unfold bindC
  rw [qdP fun w hw=>h w (mC_ _ hw)]
  split
  ·rfl
  ·have:x≠n:=by rintro rfl;exact h v List.mem_cons_self
   simp [this]
theorem qdO {kindOf:Str->Option NameKind} {x:Str} {v:Value}:∀ {P:List Str} {vs:List Value} {i:Nat} {m:Str->Option Value},P.Nodup->P[i]? = some x->vs[i]? = some v->kindOf x=some .local →
  bindL kindOf (P.zip vs) m x=some v
 | [],_,_,_,_,h,_,_=>by simp at h
 | _ :: _,[],_,_,_,_,h,_=>by simp at h
 | p :: P,w :: vs,0,m,nd,h1,h2,hk=>by
  simp at h1 h2;subst h1;subst h2
  show bindL kindOf ((p,w) :: P.zip vs) m p=_
  unfold bindL
  rw [qdN fun v hv=>(List.nodup_cons.mp nd).1 (List.of_mem_zip hv).1,if_pos hk]
  simp
 | p :: P,w :: vs,i+1,m,nd,h1,h2,hk=>by
  show bindL kindOf ((p,w) :: P.zip vs) m x=_
  unfold bindL
  exact qdO (i:=i) (List.nodup_cons.mp nd).2 (by simpa using h1) (by simpa using h2) hk
theorem qdQ {kindOf:Str->Option NameKind} {x:Str} {v:Value}:∀ {P:List Str} {vs:List Value} {i:Nat} {m:Str->Option Value},P.Nodup->P[i]? = some x->vs[i]? = some v->kindOf x≠some .local →
  bindC kindOf (P.zip vs) m x=some v
 | [],_,_,_,_,h,_,_=>by simp at h
 | _ :: _,[],_,_,_,_,h,_=>by simp at h
 | p :: P,w :: vs,0,m,nd,h1,h2,hk=>by
  simp at h1 h2;subst h1;subst h2
  show bindC kindOf ((p,w) :: P.zip vs) m p=_
  unfold bindC
  rw [qdP fun v hv=>(List.nodup_cons.mp nd).1 (List.of_mem_zip hv).1,if_neg hk]
  simp
 | p :: P,w :: vs,i+1,m,nd,h1,h2,hk=>by
  show bindC kindOf ((p,w) :: P.zip vs) m x=_
  unfold bindC
  exact qdQ (i:=i) (List.nodup_cons.mp nd).2 (by simpa using h1) (by simpa using h2) hk
def start (N:List Str) (vs:List V):St:=vs.map some++List.replicate (N.length - vs.length) none
def qiL (CX:CXT) (P:Program) (w:World) (K:PySem.W.Frag) (mg:Str->Option Value) (base:Heap) (N:List Str) (qual:Str) (scope:Scope) (f:Addr) (cd:Value) (A:Around) (outer:List Env) (s:Shared) (H:Hp) (E:XK):Cx where
 prog:=P
 w:=w
 K:=K
 mg:=mg
 base:=base
 A:=A.deeper (envOfC qual scope s.heap.objs.size f cd)
 N:=N
 s₀:=s
 H₀:=H
 env:=envOfC qual scope s.heap.objs.size f cd
 outer:=outer
 stack:=envOfC qual scope s.heap.objs.size f cd :: outer
 ex:=[]
 calm:=true
 fn:=fun _=>true
 pn:=[]
 xe:=fun e s'=>wpAny (model P w) (A.deeper (envOfC qual scope s.heap.objs.size f cd)) (leaving (envOfC qual scope s.heap.objs.size f cd) e) (fun _ s''=>CX outer H s E e s'') (fun e' s''=>CX outer H s E e' s'') s'
theorem qe0 {sc:Scope} {n:Nat} {x:Str} (h:sc.names.lookup x=some .cell):∃ c,(cellsFrom n sc.names []).lookup x=some c:=by
 have q:=PySem.W.cellsFrom_some sc.names n [] (.inl h)
 exact Option.isSome_iff_exists.mp q
theorem qgG {CX:CXT} {P:Program} {w:World} {K:PySem.W.Frag} {mg:Str->Option Value} {base:Heap} {N ps:List Str} {qual:Str} {scope:Scope} {f:Addr} {cd:Value} {A:Around} {outer:List Env} {s s1:Shared} {H:Hp} {E:XK} {us:List Value} {vs:List V}
  (S:FnScope N ps scope) (hd:A.handled=none) (e0:Env0 P w K mg base A outer s H) (hl:vs.length=ps.length) (r:Vals vs us)
  (x:InCallC s s.heap.objs.size (bindL (envOfC qual scope s.heap.objs.size f cd).kindOf (ps.zip us) fun _=>none) (cellsFrom (s.heap.objs.size+1) scope.names []) (bindC (envOfC qual scope s.heap.objs.size f cd).kindOf (ps.zip us) fun _=>none) s1) :
  Inv (qiL CX P w K mg base N qual scope f cd A outer s H E) [] (start N vs) H s1:=by
 have hpl:ps.length<=N.length:=by have:=congrArg List.length S.pre;rw [List.length_take] at this;omega
 obtain ⟨h1,tk,rfl,hk⟩:=x.done
 have noA:∀ b:Addr,b ∉ (qiL CX P w K mg base N qual scope f cd A outer s H E).ex:=fun b z=>absurd (show b∈([]:List Addr) from z) (by simp)
 refine ⟨⟨e0.mod,S.kind,rfl,rfl,Nat.le_refl _,fun y z c h1 h2=>?_,fun y hy=>?_,fun y c _ h=>?_,fun _=>hd,Around.frames_deeper e0.frames,.inr ⟨rfl,rfl⟩,fun b z=>absurd z (noA b),e0.bs,e0.bsz,fun b _ _=>noA b,fun b z=>absurd z (noA b),e0.funs,e0.frf⟩,
  rfl,e0.bare,Un.kept hk,⟨_,x.toInCall.ns,fun i y v h1 h2 h3=>?_⟩,fun y c h=>⟨_,x.cell y c h⟩,e0.hok.fresh (Nat.le_refl _),fun y c h=>?_,fun p hp=>absurd (show p∈([]:List (Addr×Obj)) from hp) (by simp),e0.hok.kept hk,?_⟩
 ·exact name_of_addr x.apart (PySem.mem_of_lookup h1) (PySem.mem_of_lookup h2)
 ·have hy:scope.names.lookup y=some .cell\/scope.names.lookup y=some .free:=hy
  rcases hy with hy | hy
  ·exact qe0 hy
  ·exact absurd rfl (S.nofree _ (PySem.mem_of_lookup hy))
 ·exact Nat.le_of_lt (x.above y c (PySem.mem_of_lookup h))
 ·have hi:i < vs.length:=by
   unfold start at h2
   by_cases hi:i < vs.length
   ·exact hi
   ·rw [List.getElem?_append_right (by simpa using hi)] at h2
    rw [List.getElem?_replicate] at h2
    split at h2<;>cases h2
  have ha:vs[i]? = some v:=by
   unfold start at h2
   rw [List.getElem?_append_left (by simpa using hi),gM_] at h2
   cases e:vs[i]? with
   | none=>rw [e] at h2;cases h2
   | some a=>rw [e] at h2;cases h2;rfl
  obtain ⟨u,hu,rv⟩:=r.get ha
  have hp:ps[i]? = some y:=by
   rw [<-S.pre,List.getElem?_take_of_lt (by omega)];exact h1
  have ndP:ps.Nodup:=by rw [<-S.pre];exact S.nd.sublist (List.take_sublist _ _)
  refine ⟨u,rv,?_⟩
  rcases S.par y (mO_ hp) with k | k
  ·exact .inl ⟨k,qdO ndP hp hu k⟩
  ·obtain ⟨c,e⟩:=qe0 (n:=s.heap.objs.size+1) k
   refine .inr ⟨.inl k,c,e,?_⟩
   have q:=x.cell y c e
   rw [qdQ ndP hp hu (by show scope.names.lookup y≠_;rw [k];decide)] at q
   exact q
 ·exact e0.hok.fresh (Nat.le_of_lt (x.above y c (PySem.mem_of_lookup h)))
 ·unfold start
  show _=N.length
  rw [lA_,lM_,List.length_replicate]
  omega
theorem ql6 {CX:CXT} {P:Program} {w:World} {K:PySem.W.Frag} {mg:Str->Option Value} {base:Heap} {k:Nat} {f:Addr} {name qual:Str} {params:Arguments} {body:List Stmt} {scope:Scope} {dV kV doc pm cdv ct oc:Value} {an od:Option Addr}
  {osl:Array (Option Value)} {N ps:List Str} {sp:Sp} (lk:K.lookup f=some ⟨oc,od,.func (PySem.W.fnOf name qual params body scope dV kV doc pm an cdv ct),osl⟩) (hcd:PySem.W.codeIn K cdv qual=true) (S:FnScope N ps scope)
  (len:∀ vs H Q E,sp vs H Q E->vs.length=ps.length)
  (hbody:∀ (A:Around) (outer:List Env) (s:Shared) (H:Hp) (vs:List V) (Q:VK) (E:XK),Room k (A.deeper (envOfC qual scope s.heap.objs.size f cdv))->sp vs H Q E →
   ∃ t,PSs (qiL CX P w K mg base N qual scope f cdv A outer s H E) body t/\t { nx:=fun _ H'=>Q .non H',rt:=Q } (start N vs) H) :
  FnOk P w K mg base CX (k+1) f (PySem.W.fnOf name qual params body scope dV kV doc pm an cdv ct) ps sp:=by
 refine ⟨len,fun A outer s H args us vs Q E hr e0 hb r hsp=>?_⟩
 have hl:=len _ _ _ _ hsp
 have KX:K.In s.heap:=e0.mod.kin.keeps fun b o e=>(e0.bs b o e).1
 have lim:s.heap.NoLimit:=e0.mod.nolimit.keeps fun b o e=>(e0.bs b o e).1
 have hkind:∀ y∈ps.zip us,scope.names.lookup y.1=some .local\/(scope.names.lookup y.1=some .cell/\((cellsFrom (s.heap.objs.size+1) scope.names []).lookup y.1).isSome=true):=fun ⟨n,v⟩ hy=>by
  rcases S.par n (List.of_mem_zip hy).1 with q | q
  ·exact .inl q
  ·exact .inr ⟨q,PySem.W.cellsFrom_some _ _ _ (.inl q)⟩
 refine codeAny_call_function hr.depth (KX _ _ lk) rfl S.co S.gen rfl (PySem.W.codeRec_of KX hcd) (hb _ _ _ _ ?_)
 refine wpAny_newFunctionEnv_cells S.kind hkind fun env he s1 x=>?_
 subst he
 refine ⟨lim.keeps x.toInCall.keep,codeAny_func ?_⟩
 obtain ⟨t,ht,hq⟩:=hbody A outer s H vs Q E (hr.deeper _) hsp
 have I:Inv (qiL CX P w K mg base N qual scope f cdv A outer s H E) [] (start N vs) H s1:=qgG S hr.hd e0 hl r x
 refine wpAny_mono (ht [] s1 (start N vs) H _ I hq) (fun fl s' hs=>?_) fun e s' hs=>hs
 have fin:∀ {σ':St} {H':Hp} {v:V} {u:Value},Inv (qiL CX P w K mg base N qual scope f cdv A outer s H E) [] σ' H' s'->RelV v u->Q v H'->CE outer P w H s Q u s':=
  fun {σ' H' v u} J rv q=>⟨v,H',J.os,J.bare,J.base,J.hok,rv,q⟩
 cases fl with
 | ret u=>
  obtain ⟨v,σ',H',J,rv,q⟩:=hs
  exact fin J rv q
 | next=>
  obtain ⟨σ',H',J,q⟩:=hs
  exact fin (v:=V.non) (u:=Value.none) J rfl q
 | brk=>
  obtain ⟨_,_,_,q⟩:=hs
  exact False.elim q
 | cont=>
  obtain ⟨_,_,_,q⟩:=hs
  exact False.elim q
end L2
namespace L2
open PySem PySem.Spec PyProof.Rows
section
variable {X:Cx} {x:Str} {p pos:Pos} {e:Expr} {es:List Expr} {t:TA} {id T:String} {r:List V->Hp->VK->Prop}
def tCB (r:List V->Hp->VK->Prop) (t:TA):TE:=fun σ H Q=>t σ H fun vs H1=>r vs H1 Q
theorem qaE (hc:CallR X (.builtin id) r) (hg:Gl X x) (hm:X.mg x=none) (hv:bootBuiltins x=some (.builtin id)) (ha:PA X (e :: es) t) (hn:x≠"__name__" := by decide) (hdb:(x == ("__debug__" : Str))=false:=by decide)
  (he:starEach (e :: es) X.env=(false,eval e X.env) :: starEach es X.env:=by rfl) (hpl:(backTo pos (starEach es X.env)).any (·.1)=false:=by rfl):PE X (.Call (.Name x p) (e :: es) [] pos) (tCB r t):=by
 intro pins s σ H Q I h
 refine wpAny_Call_Name_kw (qa0 I hg hm hv ?_ hn hdb)
 exact PyProof.Rows.callWith_builtin1 (thn (ha pos pins s σ H _ I h) fun us s1 ⟨vs,H1,I1,r1,q1⟩=>hc pins s1 σ H1 vs us Q I1 r1 q1) he hpl
theorem qaW (hc:CallR X (.type T) r) (hg:Gl X x) (hm:X.mg x=none) (hv:bootBuiltins x=some (.type T)) (ha:PA X (e :: es) t) (hn:x≠"__name__" := by decide) (hdb:(x == ("__debug__" : Str))=false:=by decide)
  (he:starEach (e :: es) X.env=(false,eval e X.env) :: starEach es X.env:=by rfl) (hpl:(backTo pos (starEach es X.env)).any (·.1)=false:=by rfl):PE X (.Call (.Name x p) (e :: es) [] pos) (tCB r t):=by
 intro pins s σ H Q I h
 refine wpAny_Call_Name_kw (qa0 I hg hm hv ?_ hn hdb)
 exact PyProof.Rows.callWith_type1 (thn (ha pos pins s σ H _ I h) fun us s1 ⟨vs,H1,I1,r1,q1⟩=>hc pins s1 σ H1 vs us Q I1 r1 q1) he hpl
end
end L2
namespace HT
open PySem PyProof.Rows
section
open PySem.SeqAt
open PySem.AutoSeq1 (wpAny_loadPart')
open PySem.MeetsSeq PySem.MeetsSeq2 PySem.MeetsSeq3
end
section
variable {prog:Program} {w:World} {A:Around} {E:Value->Shared->Prop} {s:Shared}
def sIx (n d:Nat):Option Int->Nat
 | none=>d
 | some v=>if v < 0 then (v+(n:Int)).toNat else min v.toNat n
theorem sIx_none (n d:Nat):sIx n d none=d:=rfl
theorem sIx_nat (n d k:Nat):sIx n d (some (k:Int))=min k n:=by
 show (if (k:Int) < 0 then ((k:Int)+(n:Int)).toNat else min (k:Int).toNat n)=min k n
 rw [if_neg (by omega),Int.toNat_natCast]
end
end HT
namespace L2
open PySem PySem.Spec PyProof.Rows
abbrev TO:=St->Hp->(Option Int->Hp->Prop)->Prop
def PO (X:Cx) (e:Option Expr) (t:TO):Prop:=
 ∀ (pins:List (Addr×Obj)) (s:Shared) (σ:St) (H:Hp) (Q:Option Int->Hp->Prop),Inv X pins σ H s->t σ H Q →
  wpAny (model X.prog X.w) X.A (evalPart e X.env) (fun u s'=>∃ o H',Inv X pins σ H' s'/\IsPart u o/\Q o H') X.xe s
def qiS:TO:=fun _ H Q=>Q none H
section
variable {X:Cx} {e:Expr} {te:TE} {lo hi:Option Expr} {tl th:TO} {pos p2:Pos}
theorem qjt:PO X none qiS:=by
 intro pins s σ H Q I h
 rw [evalPart_none]
 exact wpAny_pure ⟨none,H,I,.none,h⟩
def SlR (X:Cx) (r:V->Option Int->Option Int->Hp->VK->Prop):Prop:=
 ∀ (pins:List (Addr×Obj)) (s:Shared) (σ:St) (H:Hp) (x:V) (v vl vu:Value) (lo hi:Option Int) (sl:Addr) (Q:VK),Inv X pins σ H s->RelV x v->s.heap.IsSliceOf sl vl vu .none->IsPart vl lo->IsPart vu hi->r x lo hi H Q →
  ∃ T id,typeLookup (.type T) "__getitem__" = pure (some (.builtin id))/\s.TypeIs v T/\wpAny (model X.prog X.w) X.A (getItem v (.ref sl)) (EP X pins σ Q) X.xe s
theorem SlR.or {r r':V->Option Int->Option Int->Hp->VK->Prop} (h:SlR X r) (h':SlR X r'):SlR X (fun x lo hi H Q=>r x lo hi H Q\/r' x lo hi H Q):=by
 intro pins s σ H x v vl vu lo hi sl Q I rx hs pl pu q
 rcases q with q | q
 ·exact h pins s σ H x v vl vu lo hi sl Q I rx hs pl pu q
 ·exact h' pins s σ H x v vl vu lo hi sl Q I rx hs pl pu q
def tSl (r:V->Option Int->Option Int->Hp->VK->Prop) (te:TE) (tl th:TO):TE:=fun σ H Q=>te σ H fun x H1=>tl σ H1 fun l H2=>th σ H2 fun u H3=>r x l u H3 Q
theorem qhA {r:V->Option Int->Option Int->Hp->VK->Prop} (hr:SlR X r) (he:PE X e te) (hl:PO X lo tl) (hu:PO X hi th):PE X (.Subscript e (.Slice lo hi none p2) pos) (tSl r te tl th):=by
 intro pins s σ H Q I h
 refine Subscript_ (thn (he pins s σ H _ I h) fun v s1 ⟨x,H1,I1,r1,q1⟩=>?_)
 refine wpAny_Slice (thn (hl pins s1 σ H1 _ I1 q1) fun vl s2 ⟨l,H2,I2,pl,q2⟩=>thn (hu pins s2 σ H2 _ I2 q2) fun vu s3 ⟨u,H3,I3,pu,q3⟩=>?_)
 rw [evalPart_none]
 refine wpAny_pure ?_
 have I4:Inv X pins σ H3 { s3 with heap:=s3.heap.push { cls:=.type "slice",data:=.fields #[vl,vu,.none] } }:=I3.kept (t':=s3.toks) fun b ob q=>Heap.get?_push_of_some _ q
 obtain ⟨T,id,hT,ht,hg⟩:=hr pins { s3 with heap:=s3.heap.push { cls:=.type "slice",data:=.fields #[vl,vu,.none] } } σ H3 x v vl vu l u s3.heap.objs.size Q I4 r1 (Heap.IsSliceOf.new ..) pl pu q3
 show wpAny (model X.prog X.w) X.A (subscriptTail e (.Slice lo hi none p2) v (.ref s3.heap.objs.size)) (EP X pins σ Q) X.xe { s3 with heap:=s3.heap.push { cls:=.type "slice",data:=.fields #[vl,vu,.none] } }
 exact tail_any (ops:=[.ref s3.heap.objs.size,v]) ht hT hg (by with_unfolding_all rfl)
def qdR (xs:List V) (lo hi:Option Int):List V:=(xs.drop (HT.sIx xs.length 0 lo)).take (HT.sIx xs.length xs.length hi - HT.sIx xs.length 0 lo)
theorem qer (xs:List V) (lo hi:Option Int):(qdR xs lo hi).length<=xs.length:=by
 unfold qdR
 rw [List.length_take,List.length_drop]
 omega
end
end L2
namespace L2
open PySem PySem.Spec PyProof.Rows
def ixN (n:Nat) (i:Int):Option Nat:=if 0<=i then (if i < n then some i.toNat else none) else if -(n:Int)<=i then some (i+n).toNat else none
def atI {α:Type} (xs:List α) (i:Int):Option α:=(ixN xs.length i).bind fun j=>xs[j]?
theorem qgF {n:Nat} {i:Int} {j:Nat} (h:ixN n i=some j):seqIndex? i n=some j/\j < n/\-(n:Int)<=i/\i < n:=by
 unfold ixN at h
 by_cases h0:0<=i
 ·rw [if_pos h0] at h
  by_cases h1:i < n
  ·rw [if_pos h1] at h
   have e:i.toNat=j:=oI_ h
   exact ⟨by rw [seqIndex_of h0 h1,e],by omega,by omega,h1⟩
  ·rw [if_neg h1] at h;cases h
 ·rw [if_neg h0] at h
  by_cases h1 : -(n:Int)<=i
  ·rw [if_pos h1] at h
   have e:(i+n).toNat=j:=oI_ h
   exact ⟨by rw [seqIndex_neg (by omega) h1,e],by omega,h1,by omega⟩
  ·rw [if_neg h1] at h;cases h
theorem qes {α:Type} {xs:List α} {i:Int} {v:α} (h:atI xs i=some v):∃ j,seqIndex? i xs.length=some j/\xs[j]? = some v/\j < xs.length/\-(xs.length:Int)<=i/\i < xs.length:=by
 unfold atI at h
 cases e:ixN xs.length i with
 | none=>rw [e] at h;cases h
 | some j=>
  rw [e] at h
  obtain ⟨h1,h2,h3,h4⟩:=qgF e
  exact ⟨j,h1,h,h2,h3,h4⟩
theorem qkt {α:Type} {xs:List α} {j:Nat} {v:α} (h:xs[j]? = some v):atI xs (j:Int)=some v:=by
 have hj:j < xs.length:=(gS_ h).1
 have e:ixN xs.length (j:Int)=some j:=by
  unfold ixN
  rw [if_pos (by omega),if_pos (by omega)];simp
 unfold atI;rw [e];exact h
theorem qe1 {α:Type} (xs:List α) (v:α):atI (xs++[v]) (-1)=some v:=by
 have hl:(xs++[v]).length=xs.length+1:=by simp
 have e:ixN (xs++[v]).length (-1)=some xs.length:=by
  unfold ixN
  rw [hl,if_neg (by decide),if_pos (by omega)]
  congr 1
  omega
 unfold atI
 rw [e]
 show (xs++[v])[xs.length]? = some v
 simp
def qkw (b:Expr):Prop:=∀ o i,subscripted b false o i=operate [o,i] (getItem o i)
def IxR (X:Cx) (r:R2):Prop:=
 ∀ (value slice:Expr) (pins:List (Addr×Obj)) (s:Shared) (σ:St) (H:Hp) (x y:V) (v u:Value) (Q:VK),Inv X pins σ H s->RelV x v->RelV y u->r x y H Q →
  subscripted slice false v u=operate [v,u] (getItem v u)->wpAny (model X.prog X.w) X.A (subscriptTail value slice v u) (EP X pins σ Q) X.xe s
section
variable {X:Cx} {a b:Expr} {ta tb:TE} {pos:Pos}
theorem IxR.or {r r':R2} (h:IxR X r) (h':IxR X r'):IxR X (fun x y H Q=>r x y H Q\/r' x y H Q):=by
 intro value slice pins s σ H x y v u Q I rx ry q hs
 rcases q with q | q
 ·exact h value slice pins s σ H x y v u Q I rx ry q hs
 ·exact h' value slice pins s σ H x y v u Q I rx ry q hs
theorem qjy {r:R2} (hr:IxR X r) (ha:PE X a ta) (hb:PE X b tb) (hs:qkw b):PE X (.Subscript a b pos) (tOp r ta tb):=by
 intro pins s σ H Q I h
 exact Subscript_ (qnF ha hb I h fun v u s2 x y H2 I2 rx ry q=>hr a b pins s2 σ H2 x y v u Q I2 rx ry q (hs _ _))
def qnV (K:PySem.W.Frag):R2:=fun x y H Q=>∃ p xs i v,x = .ref p/\y = .int i/\SqL K H p xs/\atI xs i=some v/\Q v H
def qnT (K:PySem.W.Frag):R2:=fun x y H Q=>∃ p xs i v,x = .ref p/\y = .int i/\SqT K H p xs/\atI xs i=some v/\Q v H
def qnU:R2:=fun x y H Q=>∃ z i c,x = .str z/\y = .int i/\z.length<=sizeLine/\atI z.cps.toList i=some c/\Q (.str ⟨#[c]⟩) H
theorem ix_list:IxR X (qnV X.K):=by
 intro value slice pins s σ H x y v u Q I rx ry h hs
 obtain ⟨p,xs,i,z,rfl,rfl,hq,he,q⟩:=h
 cases rx
 obtain ⟨t,rfl⟩:=ry
 obtain ⟨its,r,pl,hz⟩:=I.list hq
 obtain ⟨j,h1,h2,h3,h4,h5⟩:=qes he
 obtain ⟨w,ew,rw'⟩:=r.get h2
 have hl:=r.length
 have hn:=qcb
 have fin:EP X pins σ Q w s:=⟨z,H,I,rw',q⟩
 by_cases h0:0<=i
 ·have hj:i.toNat=j:=by
   rw [seqIndex_of h0 h5] at h1
   exact oI_ h1
  exact item_listR pl.isList h0 (by omega) (by rw [hj];simpa using ew) fin hs
 ·have hj:(i+(its.toArray.size:Int)).toNat=j:=by
   rw [seqIndex_neg (by omega) h4] at h1
   rw [List.size_toArray,<-hl]
   exact oI_ h1
  exact subscriptTail_builtinR (x:=w) pl.isList.typeIs slot_list_getitem.lookup
   (wpAny_getItem_list_neg (Q:=fun r s'=>r=w/\EP X pins σ Q r s') pl.isList (by omega) (by rw [List.size_toArray]<;>omega) (by omega) (by rw [hj];simpa using ew) ⟨rfl,fin⟩) hs
theorem ix_tup:IxR X (qnT X.K):=by
 intro value slice pins s σ H x y v u Q I rx ry h hs
 obtain ⟨p,xs,i,z,rfl,rfl,hq,he,q⟩:=h
 cases rx
 obtain ⟨t,rfl⟩:=ry
 obtain ⟨its,r,pl,hz⟩:=I.tuple hq
 obtain ⟨j,h1,h2,h3,h4,h5⟩:=qes he
 obtain ⟨w,ew,rw'⟩:=r.get h2
 have hl:=r.length
 have hn:=qcb
 have fin:EP X pins σ Q w s:=⟨z,H,I,rw',q⟩
 exact subscriptTail_builtinR (x:=w) pl.typeIs slot_tuple_getitem.lookup
  (getItem_tuple (j:=j) (Q:=fun r s'=>r=w/\EP X pins σ Q r s') pl (by omega) (by omega) (by rw [List.size_toArray,<-hl];exact h1) (by simpa using ew) ⟨rfl,fin⟩) hs
theorem qlV:IxR X qnU:=by
 intro value slice pins s σ H x y v u Q I rx ry h hs
 obtain ⟨z,i,c,rfl,rfl,hz,he,q⟩:=h
 obtain ⟨t,rfl⟩:=rx
 obtain ⟨t',rfl⟩:=ry
 obtain ⟨j,h1,h2,h3,h4,h5⟩:=qes he
 have hl:z.cps.toList.length=z.length:=by simp [Str.length]
 rw [hl] at h1 h4 h5
 have hn:=qcb
 exact tail_any (typeIs_str s z t) slot_str_getitem.lookup (getItem_str (c:=c) (by
  have e1:decide (i < -(2 ^ 63:Int))=false:=decide_eq_false (by omega)
  have e2:decide (i ≥ 2 ^ 63)=false:=decide_eq_false (by omega)
  rw [e1,e2,Bool.or_false]) (by rw [h1];simpa using h2) ⟨.str ⟨#[c]⟩,H,I.tok _,⟨_,rfl⟩,q⟩) hs
def rIx (K:PySem.W.Frag):R2:=fun x y H Q=>qnV K x y H Q\/qnT K x y H Q\/qnU x y H Q
theorem qlW:IxR X (rIx X.K):=ix_list.or (ix_tup.or qlV)
theorem qfh (its:List Value) (n j:Nat) (u:Value):Obj.mapSeq (·.setIfInBounds j u) { cls:=.type "list",data:=.seq its.toArray n }={ cls:=.type "list",data:=.seq (its.set j u).toArray n }:=by
 simp [Obj.mapSeq]
theorem Inv.lst {pins:List (Addr×Obj)} {σ:St} {H:Hp} {s:Shared} {p:Addr} {xs:List V} (I:Inv X pins σ H s) (h:H p=some (.lst xs)) :
  ∃ (its:List Value) (n:Nat),Vals xs its/\s.heap.get? p=some { cls:=.type "list",data:=.seq its.toArray n }/\xs.length<=sizeLine:=by
 obtain ⟨z,its,n,r,e⟩:=I.hok p _ h
 exact ⟨its,n,r,e,z⟩
theorem Inv.lstUpd {pins:List (Addr×Obj)} {σ:St} {H:Hp} {s:Shared} {p:Addr} {xs ys:List V} {its its':List Value} {n n':Nat} {f:Obj->Obj} (I:Inv X pins σ H s) (h:H p=some (.lst xs))
  (ho:s.heap.get? p=some { cls:=.type "list",data:=.seq its.toArray n }) (hf:f { cls:=.type "list",data:=.seq its.toArray n }={ cls:=.type "list",data:=.seq its'.toArray n' }) (r:Vals ys its') (hz:ys.length<=sizeLine) (t:Nat) :
  Inv X pins σ (upd H p (.lst ys)) { s with heap:=s.heap.update p f,toks:=t }:=by
 have e:(s.heap.update p f).get? p=some { cls:=.type "list",data:=.seq its'.toArray n' }:=by
  rw [Heap.get?_update_self f ho (by rw [hf]<;>rfl),hf]
 refine I.write (x:=p) (e:=p) (by rw [h];trivial) (.inl rfl) (fun b u hb q=>(Heap.get?_update_other _ _ (Ne.symm hb)).trans q) ⟨_,e⟩ ?_
 exact ⟨hz,its',n',r,e⟩
def qm1:V->V->V->Hp->(Hp->Prop)->Prop:=fun o i v H Q=>∃ p xs k j,o = .ref p/\i = .int k/\H p=some (.lst xs)/\ixN xs.length k=some j/\Q (upd H p (.lst (xs.set j v)))
theorem qhq:qmF X qm1:=by
 intro pins s σ H o i v ov iv u Q I ro ri rv h
 obtain ⟨p,xs,k,j,rfl,rfl,hp,hj,q⟩:=h
 cases ro
 obtain ⟨t,rfl⟩:=ri
 obtain ⟨its,n,r,ho,hz⟩:=I.lst hp
 obtain ⟨h1,h2,h3,h4⟩:=qgF hj
 have hl:=r.length
 have hn:=qcb
 have I':Inv X pins σ (upd H p (.lst (xs.set j v))) { s with heap:=s.heap.update p (Obj.mapSeq (·.setIfInBounds j u)) }:=
  I.lstUpd hp ho (qfh its n j u) (r.set rv j) (by rw [List.length_set];exact hz) s.toks
 by_cases h0:0<=k
 ·have hk:k.toNat=j:=by
   rw [seqIndex_of h0 h4] at h1
   exact oI_ h1
  exact PySem.W.ki_setAt ho h0 (by omega) (by rw [List.size_toArray,<-hl];exact h4) (by rw [hk];exact ⟨_,I',q⟩)
 ·have hk:(k+(its.toArray.size:Int)).toNat=j:=by
   rw [seqIndex_neg (by omega) h3] at h1
   rw [List.size_toArray,<-hl]
   exact oI_ h1
  exact PySem.W.ki_setBack ho (by omega) (by rw [List.size_toArray,<-hl];exact h3) (by omega) (by rw [hk];exact ⟨_,I',q⟩)
theorem qde (lo hi:Option Int) (n:Nat):(sliceBounds lo hi none n).1=((HT.sIx n 0 lo:Nat):Int)/\(sliceBounds lo hi none n).2.1=((HT.sIx n n hi:Nat):Int)/\(sliceBounds lo hi none n).2.2=1:=by
 refine ⟨?_,?_,rfl⟩
 ·cases lo with
  | none=>simp [sliceBounds,HT.sIx]
  | some i=>
   simp only [sliceBounds,HT.sIx,Option.getD_none,show (1:Int) > 0 by decide,if_true]
   by_cases h:i < 0
   ·simp only [h,if_true]<;>omega
   ·simp only [h,if_false]<;>omega
 ·cases hi with
  | none=>simp [sliceBounds,HT.sIx]
  | some i=>
   simp only [sliceBounds,HT.sIx,Option.getD_none,show (1:Int) > 0 by decide,if_true]
   by_cases h:i < 0
   ·simp only [h,if_true]<;>omega
   ·simp only [h,if_false]<;>omega
theorem qcJ (its:List Value) (lo hi:Option Int):slicePick its.toArray lo hi none=((its.drop (HT.sIx its.length 0 lo)).take (HT.sIx its.length its.length hi - HT.sIx its.length 0 lo)).toArray:=by
 obtain ⟨h1,h2,h3⟩:=qde lo hi its.toArray.size
 unfold slicePick
 rw [h1,h2,h3]
 simp only [sliceRange_one,pick_run,List.size_toArray]<;>rfl
def qod (K:PySem.W.Frag):V->Option Int->Option Int->Hp->VK->Prop:=fun x lo hi H Q=>∃ a xs,x = .ref a/\SqL K H a xs/\∀ p,H p=none->Q (.ref p) (upd H p (.lst (qdR xs lo hi)))
theorem sl_list:SlR X (qod X.K):=by
 intro pins s σ H x v vl vu lo hi sl Q I rx hs pl pu h
 obtain ⟨a,xs,rfl,hx,q⟩:=h
 cases rx
 obtain ⟨its,r,ht,hz⟩:=I.list hx
 have hlen:=r.length
 refine ⟨"list",_,slot_list_getitem.lookup,ht.isList.typeIs,?_⟩
 refine wpAny_getItem_list_slice ht.isList hs pl pu .none (by simp) ?_ (by rw [List.size_toArray]<;>omega)
 rw [qcJ,<-hlen]
 refine ⟨.ref s.heap.objs.size,_,I.laid (t':=s.toks) (o:=.lst (qdR xs lo hi)) (fun b ob q=>Heap.get?_push_of_some _ q) (Nat.le_refl _) ?_,rfl,q _ (I.hok.fresh (Nat.le_refl _))⟩
 exact ⟨Nat.le_trans (qer xs lo hi) hz,_,0,(r.drop (HT.sIx xs.length 0 lo)).take (HT.sIx xs.length xs.length hi - HT.sIx xs.length 0 lo),Heap.get?_push_size _ rfl⟩
def qcX:V->Bool
 | .non=>true
 | .bl _=>true
 | .int _=>true
 | .str _=>true
 | _=>false
def eqV:V->V->Bool
 | .non,.non=>true
 | .bl a,.bl b=>a == b
 | .bl a,.int b=>(if a then 1 else 0) == b
 | .int a,.bl b=>a == (if b then 1 else 0)
 | .int a,.int b=>a == b
 | .str a,.str b=>a == b
 | _,_=>false
theorem qme {A:Around} {s:Shared} {y x:V} {u v:Value} (ry:RelV y u) (rx:RelV x v) (fy:qcX y=true) (fx:qcX x=true):SeqAt.EqAt A s u v (eqV y x):=by
 cases y with
 | non=>
  cases ry
  cases x with
  | non=>cases rx;exact SeqAt.EqAt.same _
  | bl b=>cases rx;exact SeqAt.EqAt.none_bool b
  | int b=>obtain ⟨t,rfl⟩:=rx;exact SeqAt.EqAt.none_int b t
  | str b=>obtain ⟨t,rfl⟩:=rx;exact SeqAt.EqAt.none_str b t
  | _=>exact absurd (show false=true from fx) Bool.false_ne_true
 | bl a=>
  cases ry
  cases x with
  | non=>cases rx;exact SeqAt.EqAt.bool_none a
  | bl b=>cases rx;exact SeqAt.EqAt.bool_bool a b
  | int b=>obtain ⟨t,rfl⟩:=rx;exact SeqAt.EqAt.bool_int a b t
  | str b=>obtain ⟨t,rfl⟩:=rx;exact SeqAt.EqAt.bool_str a b t
  | _=>exact absurd (show false=true from fx) Bool.false_ne_true
 | int a=>
  obtain ⟨t',rfl⟩:=ry
  cases x with
  | non=>cases rx;exact SeqAt.EqAt.int_none a t'
  | bl b=>cases rx;exact SeqAt.EqAt.int_bool a t' b
  | int b=>obtain ⟨t,rfl⟩:=rx;exact SeqAt.EqAt.int_int a t' b t
  | str b=>obtain ⟨t,rfl⟩:=rx;exact SeqAt.EqAt.int_str a t' b t
  | _=>exact absurd (show false=true from fx) Bool.false_ne_true
 | str a=>
  obtain ⟨t',rfl⟩:=ry
  cases x with
  | non=>cases rx;exact SeqAt.EqAt.str_none a t'
  | bl b=>cases rx;exact SeqAt.EqAt.str_bool a t' b
  | int b=>obtain ⟨t,rfl⟩:=rx;exact SeqAt.EqAt.str_int a t' b t
  | str b=>obtain ⟨t,rfl⟩:=rx;exact SeqAt.EqAt.str_str a t' b t
  | _=>exact absurd (show false=true from fx) Bool.false_ne_true
 | _=>exact absurd (show false=true from fy) Bool.false_ne_true
def eqU (x:V) (u:Value):Bool:=match u with
 | .none=>eqV .non x
 | .bool b=>eqV (.bl b) x
 | .int i _=>eqV (.int i) x
 | .str z _=>eqV (.str z) x
 | _=>false
theorem qiI {x y:V} {u:Value} (r:RelV y u) (f:qcX y=true):eqU x u=eqV y x:=by
 cases y with
 | non=>cases r;rfl
 | bl b=>cases r;rfl
 | int i=>obtain ⟨t,rfl⟩:=r;rfl
 | str z=>obtain ⟨t,rfl⟩:=r;rfl
 | _=>exact absurd (show false=true from f) Bool.false_ne_true
theorem qet {x:V}:∀ {xs:List V} {us:List Value},Vals xs us->xs.all qcX=true->us.any (eqU x)=xs.any fun y=>eqV y x
 | _,_,.nil,_=>rfl
 | y :: xs,u :: us,.cons r t,f=>by
  rw [List.all_cons,Bool.and_eq_true] at f
  rw [List.any_cons,List.any_cons,qiI r f.1,qet t f.2]
theorem qcS {A:Around} {s:Shared} {x:V} {v:Value} (rx:RelV x v) (fx:qcX x=true):∀ {xs:List V} {us:List Value},Vals xs us->xs.all qcX=true->∀ u∈us,SeqAt.EqAt A s u v (eqU x u)
 | _,_,.nil,_=>fun u hu=>by cases hu
 | y :: xs,u :: us,.cons r t,f=>fun u' hu=>by
  rw [List.all_cons,Bool.and_eq_true] at f
  rcases List.mem_cons.mp hu with rfl | hu
  ·rw [qiI r f.1];exact qme r rx f.1 fx
  ·exact qcS rx fx t f.2 u' hu
def inV (x:V) (xs:List V):Bool:=xs.any fun y=>eqV y x
def rIn (K:PySem.W.Frag) (neg:Bool):R2:=fun x y H Q=>∃ p xs,y = .ref p/\(SqL K H p xs\/SqT K H p xs)/\qcX x=true/\xs.all qcX=true/\Q (.bl (if neg then !inV x xs else inV x xs)) H
theorem op_notIn_seq:OpR X (compareOp .NotIn) (rIn X.K true):=by
 intro pins s σ H x y v u Q I rx ry h
 obtain ⟨p,xs,rfl,hq,fx,fs,q⟩:=h
 cases ry
 rcases hq with hq | hq
 ·obtain ⟨its,r,pl,hz⟩:=I.list hq
  refine SeqAt.notIn_listAt (eqU x) pl.isList (fun w hw=>qcS rx fx r fs w (by simpa using hw)) ⟨.bl _,H,I,rfl,?_⟩
  rw [show its.toArray.any (eqU x)=its.any (eqU x) by simp,qet r fs]
  exact q
 ·obtain ⟨its,r,pl,hz⟩:=I.tuple hq
  refine SeqAt.notIn_tupleAt (eqU x) pl (fun w hw=>qcS rx fx r fs w (by simpa using hw)) ⟨.bl _,H,I,rfl,?_⟩
  rw [show its.toArray.any (eqU x)=its.any (eqU x) by simp,qet r fs]
  exact q
theorem call_len_seq:CallR X (.builtin "len") (fun xs H Q=>∃ p ys,xs=[.ref p]/\(SqL X.K H p ys\/SqT X.K H p ys)/\Q (.int ys.length) H):=by
 intro pins s σ H xs us Q I r h
 obtain ⟨p,ys,rfl,hq,q⟩:=h
 obtain ⟨u,rfl,rx⟩:=qaP r
 cases rx
 have hn:=qcb
 rcases hq with hq | hq
 ·obtain ⟨its,r',pl,hz⟩:=I.list hq
  have hlen:=r'.length
  exact Calls.call_len_list pl.isList (by simp only [List.size_toArray]<;>omega) ⟨.int ys.length,H,I.tok _,⟨s.toks+1,by rw [List.size_toArray,hlen]⟩,q⟩
 ·obtain ⟨its,r',pl,hz⟩:=I.tuple hq
  have hlen:=r'.length
  exact len_tuple pl (by simp only [List.size_toArray]<;>omega) ⟨.int ys.length,H,I.tok _,⟨s.toks+1,by rw [List.size_toArray,hlen]⟩,q⟩
theorem qdK:CallR X (.builtin "len") (fun xs H Q=>∃ z,xs=[.str z]/\z.length<=sizeLine/\Q (.int z.length) H):=by
 intro pins s σ H xs us Q I r h
 obtain ⟨z,rfl,hz,q⟩:=h
 obtain ⟨u,rfl,t,rfl⟩:=qaP r
 have hn:=qcb
 exact len_str (by omega) ⟨.int z.length,H,I.tok _,⟨_,rfl⟩,q⟩
theorem CallR.or {f:Value} {r r':List V->Hp->VK->Prop} (h:CallR X f r) (h':CallR X f r'):CallR X f (fun xs H Q=>r xs H Q\/r' xs H Q):=by
 intro pins s σ H xs us Q I rs q
 rcases q with q | q
 ·exact h pins s σ H xs us Q I rs q
 ·exact h' pins s σ H xs us Q I rs q
theorem call_list_of:CallR X (.type "list") (fun xs H Q=>∃ p ys,xs=[.ref p]/\(SqL X.K H p ys\/SqT X.K H p ys)/\∀ l,H l=none->Q (.ref l) (upd H l (.lst ys))):=by
 intro pins s σ H xs us Q I r h
 obtain ⟨p,ys,rfl,hq,q⟩:=h
 obtain ⟨u,rfl,rx⟩:=qaP r
 cases rx
 have fin:∀ (its:List Value),Vals ys its->ys.length<=sizeLine->∀ (h':Heap) (c':Nat),(∀ b o',s.heap.get? b=some o'->h'.get? b=some o') →
   h'.get? s.heap.objs.size=some { cls:=.type "list",dict:=none,data:=.seq its.toArray c',slots:=#[] }->EP X pins σ Q (.ref s.heap.objs.size) { s with heap:=h' }:=fun its r' hz h' c' kp e=>
  ⟨.ref s.heap.objs.size,_,I.laid (t':=s.toks) kp (Nat.le_refl _) (show ObjOk X.prog X.w _ h' _ (.lst ys) from ⟨hz,its,c',r',e⟩),rfl,q _ (I.hok.fresh (Nat.le_refl _))⟩
 rcases hq with hq | hq
 ·obtain ⟨its,r',pl,hz⟩:=I.list hq
  have hlen:=r'.length
  obtain ⟨o,ho,hc,n,hd⟩:=pl.isList
  exact call_list_seq p (.inl rfl) ho hc hd (fun h' c' kp e=>fin its r' hz h' c' kp e) (by simp only [List.size_toArray]<;>omega)
 ·obtain ⟨its,r',pl,hz⟩:=I.tuple hq
  have hlen:=r'.length
  obtain ⟨o,ho,hc,n,hd⟩:=pl
  exact call_list_seq p (.inr rfl) ho hc hd (fun h' c' kp e=>fin its r' hz h' c' kp e) (by simp only [List.size_toArray]<;>omega)
def tyV (K:PySem.W.Frag) (T:String) (x:V) (H:Hp):Prop:=match x with
 | .str _=>T = "str"
 | .int _=>T = "int"
 | .ref p=>(T = "list"/\∃ xs,SqL K H p xs)\/(T = "tuple"/\∃ o,K.lookup p=some o/\o.cls = .type "tuple"/\o.dict=none) ∨
   (T = "dict"/\((∃ kvs,H p=some (.dK kvs))\/∃ kvs,H p=some (.dT kvs)))\/(T = "set"/\∃ S n,H p=some (.set S n))
 | _=>False
theorem qij {pins:List (Addr×Obj)} {σ:St} {H:Hp} {s:Shared} {T:String} {x:V} {v:Value} (I:Inv X pins σ H s) (r:RelV x v) (ty:tyV X.K T x H) :
  s.TypeIs v T/\∀ a,v = .ref a->∃ ob,s.heap.get? a=some ob/\ob.dict=none:=by
 cases x with
 | str z=>
  obtain ⟨t,rfl⟩:=r
  cases (show T = "str" from ty)
  exact ⟨typeIs_str s z t,fun _ e=>nomatch e⟩
 | int i=>
  obtain ⟨t,rfl⟩:=r
  cases (show T = "int" from ty)
  exact ⟨typeIs_int s i t,fun _ e=>nomatch e⟩
 | ref p=>
  cases r
  rcases ty with ⟨rfl,xs,hq⟩ | ⟨rfl,o,hk,hc,hd⟩ | ⟨rfl,hk⟩ | ⟨rfl,S,n,hk⟩
  ·obtain ⟨its,_,pl,_⟩:=I.list hq
   refine ⟨pl.isList.typeIs,fun a e=>?_⟩
   cases e
   obtain ⟨o,n,e,c,hd,_⟩:=pl
   exact ⟨o,e,hd⟩
  ·refine ⟨⟨o,I.kIn p o hk,hc⟩,fun a e=>?_⟩
   cases e
   exact ⟨o,I.kIn _ o hk,hd⟩
  ·have z:∃ o,s.heap.get? p=some o/\o.ExactDict:=by
    rcases hk with ⟨kvs,hk⟩ | ⟨kvs,hk⟩
    ·obtain ⟨_,_,_,_,o,_,_,e,ex,_⟩:=I.hok p _ hk
     exact ⟨o,e,ex⟩
    ·obtain ⟨_,_,_,_,o,_,_,e,ex,_⟩:=I.hok p _ hk
     exact ⟨o,e,ex⟩
   obtain ⟨o,e,ex⟩:=z
   refine ⟨⟨o,e,ex.1⟩,fun a e2=>?_⟩
   cases e2
   exact ⟨o,e,ex.2.1⟩
  ·obtain ⟨o,_,_,_,e,ex,_⟩:=I.hok p _ hk
   refine ⟨⟨o,e,ex.1⟩,fun a e2=>?_⟩
   cases e2
   exact ⟨o,e,ex.2.1⟩
 | _=>exact False.elim ty
variable {o e:Expr} {es:List Expr} {to:TE} {t:TA} {name:Str} {apos cpos:Pos} {T id:String} {r:V->List V->Hp->VK->Prop}
/- xs.append(e),list.index on a module's tuple .. are MtR facts of 06m -/
end
end L2
namespace L2
open PySem PySem.Spec PyProof.Rows
def MtM (X:Cx) (id:String) (r:V->List V->Hp->VK->Prop):Prop:=
 ∀ (pins:List (Addr×Obj)) (s:Shared) (σ:St) (H:Hp) (x:V) (xs:List V) (v:Value) (us:List Value) (Q:VK),Inv X pins σ H s->RelV x v->Vals xs us->r x xs H Q →
  wpAny (model X.prog X.w) X.A (call (.builtin id) (v :: us)) (EP X pins σ Q) X.xe s
theorem Vals.one:∀ {x:V} {us:List Value},Vals [x] us->∃ u,us=[u]/\RelV x u
 | _,_,.cons r .nil=>⟨_,rfl,r⟩
theorem Vals.zero:∀ {us:List Value},Vals [] us->us=[]
 | _,.nil=>rfl
theorem Vals.dropLast {xs:List V} {us:List Value} (h:Vals xs us):Vals xs.dropLast us.dropLast:=by
 induction h with
 | nil=>exact .nil
 | cons r t ih=>
  cases t with
  | nil=>exact .nil
  | cons q t'=>exact .cons r ih
theorem Vals.eraseIdx:∀ {xs:List V} {us:List Value} (i:Nat),Vals xs us->Vals (xs.eraseIdx i) (us.eraseIdx i)
 | _,_,_,.nil=>.nil
 | _,_,0,.cons _ t=>t
 | _,_,i+1,.cons r t=>.cons r (Vals.eraseIdx i t)
theorem Vals.reverse {xs:List V} {us:List Value} (h:Vals xs us):Vals xs.reverse us.reverse:=by
 induction h with
 | nil=>exact .nil
 | cons r t ih=>rw [List.reverse_cons,List.reverse_cons];exact Vals.append ih (.cons r .nil)
theorem Vals.rep {xs:List V} {us:List Value} (h:Vals xs us):∀ k:Nat,Vals (List.replicate k xs).flatten (List.replicate k us).flatten
 | 0=>.nil
 | k+1=>by
  rw [List.replicate_succ,List.replicate_succ,List.flatten_cons,List.flatten_cons]
  exact Vals.append h (Vals.rep h k)
theorem qcd {α:Type}:∀ (l:List α) (i:Nat),(l.eraseIdx i).length<=l.length
 | [],_=>Nat.le_refl _
 | _ :: _,0=>Nat.le_succ _
 | _ :: r,i+1=>Nat.succ_le_succ (qcd r i)
theorem qdy (its:List Value):∀ (k:Nat) (acc:List Value),
  List.foldl (fun x1 x2=>x1++x2) acc.toArray (List.replicate k its.toArray)=(acc++(List.replicate k its).flatten).toArray
 | 0,acc=>by simp
 | k+1,acc=>by
  have e:acc.toArray++its.toArray=(acc++its).toArray:=by simp
  have e2:(acc++its)++(List.replicate k its).flatten=acc++(List.replicate (k+1) its).flatten:=by
   rw [List.replicate_succ,List.flatten_cons,List.append_assoc]
  rw [<-e2,<-qdy its k (acc++its),<-e,List.replicate_succ,List.foldl_cons]
section
variable {X:Cx} {pins:List (Addr×Obj)} {σ:St} {H:Hp} {s:Shared} {l b:Addr} {xs ys zs:List V}
theorem Inv.lset {its its':List Value} {n:Nat} {f:Array Value->Array Value} {t':Nat} (I:Inv X pins σ H s) (hH:H l=some (.lst xs))
  (e:s.heap.get? l=some { cls:=.type "list",data:=.seq its.toArray n }) (hf:f its.toArray=its'.toArray) (hv:Vals ys its') (hz:ys.length<=sizeLine) :
  Inv X pins σ (upd H l (.lst ys)) { s with heap:=s.heap.update l (Obj.mapSeq f),toks:=t' }:=by
 have q:=PySem.IsL.update e f
 rw [hf] at q
 refine I.write (x:=l) (e:=l) (by rw [hH];exact trivial) (.inl rfl) (fun b' u hb hu=>(Heap.get?_update_other s.heap (Obj.mapSeq f) (Ne.symm hb)).trans hu) ⟨_,q⟩ ?_
 exact ⟨hz,its',_,hv,q⟩
theorem Inv.lnew {its:List Value} {t':Nat} (I:Inv X pins σ H s) (hv:Vals ys its) (hz:ys.length<=sizeLine) :
  Inv X pins σ (upd H s.heap.objs.size (.lst ys)) { s with heap:=s.heap.push { cls:=.type "list",data:=.seq its.toArray },toks:=t' }:=
 I.laid (fun _ _ q=>Heap.get?_push_of_some _ q) (Nat.le_refl _) ⟨hz,its,0,hv,Heap.get?_push_size _ rfl⟩
theorem Inv.fresh (I:Inv X pins σ H s):H s.heap.objs.size=none:=I.hok.fresh (Nat.le_refl _)
theorem Inv.lstM (I:Inv X pins σ H s) (hH:H l=some (.lst xs)):xs.length<=sizeLine/\∃ (its:List Value) (n:Nat),Vals xs its/\xs.length=its.length/\s.heap.get? l=some { cls:=.type "list",data:=.seq its.toArray n }:=by
 obtain ⟨z,its,n,r,e⟩:=I.hok l _ hH
 exact ⟨z,its,n,r,r.length,e⟩
theorem qeN {n:Nat} (h:n<=sizeLine):Builtin.List.listTooLong n=false:=by
 unfold Builtin.List.listTooLong
 exact decide_eq_false (by omega)
end
section
variable {X:Cx}
def qjm:V->List V->Hp->VK->Prop:=fun x vs H Q=>∃ l xs y,x = .ref l/\vs=[y]/\H l=some (.lst xs)/\xs.length < sizeLine/\Q .non (upd H l (.lst (xs++[y])))
theorem mt_append:MtM X "list.append" qjm:=by
 intro pins s σ H x vs v us Q I rx rv h
 obtain ⟨l,xs,y,rfl,rfl,hH,hz,q⟩:=h
 cases rx
 obtain ⟨u,rfl,ru⟩:=rv.one
 obtain ⟨z,its,n,r,hl,e⟩:=I.lstM hH
 refine call_meets F.slot_list_append ⟨_,e,rfl⟩ F.entry_list_append (F.args_list_append_2 _ _) (PySem.list_append l its.toArray n u (by rw [List.size_toArray];omega)) ⟨e,?_⟩
 refine ⟨.non,_,I.lset (its':=its++[u]) hH e (by simp) (r.append (.cons ru .nil)) ?_,rfl,q⟩
 rw [lA_,List.length_singleton]
 omega
def qjj:V->List V->Hp->VK->Prop:=fun x vs H Q=>∃ l b xs zs,x = .ref l/\vs=[.ref b]/\H l=some (.lst xs)/\H b=some (.lst zs)/\xs.length+zs.length<=sizeLine/\Q .non (upd H l (.lst (xs++zs)))
theorem mt_extend:MtM X "list.extend" qjj:=by
 intro pins s σ H x vs v us Q I rx rv h
 obtain ⟨l,b,xs,zs,rfl,rfl,hH,hB,hz,q⟩:=h
 cases rx
 obtain ⟨u,rfl,ru⟩:=rv.one
 cases ru
 obtain ⟨z,its,n,r,hl,e⟩:=I.lstM hH
 obtain ⟨z2,its2,n2,r2,hl2,e2⟩:=I.lstM hB
 have hsz:its.toArray.size+its2.toArray.size<=sizeLine:=by rw [List.size_toArray,List.size_toArray];omega
 have hlong:¬ (!its.toArray.isEmpty && Builtin.List.listTooLong (its.toArray.size+its2.toArray.size))=true:=by
  rw [qeN hsz,Bool.and_false]
  exact Bool.false_ne_true
 refine call_meets F.slot_list_extend ⟨_,e,rfl⟩ F.entry_list_extend (F.args_list_extend_2 _ _)
  (AutoSeq1.list_extend_list_list_0 l its.toArray n b its2.toArray n2 hlong (by rw [List.size_toArray];omega) (by omega)) ⟨e,e2,?_⟩
 refine ⟨.non,_,I.lset (its':=its++its2) hH e (by simp) (r.append r2) ?_,rfl,q⟩
 rw [lA_]
 omega
def qkZ:V->List V->Hp->VK->Prop:=fun x vs H Q=>∃ l xs i k y,x = .ref l/\vs=[.int i]/\H l=some (.lst xs)/\-(2 ^ 63)<=i/\i < 2 ^ 63/\seqIndex? i xs.length=some k/\xs[k]? = some y/\Q y (upd H l (.lst (xs.eraseIdx k)))
theorem mt_popAt:MtM X "list.pop" qkZ:=by
 intro pins s σ H x vs v us Q I rx rv h
 obtain ⟨l,xs,i,k,y,rfl,rfl,hH,h1,h2,hk,hy,q⟩:=h
 cases rx
 obtain ⟨u,rfl,ru⟩:=rv.one
 obtain ⟨t,rfl⟩:=ru
 obtain ⟨z,its,n,r,hl,e⟩:=I.lstM hH
 obtain ⟨w,hw,rw'⟩:=r.get hy
 refine call_meets F.slot_list_pop ⟨_,e,rfl⟩ F.entry_list_pop (F.args_list_pop_2 _ _)
  (MeetsSeq.list_pop_at l its.toArray n i t k w (fitsIndex_both h1 h2) (by rw [List.size_toArray,<-hl];exact hk) (by rw [<-Array.getElem?_toList];exact hw) (by rw [List.size_toArray];omega)) ⟨e,?_⟩
 refine ⟨y,_,I.lset (its':=its.eraseIdx k) hH e ?_ (r.eraseIdx k) ?_,rw',q⟩
 ·show its.toArray.eraseIdxIfInBounds k=(its.eraseIdx k).toArray
  rw [List.eraseIdxIfInBounds_toArray]
 ·have:=qcd xs k
  omega
def qoi:R2:=fun x y H Q=>∃ l b xs zs,x = .ref l/\y = .ref b/\H l=some (.lst xs)/\H b=some (.lst zs)/\xs.length+zs.length<=sizeLine/\∀ p,H p=none->Q (.ref p) (upd H p (.lst (xs++zs)))
theorem qlE:OpR X (binaryOp .Add) qoi:=by
 intro pins s σ H x y v u Q I rx ry h
 obtain ⟨l,b,xs,zs,rfl,rfl,hH,hB,hz,q⟩:=h
 cases rx
 cases ry
 obtain ⟨z,its,n,r,hl,e⟩:=I.lstM hH
 obtain ⟨z2,its2,n2,r2,hl2,e2⟩:=I.lstM hB
 refine PySem.P.add_list e e2 ?_ (by rw [List.size_toArray,List.size_toArray];omega)
 have ea:its.toArray++its2.toArray=(its++its2).toArray:=by simp
 rw [ea]
 exact ⟨.ref _,_,I.lnew (t':=s.toks) (r.append r2) (by rw [lA_];omega),rfl,q _ I.fresh⟩
def qoe:R2:=fun x y H Q=>∃ l k xs,x = .ref l/\y = .int k/\H l=some (.lst xs)/\-(2 ^ 63)<=k/\k < 2 ^ 63/\xs.length * k.toNat<=sizeLine ∧
 ∀ p,H p=none->Q (.ref p) (upd H p (.lst (List.replicate k.toNat xs).flatten))
theorem qjU {α:Type} (xs:List α) (k:Nat):(List.replicate k xs).flatten.length=k * xs.length:=by
 induction k with
 | zero=>simp
 | succ k ih=>rw [List.replicate_succ,List.flatten_cons,lA_,ih,Nat.succ_mul,Nat.add_comm]
theorem qlx:OpR X (binaryOp .Mult) qoe:=by
 intro pins s σ H x y v u Q I rx ry h
 obtain ⟨l,k,xs,rfl,rfl,hH,h1,h2,hz,q⟩:=h
 cases rx
 obtain ⟨t,rfl⟩:=ry
 obtain ⟨z,its,n,r,hl,e⟩:=I.lstM hH
 have hlen:its.toArray.size * k.toNat<=sizeLine:=by rw [List.size_toArray,<-hl];exact hz
 have hcap:¬ its.toArray.size * k.toNat > (2 ^ 63 - 1) / 8:=by
  have:(sizeLine:Nat)<=(2 ^ 63 - 1) / 8:=by decide
  omega
 have hfit:¬ (!Builtin.List.listFitsIndex k)=true:=by
  rw [fitsIndex_both h1 h2]
  exact Bool.false_ne_true
 have hlong:¬ Builtin.List.listTooLong (its.toArray.size * k.toNat)=true:=by
  rw [qeN hlen]
  exact Bool.false_ne_true
 have hnew:List.foldl (fun x1 x2=>x1++x2) #[] (List.replicate (if its.toArray.isEmpty=true then 0 else k.toNat) its.toArray)=(List.replicate k.toNat its).flatten.toArray:=by
  have f0:∀ m:Nat,List.foldl (fun x1 x2=>x1++x2) #[] (List.replicate m its.toArray)=(List.replicate m its).flatten.toArray:=fun m=>by
   have:=qdy its m []
   rw [List.nil_append] at this
   exact this
  rw [f0]
  cases its with
  | nil=>simp
  | cons a r'=>rw [if_neg (by simp)]
 refine wpAny_binaryOp_repeat_ref (T:= "list") (U:= "int") (by decide) ⟨_,e,rfl⟩ (fun s'=>typeIs_int s' k t) noFill_list_mul F.fills_int_mul F.slot_int_rmul repeat_list F.slot_int_index.lookup
  (call_meets F.slot_int_rmul (typeIs_int s k t) F.entry_int_rmul (F.args_int_rmul_2 _ _) (int___rmul___int_list k t l its.toArray n)
   ⟨e,rfl,⟨_,e,rfl⟩,call_meets F.slot_list_mul ⟨_,e,rfl⟩ F.entry_list_mul (F.args_list_mul_2 _ _) (AutoListH.list___mul___list_int_3 l its.toArray n k t hfit hcap hlong) ⟨e,?_⟩⟩)
 rw [hnew]
 exact ⟨.ref _,_,I.lnew (t':=s.toks) (r.rep k.toNat) (by rw [qjU,Nat.mul_comm];exact hz),rfl,q _ I.fresh⟩
end
section
variable {prog:Program} {w:World} {A:Around} {E:Value->Shared->Prop} {s:Shared}
set_option maxRecDepth 100000 in
end
section
variable {X:Cx}
end
end L2
namespace Att
open PySem PySem.W PySem.Calls PyProof.Rows
theorem qcg {P:Params} {h:Heap}:∀ (ns:List Int) (vs:List Value),WellAll P h vs (ns.map WData.int)->IntsAre vs ns:=by
 intro ns
 induction ns with
 | nil=>
  intro vs w
  rw [List.map_nil] at w
  cases w
  exact .nil
 | cons n ns ih=>
  intro vs w
  rw [List.map_cons] at w
  cases w with
  | cons a b=>
   cases a
   exact .cons _ _ (ih _ b)
theorem qfL {l:OpenLaw} {n:Nat} (hn:l.most=some n) {P:Params} {h:Heap} {args:List WData} {vals:List Value}
  (hpre:l.row.toRowW.claim.pre args=true) (hwl:WellAll P h vals args) :
  ∃ a vs ns,vals=[Value.ref a]/\args=[WData.list (ns.map WData.int)]/\h.get? a=some { cls:=.type "list",data:=.seq vs.toArray }/\IntsAre vs ns/\ns.length<=n:=by
 have hsh:WShape.hasAll [] args [.list .int]=true:=(pre_splitW hpre).1
 have hc:l.pre.holds [] { args:=args }=true:=(pre_splitW hpre).2
 obtain ⟨d,r,rfl,h1,h2⟩:=hasAllW_cons hsh
 obtain rfl:=hasAllW_nil h2
 obtain ⟨xs,rfl,h3⟩:=hasW_list h1
 obtain ⟨ns,rfl⟩:=items_int h3
 have hlen:ns.length<=n:=by
  unfold OpenLaw.pre at hc
  have h4:(WTm.not (.lt (.lit (.int (n:Int))) (.len (.arg 0)))).holds [] { args:=[.list (ns.map .int)] }=true:=by
   have h4:=(holds_andW hc).1
   rw [hn] at h4
   exact h4
  have h5:=condW_of h4 (w_not (w_lt w_lit (w_len_list (w_arg rfl))))
  rw [lM_] at h5
  refine Nat.le_of_not_lt fun q=>?_
  have q':(n:Int) < ((ns.length:Nat):Int):=by omega
  first
   | (rw [decide_eq_true q'] at h5;exact absurd h5 (by decide))
   | (simp at h5;omega)
 cases hwl with
 | cons w1 w2=>
  cases w2
  cases w1 with
  | list ho hall=>exact ⟨_,_,ns,rfl,rfl,ho,qcg ns _ hall,hlen⟩
theorem qga (l:OpenLaw) (args:List WData):l.row.toRowW.claim.post args (.bool true) args=true:=
 postW_of (r:=l.row.toRowW) (X:=(true == true))
  (show WShape.has [] (.bool true) .bool=true by first | rfl | decide | simp [WShape.has,WShape.arms,WShape.armsAll])
  (show (WTm.eq .res (.lit (.bool true))).value [] { args:=args,res:=some (.bool true),after:=args }=some (.bool (true == true)) from w_eq_bool (w_res rfl) w_lit) rfl
theorem attach_call {l:OpenLaw} {n:Nat} {q:Program} {loose:List Str} {XP:(Str->Option Value)->Heap->Prop} {YP:World->Heap->Prop} {d:DefRec}
  (hn:l.most=some n) (hdf:d.params.defaults=[])
  (call:∀ (w:World) (s₀ s₁:Shared) (mg mb:Str->Option Value) (fa:Addr) (o:Obj) (pm cd doc:Value) (a:Addr) (vs:List Value) (ns:List Int),
   Ground q loose [] XP w s₀ mg mb s₁.heap->YP w s₁.heap →
   s₁.heap.get? fa=some o->o.data = .func (docDef d.name d.params d.body d.scope pm cd doc)->s₁.heap.CodeRec cd d.name->mg d.name=some (.ref fa) →
   s₁.heap.get? a=some { cls:=.type "list",data:=.seq vs.toArray }->IntsAre vs ns->ns.length<=n->s₁.gens = #[] →
   codeAny (model l.prog w) callerA (.call (.ref fa) ⟨[.ref a],[]⟩) (fun r s'=>r = .ok (.ret (.bool true))/\OldK s₁.heap s'.heap/\s'.os=s₁.os/\AllBare s'.gens) s₁) :
  WalkO q loose XP YP l.row.toRowW d [] (fun f vs=>PySem.call f vs):=by
 intro w s₀ s₁ mg mb G Y fa o pm cd doc dV kV ho hd hcd hD hmg hg args vals as hpre hlay hrd hwl hlo
 obtain rfl:dV = .none:=Dflts.none hD hdf
 obtain rfl:kV = .none:=Dflts.noKw hD
 obtain ⟨a,vs,ns,rfl,rfl,hobj,hints,hlen⟩:=qfL hn hpre hwl
 refine enter_call (codeAny_mono (call w s₀ s₁ mg mb fa o pm cd doc a vs ns G Y ho (fd_plain hd) hcd hmg hobj hints hlen hg) fun r s' hq=>?_)
 obtain ⟨rfl,h2,h3,h4⟩:=hq
 exact ⟨.inl ⟨.bool true,.bool true,[],rfl,fun _=>rfl,.bool true,qga l _,fun _=>⟨List.Pairwise.nil,fun _ hm=>(nomatch hm)⟩⟩,h2,h3,h4⟩
section
variable {prog:Program} {w:World} {A:Around} {E:Value->Shared->Prop} {s:Shared} {K:Frag}
end
end Att
namespace L2
open PySem PySem.Spec PyProof.Rows
theorem qbV:∀ {vs:List Value} {ns:List Int},IntsAre vs ns->Vals (ns.map V.int) vs
 | _,_,.nil=>.nil
 | _,_,.cons n t h=>.cons ⟨t,rfl⟩ (qbV h)
def qnH (H:Hp):Prop:=∀ b,H b=none\/∃ o xs,H b=some (.frz o (.lst xs))
theorem qh1 {P:Program} {w:World} {K:PySem.W.Frag} {mg mb:Str->Option Value} {CX:CXT} {k:Nat} {fa a:Addr} {fd:FuncData} {x:Str} {sp:Sp} {s₁:Shared} {vs:List Value} {ns:List Int}
  (KX:K.In s₁.heap) (hns:s₁.heap.Ns mainGlobals mg) (hb:s₁.heap.Ns builtinsNs mb) (hbb:∀ x:Str,x≠"__name__"->mb x=bootBuiltins x) (hlim:s₁.heap.NoLimit) (hg:s₁.gens = #[])
  (ha:s₁.heap.get? a=some { cls:=.type "list",data:=.seq vs.toArray }) (hi:IntsAre vs ns) (hl:ns.length<=sizeLine) (hr:Room k callerA)
  (F:∀ base:Heap,K.In base->base.Ns mainGlobals mg->FnOk P w K mg base CX k fa fd [x] sp) (hbind:∀ (s:Shared) (u:Value),BindsTo s fd ⟨[u],[]⟩ [(x,u)])
  (hsp:∀ H:Hp,qnH H->SqL K H a (ns.map V.int)->sp [.ref a] H (fun v _=>v = .bl true) fun _ _ _=>False)
  (hCX:∀ H e s',CX [] H s₁ (fun _ _ _=>False) e s'->False) :
  codeAny (model P w) callerA (.call (.ref fa) ⟨[.ref a],[]⟩) (fun r s'=>r = .ok (.ret (.bool true))/\OldK s₁.heap s'.heap/\s'.os=s₁.os/\AllBare s'.gens) s₁:=by
 have rv:=qbV hi
 have lenV:=hi.length
 have core:∀ H:Hp,qnH H->SqL K H a (ns.map V.int)->HOk P w H s₁.heap->(∀ b,H b≠none->b=a)->(H a≠none->K.lookup a=none) →
   codeAny (model P w) callerA (.call (.ref fa) ⟨[.ref a],[]⟩) (fun r s'=>r = .ok (.ret (.bool true))/\OldK s₁.heap s'.heap/\s'.os=s₁.os/\AllBare s'.gens) s₁:=by
  intro H hO hS hok hA hK
  have base_of:∀ {b:Addr} {o:Obj},s₁.heap.get? b=some o->H b=none->(qeV s₁.heap H).get? b=some o:=fun e n=>qbo e n
  have noA:∀ {b:Addr} {o:Obj} {es:Array DictEntry} {ep:Nat},s₁.heap.get? b=some o->o.data = .dict es ep->H b=none:=fun {b o es ep} e d=>by
   cases q:H b with
   | none=>rfl
   | some u=>
    have e':b=a:=hA b (by rw [q];simp)
    subst e'
    rw [ha] at e;cases e
    have d':Data.seq vs.toArray _=Data.dict es ep:=d
    cases d'
  have nsK:∀ {b:Addr} {m:Str->Option Value},s₁.heap.Ns b m->(qeV s₁.heap H).Ns b m:=fun {b m} ⟨o,es,ep,e,d,r⟩=>⟨o,es,ep,base_of e (noA e d),d,r⟩
  have hKb:K.In (qeV s₁.heap H):=fun b o e=>base_of (KX b o e) (by
   cases q:H b with
   | none=>rfl
   | some u=>
    have e':b=a:=hA b (by rw [q];simp)
    subst e'
    rw [hK (by rw [q];simp)] at e;cases e)
  have hM:Mod K mg (qeV s₁.heap H):=⟨hKb,nsK hns,⟨mb,nsK hb,hbb⟩,let ⟨mc,h1,h2⟩:=hlim;⟨mc,nsK h1,h2⟩⟩
  have e0:Env0 P w K mg (qeV s₁.heap H) callerA [] s₁ H:=⟨rfl,hM,fun b o e=>qgq e,Nat.le_of_eq (qdw _ _),trivial,fun b hb=>absurd (show b∈([]:List Addr) from hb) (by simp),hok,.of_eq hg⟩
  refine codeAny_mono ((F _ hKb (nsK hns)).run callerA [] s₁ H ⟨[.ref a],[]⟩ [.ref a] [.ref a] _ _ hr e0 (hbind s₁ (.ref a)) (.cons rfl .nil) (hsp H hO hS)) fun r s' h=>?_
  cases r with
  | error e=>exact (hCX H e s' h).elim
  | ok fl=>
   cases fl with
   | next=>exact False.elim h
   | brk=>exact False.elim h
   | cont=>exact False.elim h
   | ret u=>
    obtain ⟨v,H',os,bare,un,hok',r',q⟩:=h
    have q':v = .bl true:=q
    subst q'
    obtain rfl:u=Value.bool true:=r'
    refine ⟨rfl,OldK.of_keep fun b o e=>?_,os,bare⟩
    cases q:H b with
    | none=>exact un.keep b o e q (by intro z;exact absurd (show b∈([]:List Addr) from z) (by simp)) (by simp)
    | some u=>
     rcases hO b with z | ⟨ob,xs,z⟩
     ·rw [q] at z;cases z
     ·have z2:=un.frzs b ob _ z
      obtain ⟨e1,_⟩:=hok b _ z
      obtain ⟨e2,_⟩:=hok' b _ z2
      rw [e] at e1;cases e1
      exact e2
 cases hk:K.lookup a with
 | some o=>
  have e:=KX a o hk
  rw [ha] at e
  cases e
  refine core (fun _=>none) (fun _=>.inl rfl) (.inr ⟨_,vs.toArray,_,hk,rfl,rfl,rfl,by rw [List.size_toArray,lenV];exact hl,by simpa using rv⟩) (fun b u z=>by have z':(none:Option HO)=some u:=z;cases z') (fun b z=>absurd rfl z) fun z=>absurd rfl z
 | none=>
  refine core (fun b=>if b=a then some (.frz { cls:=.type "list",data:=.seq vs.toArray } (.lst (ns.map V.int))) else none) (fun b=>?_) (.inl (.inr ⟨{ cls:=.type "list",data:=.seq vs.toArray },if_pos rfl⟩)) (fun b u z=>?_) (fun b z=>?_) fun _=>hk
  ·by_cases hb:b=a
   ·exact .inr ⟨_,_,if_pos hb⟩
   ·exact .inl (if_neg hb)
  ·by_cases hb:b=a
   ·have z':=(if_pos hb).symm.trans z
    cases z'
    subst hb
    exact ⟨ha,by rw [lM_];exact hl,vs,_,rv,ha⟩
   ·have z':=(if_neg hb).symm.trans z
    cases z'
  ·by_cases hb:b=a
   ·exact hb
   ·exact absurd (if_neg hb) z
end L2
namespace L2
open PySem PySem.Spec PyProof.Rows
abbrev KOf {K:PySem.W.Frag} {h:Heap} (_:K.In h):PySem.W.Frag:=K
theorem walk_of {l:PySem.W.OpenLaw} {n k:Nat} {q:Program} {loose:List Str} {XP:(Str->Option Value)->Heap->Prop} {YP:World->Heap->Prop} {d:DefRec} {K:Params->PySem.W.Frag} {CX:World->CXT} {sp:World->Sp} {x:Str}
  (hn:l.most=some n) (hn2:n<=sizeLine) (hdf:d.params.defaults=[]) (hr:Room k callerA)
  (hY:∀ (w:World) (h:Heap),YP w h->(K w.params).In h)
  (F:∀ (w:World) (mg:Str->Option Value) (fa:Addr) (h:Heap),(K w.params).In h->h.Ns mainGlobals mg->mg d.name=some (.ref fa) →
   ∃ fd:FuncData,(∀ (s:Shared) (u:Value),BindsTo s fd ⟨[u],[]⟩ [(x,u)]) ∧
    ∀ base:Heap,(K w.params).In base->base.Ns mainGlobals mg->FnOk l.prog w (K w.params) mg base (CX w) k fa fd [x] (sp w))
  (hsp:∀ (w:World) (H:Hp) (a:Addr) (ns:List Int),ns.length<=n->qnH H->SqL (K w.params) H a (ns.map V.int)->sp w [.ref a] H (fun v _=>v = .bl true) fun _ _ _=>False)
  (hCX:∀ (w:World) (H:Hp) (s:Shared) (e:Value) (s':Shared),CX w [] H s (fun _ _ _=>False) e s'->False) :
  PySem.W.WalkO q loose XP YP l.row.toRowW d [] (fun f vs=>PySem.call f vs):=by
 refine Att.attach_call hn hdf fun w s₀ s₁ mg mb fa o pm cd doc a vs ns G Y ho hd hcd hmg hobj hints hlen hg=>?_
 have KX:=hY w _ Y
 obtain ⟨fd,hb,hF⟩:=F w mg fa _ KX G.T.g hmg
 exact qh1 KX G.T.g G.T.b G.T.builtins G.T.nolimit hg hobj hints (Nat.le_trans hlen hn2) hr hF hb (fun H hO hS=>hsp w H a ns hlen hO hS) fun H e s'=>hCX w H s₁ e s'
end L2
/- THE LAST THEOREM (shape;LID,My.* are yours):
   My.Adr: a structure of the addresses that your layer names (classes,functions);My.Txt K t: a structure (Prop) of the equations over K;
   My.txt_mk:{K} {implicit addresses ..} (e1:nsIn K mainGlobals "law" = some (some (.ref f))) (e2:K.lookup f=some ⟨oc,od,.func (fnOf "law" "law" params body scope dV kV doc pm an cdv ct),sl⟩) (e3:codeIn K cdv "law" = true) .. : ∃ t,My.Txt K t
set_option maxRecDepth 100000 in
set_option maxHeartbeats 0 in
theorem PySem.Challenge.cw_LID_holds : PySem.Challenge.rw_LID.Holds := by
 w_on;o_law;k_head;(case hw=>w_witness2)
 k_fill
 refine L2.walk_of (l:=PySem.Challenge.rw_LID) (n:=63) (k:=40) (x:= "script") (CX:=fun w=>..) (sp:=fun _=>My.sp_law) rfl (by decide) rfl ⟨rfl,by decide,by decide⟩ (fun w h Y=>PySem.W.kIn_of Y) ?F ?S ?C
 case F=>
  intro w mg fa h KX G hmg
  have T:∃ t,My.Txt (L2.KOf KX) t:=by
   dsimp only [L2.KOf]                          -- K must stand as «<heap const> w.params» for k_is
   refine' My.txt_mk ?e1 ?e2 ?e3 ..
   (case e1=>PySem.W.k_is)                    -- in the order: a name -> its address -> its object -> its parts
   (case e2=>PySem.W.k_is)
   ..
  obtain ⟨t,T⟩:=T
  have e0:=hmg.symm.trans (PySem.W.mg_of KX G T.law)
  cases e0                                       -- fa is the law's own address
  exact ⟨_,fun s u=>.of_eq rfl,fun base kb nb=>My.law_fn T kb nb⟩     -- if «.of_eq rfl» comes too early: refine' ⟨_,?b,fun base kb nb=>My.law_fn T kb nb⟩;exact fun s u=>.of_eq rfl
 case S=>exact fun w H a ns hl hO hS=>..
 case C=>exact ..
(the tactic k_is has no namespace: write k_is) -/
namespace L2
open PySem PySem.Spec PyProof.Rows
def qav (s:Stmt):Arguments:=match s with
 | .FunctionDef _ a _ _ _ _ _ _ _ _=>a
 | _=>{ posonlyargs:=[],args:=[],vararg:=none,kwonlyargs:=[],kw_defaults:=[],kwarg:=none,defaults:=[] }
def qao (s:Stmt):List Stmt:=match s with
 | .FunctionDef _ _ b _ _ _ _ _ _ _=>b
 | _=>[]
def qad (s:Stmt):Scope:=match s with
 | .FunctionDef _ _ _ _ _ _ sc _ _ _=>sc
 | _=>{ kind:=.function,names:=[],isGenerator:=false,isCoroutine:=false }
abbrev CX0:CXT:=fun _ _ _ _ _ _=>False
abbrev E0:XK:=fun _ _ _=>False
theorem qlv {X:Cx}:qhd CX0 X E0:=fun _ _ _ _ _ _ _ h=>h.elim
structure Fun (K:PySem.W.Frag) (x qual:Str) (st:Stmt) (f:Addr) (fd:FuncData):Prop where
 ex:∃ (oc:Value) (od:Option Addr) (kV doc pm:Value) (an:Option Addr) (cdv ct:Value) (osl:Array (Option Value)),
  fd=PySem.W.fnOf x qual (qav st) (qao st) (qad st) .none kV doc pm an cdv ct/\K.lookup f=some ⟨oc,od,.func fd,osl⟩/\PySem.W.codeIn K cdv qual=true
 kp:PySem.W.keepIn K (.ref f)=true
section
variable {P:Program} {w:World} {K:PySem.W.Frag} {mg:Str->Option Value} {base:Heap}
theorem Fun.ok {x qual:Str} {st:Stmt} {f:Addr} {fd:FuncData} {N ps:List Str} {k:Nat} {sp:Sp} (F:Fun K x qual st f fd) (S:FnScope N ps (qad st)) (len:∀ vs H Q E,sp vs H Q E->vs.length=ps.length)
  (hbody:∀ (cdv:Value) (A:Around) (outer:List Env) (s:Shared) (H:Hp) (vs:List V) (Q:VK) (E:XK),Room k (A.deeper (envOfC qual (qad st) s.heap.objs.size f cdv))->sp vs H Q E →
   ∃ t,PSs (qiL CX0 P w K mg base N qual (qad st) f cdv A outer s H E).nox (qao st) t/\t { nx:=fun _ H'=>Q .non H',rt:=Q } (start N vs) H):FnOk P w K mg base CX0 (k+1) f fd ps sp:=by
 obtain ⟨oc,od,kV,doc,pm,an,cdv,ct,osl,rfl,lk,hcd⟩:=F.ex
 refine ql6 lk hcd S len fun A outer s H vs Q E hr hsp=>?_
 obtain ⟨t,h,q⟩:=hbody cdv A outer s H vs Q E hr hsp
 exact ⟨t,h.nox,q⟩
theorem Fun.binds {x qual:Str} {st:Stmt} {f:Addr} {fd:FuncData} {ps:List Str} (F:Fun K x qual st f fd)
  (h:∀ (kV doc pm:Value) (an:Option Addr) (cdv ct:Value) (us:List Value),us.length=ps.length->bindArgs (PySem.W.fnOf x qual (qav st) (qao st) (qad st) .none kV doc pm an cdv ct) ⟨us,[]⟩=pure (ps.zip us)):Binds K fd ps []:=by
 obtain ⟨oc,od,kV,doc,pm,an,cdv,ct,osl,rfl,lk,hcd⟩:=F.ex
 exact .all (h kV doc pm an cdv ct)
theorem qiF {x qual:Str} {st:Stmt} {f:Addr} {oc:Value} {od an:Option Addr} {osl:Array (Option Value)} {kV doc pm cdv ct:Value} (l:K.lookup f=some ⟨oc,od,.func (PySem.W.fnOf x qual (qav st) (qao st) (qad st) .none kV doc pm an cdv ct),osl⟩)
  (c:PySem.W.codeIn K cdv qual=true) (k:PySem.W.keepIn K (.ref f)=true):Fun K x qual st f (PySem.W.fnOf x qual (qav st) (qao st) (qad st) .none kV doc pm an cdv ct):=⟨⟨oc,od,kV,doc,pm,an,cdv,ct,osl,rfl,l,c⟩,k⟩
end
section
variable {X:Cx}
end
theorem qdu {A B:Prop} (h:B):if false=true then A else B:=by
 rw [if_neg Bool.false_ne_true]
 exact h
theorem qnY {A B:Prop} (h:A):if true=true then A else B:=by
 rw [if_pos rfl]
 exact h
theorem qbr {c A B:Prop} [Decidable c] (h1:c->A) (h2:¬ c->B):if c then A else B:=by
 by_cases h:c
 ·rw [if_pos h]
  exact h1 h
 ·rw [if_neg h]
  exact h2 h
def Same (H H':Hp):Prop:=∀ b o,H b=some o->H' b=some o
theorem Same.refl (H:Hp):Same H H:=fun _ _ h=>h
theorem Same.trans {H H1 H2:Hp} (a:Same H H1) (b:Same H1 H2):Same H H2:=fun c o h=>b c o (a c o h)
theorem Same.free {H H':Hp} (e:Same H H') {l:Addr} (h:H' l=Option.none):H l=Option.none:=by
 cases q:H l with
 | none=>rfl
 | some o=>
  rw [e l o q] at h
  cases h
theorem Same.seq {K:PySem.W.Frag} {H H':Hp} {a:Addr} {xs:List V} (e:Same H H') (h:SqL K H a xs):SqL K H' a xs:=by
 rcases h with (h | ⟨o,h⟩) | h
 ·exact .inl (.inl (e _ _ h))
 ·exact .inl (.inr ⟨o,e _ _ h⟩)
 ·exact .inr h
end L2
section
namespace L2
open PySem
section
variable {prog:Program} {w:World} {A:Around} {R:Result->Shared->Prop} {s:Shared}
theorem qdG {elt target iter:Expr} {ifs:List Expr} {scope:Scope} {pos:Pos} {it acc:Value} {env:Env} (I:Nat->Shared->Prop)
  (turn:∀ n s,I n s->wpAny (model prog w) A (pyNext it) (fun r s₁=>match r with
   | none=>R (.ok .next) s₁
   | some v=>wpAny (model prog w) A (letOwnedTupleGo target it v) (fun _ s₁'=>wpAny (model prog w) A (assign target env v) (fun _ s₂=>
     wpAny (model prog w) A (forIn ifs true fun c r=>if r=true then do let ok <-isTrue c env (eval c env);pure (ForInStep.yield ok) else pure (ForInStep.yield r)) (fun ok s₃=>
      if ok=true then wpAny (model prog w) A (eval elt env) (fun x s₄=>
       wpAny (model prog w) A (call (.builtin "list.append") [acc,x]) (fun _ s₅=>∃ m,m < n/\I m s₅) (fun _ _=>False) s₄) (fun _ _=>False) s₃
      else ∃ m,m < n/\I m s₃) (fun _ _=>False) s₂) (fun _ _=>False) s₁') (fun _ _=>False) s₁) (fun _ _=>False) s)
  (n:Nat) (h:I n s) :
  codeAny (model prog w) A (.compLoop (.ListComp elt [⟨target,iter,ifs,0⟩] scope pos) 0 it acc env) R s:=by
 refine codeAny_loop rfl I (fun n s hI=>?_) n h
 show wpAny _ A ((compTurn (.ListComp elt [⟨target,iter,ifs,0⟩] scope pos) 0 it acc env).onRaise (fun x=>do noteFrame x env;theTreesLotGoes x)) _ _ s
 refine wpAny_noted ?_
 rw [compTurn_list]
 refine wpAny_bind (wpAny_standAt (wpAny_bind (wpAny_mono (turn n s hI) (fun r s₁ h₁=>?_) fun _ _ h'=>h'.elim)))
 cases r with
 | none=>exact wpAny_pure h₁
 | some v=>
  refine wpAny_bind (wpAny_mono h₁ (fun _ s₁' h₁'=>?_) fun _ _ h'=>h'.elim)
  refine wpAny_bind (wpAny_mono h₁' (fun _ s₂ h₂=>wpAny_bind (wpAny_mono h₂ (fun ok s₃ h₃=>?_) fun _ _ h'=>h'.elim)) fun _ _ h'=>h'.elim)
  cases ok with
  | false=>exact wpAny_pure ⟨rfl,h₃⟩
  | true=>
   exact wpAny_bind (wpAny_bind (wpAny_mono h₃ (fun x s₄ h₄=>wpAny_bind (wpAny_mono h₄ (fun _ s₅ h₅=>wpAny_pure (wpAny_pure ⟨rfl,h₅⟩)) fun _ _ h'=>h'.elim)) fun _ _ h'=>h'.elim))
end
theorem qa5 {env:Env}:∀ (names:List (Str×NameKind)) (acc:List (Str×Addr)),(∀ y∈names,y.2 = .free->∃ c,env.cells.lookup y.1=some c)->(∀ x c,acc.lookup x=some c->env.cells.lookup x=some c) →
  ∃ cl:List (Str×Addr),(forIn names acc fun (x:Str×NameKind) (r:List (Str×Addr))=>(match x with | (name,kind)=>if (kind == NameKind.free)=true then do let a <-cellOf env name;pure (ForInStep.yield ((name,a) :: r)) else pure (ForInStep.yield r):Sem (ForInStep (List (Str×Addr)))))=pure cl ∧
   (∀ x c,cl.lookup x=some c->env.cells.lookup x=some c)/\(∀ y∈names,y.2 = .free->∃ c,cl.lookup y.1=some c)/\∀ x c,acc.lookup x=some c->∃ c',cl.lookup x=some c'
 | [],acc,_,h=>⟨acc,rfl,h,(fun y z=>by cases z),fun _ c e=>⟨c,e⟩⟩
 | (name,kind) :: r,acc,hf,h=>by
  by_cases hk:kind = .free
  ·subst hk
   obtain ⟨c,hc⟩:=hf (name,.free) List.mem_cons_self rfl
   have h2:∀ x d,((name,c) :: acc).lookup x=some d->env.cells.lookup x=some d:=fun x d e=>by
    rw [List.lookup_cons] at e
    cases hx:x == name with
    | true=>rw [hx] at e;cases e;rw [eq_of_beq hx];exact hc
    | false=>rw [hx] at e;exact h x d e
   obtain ⟨cl,e,h3,h4,h5⟩:=qa5 r ((name,c) :: acc) (fun y hy=>hf y (mC_ _ hy)) h2
   refine ⟨cl,?_,h3,fun y hy hyf=>?_,fun x d hx=>?_⟩
   ·rw [List.forIn_cons]
    simp only [beq_self_eq_true,if_true,cellOf,hc,pure_bind]
    exact e
   ·rcases List.mem_cons.mp hy with rfl | hy
    ·exact h5 name c (by simp [List.lookup_cons])
    ·exact h4 y hy hyf
   ·cases hxn:x == name with
    | true=>exact h5 x c (by rw [List.lookup_cons,hxn])
    | false=>exact h5 x d (by rw [List.lookup_cons,hxn];exact hx)
  ·obtain ⟨cl,e,h3,h4,h5⟩:=qa5 r acc (fun y hy=>hf y (mC_ _ hy)) h
   have hb:(kind == NameKind.free)=false:=by simpa using hk
   refine ⟨cl,?_,h3,fun y hy hyf=>?_,h5⟩
   ·rw [List.forIn_cons]
    simp only [hb,Bool.false_eq_true,if_false,pure_bind]
    exact e
   ·rcases List.mem_cons.mp hy with rfl | hy
    ·exact absurd hyf hk
    ·exact h4 y hy hyf
theorem qbA {env:Env} {scope:Scope} (hf:∀ y∈scope.names,y.2 = .free->∃ c,env.cells.lookup y.1=some c) :
  ∃ cl,closureFor scope env=pure cl/\(∀ x c,cl.lookup x=some c->env.cells.lookup x=some c)/\∀ y∈scope.names,y.2 = .free->∃ c,cl.lookup y.1=some c:=by
 obtain ⟨cl,e,h1,h2,_⟩:=qa5 (env:=env) scope.names [] hf (fun x c e=>by simp at e)
 refine ⟨cl,?_,h1,h2⟩
 unfold closureFor
 exact (congrArg (· >>= pure) e).trans (pure_bind _ _)
end L2
end
section
namespace L2
open PySem PySem.Spec PyProof.Rows
abbrev Cx.block (X:Cx) (scope:Scope) (cl:List (Str×Addr)) (C:Addr) (N:List Str) (s:Shared) (H:Hp) (fp:List Addr):Cx:=
 { X with N:=N,s₀:=s,H₀:=H,env:=compEnvC scope cl C X.env,outer:=X.stack,ex:=fp,fn:=fun _=>false,pn:=[],xe:=fun _ _=>False }
def qcw (osc:Scope) (oN:List Str) (sc:Scope) (N:List Str) (js:List Nat):Bool:=
 sc.names.all (fun y=>y.2 != .cell) && (sc.names.all (fun y=>y.2 != .local || sc.names.lookup y.1 == some .local) && (decide (js.length<=N.length) &&
  (sc.names.all (fun y=>y.2 != .free || (osc.names.lookup y.1 == some .cell || osc.names.lookup y.1 == some .free)) &&
   (List.range js.length).all (fun i=>match N[N.length - js.length+i]?,oN[js.getD i 0]? with | some x,some y=>x == y && sc.names.lookup x == some .free | _,_=>false))))
structure CompSc (osc:Scope) (oN:List Str) (sc:Scope) (N:List Str) (js:List Nat):Prop where
 nocell:∀ y∈sc.names,y.2≠.cell
 names:∀ y∈sc.names,y.2 = .local->sc.names.lookup y.1=some .local
 len:js.length<=N.length
 tk:∀ y∈sc.names,y.2 = .free->osc.names.lookup y.1=some .cell\/osc.names.lookup y.1=some .free
 fr:∀ (i j:Nat),js[i]? = some j->∃ x,N[N.length - js.length+i]? = some x/\oN[j]? = some x/\sc.names.lookup x=some .free
theorem qdF {osc:Scope} {oN:List Str} {sc:Scope} {N:List Str} {js:List Nat} (h:qcw osc oN sc N js=true):CompSc osc oN sc N js:=by
 unfold qcw at h
 simp only [Bool.and_eq_true] at h
 obtain ⟨h1,h2,h3,h4,h5⟩:=h
 refine ⟨fun y hy=>?_,fun y hy hl=>?_,of_decide_eq_true h3,fun y hy hf=>?_,fun i j hj=>?_⟩
 ·have:=List.all_eq_true.mp h1 y hy
  simpa using this
 ·have:=List.all_eq_true.mp h2 y hy
  rw [hl] at this
  simpa using this
 ·have:=List.all_eq_true.mp h4 y hy
  rw [hf] at this
  simpa using this
 ·have hi:i < js.length:=(gS_ hj).1
  have:=List.all_eq_true.mp h5 i (List.mem_range.mpr hi)
  have e:js.getD i 0=j:=by rw [List.getD_eq_getElem?_getD,hj];rfl
  rw [e] at this
  split at this
  ·rename_i x y e1 e2
   simp only [Bool.and_eq_true,beq_iff_eq] at this
   obtain ⟨rfl,h⟩:=this
   exact ⟨x,e1,e2,h⟩
  ·cases this
def blk (n:Nat) (js:List Nat) (σ:St):St:=List.replicate n none++js.map fun j=>(σ[j]?).join
theorem qkq {n:Nat} {js:List Nat} {σ:St} {i:Nat} {v:V} (h:(blk n js σ)[i]? = some (some v)):∃ k j,i=n+k/\js[k]? = some j/\σ[j]? = some (some v):=by
 unfold blk at h
 by_cases hi:i < n
 ·rw [List.getElem?_append_left (by simpa using hi),List.getElem?_replicate] at h
  split at h<;>cases h
 ·rw [List.getElem?_append_right (by simpa using hi),List.length_replicate,gM_] at h
  cases e:js[i - n]? with
  | none=>rw [e] at h;cases h
  | some j=>
   rw [e] at h
   refine ⟨i - n,j,by omega,e,?_⟩
   have h':(σ[j]?).join=some v:=by simpa using h
   cases q:σ[j]? with
   | none=>rw [q] at h';cases h'
   | some o=>
    rw [q] at h'
    have:o=some v:=h'
    rw [this]
theorem qaQ {env:Env}:∀ {names:List (Str×NameKind)} {x:Str} {k:NameKind},
  (names.map fun (n,k)=>if (k == NameKind.free && env.scope.kind == .function && env.kindOf n == some .cell) then (n,NameKind.cell) else (n,k)).lookup x=some k->k = .cell\/k = .free->(∀ y∈names,y.2≠.cell)->(x,NameKind.free)∈names
 | [],_,_,h,_,_=>by simp at h
 | (n,k1) :: r,x,k,h,hk,hc=>by
  have ih:=@qaQ env r x k
  have hc':∀ y∈r,y.2≠.cell:=fun y hy=>hc y (mC_ _ hy)
  have h1:k1≠.cell:=hc (n,k1) List.mem_cons_self
  have h:List.lookup x ((if (k1 == NameKind.free && env.scope.kind == .function && env.kindOf n == some .cell)=true then (n,NameKind.cell) else (n,k1)) :: _)=some k:=h
  by_cases c:(k1 == NameKind.free && env.scope.kind == .function && env.kindOf n == some .cell)=true
  ·rw [if_pos c,List.lookup_cons] at h
   cases hx:x == n with
   | true=>
    have e:k1 = .free:=by simp only [Bool.and_eq_true,beq_iff_eq] at c;exact c.1.1
    rw [eq_of_beq hx,e]
    exact List.mem_cons_self
   | false=>rw [hx] at h;exact mC_ _ (ih h hk hc')
  ·rw [if_neg c,List.lookup_cons] at h
   cases hx:x == n with
   | true=>
    rw [hx] at h
    have e:k1=k:=oI_ h
    have e2:k1 = .free:=by
     rcases hk with z | z
     ·exact absurd (e.trans z) h1
     ·exact e.trans z
    rw [eq_of_beq hx,e2]
    exact List.mem_cons_self
   | false=>rw [hx] at h;exact mC_ _ (ih h hk hc')
theorem qbC {env:Env}:∀ {names:List (Str×NameKind)} {x:Str},names.lookup x=some .free →
  (names.map fun (n,k)=>if (k == NameKind.free && env.scope.kind == .function && env.kindOf n == some .cell) then (n,NameKind.cell) else (n,k)).lookup x=some .cell ∨
  (names.map fun (n,k)=>if (k == NameKind.free && env.scope.kind == .function && env.kindOf n == some .cell) then (n,NameKind.cell) else (n,k)).lookup x=some .free
 | [],_,h=>by simp at h
 | (n,k1) :: r,x,h=>by
  have ih:=@qbC env r x
  show List.lookup x ((if (k1 == NameKind.free && env.scope.kind == .function && env.kindOf n == some .cell)=true then (n,NameKind.cell) else (n,k1)) :: _)=_\/List.lookup x ((if (k1 == NameKind.free && env.scope.kind == .function && env.kindOf n == some .cell)=true then (n,NameKind.cell) else (n,k1)) :: _)=_
  rw [List.lookup_cons] at h
  by_cases c:(k1 == NameKind.free && env.scope.kind == .function && env.kindOf n == some .cell)=true
  ·rw [if_pos c,List.lookup_cons]
   cases hx:x == n with
   | true=>exact .inl rfl
   | false=>rw [hx] at h;exact ih h
  ·rw [if_neg c,List.lookup_cons]
   cases hx:x == n with
   | true=>rw [hx] at h;exact .inr h
   | false=>rw [hx] at h;exact ih h
def PF (X:Cx) (ifs:List Expr) (t:TT):Prop:=
 ∀ (pins:List (Addr×Obj)) (s:Shared) (σ:St) (H:Hp) (Q:Bool->Hp->Prop),Inv X pins σ H s->t σ H Q →
  wpAny (model X.prog X.w) X.A (forIn ifs true fun c r=>if r=true then do let ok <-isTrue c X.env (eval c X.env);pure (ForInStep.yield ok) else pure (ForInStep.yield r)) (TP X pins σ Q) X.xe s
def qnM:TT:=fun _ H Q=>Q true H
theorem qlh {X:Cx}:PF X [] qnM:=fun _ _ _ H _ I h=>wpAny_tests_nil ⟨H,I,h⟩
def qho (n:Nat) (js:List Nat) (wi:TI) (g:TG) (tt:TT) (te:TE):TE:=fun σ H Q=>wi σ H fun J H1=>∀ D,H1 D=none->∃ W:Nat->Nat->St->Hp->List V->Prop,
 (∃ m,W 0 m (blk n js σ) (upd H1 D (.lst [])) [])/\∀ i m τ H2 ys,W i m τ H2 ys->H2 D=some (.lst ys) ∧
  ((J.stop i H2/\Q (.ref D) H2)\/(J.go i H2/\ys.length < sizeLine/\∃ N:St->Hp->List V->Prop,(∀ τ' H' ys',N τ' H' ys'->∃ m',m' < m/\W (i+1) m' τ' H' ys')/\∀ x H3,J.yld i H2 x H3->g x τ H3 fun τ4 H4=>tt τ4 H4 fun b H5=>
   if b=true then te τ4 H5 fun y H6=>H6 D=some (.lst ys)/\N τ4 (upd H6 D (.lst (ys++[y]))) (ys++[y])
   else N τ4 H5 ys))
section
variable {X:Cx}
theorem qhb {pins:List (Addr×Obj)} {σ:St} {H:Hp} {s:Shared} {h₁:Heap} {tk:Nat} {scope:Scope} {N:List Str} {js:List Nat} {cl:List (Str×Addr)} {fp:List Addr}
  (I:Inv X pins σ H s) (hk:scope.kind = .function) (hN:N.Nodup) (S:CompSc X.env.scope X.N scope N js) (hcl:∀ x c,cl.lookup x=some c->X.env.cells.lookup x=some c) (hcl2:∀ y∈scope.names,y.2 = .free->∃ c,cl.lookup y.1=some c)
  (hf:∀ b∈fp,b < s.heap.objs.size/\b≠X.env.locals/\b ∉ X.fs/\(b∈X.ex\/X.s₀.heap.objs.size<=b)/\(∀ x c,X.env.cells.lookup x=some c->c≠b))
  (hns:h₁.Ns s.heap.objs.size fun _=>none) (old:∀ b o,s.heap.get? b=some o->h₁.get? b=some o) :
  Inv (X.block scope cl s.heap.objs.size N s H fp) [] (blk (N.length - js.length) js σ) H { s with heap:=h₁,toks:=tk }:=by
 have look:∀ x,((relabel scope X.env).names.lookup x=some .cell\/(relabel scope X.env).names.lookup x=some .free)->∃ c,cl.lookup x=some c:=fun x hx=>by
  have hm:(x,NameKind.free)∈scope.names:=by
   rcases hx with z | z
   ·exact qaQ z (.inl rfl) S.nocell
   ·exact qaQ z (.inr rfl) S.nocell
  exact hcl2 _ hm rfl
 refine ⟨⟨I.ok.mod,hk,I.ok.glob,I.ok.blt,Nat.le_refl _,fun x y c h1 h2=>I.ok.inj x y c (hcl x c h1) (hcl y c h2),look,fun x c h=>(by cases h),I.ok.hd,I.ok.frames,.inl rfl,fun b hb=>?_,I.bs,Nat.le_trans I.ok.bsz I.sz,fun b o e hb=>?_,fun b hb z=>?_,I.stack,I.stkFree⟩,
  rfl,I.bare,Un.kept old,⟨_,hns,fun i x v h1 h2 h3=>?_⟩,fun x c h=>?_,I.hok.fresh (Nat.le_refl _),fun x c h=>I.freeC x c (hcl x c h),fun p hp=>absurd (show p∈([]:List (Addr×Obj)) from hp) (by simp),I.hok.kept old,?_⟩
 ·exact ⟨Nat.ne_of_lt (hf b hb).1,fun x c h=>(hf b hb).2.2.2.2 x c (hcl x c h)⟩
 ·rcases (hf b hb).2.2.2.1 with z | z
  ·exact I.ok.noex b o e z
  ·exact absurd (Nat.lt_of_lt_of_le (Heap.lt_size e) (Nat.le_trans I.ok.bsz z)) (Nat.lt_irrefl _)
 ·rcases List.mem_cons.mp (I.stkSub b z) with q | q
  ·exact (hf b hb).2.1 q
  ·exact (hf b hb).2.2.1 q
 ·obtain ⟨k,j,rfl,hj,hσ⟩:=qkq h2
  obtain ⟨x',e1,e2,e3⟩:=S.fr k j hj
  rw [e1] at h1
  have ex:x'=x:=oI_ h1
  subst ex
  have ok:=S.tk _ (PySem.mem_of_lookup e3) rfl
  obtain ⟨m,_,hl⟩:=I.loc
  obtain ⟨u,r,l⟩:=hl j x' v e2 hσ (.inr ok)
  refine ⟨u,r,?_⟩
  rcases l with ⟨hk',_⟩ | ⟨_,c,hc,hcell⟩
  ·have hk2:X.env.scope.names.lookup x'=some .local:=hk'
   rcases ok with z | z<;>(rw [hk2] at z;cases z)
  ·obtain ⟨c',hc'⟩:=hcl2 _ (PySem.mem_of_lookup e3) rfl
   have:c'=c:=oI_ ((hcl _ _ hc').symm.trans hc)
   subst this
   obtain ⟨o,ho,hd⟩:=hcell
   exact .inr ⟨qbC e3,c',hc',⟨o,old _ _ ho,hd⟩⟩
 ·obtain ⟨v,o,ho,hd⟩:=I.cell x c (hcl x c h)
  exact ⟨v,o,old _ _ ho,hd⟩
 ·show (blk (N.length - js.length) js σ).length=N.length
  unfold blk
  rw [lA_,List.length_replicate,lM_]
  have:=S.len
  omega
theorem qcv {pins:List (Addr×Obj)} {σ:St} {H:Hp} {s:Shared} {elt target iter:Expr} {ifs:List Expr} {scope:Scope} {pos:Pos} {N:List Str} {js:List Nat} {cl:List (Str×Addr)} {J:It} {fp:List Addr} {it:Addr} {tn:Nat->Heap->Prop}
  {g:TG} {tt:TT} {te:TE} {E:Value->Shared->Prop} {RR:Value->Addr->Result->Shared->Prop} {Q:VK}
  (hc:X.calm=true) (I:Inv X pins σ H s) (T:Turn X.prog X.w X.K target J fp it tn) (st:tn 0 s.heap) (hf:∀ b∈fp,qft X pins H b)
  (hk:scope.kind = .function) (hN:N.Nodup) (S:CompSc X.env.scope X.N scope N js) (hcl:∀ x c,cl.lookup x=some c->X.env.cells.lookup x=some c) (hcl2:∀ y∈scope.names,y.2 = .free->∃ c,cl.lookup y.1=some c)
  (hg:∀ cl C s H fp,PG (X.block scope cl C N s H fp) target g) (ht:∀ cl C s H fp,PF (X.block scope cl C N s H fp) ifs tt) (he:∀ cl C s H fp,PE (X.block scope cl C N s H fp) elt te)
  (h:∀ D,H D=none->∃ W:Nat->Nat->St->Hp->List V->Prop,(∃ m,W 0 m (blk (N.length - js.length) js σ) (upd H D (.lst [])) [])/\∀ i m τ H2 ys,W i m τ H2 ys->H2 D=some (.lst ys) ∧
   ((J.stop i H2/\Q (.ref D) H2)\/(J.go i H2/\ys.length < sizeLine/\∃ N:St->Hp->List V->Prop,(∀ τ' H' ys',N τ' H' ys'->∃ m',m' < m/\W (i+1) m' τ' H' ys')/\∀ x H3,J.yld i H2 x H3->g x τ H3 fun τ4 H4=>tt τ4 H4 fun b H5=>
    if b=true then te τ4 H5 fun y H6=>H6 D=some (.lst ys)/\N τ4 (upd H6 D (.lst (ys++[y]))) (ys++[y])
    else N τ4 H5 ys)))
  (hend:∀ D C H' s',(∃ m,s'.heap.Ns C m)->qft X pins H' C->Inv X pins σ H' s'->Q (.ref D) H'->RR (.ref D) C (.ok .next) s') :
  wpAny (model X.prog X.w) X.A (newList []) (fun acc s₃=>wpAny (model X.prog X.w) X.A (newFunctionEnv scope X.env.globals cl [] X.env.qual none .none (some X.env)) (fun cenv s₄=>
   codeAny (model X.prog X.w) X.A (.compStart (.ListComp elt [⟨target,iter,ifs,0⟩] scope pos) 0 (.ref it) acc { cenv with scope:=relabel scope X.env }) (RR acc cenv.locals) s₄) E s₃) E s:=by
 obtain ⟨W,⟨m0,w0⟩,turn⟩:=h s.heap.objs.size I.fresh
 refine wpAny_newObj_type (wpAny_newFunctionEnv S.nocell (by intro y hy;simp at hy) (fun h₁ hns₁ hsb₁=>?_) hk)
 have I3:Inv X pins σ (upd H s.heap.objs.size (.lst [])) { s with heap:=s.heap.push { cls:=.type "list",dict:=none,data:=.seq ([]:List Value).toArray } }:=I.lnew (its:=[]) (ys:=[]) (t':=s.toks) .nil (Nat.zero_le _)
 have hF3:∀ b∈fp,b < s.heap.objs.size:=fun b hb=>by
  obtain ⟨o,e,_⟩:=T.obj 0 s.heap st b hb
  exact Heap.lt_size e
 have st3:tn 0 (s.heap.push { cls:=.type "list",dict:=none,data:=.seq ([]:List Value).toArray }):=T.keep 0 _ _ st fun b hb o e=>Heap.get?_push_of_some _ e
 generalize hs3:({ s with heap:=s.heap.push { cls:=.type "list",dict:=none,data:=.seq ([]:List Value).toArray } }:Shared)=s3 at I3 hns₁ hsb₁ ⊢
 have e3:s3.heap=s.heap.push { cls:=.type "list",dict:=none,data:=.seq ([]:List Value).toArray }:=by rw [<-hs3]
 rw [<-e3] at st3
 have z3:s.heap.objs.size<=s3.heap.objs.size:=by rw [e3,Heap.size_push];exact Nat.le_succ _
 have old:∀ b o,s3.heap.get? b=some o->h₁.get? b=some o:=fun b o e=>hsb₁.extBut b o (Nat.ne_of_lt (Heap.lt_size e)) (Heap.get?_push_of_some _ e)
 have hf3:∀ b∈fp,b < s3.heap.objs.size/\b≠X.env.locals/\b ∉ X.fs/\(b∈X.ex\/X.s₀.heap.objs.size<=b)/\(∀ x c,X.env.cells.lookup x=some c->c≠b):=fun b hb=>
  let ⟨_,q1,q2,q3,q4,_⟩:=hf b hb
  ⟨Nat.lt_of_lt_of_le (hF3 b hb) z3,q1,q2,q3,q4⟩
 have nD:∀ b∈fp,upd H s.heap.objs.size (.lst []) b=none:=fun b hb=>by
  rw [qab (Nat.ne_of_lt (hF3 b hb))]
  exact (hf b hb).1
 have I4:Inv (X.block scope cl s3.heap.objs.size N s3 (upd H s.heap.objs.size (.lst [])) fp) [] (blk (N.length - js.length) js σ) (upd H s.heap.objs.size (.lst [])) { s3 with heap:=h₁,toks:=s3.toks+([]:List (Str×Value)).length }:=
  qhb I3 hk hN S hcl hcl2 hf3 hns₁ old
 have st4:tn 0 h₁:=T.keep 0 _ _ st3 fun b hb o e=>old b o e
 have hg':=hg cl s3.heap.objs.size s3 (upd H s.heap.objs.size (.lst [])) fp
 have ht':=ht cl s3.heap.objs.size s3 (upd H s.heap.objs.size (.lst [])) fp
 have he':=he cl s3.heap.objs.size s3 (upd H s.heap.objs.size (.lst [])) fp
 have stat:∀ {H':Hp},(∀ b∈fp,H' b=none)->∀ b∈fp,qft (X.block scope cl s3.heap.objs.size N s3 (upd H s.heap.objs.size (.lst [])) fp) [] H' b:=fun hn b hb=>
  ⟨hn b hb,(I4.ok.exf b hb).1,I4.ok.exfs b hb,.inl hb,(I4.ok.exf b hb).2,fun p hp=>absurd (show p∈([]:List (Addr×Obj)) from hp) (by simp)⟩
 have loop:codeAny (model X.prog X.w) X.A (.compLoop (.ListComp elt [⟨target,iter,ifs,0⟩] scope pos) 0 (.ref it) (.ref s.heap.objs.size) (compEnvC scope cl s3.heap.objs.size X.env)) (RR (.ref s.heap.objs.size) s3.heap.objs.size) { s3 with heap:=h₁,toks:=s3.toks+([]:List (Str×Value)).length }:=by
  refine qdG (fun n s'=>∃ i τ H' ys,Inv (X.block scope cl s3.heap.objs.size N s3 (upd H s.heap.objs.size (.lst [])) fp) [] τ H' s'/\tn i s'.heap/\(∀ b∈fp,H' b=none)/\W i n τ H' ys) ?_ m0 ⟨0,_,_,[],I4,st4,nD,w0⟩
  rintro n s5 ⟨i,τ,H5,ys,I5,st5,fr5,w5⟩
  obtain ⟨hD,hw⟩:=turn i n τ H5 ys w5
  rcases hw with ⟨stop,qn⟩ | ⟨go,hz,M,hM,step⟩
  ·refine thn (T.done (X.block scope cl s3.heap.objs.size N s3 (upd H s.heap.objs.size (.lst [])) fp) rfl rfl rfl hc i [] s5 τ H5 (fun _ _=>False) I5 (stat fr5) st5 stop) fun r s6 ⟨hr,I6⟩=>?_
   subst hr
   refine hend _ _ H5 s6 (let ⟨m,hn,_⟩:=I6.loc;⟨m,hn⟩) (I3.fpOk (Nat.le_refl _) I6.free) ?_ qn
   exact I3.call' (ch:=fp) I6.os I6.base I6.hok I6.bare fun b hb=>⟨(hf b hb).2.2.2.1,(hf b hb).2.1,(hf b hb).2.2.2.2.1,(hf b hb).2.2.2.2.2⟩
  ·refine thn (T.item (X.block scope cl s3.heap.objs.size N s3 (upd H s.heap.objs.size (.lst [])) fp) rfl rfl rfl hc i [] s5 τ H5 (fun _ _=>False) I5 (stat fr5) st5 go) fun r s6 ⟨u,hr,h6⟩=>?_
   subst hr
   refine thn h6 fun _ s7 ⟨x,H7,I7,r7,y7,st7,fr7⟩=>?_
   have I7':=I7.pinned (stat fr7) (T.obj _ _ st7)
   refine thn (hg' _ s7 τ H7 x u _ I7' r7 (step x H7 y7)) fun _ s8 ⟨τ8,H8,I8,q8⟩=>?_
   refine thn (ht' _ s8 τ8 H8 _ I8 q8) fun b s9 ⟨H9,I9,q9⟩=>?_
   have again:∀ {τ':St} {H':Hp} {s':Shared} {ys':List V},Inv (X.block scope cl s3.heap.objs.size N s3 (upd H s.heap.objs.size (.lst [])) fp) ([]++qdh fp s7.heap) τ' H' s'->M τ' H' ys' →
     ∃ m,m < n/\∃ i τ H' ys,Inv (X.block scope cl s3.heap.objs.size N s3 (upd H s.heap.objs.size (.lst [])) fp) [] τ H' s'/\tn i s'.heap/\(∀ b∈fp,H' b=none)/\W i m τ H' ys:=fun {τ' H' s' ys'} I' hm'=>by
    obtain ⟨m',hm,w'⟩:=hM _ _ _ hm'
    refine ⟨m',hm,i+1,τ',H',ys',I'.unpinned,T.keep _ _ _ st7 fun b hb o e=>(I'.pin (b,o) (List.mem_append_right _ (List.mem_append_right _ (qa6 hb e)))).1,fun b hb=>?_,w'⟩
    obtain ⟨o,e,d⟩:=T.obj _ _ st7 b hb
    exact (I'.pin (b,o) (List.mem_append_right _ (List.mem_append_right _ (qa6 hb e)))).2.1
   cases b with
   | false=>exact again I9 q9
   | true=>
    refine thn (he' _ s9 τ8 H9 _ I9 q9) fun y s10 ⟨v10,H10,I10,r10,hD10,q10⟩=>?_
    refine thn (mt_append (X:=X.block scope cl s3.heap.objs.size N s3 (upd H s.heap.objs.size (.lst [])) fp) _ s10 τ8 H10 (.ref s.heap.objs.size) [v10] (.ref s.heap.objs.size) [y] (fun _ H'=>M τ8 H' (ys++[v10])) I10 rfl (.cons r10 .nil) ⟨_,ys,v10,rfl,rfl,hD10,hz,q10⟩) fun _ s11 ⟨_,H11,I11,_,q11⟩=>?_
    exact again I11 q11
 exact codeAny_compStart_list loop (T.self X.A 0 _ _ _ st4 loop)
variable {elt target iter:Expr} {ifs:List Expr} {scope:Scope} {pos spos:Pos} {wi:TI} {g:TG} {tt:TT} {te:TE}
theorem qjB (N:List Str) (js:List Nat) (hok:qcw X.env.scope X.N scope N js=true) (hN:N.Nodup) (hc:X.calm=true) (hi:PI X target iter wi)
  (hg:∀ cl C s H fp,PG (X.block scope cl C N s H fp) target g) (ht:∀ cl C s H fp,PF (X.block scope cl C N s H fp) ifs tt) (he:∀ cl C s H fp,PE (X.block scope cl C N s H fp) elt te)
  (hk:scope.kind = .function:=by rfl) (hs:∀ x,foldedSetIterable iter X.env x=pure x:=by intro _;rfl) :
  PE X (.ListComp elt [⟨target,iter,ifs,0⟩] scope pos) (qho (N.length - js.length) js wi g tt te):=by
 intro pins s σ H Q I h
 have S:=qdF hok
 obtain ⟨cl,hclos,hcl,hcl2⟩:=qbA (env:=X.env) (scope:=scope) fun y hy hf=>I.ok.has _ (S.tk y hy hf)
 rw [eval_ListComp]
 refine wpAny_comprehension_free (use:=none) rfl hs hclos hk S.names (thn (hi pins s σ H _ I h) fun v s1 h1=>thn h1 fun itv s2 h2=>?_)
 obtain ⟨it,fp,tn,J,H2,e,I2,T,st2,f2,hw⟩:=h2
 subst e
 refine qcv (RR:=fun acc C=>compPost (model X.prog X.w) X.A X.xe none (EP X pins σ Q) acc C) (Q:=Q) hc I2 T st2 f2 hk hN S hcl hcl2 hg ht he hw ?_
 rintro D C H' s' ⟨m,hn⟩ ⟨c0,c1,c2,c3,c4,c5⟩ I' q
 exact ⟨m,hn,fun h' hs'=>⟨.ref D,H',I'.turned (t':=s'.toks) (fun b o hb e=>(hs'.2 b hb).trans e) c0 c1 c3 c4 c5,rfl,q⟩⟩
theorem qe9 {i:Nat} {y:Str} {py:Pos} (N:List Str) (js:List Nat) (hok:qcw X.env.scope X.N scope N js=true) (hN:N.Nodup) (hc:X.calm=true) (hXN:X.N.Nodup) (hyi:X.N[i]? = some y) (hy:Loc X.env.scope y) (hi:PI X target iter wi)
  (hg:∀ cl C s H fp,PG (X.block scope cl C N s H fp) target g) (ht:∀ cl C s H fp,PF (X.block scope cl C N s H fp) ifs tt) (he:∀ cl C s H fp,PE (X.block scope cl C N s H fp) elt te)
  (hsw:swapsWith (.ListComp elt [⟨target,iter,ifs,0⟩] scope pos) (some (.Name y py)) spos.line X.env=pure true:=by rfl)
  (hk:scope.kind = .function:=by rfl) (hs:∀ x,foldedSetIterable iter X.env x=pure x:=by intro _;rfl) (hf:X.fn y=true\/X.env.scope.names.lookup y=some .local:=by first | exact .inl rfl | exact .inr rfl | assumption) :
  PS X (.Assign [.Name y py] (.ListComp elt [⟨target,iter,ifs,0⟩] scope pos) spos) (qmu (qho (N.length - js.length) js wi g tt te) (qai i)):=by
 intro pins s σ H D I h
 have S:=qdF hok
 obtain ⟨cl,hclos,hcl,hcl2⟩:=qbA (env:=X.env) (scope:=scope) fun y hy hf=>I.ok.has _ (S.tk y hy hf)
 rw [exec_Assign_Name_used _ _ _ _ hsw]
 refine wpAny_bind (wpAny_standAt (wpAny_bind ?_))
 show wpAny _ X.A (do let _ <-comprehension (.ListComp elt [⟨target,iter,ifs,0⟩] scope pos) scope X.env _ (newList []) false (eval iter X.env) (some (assign (.Name y py) X.env))) _ _ s
 refine wpAny_bind (wpAny_mono (wpAny_comprehension_free (use:=some (assign (.Name y py) X.env)) (Q:=fun _ s'=>SP X pins D .next s') rfl hs hclos hk S.names
  (thn (hi pins s σ H _ I h) fun v s1 h1=>thn h1 fun itv s2 h2=>?_)) (fun _ s' hq=>wpAny_pure (wpAny_pure hq)) fun _ _ e=>e)
 obtain ⟨it,fp,tn,J,H2,e,I2,T,st2,f2,hw⟩:=h2
 subst e
 refine qcv (RR:=fun acc C=>compPost (model X.prog X.w) X.A X.xe (some (assign (.Name y py) X.env)) (fun _ s'=>SP X pins D .next s') acc C) (Q:=fun v H'=>D.nx (σ.set i (some v)) H') hc I2 T st2 f2 hk hN S hcl hcl2 hg ht he hw ?_
 rintro E C H' s' ⟨m,hn⟩ ⟨c0,c1,c2,c3,c4,c5⟩ I' q
 show wpAny _ X.A (assign (.Name y py) X.env (.ref E)) _ _ _
 obtain ⟨oC,es,ep,hoC,hdC,hrC⟩:=id hn
 have I2':Inv X (pins++[(C,oC)]) σ H' s':=I'.pins_of fun p hp=>(mA_ hp).elim (fun z=>I'.pin p (List.mem_append_right _ z)) fun z=>by
  have e:p=(C,oC):=by simpa using z
  subst e
  exact ⟨hoC,c0,c1,c2,fun v z=>by rw [hdC] at z;cases z⟩
 refine wpAny_assign_Name (qcz I2' hXN hyi hy (v:=.ref E) rfl (fun s'' I''=>?_) hf)
 have hC2:=(I''.pin (C,oC) (List.mem_append_right _ (List.mem_append_right _ (by simp)))).1
 have I3:Inv X pins (σ.set i (some (.ref E))) H' s'':=I''.unpinned
 exact ⟨m,⟨oC,es,ep,hC2,hdC,hrC⟩,fun h' hs'=>⟨_,H',I3.turned (t':=s''.toks) (fun b o hb e=>(hs'.2 b hb).trans e) c0 c1 c3 c4 c5,q⟩⟩
end
structure ItOk (J:It) (xs:List V) (ok:Hp->Prop):Prop where
 stop:∀ H,ok H->J.stop xs.length H
 go:∀ i H,ok H->i < xs.length->J.go i H
 yld:∀ i H x H',ok H->i < xs.length->J.yld i H x H'->H'=H/\xs[i]? = some x
theorem qaj (K:PySem.W.Frag) (a:Addr) (xs:List V):ItOk (Itl K a) xs fun H=>SqL K H a xs:=
 ⟨fun H h=>⟨xs,h,Nat.le_refl _⟩,fun i H h hi=>⟨xs,xs[i],h,by simp [hi]⟩,fun i H x H' h hi y=>⟨y.1,y.2 xs h⟩⟩
theorem qaC (lo:Int) (n:Nat):ItOk (Itr lo n) ((List.range n).map fun i=>V.int (lo+(i:Nat))) fun _=>True:=
 ⟨fun H _=>by show n<=_;simp,fun i H _ hi=>(by show i < n;simpa using hi),fun i H x H' _ hi y=>⟨y.1,by
  have hi':i < n:=by simpa using hi
  obtain ⟨_,rfl⟩:=y
  simp [hi']⟩⟩
theorem qaq {J:It} {D:Addr} {xs:List V} {ok:Hp->Prop} {g:TG} {tt:TT} {te:TE} {Q:Hp->Prop} {τ:St} {H:Hp} (IO:ItOk J xs ok) (Pv:Nat->St->Hp->List V->Prop) (hz:xs.length<=sizeLine) (h0:Pv 0 τ H [])
  (hl:∀ i τ H ys,i<=xs.length->Pv i τ H ys->ok H/\H D=some (.lst ys)/\ys.length<=i)
  (hs:∀ i x τ H ys,i < xs.length->xs[i]? = some x->Pv i τ H ys->g x τ H fun τ4 H4=>tt τ4 H4 fun b H5=>
   if b=true then te τ4 H5 fun y H6=>H6 D=some (.lst ys)/\Pv (i+1) τ4 (upd H6 D (.lst (ys++[y]))) (ys++[y]) else Pv (i+1) τ4 H5 ys)
  (hd:∀ τ H ys,Pv xs.length τ H ys->Q H) :
  ∃ W:Nat->Nat->St->Hp->List V->Prop,(∃ m,W 0 m τ H [])/\∀ i m τ H2 ys,W i m τ H2 ys->H2 D=some (.lst ys) ∧
   ((J.stop i H2/\Q H2)\/(J.go i H2/\ys.length < sizeLine/\∃ N:St->Hp->List V->Prop,(∀ τ' H' ys',N τ' H' ys'->∃ m',m' < m/\W (i+1) m' τ' H' ys')/\∀ x H3,J.yld i H2 x H3->g x τ H3 fun τ4 H4=>tt τ4 H4 fun b H5=>
    if b=true then te τ4 H5 fun y H6=>H6 D=some (.lst ys)/\N τ4 (upd H6 D (.lst (ys++[y]))) (ys++[y])
    else N τ4 H5 ys)):=by
 refine ⟨fun i m τ H ys=>m=xs.length - i/\i<=xs.length/\Pv i τ H ys,⟨xs.length,by simp,Nat.zero_le _,h0⟩,?_⟩
 rintro i m τ H ys ⟨rfl,hi,p⟩
 obtain ⟨q,hD,hy⟩:=hl i τ H ys hi p
 refine ⟨hD,?_⟩
 by_cases hlt:i < xs.length
 ·refine .inr ⟨IO.go i H q hlt,by omega,Pv (i+1),fun τ' H' ys' p'=>⟨xs.length - (i+1),by omega,rfl,hlt,p'⟩,fun x H' y=>?_⟩
  obtain ⟨e,hx⟩:=IO.yld i H x H' q hlt y
  subst e
  exact hs i x τ _ ys hlt hx p
 ·have e:i=xs.length:=by omega
  subst e
  exact .inl ⟨IO.stop H q,hd τ H ys p⟩
theorem qaD {J:It} {xs:List V} {ok:Hp->Prop} {g:TG} {tb:TS} {D:Ends} {σ:St} {H:Hp} (IO:ItOk J xs ok) (Pv:Nat->St->Hp->Prop) (h0:Pv 0 σ H) (hl:∀ i σ H,i<=xs.length->Pv i σ H->ok H)
  (hs:∀ i x σ H,i < xs.length->xs[i]? = some x->Pv i σ H->g x σ H fun σ2 H2=>tb { D with nx:=Pv (i+1),ct:=Pv (i+1),bk:=D.nx } σ2 H2) (hd:∀ σ H,Pv xs.length σ H->D.nx σ H) :
  ∃ W:Nat->Nat->St->Hp->Prop,(∃ m,W 0 m σ H)/\∀ i m σ H,W i m σ H →
   (J.stop i H/\D.nx σ H)\/(J.go i H/\∃ N:St->Hp->Prop,(∀ σ' H',N σ' H'->∃ m',m' < m/\W (i+1) m' σ' H')/\∀ x H',J.yld i H x H'->g x σ H' fun σ2 H2=>tb { D with nx:=N,ct:=N,bk:=D.nx } σ2 H2):=by
 refine ⟨fun i m σ H=>m=xs.length - i/\i<=xs.length/\Pv i σ H,⟨xs.length,by simp,Nat.zero_le _,h0⟩,?_⟩
 rintro i m σ H ⟨rfl,hi,p⟩
 have q:=hl i σ H hi p
 by_cases hlt:i < xs.length
 ·refine .inr ⟨IO.go i H q hlt,Pv (i+1),fun σ' H' p'=>⟨xs.length - (i+1),by omega,rfl,hlt,p'⟩,fun x H' y=>?_⟩
  obtain ⟨e,hx⟩:=IO.yld i H x H' q hlt y
  subst e
  exact hs i x σ _ hlt hx p
 ·have e:i=xs.length:=by omega
  subst e
  exact .inl ⟨IO.stop H q,hd σ H p⟩
end L2
end
section
namespace L2
open PySem PySem.Spec PyProof.Rows
section
variable {X:Cx}
def tyN (H:Hp):V->Option String
 | .non=>some "NoneType"
 | .bl _=>some "bool"
 | .int _=>some "int"
 | .str _=>some "str"
 | .ref a=>match H a with
  | some (.lst _)=>some "list"
  | some (.tup _)=>some "tuple"
  | some (.dK _)=>some "dict"
  | _=>none
 | _=>none
theorem call_isinst:CallR X (.builtin "isinstance") (fun xs H Q=>∃ x T Tx,xs=[x,.ty T]/\tyN H x=some Tx/\T∈["int","bool","list","tuple","str"]/\Q (.bl (Tx == T || (Tx == "bool" && T == "int"))) H):=by
 intro pins s σ H xs us Q I r h
 obtain ⟨x,T,Tx,rfl,hT,hm,q⟩:=h
 obtain ⟨u,w',rfl,r1,r2⟩:=qe2 r
 obtain rfl:w' = .type T:=r2
 have no:∀ {b:Bool},b=(Tx == T || (Tx == "bool" && T == "int"))->∀ tk,EP X pins σ Q (.bool b) { s with toks:=tk }:=fun {b} hb tk=>⟨.bl b,H,I.tok _,rfl,by rw [hb];exact q⟩
 have ye:∀ {b:Bool},b=(Tx == T || (Tx == "bool" && T == "int"))->EP X pins σ Q (.bool b) s:=fun {b} hb=>⟨.bl b,H,I,rfl,by rw [hb];exact q⟩
 simp only [List.mem_cons,List.not_mem_nil,or_false] at hm
 cases x with
 | int i=>
  obtain ⟨t,rfl⟩:=r1
  cases hT
  rcases hm with rfl | rfl | rfl | rfl | rfl
  ·exact IsiPair.int_int (ye (by decide))
  ·exact IsiPair.int_bool (no (by decide) _)
  ·exact IsiPair.int_list (no (by decide) _)
  ·exact IsiPair.int_tuple (no (by decide) _)
  ·exact IsiPair.int_str (no (by decide) _)
 | str i=>
  obtain ⟨t,rfl⟩:=r1
  cases hT
  rcases hm with rfl | rfl | rfl | rfl | rfl
  ·exact IsiPair.str_int (no (by decide) _)
  ·exact IsiPair.str_bool (no (by decide) _)
  ·exact IsiPair.str_list (no (by decide) _)
  ·exact IsiPair.str_tuple (no (by decide) _)
  ·exact IsiPair.str_str (ye (by decide))
 | bl i=>
  cases r1
  cases hT
  rcases hm with rfl | rfl | rfl | rfl | rfl
  ·exact IsiPair.bool_int (ye (by decide))
  ·exact IsiPair.bool_bool (ye (by decide))
  ·exact IsiPair.bool_list (no (by decide) _)
  ·exact IsiPair.bool_tuple (no (by decide) _)
  ·exact IsiPair.bool_str (no (by decide) _)
 | ref a=>
  cases r1
  cases hH:H a with
  | none=>simp [tyN,hH] at hT
  | some o=>
   cases o with
   | lst ys=>
    simp [tyN,hH] at hT
    subst hT
    obtain ⟨_,its,n,_,e⟩:=I.hok a _ hH
    have hx:∃ o,s.heap.get? a=some o/\o.cls = .type "list" := ⟨_,e,rfl⟩
    rcases hm with rfl | rfl | rfl | rfl | rfl
    ·exact call_isinstance (isinstance_false_list (by decide +kernel) F.isi_meta_int F.sub_list_int) ⟨hx,no (by decide) _⟩
    ·exact call_isinstance (isinstance_false_list (by decide +kernel) F.isi_meta_bool F.sub_list_bool) ⟨hx,no (by decide) _⟩
    ·exact call_isinstance (isinstance_true (Tx:= "list") F.isi_meta_list F.sub_list_list) ⟨⟨_,e,rfl⟩,ye (by decide)⟩
    ·exact call_isinstance (isinstance_false_list (by decide +kernel) F.isi_meta_tuple F.sub_list_tuple) ⟨hx,no (by decide) _⟩
    ·exact call_isinstance (isinstance_false_list (by decide +kernel) F.isi_meta_str F.sub_list_str) ⟨hx,no (by decide) _⟩
   | tup ys=>
    simp [tyN,hH] at hT
    subst hT
    obtain ⟨_,its,_,o,e,hc,_⟩:=I.hok a _ hH
    have hx:∃ o,s.heap.get? a=some o/\o.cls = .type "tuple" := ⟨_,e,hc⟩
    rcases hm with rfl | rfl | rfl | rfl | rfl
    ·exact call_isinstance (isinstance_false_tuple (by decide +kernel) F.isi_meta_int F.sub_tuple_int) ⟨hx,no (by decide) _⟩
    ·exact call_isinstance (isinstance_false_tuple (by decide +kernel) F.isi_meta_bool F.sub_tuple_bool) ⟨hx,no (by decide) _⟩
    ·exact call_isinstance (isinstance_false_tuple (by decide +kernel) F.isi_meta_list F.sub_tuple_list) ⟨hx,no (by decide) _⟩
    ·exact call_isinstance (isinstance_true (Tx:= "tuple") F.isi_meta_tuple F.sub_tuple_tuple) ⟨⟨_,e,hc⟩,ye (by decide)⟩
    ·exact call_isinstance (isinstance_false_tuple (by decide +kernel) F.isi_meta_str F.sub_tuple_str) ⟨hx,no (by decide) _⟩
   | dK ys=>
    simp [tyN,hH] at hT
    subst hT
    obtain ⟨_,_,vs,_,dd⟩:=I.hok a _ hH
    obtain ⟨o,es,ep,e,hc,_⟩:=dd
    have hx:∃ o,s.heap.get? a=some o/\o.cls = .type "dict" := ⟨o,e,hc.1⟩
    rcases hm with rfl | rfl | rfl | rfl | rfl
    ·exact call_isinstance (isinstance_false_dict (by decide +kernel) F.isi_meta_int F.sub_dict_int) ⟨hx,no (by decide) _⟩
    ·exact call_isinstance (isinstance_false_dict (by decide +kernel) F.isi_meta_bool F.sub_dict_bool) ⟨hx,no (by decide) _⟩
    ·exact call_isinstance (isinstance_false_dict (by decide +kernel) F.isi_meta_list F.sub_dict_list) ⟨hx,no (by decide) _⟩
    ·exact call_isinstance (isinstance_false_dict (by decide +kernel) F.isi_meta_tuple F.sub_dict_tuple) ⟨hx,no (by decide) _⟩
    ·exact call_isinstance (isinstance_false_dict (by decide +kernel) F.isi_meta_str F.sub_dict_str) ⟨hx,no (by decide) _⟩
   | _=>simp [tyN,hH] at hT
 | non=>
  cases r1
  cases hT
  rcases hm with rfl | rfl | rfl | rfl | rfl
  ·exact IsiPair.NoneType_int (no (by decide) _)
  ·exact IsiPair.NoneType_bool (no (by decide) _)
  ·exact IsiPair.NoneType_list (no (by decide) _)
  ·exact IsiPair.NoneType_tuple (no (by decide) _)
  ·exact IsiPair.NoneType_str (no (by decide) _)
 | _=>cases hT
theorem qcq:∀ {bs:List Bool} {us:List Value},Vals (bs.map V.bl) us->us=bs.map Value.bool
 | [],us,r=>by cases r;rfl
 | b :: bs,us,r=>by
  cases r with
  | cons r1 r2=>
   cases r1
   rw [qcq r2];rfl
theorem qhc (bs:List Bool):(List.range bs.length).all (fun i=>bs.getD i true)=bs.all id:=by
 rw [Bool.eq_iff_iff,List.all_eq_true,List.all_eq_true]
 constructor
 ·intro h b hb
  obtain ⟨i,hi,rfl⟩:=List.mem_iff_getElem.mp hb
  have:=h i (List.mem_range.mpr hi)
  rw [List.getD_eq_getElem?_getD,gE_ hi] at this
  exact this
 ·intro h i hi
  have hi:=List.mem_range.mp hi
  rw [List.getD_eq_getElem?_getD,gE_ hi]
  exact h _ (List.getElem_mem hi)
theorem qif (hc:X.calm=true):CallR X (.builtin "all") (fun xs H Q=>∃ (p:Addr) (bs:List Bool),xs=[.ref p]/\H p=some (.lst (bs.map V.bl))/\Q (.bl (bs.all id)) H):=by
 intro pins s σ H xs us Q I r h
 obtain ⟨p,bs,rfl,hH,q⟩:=h
 obtain ⟨u,rfl,r1⟩:=qaP r
 cases r1
 obtain ⟨z,its,n,rv,e⟩:=I.hok p _ hH
 have ei:=qcq rv
 subst ei
 have hl:s.heap.IsList p (bs.map Value.bool).toArray:=⟨_,e,rfl,_,rfl⟩
 have hp:p < s.heap.objs.size:=Heap.lt_size e
 refine call_all_walk (wpAny_pyIter_list hl ?_)
 refine ⟨s.heap.objs.size,_,[s.heap.objs.size],_,_,_,(fun i=>bs.getD i true),rfl,Walks.list (A:=X.A.in1) (I.ok.hd hc) s.heap.objs.size p (Nat.ne_of_lt hp) (bs.map Value.bool).toArray,⟨⟨_,Heap.get?_push_size _ rfl,rfl,rfl⟩,hl.push _⟩,?_,fun h' tk hk=>?_⟩
 ·intro i v s' Q' E' hP hQ
  have hP:(bs.map Value.bool).toArray[i]? = some v:=hP
  have hb:∃ b,bs[i]? = some b/\v = .bool b:=by
   rw [List.getElem?_toArray,gM_] at hP
   cases e:bs[i]? with
   | none=>rw [e] at hP;cases hP
   | some b=>rw [e] at hP;exact ⟨b,rfl,(oI_ hP).symm⟩
  obtain ⟨b,hb,rfl⟩:=hb
  have e:bs.getD i true=b:=by rw [List.getD_eq_getElem?_getD,hb];rfl
  dsimp only at hQ
  rw [e] at hQ
  exact wpAny_truthy_bool hQ
 ·have hn:(bs.map Value.bool).toArray.size=bs.length:=by simp
  rw [hn,qhc]
  exact ⟨.bl (bs.all id),H,I.kept fun b o e=>hk b o (fun hm=>by
   have:b=s.heap.objs.size:=by simpa using hm
   exact absurd (this ▸ Heap.lt_size e) (Nat.lt_irrefl _)) (Heap.get?_push_of_some _ e),rfl,q⟩
theorem qc4:∀ {ws:List Str} {us:List Value},Vals (ws.map V.str) us->StrsAre us ws
 | [],us,r=>by cases r;exact .nil
 | w :: ws,us,r=>by
  cases r with
  | cons r1 r2=>
   obtain ⟨t,rfl⟩:=r1
   exact .cons w t (qc4 r2)
theorem mt_join:MtM X "str.join" (fun x vs H Q=>∃ (sep:Str) (p:Addr) (ws:List Str),x = .str sep/\vs=[.ref p]/\H p=some (.lst (ws.map V.str))/\(ws.map (·.length)).sum+ws.length * sep.length<=16777216/\Q (.str (Txt.join sep ws)) H):=by
 intro pins s σ H x vs v us Q I rx rv h
 obtain ⟨sep,p,ws,rfl,rfl,hH,hz,q⟩:=h
 obtain ⟨t,rfl⟩:=rx
 obtain ⟨u,rfl,ru⟩:=rv.one
 cases ru
 obtain ⟨z,its,n,r,e⟩:=I.hok p _ hH
 exact join_list (items:=its.toArray) ⟨_,e,rfl,_,rfl⟩ (qc4 r) hz fun t' k=>⟨.str _,H,I.tok _,⟨_,rfl⟩,q⟩
theorem mt_bitlen:MtM X "int.bit_length" (fun x vs H Q=>∃ i,x = .int i/\vs=[]/\Q (.int (Builtin.Int.intBits i)) H):=by
 intro pins s σ H x vs v us Q I rx rv h
 obtain ⟨i,rfl,rfl,q⟩:=h
 obtain ⟨t,rfl⟩:=rx
 obtain rfl:=rv.zero
 exact call_int_bit_length ⟨.int _,H,I.tok _,⟨_,rfl⟩,q⟩
theorem qkO:SlR X (fun x lo hi H Q=>∃ z,x = .str z/\z.length<=sizeLine/\Q (.str (Txt.slice z lo hi)) H):=by
 intro pins s σ H x v vl vu lo hi sl Q I rx hs pl pu h
 obtain ⟨z,rfl,hz,q⟩:=h
 obtain ⟨t,rfl⟩:=rx
 have fin:∀ t' k,EP X pins σ Q (.str (Txt.slice z lo hi) t') { s with toks:=k }:=fun t' k=>⟨.str _,H,I.tok _,⟨_,rfl⟩,q⟩
 refine ⟨"str",_,F.slot_str_getitem.lookup,typeIs_str _ _ _,?_⟩
 cases pl with
 | none=>
  cases pu with
  | none=>exact wpAny_getItem_str_slice (l:=none) (u:=none) (st:=none) hs rfl (post_val_or_str ⟨Nat.le_trans (Txt.slice_le z _ _) hz,fin⟩)
  | int j uj=>exact wpAny_getItem_str_slice (l:=none) (u:=some (j,uj)) (st:=none) hs rfl (post_val_or_str ⟨Nat.le_trans (Txt.slice_le z _ _) hz,fin⟩)
 | int i ui=>
  cases pu with
  | none=>exact wpAny_getItem_str_slice (l:=some (i,ui)) (u:=none) (st:=none) hs rfl (post_val_or_str ⟨Nat.le_trans (Txt.slice_le z _ _) hz,fin⟩)
  | int j uj=>exact wpAny_getItem_str_slice (l:=some (i,ui)) (u:=some (j,uj)) (st:=none) hs rfl (post_val_or_str ⟨Nat.le_trans (Txt.slice_le z _ _) hz,fin⟩)
theorem qdL:CallR X (.type "int") (fun xs H Q=>∃ b:Bool,xs=[.str (if b then ("1" : Str) else "0")]/\Q (.int (if b then 1 else 0)) H):=by
 intro pins s σ H xs us Q I r h
 obtain ⟨b,rfl,q⟩:=h
 obtain ⟨u,rfl,t,rfl⟩:=qaP r
 cases b with
 | true=>exact PySem.W.KIN.call_text (x:=("1" : Str)) (n:=1) (by decide +kernel) (by decide +kernel) ⟨.int 1,H,I.tok _,⟨_,rfl⟩,q⟩
 | false=>exact PySem.W.KIN.call_text (x:=("0" : Str)) (n:=0) (by decide +kernel) (by decide +kernel) ⟨.int 0,H,I.tok _,⟨_,rfl⟩,q⟩
end
end L2
end
section
namespace L2
open PySem PySem.Spec PyProof.Rows
mutual
inductive DV (H:Hp):V->PyData->Prop
 | non:DV H .non .none
 | bl (b:Bool):DV H (.bl b) (.bool b)
 | int (i:Int):DV H (.int i) (.int i)
 | str (x:Str):DV H (.str x) (.str x)
 | lst {a:Addr} {xs:List V} {ds:List PyData}:H a=some (.lst xs)->DVs H xs ds->DV H (.ref a) (.list ds)
 | tup {a:Addr} {xs:List V} {ds:List PyData}:H a=some (.tup xs)->DVs H xs ds->DV H (.ref a) (.tuple ds)
 | dic {a:Addr}:H a=some (.dK [])->DV H (.ref a) (.dict [])
inductive DVs (H:Hp):List V->List PyData->Prop
 | nil:DVs H [] []
 | cons {x:V} {d:PyData} {xs:List V} {ds:List PyData}:DV H x d->DVs H xs ds->DVs H (x :: xs) (d :: ds)
end
mutual
theorem DV.mono {H H':Hp} (k:Same H H'):∀ {v:V} {d:PyData},DV H v d->DV H' v d
 | _,_,.non=>.non
 | _,_,.bl b=>.bl b
 | _,_,.int i=>.int i
 | _,_,.str x=>.str x
 | _,_,.lst h r=>.lst (k _ _ h) (DVs.mono k r)
 | _,_,.tup h r=>.tup (k _ _ h) (DVs.mono k r)
 | _,_,.dic h=>.dic (k _ _ h)
theorem DVs.mono {H H':Hp} (k:Same H H'):∀ {vs:List V} {ds:List PyData},DVs H vs ds->DVs H' vs ds
 | _,_,.nil=>.nil
 | _,_,.cons h r=>.cons (DV.mono k h) (DVs.mono k r)
end
section
variable {X:Cx} {pins:List (Addr×Obj)} {σ:St} {H:Hp} {s:Shared}
mutual
theorem DV.reads (I:Inv X pins σ H s):∀ {v:V} {d:PyData} {u:Value},DV H v d->d.canLay0=true->RelV v u->∃ as,Reads s.heap u d as
 | _,_,_,.non,_,r=>by cases r;exact ⟨_,.none⟩
 | _,_,_,.bl b,_,r=>by cases r;exact ⟨_,.bool b⟩
 | _,_,_,.int i,_,r=>by obtain ⟨t,rfl⟩:=r;exact ⟨_,.int i t⟩
 | _,_,_,.str x,_,r=>by obtain ⟨t,rfl⟩:=r;exact ⟨_,.str x t⟩
 | _,_,_,.lst h rr,c,r=>by
  cases r
  obtain ⟨_,its,n,rv,e⟩:=I.hok _ _ h
  obtain ⟨as,q⟩:=DVs.reads I rr (by simpa [PyData.canLay0] using c) rv
  exact ⟨_,.list e rfl rfl (by simpa using q)⟩
 | _,_,_,.tup h rr,c,r=>by
  cases r
  obtain ⟨_,its,rv,o,e,hc,n,hd⟩:=I.hok _ _ h
  obtain ⟨as,q⟩:=DVs.reads I rr (by simpa [PyData.canLay0] using c) rv
  exact ⟨_,.tuple e hc hd (by simpa using q)⟩
 | _,_,_,.dic h,c,r=>by simp [PyData.canLay0] at c
theorem DVs.reads (I:Inv X pins σ H s):∀ {vs:List V} {ds:List PyData} {us:List Value},DVs H vs ds->PyData.canLayAll0 ds=true->Vals vs us->∃ as,ReadsAll s.heap us ds as
 | _,_,_,.nil,_,r=>by cases r;exact ⟨_,.nil⟩
 | _,_,_,.cons h rr,c,r=>by
  have c':=by simpa [PyData.canLayAll0] using c
  cases r with
  | cons r1 r2=>
   obtain ⟨as,q⟩:=DV.reads I h c'.1 r1
   obtain ⟨bs,p⟩:=DVs.reads I rr c'.2 r2
   exact ⟨_,.cons q p⟩
end
end
section
variable {X:Cx}
theorem qlD (hu:X.A.units+64 < cLine):OpR X (compareOp .Eq) (fun x y H Q=>∃ d e,DV H x d/\DV H y e/\SeqAt.shaped d=true/\SeqAt.shaped e=true/\Q (.bl (PyData.eqv d e)) H):=by
 intro pins s σ H x y v u Q I rx ry h
 obtain ⟨d,e,hd,he,sd,se,q⟩:=h
 obtain ⟨as,ra⟩:=hd.reads I (SeqAt.canLay_of_shaped sd) rx
 obtain ⟨bs,rb⟩:=he.reads I (SeqAt.canLay_of_shaped se) ry
 exact eq_dataH ra rb sd se hu ⟨.bl _,H,I,rfl,q⟩
theorem qlz (hu:X.A.units+64 < cLine):OpR X (compareOp .NotEq) (fun x y H Q=>∃ d e,DV H x d/\DV H y e/\SeqAt.shaped d=true/\SeqAt.shaped e=true/\Q (.bl (!PyData.eqv d e)) H):=by
 intro pins s σ H x y v u Q I rx ry h
 obtain ⟨d,e,hd,he,sd,se,q⟩:=h
 obtain ⟨as,ra⟩:=hd.reads I (SeqAt.canLay_of_shaped sd) rx
 obtain ⟨bs,rb⟩:=he.reads I (SeqAt.canLay_of_shaped se) ry
 exact ne_dataH ra rb sd se hu ⟨.bl _,H,I,rfl,q⟩
end
mutual
theorem qia:∀ d:PyData,d.canLay0=true->PyData.eqv d d=true
 | .none,_=>by simp [PyData.eqv]
 | .bool b,_=>by simp [PyData.eqv]
 | .int i,_=>by simp [PyData.eqv]
 | .str x,_=>by simp [PyData.eqv]
 | .list xs,h=>by rw [PyData.eqv];exact qbi xs (by simpa [PyData.canLay0] using h)
 | .tuple xs,h=>by rw [PyData.eqv];exact qbi xs (by simpa [PyData.canLay0] using h)
 | .dict xs,h=>by simp [PyData.canLay0] at h
theorem qbi:∀ ds:List PyData,PyData.canLayAll0 ds=true->PyData.eqvAll ds ds=true
 | [],_=>by simp [PyData.eqvAll]
 | d :: ds,h=>by
  have h':d.canLay0=true/\PyData.canLayAll0 ds=true:=by simpa [PyData.canLayAll0] using h
  rw [PyData.eqvAll,qia d h'.1,qbi ds h'.2];rfl
end
theorem qgR (ds:List PyData):PyData.eqv (.list ds) (.list [])=ds.isEmpty:=by
 cases ds<;>simp [PyData.eqv,PyData.eqvAll]
def sg (b:Bool):Nat:=if b then 49 else 48
def bs (w:List Bool):Str:=⟨(w.map sg).toArray⟩
theorem qaI (w:List Bool):(bs w).length=w.length:=by show ((w.map sg).toArray).size=_;simp
theorem qkP {a b:Bool} (h:sg a=sg b):a=b:=by cases a<;>cases b<;>first | rfl | cases h
theorem bs_inj {v w:List Bool} (h:bs v=bs w):v=w:=by
 have h1:(v.map sg).toArray=(w.map sg).toArray:=congrArg Str.cps h
 have h2:v.map sg=w.map sg:=by simpa using congrArg Array.toList h1
 clear h h1
 induction v generalizing w with
 | nil=>cases w<;>simp_all
 | cons a v ih=>
  cases w with
  | nil=>simp at h2
  | cons b w=>
   simp only [List.map_cons,List.cons.injEq] at h2
   rw [qkP h2.1,ih h2.2]
theorem qdM (v w:List Bool):bs v++bs w=bs (v++w):=by
 show (⟨(v.map sg).toArray++(w.map sg).toArray⟩ : Str)=⟨((v++w).map sg).toArray⟩
 simp
theorem qmj (w:List Bool):PyData.strOk (bs w)=true:=by
 unfold PyData.strOk bs
 rw [Array.all_eq_true']
 intro x hx
 have hx:x∈w.map sg:=by simpa using hx
 obtain ⟨b,_,rfl⟩:=mM_ hx
 cases b<;>decide
theorem qmk:("" : Str)=bs []:=by decide +kernel
theorem qmE:("0" : Str)=bs [false]:=by decide +kernel
theorem qn0:("1" : Str)=bs [true]:=by decide +kernel
theorem qnB (b:Bool):bs [b]=(if b then ("1" : Str) else "0"):=by cases b<;>decide +kernel
end L2
end
section
namespace L2
open PySem PySem.Spec PyProof.Rows
section
variable {X:Cx} {a b c e o:Expr} {es:List Expr} {pos:Pos}
theorem PE.of {t t':TE} (h:PE X e t) (k:∀ σ H Q,t' σ H Q->t σ H Q):PE X e t':=fun pins s σ H Q I q=>h pins s σ H Q I (k _ _ _ q)
theorem OpR.of {f:Value->Value->Sem Value} {r r':R2} (h:OpR X f r) (k:∀ x y H Q,r' x y H Q->r x y H Q):OpR X f r':=fun pins s σ H x y v u Q I rx ry q=>h pins s σ H x y v u Q I rx ry (k _ _ _ _ q)
def tV (i:Nat):TE:=fun σ H Q=>match σ[i]? with
 | some (some v)=>Q v H
 | _=>False
theorem vr (i:Nat) {x:Str} (hN:X.N[i]? = some x:=by rfl) (hv:Vis X.env.scope x:=by first | exact Or.inl rfl | exact Or.inr (Or.inl rfl) | exact Or.inr (Or.inr rfl)) (hd:(x == ("__debug__" : Str))=false:=by decide)
  (hcd:(x == ("__classdict__" : Str))=false:=by decide):PE X (.Name x pos) (tV i):=(qli hN hv hd hcd).of fun σ H Q q=>by
 unfold tV at q
 split at q
 ·exact ⟨_,by assumption,q⟩
 ·exact q.elim
def rN (C:Int->Int->Prop) (g:Int->Int->V):R2:=fun x y H Q=>match x,y with
 | .int i,.int j=>C i j/\Q (g i j) H
 | _,_=>False
def rN0 (g:Int->Int->V):R2:=fun x y H Q=>match x,y with
 | .int i,.int j=>Q (g i j) H
 | _,_=>False
theorem OpR.n {f:Value->Value->Sem Value} {C:Int->Int->Prop} {g:Int->Int->V} (h:OpR X f (rI C g)):OpR X f (rN C g):=h.of fun x y H Q q=>by
 unfold rN at q
 split at q
 ·exact ⟨_,_,rfl,rfl,q⟩
 ·exact q.elim
theorem OpR.n0 {f:Value->Value->Sem Value} {g:Int->Int->V} (h:OpR X f (rI0 g)):OpR X f (rN0 g):=h.of fun x y H Q q=>by
 unfold rN0 at q
 split at q
 ·exact ⟨_,_,rfl,rfl,q⟩
 ·exact q.elim
def qjn:R2:=fun x y H Q=>match x,y with
 | .int i,.int j=>Q (.int (i+j)) H
 | .str i,.str j=>i.length+j.length<=sizeLine/\Q (.str (i++j)) H
 | .ref p,.ref q=>∃ xs zs,H p=some (.lst xs)/\H q=some (.lst zs)/\xs.length+zs.length<=sizeLine/\∀ n,H n=none->Q (.ref n) (upd H n (.lst (xs++zs)))
 | _,_=>False
theorem qjJ:OpR X (binaryOp .Add) qjn:=(op_add.or (op_add_str.or qlE)).of fun x y H Q q=>by
 unfold qjn at q
 split at q
 ·exact .inl ⟨_,_,rfl,rfl,q⟩
 ·exact .inr (.inl ⟨_,_,rfl,rfl,q⟩)
 ·obtain ⟨xs,zs,h1,h2,h3,h4⟩:=q
  exact .inr (.inr ⟨_,_,xs,zs,rfl,rfl,h1,h2,h3,h4⟩)
 ·exact q.elim
def qk0:R2:=fun x y H Q=>match x,y with
 | .int i,.int j=>CMul i j/\Q (.int (i * j)) H
 | .ref p,.int k=>∃ xs,H p=some (.lst xs)/\-(2 ^ 63)<=k/\k < 2 ^ 63/\xs.length * k.toNat<=sizeLine/\∀ n,H n=none->Q (.ref n) (upd H n (.lst (List.replicate k.toNat xs).flatten))
 | _,_=>False
theorem qjI:OpR X (binaryOp .Mult) qk0:=(op_mul.or qlx).of fun x y H Q q=>by
 unfold qk0 at q
 split at q
 ·exact .inl ⟨_,_,rfl,rfl,q⟩
 ·obtain ⟨xs,h1,h2,h3,h4,h5⟩:=q
  exact .inr ⟨_,_,xs,rfl,rfl,h1,h2,h3,h4,h5⟩
 ·exact q.elim
def qf7:R2:=fun x y H Q=>match x,y with
 | .int i,.int j=>Q (.bl (decide (i=j))) H
 | .str i,.str j=>Q (.bl (decide (i=j))) H
 | .bl i,.bl j=>Q (.bl (decide (i=j))) H
 | .ref p,.ref q=>∃ d e,DV H (.ref p) d/\DV H (.ref q) e/\SeqAt.shaped d=true/\SeqAt.shaped e=true/\Q (.bl (PyData.eqv d e)) H
 | _,_=>False
theorem qey (i j:Int):decide (V.int i=V.int j)=decide (i=j):=by simp
theorem qex (i j:Str):decide (V.str i=V.str j)=decide (i=j):=by simp
theorem qfx (i j:Bool):decide (V.bl i=V.bl j)=decide (i=j):=by simp
theorem qiv (hu:X.A.units+64 < cLine):OpR X (compareOp .Eq) qf7:=(op_eq.or (qlD hu)).of fun x y H Q q=>by
 unfold qf7 at q
 split at q
 ·exact .inl ⟨rfl,by rw [qey];exact q⟩
 ·exact .inl ⟨rfl,by rw [qex];exact q⟩
 ·exact .inl ⟨rfl,by rw [qfx];exact q⟩
 ·exact .inr q
 ·exact q.elim
def qjg:R2:=fun x y H Q=>qf7 x y H fun v H'=>match v with
 | .bl k=>Q (.bl (!k)) H'
 | _=>False
theorem qly (hu:X.A.units+64 < cLine):OpR X (compareOp .NotEq) qjg:=(op_ne.or (qlz hu)).of fun x y H Q q=>by
 unfold qjg qf7 at q
 split at q
 ·exact .inl ⟨rfl,by rw [qey];exact q⟩
 ·exact .inl ⟨rfl,by rw [qex];exact q⟩
 ·exact .inl ⟨rfl,by rw [qfx];exact q⟩
 ·exact .inr q
 ·exact q.elim
def qen (H:Hp) (x:V) (i:Int):Option V:=match x with
 | .ref p=>match H p with
  | some (.lst xs)=>atI xs i
  | some (.tup xs)=>atI xs i
  | some (.frz _ (.lst xs))=>atI xs i
  | _=>none
 | .str z=>if z.length<=sizeLine then (atI z.cps.toList i).map fun c=>V.str ⟨#[c]⟩ else none
 | _=>none
theorem qcV {H:Hp} {p:Addr} {xs:List V} {i:Int} (h:H p=some (.lst xs)):qen H (.ref p) i=atI xs i:=by simp [qen,h]
theorem qh7 {H:Hp} {p:Addr} {xs:List V} {i:Int} (h:H p=some (.tup xs)):qen H (.ref p) i=atI xs i:=by simp [qen,h]
def qmz:R2:=fun x y H Q=>match y with
 | .int i=>∃ v,qen H x i=some v/\Q v H
 | _=>False
theorem ixU:IxR X qmz:=by
 intro value slice pins s σ H x y v u Q I rx ry q hs
 refine qlW value slice pins s σ H x y v u Q I rx ry ?_ hs
 unfold qmz at q
 split at q
 ·obtain ⟨z,hz,q⟩:=q
  unfold qen at hz
  split at hz
  ·split at hz
   ·rename_i xs hx
    exact .inl ⟨_,xs,_,z,rfl,rfl,SqL.of hx,hz,q⟩
   ·rename_i xs hx
    exact .inr (.inl ⟨_,xs,_,z,rfl,rfl,SqT.of hx,hz,q⟩)
   ·rename_i oo xs hx
    exact .inl ⟨_,xs,_,z,rfl,rfl,.inl (.inr ⟨_,hx⟩),hz,q⟩
   ·cases hz
  ·split at hz
   ·rename_i hl
    obtain ⟨c,hc,rfl⟩:=Option.map_eq_some_iff.mp hz
    exact .inr (.inr ⟨_,_,c,rfl,rfl,hl,hc,q⟩)
   ·cases hz
  ·cases hz
 ·exact q.elim
def qnR:V->Option Int->Option Int->Hp->VK->Prop:=fun x lo hi H Q=>match x with
 | .ref p=>∃ xs,H p=some (.lst xs)/\∀ n,H n=none->Q (.ref n) (upd H n (.lst (qdR xs lo hi)))
 | .str z=>z.length<=sizeLine/\Q (.str (Txt.slice z lo hi)) H
 | _=>False
theorem slU:SlR X qnR:=by
 intro pins s σ H x v vl vu lo hi sl Q I rx hs pl pu q
 refine (sl_list.or qkO) pins s σ H x v vl vu lo hi sl Q I rx hs pl pu ?_
 unfold qnR at q
 split at q
 ·obtain ⟨xs,h,q⟩:=q
  exact .inl ⟨_,xs,rfl,SqL.of h,q⟩
 ·exact .inr ⟨_,rfl,q⟩
 ·exact q.elim
def qkI (t:TE):TO:=fun σ H Q=>t σ H fun x H1=>match x with
 | .int i=>Q (some i) H1
 | _=>False
theorem qhy {te:TE} (h:PE X e te):PO X (some e) (qkI te):=by
 intro pins s σ H Q I hw
 rw [evalPart_some]
 refine thn (h pins s σ H _ I hw) fun u s1 ⟨x,H1,I1,r1,q1⟩=>?_
 dsimp only at q1
 split at q1
 ·obtain ⟨t,rfl⟩:=r1
  exact ⟨some _,H1,I1,.int _ t,q1⟩
 ·exact q1.elim
def tBU (t:TE):TT:=fun σ H Q=>t σ H fun x H1=>match x with
 | .bl c=>Q c H1
 | _=>False
theorem qmh {Q:Bool->Hp->Prop} {x:V} {H1:Hp} (q:match x with | .bl c=>Q c H1 | _=>False):∃ c,x = .bl c/\Q c H1:=by
 split at q
 ·exact ⟨_,rfl,q⟩
 ·exact q.elim
theorem qjp {op:CmpOp} {r:R2} {ta tb:TE} (ho:OpR X (compareOp op) r) (ha:PE X a ta) (hb:PE X b tb) (hm:behindInMarks op b=false:=by first | exact qix _ | rfl | (with_unfolding_all rfl)):PT X (.Compare a [op] [b] pos) (tBU (tOp r ta tb)):=by
 intro pins s σ H Q I h
 refine wpAny_isTrue_Compare1 (thn (ha pins s σ H _ I h) fun v s1 ⟨x,H1,I1,r1,q1⟩=>thn (hb pins s1 σ H1 _ I1 q1) fun u s2 ⟨y,H2,I2,r2,q2⟩=>
  thn (ho pins s2 σ H2 x y v u _ I2 r1 r2 q2) fun c s3 ⟨z,H3,I3,r3,q3⟩=>?_) hm
 obtain ⟨k,e,q3⟩:=qmh q3
 subst e
 cases r3
 exact wpAny_truthy_bool ⟨H3,I3,q3⟩
theorem qjC {op:CmpOp} {r:R2} {ta tb:TE} (ho:OpR X (compareOp op) r) (ha:PE X a ta) (hb:PE X b tb) (hm:behindInMarks op b=false:=by first | exact qix _ | rfl | (with_unfolding_all rfl)):PE X (.Compare a [op] [b] pos) (tOp r ta tb):=qjD ho ha hb hm
def qiW (ta tb:TE):TE:=fun σ H Q=>ta σ H fun x H1=>match x with
 | .bl c=>if c=true then tb σ H1 Q else Q (.bl false) H1
 | _=>False
def qmN (ta:TE):TE:=fun σ H Q=>ta σ H fun x H1=>match x with
 | .bl c=>Q (.bl (!c)) H1
 | _=>False
def qfD (r r':R2) (ta tb tc:TE):TE:=fun σ H Q=>ta σ H fun x H1=>tb σ H1 fun y H2=>r x y H2 fun z H3=>match z with
 | .bl k=>if k=true then tc σ H3 fun w' H4=>r' y w' H4 Q else Q (.bl false) H3
 | _=>False
variable {ta tb tc:TE} {qf1:List Expr}
theorem qjG (ha:PE X a ta) (hb:PE X (.BoolOp .And (b :: qf1) pos) tb):PE X (.BoolOp .And (a :: b :: qf1) pos) (qiW ta tb):=by
 intro pins s σ H Q I h
 refine BoolOp_and (thn (ha pins s σ H _ I h) fun v s1 ⟨x,H1,I1,r1,q1⟩=>?_)
 dsimp only at q1
 split at q1
 ·rename_i c
  cases r1
  refine wpAny_truthy_bool ?_
  cases c with
  | true=>exact hb pins s1 σ H1 Q I1 q1
  | false=>exact ⟨.bl false,H1,I1,rfl,q1⟩
 ·exact q1.elim
theorem qjx (ha:PE X a ta):PE X (.UnaryOp .Not a pos) (qmN ta):=by
 intro pins s σ H Q I h
 refine UnaryOp_ (thn (ha pins s σ H _ I h) fun v s1 ⟨x,H1,I1,r1,q1⟩=>?_)
 dsimp only at q1
 split at q1
 ·cases r1
  exact not_of (wpAny_truthy_bool ⟨.bl _,H1,I1,rfl,q1⟩)
 ·exact q1.elim
theorem qge {op op':CmpOp} {r r':R2} (ho:OpR X (compareOp op) r) (ho':OpR X (compareOp op') r') (ha:PE X a ta) (hb:PE X b tb) (hc:PE X c tc)
  (hm:lastMarks [op,op'] [b,c]=false:=by with_unfolding_all rfl):PE X (.Compare a [op,op'] [b,c] pos) (qfD r r' ta tb tc):=by
 intro pins s σ H Q I h
 refine Compare_chain (thn (ha pins s σ H _ I h) fun v s1 ⟨x,H1,I1,r1,q1⟩=>chain_link (thn (hb pins s1 σ H1 _ I1 q1) fun u s2 ⟨y,H2,I2,r2,q2⟩=>
  thn (ho pins s2 σ H2 x y v u _ I2 r1 r2 q2) fun d s3 ⟨z,H3,I3,r3,q3⟩=>?_)) hm
 dsimp only at q3
 split at q3
 ·rename_i k
  cases r3
  refine wpAny_truthy_bool ?_
  cases k with
  | false=>exact ite_ff ⟨.bl false,H3,I3,rfl,q3⟩
  | true=>exact ite_tt (chain_last (thn (hc pins s3 σ H3 _ I3 q3) fun w' s4 ⟨z',H4,I4,r4,q4⟩=>ho' pins s4 σ H4 y z' u w' Q I4 r2 r4 q4))
 ·exact q3.elim
theorem CallR.of {f:Value} {r r':List V->Hp->VK->Prop} (h:CallR X f r) (k:∀ xs H Q,r' xs H Q->r xs H Q):CallR X f r':=fun pins s σ H xs us Q I rx q=>h pins s σ H xs us Q I rx (k _ _ _ q)
theorem MtM.of {id:String} {r r':V->List V->Hp->VK->Prop} (h:MtM X id r) (k:∀ x xs H Q,r' x xs H Q->r x xs H Q):MtM X id r':=fun pins s σ H x xs v us Q I rx rs q=>h pins s σ H x xs v us Q I rx rs (k _ _ _ _ q)
def lenV (H:Hp) (x:V):Option Nat:=match x with
 | .str z=>if z.length<=sizeLine then some z.length else none
 | .ref p=>match H p with
  | some (.lst xs)=>some xs.length
  | some (.tup xs)=>some xs.length
  | some (.frz _ (.lst xs))=>some xs.length
  | _=>none
 | _=>none
def qjh:List V->Hp->VK->Prop:=fun vs H Q=>match vs with
 | [x]=>∃ k:Nat,lenV H x=some k/\Q (.int k) H
 | _=>False
theorem qbq:CallR X (.builtin "len") qjh:=(call_len_seq.or qdK).of fun xs H Q q=>by
 unfold qjh at q
 split at q
 ·obtain ⟨k,hk,q⟩:=q
  unfold lenV at hk
  split at hk
  ·split at hk
   ·rename_i hl
    cases hk
    exact .inr ⟨_,rfl,hl,q⟩
   ·cases hk
  ·split at hk
   ·cases hk;exact .inl ⟨_,_,rfl,.inl (SqL.of (by assumption)),q⟩
   ·cases hk;exact .inl ⟨_,_,rfl,.inr (SqT.of (by assumption)),q⟩
   ·cases hk;exact .inl ⟨_,_,rfl,.inl (.inl (.inr ⟨_,by assumption⟩)),q⟩
   ·cases hk
  ·cases hk
 ·exact q.elim
def qb6:List V->Hp->VK->Prop:=fun vs H Q=>match vs with
 | [.ref p]=>∃ xs,(H p=some (.lst xs)\/H p=some (.tup xs))/\∀ l,H l=none->Q (.ref l) (upd H l (.lst xs))
 | _=>False
theorem qcy:CallR X (.type "list") qb6:=call_list_of.of fun xs H Q q=>by
 unfold qb6 at q
 split at q
 ·obtain ⟨ys,h,q⟩:=q
  exact ⟨_,ys,rfl,h.elim (fun z=>.inl (SqL.of z)) (fun z=>.inr (SqT.of z)),q⟩
 ·exact q.elim
def qmy:List V->Hp->VK->Prop:=fun vs H Q=>match vs with
 | [.int i,.int j]=>Q (.int (if j > i then j else i)) H
 | _=>False
theorem qg3 (hc:X.calm=true):CallR X (.builtin "max") qmy:=(qg4 hc).of fun xs H Q q=>by
 unfold qmy at q
 split at q
 ·exact ⟨_,_,rfl,q⟩
 ·exact q.elim
def qmx:List V->Hp->VK->Prop:=fun vs H Q=>match vs with
 | [.int i,.int j]=>Q (.int (if j < i then j else i)) H
 | _=>False
theorem qg1 (hc:X.calm=true):CallR X (.builtin "min") qmx:=(qg2 hc).of fun xs H Q q=>by
 unfold qmx at q
 split at q
 ·exact ⟨_,_,rfl,q⟩
 ·exact q.elim
def qeI:List V->Hp->VK->Prop:=fun vs H Q=>match vs with
 | [.int i]=>Q (.int i) H
 | [.bl k]=>Q (.int (if k then 1 else 0)) H
 | [.str z]=>∃ k:Bool,z=bs [k]/\Q (.int (if k then 1 else 0)) H
 | _=>False
theorem qg8:CallR X (.type "int") qeI:=(call_int1.or qdL).of fun xs H Q q=>by
 unfold qeI at q
 split at q
 ·exact .inl (.inl ⟨_,rfl,q⟩)
 ·exact .inl (.inr ⟨_,rfl,q⟩)
 ·obtain ⟨k,h,q⟩:=q
  exact .inr ⟨k,by rw [h,qnB],q⟩
 ·exact q.elim
def qmA:List V->Hp->VK->Prop:=fun vs H Q=>match vs with
 | [x,.ty T]=>∃ Tx,tyN H x=some Tx/\T∈["int","bool","list","tuple","str"]/\Q (.bl (Tx == T || (Tx == "bool" && T == "int"))) H
 | _=>False
theorem qie:CallR X (.builtin "isinstance") qmA:=call_isinst.of fun xs H Q q=>by
 unfold qmA at q
 split at q
 ·obtain ⟨Tx,h1,h2,q⟩:=q
  exact ⟨_,_,Tx,rfl,h1,h2,q⟩
 ·exact q.elim
def qmB:List V->Hp->VK->Prop:=fun vs H Q=>match vs with
 | [.ref p]=>∃ bl:List Bool,H p=some (.lst (bl.map V.bl))/\Q (.bl (bl.all id)) H
 | _=>False
theorem qg9 (hc:X.calm=true):CallR X (.builtin "all") qmB:=(qif hc).of fun xs H Q q=>by
 unfold qmB at q
 split at q
 ·obtain ⟨bl,h,q⟩:=q
  exact ⟨_,bl,rfl,h,q⟩
 ·exact q.elim
def qm4:V->List V->Hp->VK->Prop:=fun x vs H Q=>match x,vs with
 | .ref l,[y]=>∃ xs,H l=some (.lst xs)/\xs.length < sizeLine/\Q .non (upd H l (.lst (xs++[y])))
 | _,_=>False
theorem qjS:MtM X "list.append" qm4:=mt_append.of fun x xs H Q q=>by
 unfold qm4 at q
 split at q
 ·obtain ⟨ys,h1,h2,q⟩:=q
  exact ⟨_,ys,_,rfl,rfl,h1,h2,q⟩
 ·exact q.elim
def qm3:V->List V->Hp->VK->Prop:=fun x vs H Q=>match x,vs with
 | .ref l,[.ref b]=>∃ xs zs,H l=some (.lst xs)/\H b=some (.lst zs)/\xs.length+zs.length<=sizeLine/\Q .non (upd H l (.lst (xs++zs)))
 | _,_=>False
theorem qjR:MtM X "list.extend" qm3:=mt_extend.of fun x xs H Q q=>by
 unfold qm3 at q
 split at q
 ·obtain ⟨ys,zs,h1,h2,h3,q⟩:=q
  exact ⟨_,_,ys,zs,rfl,rfl,h1,h2,h3,q⟩
 ·exact q.elim
def qjf:V->List V->Hp->VK->Prop:=fun x vs H Q=>match x,vs with
 | .ref l,[.int i]=>∃ xs y,H l=some (.lst xs)/\0<=i/\i < 2 ^ 62/\xs[i.toNat]? = some y/\Q y (upd H l (.lst (xs.eraseIdx i.toNat)))
 | _,_=>False
theorem qjQ:MtM X "list.pop" qjf:=mt_popAt.of fun x xs H Q q=>by
 unfold qjf at q
 split at q
 ·rename_i l i
  obtain ⟨ys,y,h1,h2,h3,h4,q⟩:=q
  have hlt:i.toNat < ys.length:=(gS_ h4).1
  have hi:seqIndex? i ys.length=some i.toNat:=seqIndex_of h2 (by omega)
  exact ⟨l,ys,i,i.toNat,y,rfl,rfl,h1,by omega,by omega,hi,h4,q⟩
 ·exact q.elim
def qji:V->List V->Hp->VK->Prop:=fun x vs H Q=>match x,vs with
 | .str sep,[.ref p]=>∃ ws:List Str,H p=some (.lst (ws.map V.str))/\(ws.map (·.length)).sum+ws.length * sep.length<=16777216/\Q (.str (Txt.join sep ws)) H
 | _,_=>False
theorem qhV:MtM X "str.join" qji:=mt_join.of fun x xs H Q q=>by
 unfold qji at q
 split at q
 ·obtain ⟨ws,h1,h2,q⟩:=q
  exact ⟨_,_,ws,rfl,rfl,h1,h2,q⟩
 ·exact q.elim
def qjl:V->List V->Hp->VK->Prop:=fun x vs H Q=>match x,vs with
 | .int i,[]=>Q (.int (Builtin.Int.intBits i)) H
 | _,_=>False
theorem qhW:MtM X "int.bit_length" qjl:=mt_bitlen.of fun x xs H Q q=>by
 unfold qjl at q
 split at q
 ·exact ⟨_,rfl,rfl,q⟩
 ·exact q.elim
def tyU (H:Hp) (T:String):V->Prop
 | .str _=>T = "str"
 | .int _=>T = "int"
 | .ref p=>∃ xs,T = "list"/\H p=some (.lst xs)
 | _=>False
theorem qik {K:PySem.W.Frag} {H:Hp} {T:String} {x:V} (h:tyU H T x):tyV K T x H:=by
 cases x with
 | str z=>exact h
 | int z=>exact h
 | ref p=>obtain ⟨xs,h1,h2⟩:=h;exact .inl ⟨h1,xs,SqL.of h2⟩
 | _=>exact h.elim
end
theorem qae {n:Nat} (h:n<=1000):n<=sizeLine:=Nat.le_trans h (by decide)
theorem lt_line {n:Nat} (h:n<=1000):n < sizeLine:=Nat.lt_of_le_of_lt h (by decide)
theorem Same.upd {H:Hp} {p:Addr} {o:HO} (h:H p=none):Same H (upd H p o):=fun b u e=>by rw [qab (qac e h)];exact e
theorem qc1 {α:Type} {xs:List α} {i:Int} {v:α} (h0:0<=i) (h:xs[i.toNat]? = some v):atI xs i=some v:=by
 have e:i=(i.toNat:Int):=by omega
 rw [e]
 exact qkt h
theorem gl {H:Hp} {p:Addr} {xs:List V} {i:Int} {v:V} (h:H p=some (.lst xs)) (h0:0<=i) (hv:xs[i.toNat]? = some v):qen H (.ref p) i=some v:=by rw [qcV h];exact qc1 h0 hv
theorem gt {H:Hp} {p:Addr} {xs:List V} {i:Int} {v:V} (h:H p=some (.tup xs)) (h0:0<=i) (hv:xs[i.toNat]? = some v):qen H (.ref p) i=some v:=by rw [qh7 h];exact qc1 h0 hv
theorem qbE {H:Hp} {p:Addr} {xs:List V} (h:H p=some (.lst xs)):lenV H (.ref p)=some xs.length:=by simp [lenV,h]
theorem qoj {H:Hp} {p:Addr} {xs:List V} (h:H p=some (.tup xs)):lenV H (.ref p)=some xs.length:=by simp [lenV,h]
theorem gs {H:Hp} {w:List Bool} {i:Int} {b:Bool} (hz:w.length<=sizeLine) (h0:0<=i) (hv:w[i.toNat]? = some b):qen H (.str (bs w)) i=some (.str (bs [b])):=by
 show (if (bs w).length<=sizeLine then (atI (bs w).cps.toList i).map fun c=>V.str ⟨#[c]⟩ else none)=_
 rw [if_pos (by rw [qaI];exact hz)]
 have:atI (bs w).cps.toList i=some (sg b):=qc1 h0 (by show ((w.map sg).toArray.toList)[i.toNat]? = _;simp [hv])
 rw [this]
 rfl
end L2
end
section
namespace L2
open PySem
theorem qe6 {a b c:Int} (ha : -(2 ^ 30)<=a) (ha':a < 2 ^ 30) (hb : -(2 ^ 30)<=b) (hb':b < 2 ^ 30) (hc:c≠0) (hc1 : -(2 ^ 30) < c) (hc2:c < 2 ^ 30):Builtin.Range.small a b c=true:=by
 have h2:(0:Int)<=Builtin.Range.rangeSize a b c/\Builtin.Range.rangeSize a b c<=2 ^ 32:=by
  unfold Builtin.Range.rangeSize
  split
  ·split
   ·have h1:0<=(b - a - 1) / c:=Int.ediv_nonneg (by omega) (by omega)
    have h3:(b - a - 1) / c<=b - a - 1:=Int.ediv_le_self _ (by omega)
    omega
   ·omega
  ·split
   ·have h1:0<=(a - b - 1) / (-c):=Int.ediv_nonneg (by omega) (by omega)
    have h3:(a - b - 1) / (-c)<=a - b - 1:=Int.ediv_le_self _ (by omega)
    omega
   ·omega
 unfold Builtin.Range.small
 simp only [Builtin.Range.rangeFitsLong,Bool.and_eq_true,Bool.or_eq_true,decide_eq_true_eq,beq_iff_eq]
 refine ⟨by omega,.inr ?_⟩
 split<;>(simp only [Bool.and_eq_true,decide_eq_true_eq];omega)
end L2
end
section
namespace L2
open PySem PySem.Spec PyProof.Rows
def FnX (K:PySem.W.Frag) (mg:Str->Option Value) (x:Str) (st:Stmt) (ps:List Str):Prop:=∃ f fd,Fun K x x st f fd/\mg x=some (.ref f)/\Binds K fd ps []
def Can (P:Program) (w:World) (K:PySem.W.Frag) (mg:Str->Option Value) (base:Heap) (x:Str) (k:Nat) (ps:List Str) (sp:Sp):Prop:=
 ∃ f fd,FnOk P w K mg base CX0 k f fd ps sp/\mg x=some (.ref f)/\PySem.W.keepIn K (.ref f)=true/\Binds K fd ps []
section
variable {P:Program} {w:World} {K:PySem.W.Frag} {mg:Str->Option Value} {base:Heap}
theorem qag {x:Str} {st:Stmt} {N ps:List Str} {k:Nat} {sp:Sp} (D:FnX K mg x st ps) (S:FnScope N ps (qad st)) (len:∀ vs H Q E,sp vs H Q E->vs.length=ps.length)
  (hbody:∀ (f:Addr) (cdv:Value) (A:Around) (outer:List Env) (s:Shared) (H:Hp) (vs:List V) (Q:VK) (E:XK),Room k (A.deeper (envOfC x (qad st) s.heap.objs.size f cdv))->sp vs H Q E →
   ∃ t,PSs (qiL CX0 P w K mg base N x (qad st) f cdv A outer s H E).nox (qao st) t/\t { nx:=fun _ H'=>Q .non H',rt:=Q } (start N vs) H):Can P w K mg base x (k+1) ps sp:=by
 obtain ⟨f,fd,F,hm,hb⟩:=D
 exact ⟨f,fd,F.ok S len fun cdv A outer s H vs Q E hr h=>hbody f cdv A outer s H vs Q E hr h,hm,F.kp,hb⟩
end
section
variable {X:Cx} {x:Str} {p pos apos:Pos} {e o:Expr} {es:List Expr} {t:TA} {te to ti:TE} {k:Nat} {ps:List Str} {sp:Sp}
def qmt (sp:Sp) (t:TA):TE:=fun σ H Q=>t σ H fun vs H1=>sp vs H1 Q E0
theorem PA.of {t t':TA} (h:PA X es t) (k:∀ σ H Q,t' σ H Q->t σ H Q):PA X es t':=fun pos pins s σ H Q I q=>h pos pins s σ H Q I (k _ _ _ q)
theorem qls (C:Can X.prog X.w X.K X.mg X.base x k ps sp) (hr:Room k X.A) (ha:PA X (e :: es) t) (hg:Gl X x:=by rfl)
  (hdb:(x == ("__debug__" : Str))=false:=by decide) (he:starEach (e :: es) X.env=(false,eval e X.env) :: starEach es X.env:=by rfl) (hpl:(backTo pos (starEach es X.env)).any (·.1)=false:=by rfl) :
  PE X (.Call (.Name x p) (e :: es) [] pos) (qmt sp t):=by
 obtain ⟨f,fd,F,hm,hk,hb⟩:=C
 have h:=qjE (pos:=pos) (p:=p) F hr hg hm hk hb .nil qlv ha hdb he hpl
 intro pins s σ H Q I q
 refine thn (h pins s σ H Q I ?_) fun _ _ z=>z
 have ee:qiU sp [] E0 t=qmt sp t:=by funext σ H Q;unfold qiU qmt;simp only [List.append_nil]
 rw [ee]
 exact q
theorem qlr (hm:X.mg "len" = none) (ha:PA X (e :: es) t) (hg:Gl X "len" := by rfl) (he:starEach (e :: es) X.env=(false,eval e X.env) :: starEach es X.env:=by rfl) (hpl:(backTo pos (starEach es X.env)).any (·.1)=false:=by rfl) :
  PE X (.Call (.Name "len" p) (e :: es) [] pos) (tCB qjh t):=qaE qbq hg hm PySem.boot_len ha (he:=he) (hpl:=hpl)
theorem qgd (hm:X.mg "isinstance" = none) (ha:PA X (e :: es) t) (hg:Gl X "isinstance" := by rfl) (he:starEach (e :: es) X.env=(false,eval e X.env) :: starEach es X.env:=by rfl) (hpl:(backTo pos (starEach es X.env)).any (·.1)=false:=by rfl) :
  PE X (.Call (.Name "isinstance" p) (e :: es) [] pos) (tCB qmA t):=qaE qie hg hm PyProof.Rows.boot_isinstance ha (he:=he) (hpl:=hpl)
theorem qlt (hc:X.calm=true) (hm:X.mg "all" = none) (ha:PA X (e :: es) t) (hg:Gl X "all" := by rfl) (he:starEach (e :: es) X.env=(false,eval e X.env) :: starEach es X.env:=by rfl) (hpl:(backTo pos (starEach es X.env)).any (·.1)=false:=by rfl) :
  PE X (.Call (.Name "all" p) (e :: es) [] pos) (tCB qmB t):=qaE (qg9 hc) hg hm PyProof.Rows.boot_all ha (he:=he) (hpl:=hpl)
theorem qlp (hc:X.calm=true) (hm:X.mg "max" = none) (ha:PA X (e :: es) t) (hg:Gl X "max" := by rfl) (he:starEach (e :: es) X.env=(false,eval e X.env) :: starEach es X.env:=by rfl) (hpl:(backTo pos (starEach es X.env)).any (·.1)=false:=by rfl) :
  PE X (.Call (.Name "max" p) (e :: es) [] pos) (tCB qmy t):=qaE (qg3 hc) hg hm PyProof.Rows.boot_max ha (he:=he) (hpl:=hpl)
theorem qlo (hc:X.calm=true) (hm:X.mg "min" = none) (ha:PA X (e :: es) t) (hg:Gl X "min" := by rfl) (he:starEach (e :: es) X.env=(false,eval e X.env) :: starEach es X.env:=by rfl) (hpl:(backTo pos (starEach es X.env)).any (·.1)=false:=by rfl) :
  PE X (.Call (.Name "min" p) (e :: es) [] pos) (tCB qmx t):=qaE (qg1 hc) hg hm PyProof.Rows.boot_min ha (he:=he) (hpl:=hpl)
theorem qjz (hm:X.mg "int" = none) (ha:PA X (e :: es) t) (hg:Gl X "int" := by rfl) (he:starEach (e :: es) X.env=(false,eval e X.env) :: starEach es X.env:=by rfl) (hpl:(backTo pos (starEach es X.env)).any (·.1)=false:=by rfl) :
  PE X (.Call (.Name "int" p) (e :: es) [] pos) (tCB qeI t):=qaW qg8 hg hm PyProof.Rows.boot_int ha (he:=he) (hpl:=hpl)
theorem qhB (hm:X.mg "list" = none) (ha:PA X (e :: es) t) (hg:Gl X "list" := by rfl) (he:starEach (e :: es) X.env=(false,eval e X.env) :: starEach es X.env:=by rfl) (hpl:(backTo pos (starEach es X.env)).any (·.1)=false:=by rfl) :
  PE X (.Call (.Name "list" p) (e :: es) [] pos) (tCB qb6 t):=qaW qcy hg hm PyProof.Rows.boot_list ha (he:=he) (hpl:=hpl)
theorem qgc {T:String} (hb:bootBuiltins x=some (.type T)) (hm:X.mg x=none) (hg:Gl X x:=by rfl) (hn:x≠"__name__" := by decide) (hd:(x == ("__debug__" : Str))=false:=by decide):PE X (.Name x pos) (tC (.ty T)):=qjF hg hm hb rfl hn hd
def tMt (T:String) (r:V->List V->Hp->VK->Prop) (to:TE) (t:TA):TE:=fun σ H Q=>to σ H fun x H1=>tyU H1 T x/\t σ H1 fun xs H2=>r x xs H2 Q
theorem qfa {T id:String} {name:Str} {cpos:Pos} {r:V->List V->Hp->VK->Prop} (pa:PlainAttrs T) (slot:Slot T name id) (hty:typeOf (.builtin id)=pure (.type "method_descriptor")) (hm:MtM X id r) (ho:PE X o to) (ha:PA X (e :: es) t)
  (hbase:attributeBase o name X.env (eval o X.env)=eval o X.env:=by rfl)
  (hfew:((backTo cpos (starEach (e :: es) X.env)).all (fun x=>!x.1) && (backToKw cpos (keywordEach [] X.env)).all (fun x=>x.1.isSome)
   && decide ((e :: es).length+([]:List Keyword).length+(if ([]:List Keyword).isEmpty then 0 else 1) < 30))=true:=by rfl)
  (hline:(apos.endLine == cpos.line)=true:=by rfl) (hs:starEach (e :: es) X.env=(false,eval e X.env) :: starEach es X.env:=by rfl) (hplain:(backTo cpos (starEach es X.env)).any (·.1)=false:=by rfl) :
  PE X (.Call (.Attribute o name apos) (e :: es) [] cpos) (tMt T r to t):=by
 intro pins s σ H Q I h
 refine wpAny_Call_method_late hbase hfew hline rfl (thn (ho pins s σ H _ I h) fun v s1 ⟨x,H1,I1,r1,ty,q1⟩=>?_)
 obtain ⟨h1,h2⟩:=qij I1 r1 (qik ty)
 refine ⟨T,id,pa,slot,hty,h1,h2,?_⟩
 have hA:=ha cpos pins s1 σ H1 _ I1 q1
 rw [hs] at hA ⊢
 refine Calls.callWith_builtin (by show (false || (backTo cpos (starEach es X.env)).any (·.1))=false;rw [hplain]<;>rfl) (Calls.evalArgs_plain ?_)
 exact thn hA fun us s2 ⟨vs,H2,I2,r2,q2⟩=>hm pins s2 σ H2 x vs v us Q I2 r1 r2 q2
theorem qln {T id:String} {name:Str} {cpos:Pos} {r:V->List V->Hp->VK->Prop} (pa:PlainAttrs T) (slot:Slot T name id) (hty:typeOf (.builtin id)=pure (.type "method_descriptor")) (hm:MtM X id r) (ho:PE X o to)
  (hbase:attributeBase o name X.env (eval o X.env)=eval o X.env:=by rfl) (hline:(apos.endLine == cpos.line)=true:=by rfl):PE X (.Call (.Attribute o name apos) [] [] cpos) (tMt T r to qmO):=by
 intro pins s σ H Q I h
 refine wpAny_Call_method0_late hbase hline (thn (ho pins s σ H _ I h) fun v s1 ⟨x,H1,I1,r1,ty,q1⟩=>?_)
 obtain ⟨h1,h2⟩:=qij I1 r1 (qik ty)
 exact ⟨T,id,pa,slot,hty,h1,h2,Calls.callWith_builtin rfl (PySem.evalArgs_none (hm pins s1 σ H1 x [] v [] Q I1 r1 .nil q1))⟩
def qht:V->V->V->Hp->(Hp->Prop)->Prop:=fun o i v H Q=>match o,i with
 | .ref p,.int k=>∃ xs j,H p=some (.lst xs)/\ixN xs.length k=some j/\Q (upd H p (.lst (xs.set j v)))
 | _,_=>False
theorem qnO:qmF X qht:=by
 intro pins s σ H o i v ov iv u Q I ro ri rv q
 refine qhq pins s σ H o i v ov iv u Q I ro ri rv ?_
 unfold qht at q
 split at q
 ·obtain ⟨xs,j,h1,h2,q⟩:=q
  exact ⟨_,xs,_,j,rfl,rfl,h1,h2,q⟩
 ·exact q.elim
def qop (K:PySem.W.Frag) (n:Nat) (t:TGs):TG:=fun v σ H Q=>match v with
 | .ref a=>∃ xs,H a=some (.tup xs)/\xs.length=n/\t xs σ H Q
 | _=>False
def qgJ (t:TG) (u:TGs):TGs:=fun vs σ H Q=>match vs with
 | v :: r=>t v σ H fun σ' H'=>u r σ' H' Q
 | []=>False
theorem qgb {es:List Expr} {t:TG} {u:TGs} (h1:PG X e t) (h2:PGs X es u)
  (hs:(assignEach (e :: es) X.env).map (·.2)=assign e X.env :: (assignEach es X.env).map (·.2):=by rfl):PGs X (e :: es) (qgJ t u):=by
 intro pins s σ H vs us Q I r hw
 refine qhz h1 h2 hs pins s σ H vs us Q I r ?_
 unfold qgJ at hw
 split at hw
 ·exact ⟨_,_,rfl,hw⟩
 ·exact hw.elim
variable {tg:Expr}
def qoo (K:PySem.W.Frag) (tl:TE):TI:=fun σ H R=>tl σ H fun x H1=>match x with
 | .ref a=>(∃ xs,SqL K H1 a xs)/\R (Itl K a) H1
 | _=>False
theorem qlf {l:Expr} {tl:TE} (hl:PE X l tl):PI X tg l (qoo X.K tl):=by
 intro pins s σ H R I h
 refine thn (hl pins s σ H _ I h) fun v s1 ⟨x,H1,I1,r1,q1⟩=>?_
 dsimp only at q1
 split at q1
 ·rename_i a
  obtain ⟨⟨xs,hq⟩,q⟩:=q1
  cases r1
  obtain ⟨its,rv,p,hz⟩:=I1.list hq
  refine wpAny_pyIter_list p.isList ?_
  refine ⟨s1.heap.objs.size,[s1.heap.objs.size],_,_,H1,rfl,I1.kept (t':=s1.toks) fun b o e=>Heap.get?_push_of_some _ e,qc8 a _,⟨_,Heap.get?_push_size _ rfl,rfl,rfl⟩,fun b hb=>?_,q⟩
  have e:b=s1.heap.objs.size:=by simpa using hb
  subst e
  exact I1.fpOk (Nat.le_refl _) (I1.hok.fresh (Nat.le_refl _))
 ·exact q1.elim
def iR1 (ta:TA):TI:=fun σ H R=>ta σ H fun vs H1=>match vs with
 | [.int j]=>-(2 ^ 62)<=j/\j < 2 ^ 62/\R (Itr 0 j.toNat) H1
 | _=>False
theorem PI.of {iter:Expr} {w w':TI} (h:PI X tg iter w) (k:∀ σ H R,w' σ H R->w σ H R):PI X tg iter w':=fun pins s σ H R I q=>h pins s σ H R I (k _ _ _ q)
theorem qm9 {a:Expr} {ta:TA} (hm:X.mg "range" = none) (ha:PA X [a] ta) (hg:Gl X "range" := by rfl) (hs:starEach [a] X.env=[(false,eval a X.env)]:=by rfl):PI X tg (.Call (.Name "range" p) [a] [] pos) (iR1 ta):=by
 intro pins s σ H R I h
 refine Call_ (qa0 I hg hm boot_range (PyProof.Rows.callWith_type1 (thn (ha pos pins s σ H _ I h) fun us s1 ⟨vs,H1,I1,r1,q1⟩=>?_) hs rfl))
 dsimp only at q1
 split at q1
 ·obtain ⟨q1,q2,q⟩:=q1
  obtain ⟨u,rfl,t,rfl⟩:=qaP r1
  exact call_range_1 (qeG I1 (by omega) (by omega) q1 q2 (by simpa using q))
 ·exact q1.elim
def iR2 (ta:TA):TI:=fun σ H R=>ta σ H fun vs H1=>match vs with
 | [.int i,.int j]=>(-(2 ^ 62)<=i/\i < 2 ^ 62/\-(2 ^ 62)<=j/\j < 2 ^ 62)/\R (Itr i (j - i).toNat) H1
 | _=>False
theorem qm8 {a b:Expr} {ta:TA} (hm:X.mg "range" = none) (ha:PA X [a,b] ta) (hg:Gl X "range" := by rfl) (hs:starEach [a,b] X.env=[(false,eval a X.env),(false,eval b X.env)]:=by rfl) (hs2:starEach [b] X.env=[(false,eval b X.env)]:=by rfl) :
  PI X tg (.Call (.Name "range" p) [a,b] [] pos) (iR2 ta):=by
 intro pins s σ H R I h
 refine Call_ (qa0 I hg hm boot_range (PyProof.Rows.callWith_type1 (thn (ha pos pins s σ H _ I h) fun us s1 ⟨vs,H1,I1,r1,q1⟩=>?_) (by rw [hs,hs2]) (by rw [hs2];rfl)))
 dsimp only at q1
 split at q1
 ·obtain ⟨⟨q1,q2,q3,q4⟩,q⟩:=q1
  obtain ⟨u,u2,rfl,⟨t,rfl⟩,⟨t',rfl⟩⟩:=qe2 r1
  exact call_range_2 (qeG I1 q1 q2 q3 q4 q)
 ·exact q1.elim
def qnI (lo st:Int) (n:Nat):It:=⟨fun i _=>i < n,fun i H x H'=>H'=H/\x = .int (lo+(i:Nat) * st),fun i _=>n<=i⟩
theorem qce (lo st:Int) (n:Nat):ItOk (qnI lo st n) ((List.range n).map fun i=>V.int (lo+(i:Nat) * st)) fun _=>True:=
 ⟨fun H _=>by show n<=_;simp,fun i H _ hi=>(by show i < n;simpa using hi),fun i H x H' _ hi y=>⟨y.1,by
  have hi':i < n:=by simpa using hi
  obtain ⟨_,rfl⟩:=y
  simp [hi']⟩⟩
theorem qdT {P:Program} {w:World} {K:PySem.W.Frag} {tg:Expr} (it:Addr) (lo st:Int) (n:Nat):Turn P w K tg (qnI lo st n) [it] it (fun i h=>IsRangeIter h it (lo+(i:Nat) * st) ((n:Int) - (i:Nat)) st) where
 mem:=by simp
 obj:=fun i h st b hb=>by
  have e:b=it:=by simpa using hb
  subst e
  exact ⟨_,st,fun v z=>by
   have z':Data.fields _=Data.cell v:=z
   cases z'⟩
 keep:=fun i h h' st k=>k it (by simp) _ st
 item:=by
  intro X hP hw hK hc i pins s σ H E I hf st' hg
  subst hP hw hK
  obtain ⟨f0,f1,f2,f3,f4,f5⟩:=hf it (by simp)
  have W:=Walks.range (prog:=X.prog) (w:=X.w) (I.ok.hd hc) it lo st n
  refine W.item i s _ _ hg st' fun v h' tk hv st'' kk=>?_
  obtain ⟨t,rfl⟩:=hv
  have I1:Inv X pins σ H { s with heap:=h',toks:=tk }:=I.turned (fun b o hb e=>kk b o (by simpa using hb) e) f0 f1 f3 f4 f5
  exact ⟨_,rfl,qh6 (s:={ s with heap:=h',toks:=tk }) (n:= "range_iterator") st'' rfl rfl (by decide) ⟨.int (lo+(i:Nat) * st),H,I1,⟨t,rfl⟩,⟨rfl,rfl⟩,st'',fun b hb=>(hf b hb).1⟩⟩
 done:=by
  intro X hP hw hK hc i pins s σ H E I hf st' hg
  subst hP hw hK
  obtain ⟨f0,f1,f2,f3,f4,f5⟩:=hf it (by simp)
  exact wpAny_pyNext_range_end (I.ok.hd hc) st' (by have:n<=i:=hg;omega) fun h' eb=>⟨rfl,I.turned (t':=s.toks) (fun b o hb e=>eb b o hb e) f0 f1 f3 f4 f5⟩
 self:=fun _ _ _ _ _ st h=>wpAny_pyIter_rangeiter st h
def iR3 (ta:TA):TI:=fun σ H R=>ta σ H fun vs H1=>match vs with
 | [.int i,.int j,.int c]=>(-(2 ^ 30)<=i/\i < 2 ^ 30/\-(2 ^ 30)<=j/\j < 2 ^ 30/\c≠0/\-(2 ^ 30) < c/\c < 2 ^ 30)/\R (qnI i c (Builtin.Range.rangeSize i j c).toNat) H1
 | _=>False
theorem qbI (a b c:Int):0<=Builtin.Range.rangeSize a b c:=by
 unfold Builtin.Range.rangeSize
 split
 ·split
  ·have:0<=(b - a - 1) / c:=Int.ediv_nonneg (by omega) (by omega)
   omega
  ·omega
 ·split
  ·have:0<=(a - b - 1) / (-c):=Int.ediv_nonneg (by omega) (by omega)
   omega
  ·omega
theorem qm7 {a b c:Expr} {ta:TA} (hm:X.mg "range" = none) (ha:PA X [a,b,c] ta) (hg:Gl X "range" := by rfl) (hs:starEach [a,b,c] X.env=[(false,eval a X.env),(false,eval b X.env),(false,eval c X.env)]:=by rfl) (hs2:starEach [b,c] X.env=[(false,eval b X.env),(false,eval c X.env)]:=by rfl) :
  PI X tg (.Call (.Name "range" p) [a,b,c] [] pos) (iR3 ta):=by
 intro pins s σ H R I h
 refine Call_ (qa0 I hg hm boot_range (PyProof.Rows.callWith_type1 (thn (ha pos pins s σ H _ I h) fun us s1 ⟨vs,H1,I1,r1,q1⟩=>?_) (by rw [hs,hs2]) (by rw [hs2];rfl)))
 dsimp only at q1
 split at q1
 ·rename_i i j c'
  obtain ⟨⟨q1,q2,q3,q4,q5,q6,q7⟩,q⟩:=q1
  cases r1 with
  | cons ra r1=>
   obtain ⟨u2,u3,e,⟨t2,e2⟩,⟨t3,e3⟩⟩:=qe2 r1
   obtain ⟨t1,e1⟩:=ra
   subst e1 e e2 e3
   refine call_range_3 q5 ?_ (.inl (PyProof.noPylong_small (by omega)))
   refine wpAny_pyIter_range (IsRange.new ..) (qe6 q1 q2 q3 q4 q5 q6 q7) ?_
   have I2:=I1.kept (t':=s1.toks) (h':=s1.heap.push { cls:=.type "range",data:=.fields #[.int i t1,.int j t2,.int c' t3] }) fun b o e=>Heap.get?_push_of_some _ e
   refine ⟨_,[_],_,_,H1,rfl,I2.kept (t':=s1.toks) fun b o e=>Heap.get?_push_of_some _ e,qdT _ i c' (Builtin.Range.rangeSize i j c').toNat,?_,fun b hb=>?_,q⟩
   ·have e1:i+((0:Nat):Int) * c'=i:=by simp
    have e2:(((Builtin.Range.rangeSize i j c').toNat:Nat):Int) - ((0:Nat):Int)=Builtin.Range.rangeSize i j c':=by have:=qbI i j c';omega
    show IsRangeIter _ _ (i+((0:Nat):Int) * c') ((((Builtin.Range.rangeSize i j c').toNat:Nat):Int) - ((0:Nat):Int)) c'
    rw [e1,e2]
    exact Heap.get?_push_size _ rfl
   ·have e:b=(s1.heap.push { cls:=.type "range",data:=.fields #[.int i t1,.int j t2,.int c' t3] }).objs.size:=by simpa using hb
    subst e
    exact I2.fpOk (Nat.le_refl _) (I2.hok.fresh (Nat.le_refl _))
 ·exact q1.elim
end
end L2
end
section
namespace L2
open PySem PySem.Spec PyProof.Rows
def qkx (sc:Scope) (x:Str):Bool:=(match sc.names.lookup x with
 | some .local=>true
 | some .cell=>true
 | some .free=>true
 | _=>false) && (!(x == ("__debug__" : Str)) && !(x == ("__classdict__" : Str)))
theorem qcp {sc:Scope} {x:Str} (h:qkx sc x=true):Vis sc x/\(x == ("__debug__" : Str))=false/\(x == ("__classdict__" : Str))=false:=by
 unfold qkx at h
 simp only [Bool.and_eq_true,Bool.not_eq_true'] at h
 obtain ⟨h1,h2,h3⟩:=h
 refine ⟨?_,h2,h3⟩
 split at h1
 ·exact .inl (by assumption)
 ·exact .inr (.inl (by assumption))
 ·exact .inr (.inr (by assumption))
 ·cases h1
def qkB (sc:Scope) (x:Str):Bool:=match sc.names.lookup x with
 | some .local=>true
 | some .cell=>true
 | _=>false
theorem qgv {sc:Scope} {x:Str} (h:qkB sc x=true):Loc sc x:=by
 unfold qkB at h
 split at h
 ·exact .inl (by assumption)
 ·exact .inr (by assumption)
 ·cases h
section
variable {X:Cx} {x:Str} {pos:Pos}
theorem vk (i:Nat) (hN:X.N[i]? = some x:=by rfl) (hv:qkx X.env.scope x=true:=by kernel_rfl):PE X (.Name x pos) (tV i):=
 vr i hN (qcp hv).1 (qcp hv).2.1 (qcp hv).2.2
theorem gk (i:Nat) (hN:X.N.Nodup) (hi:X.N[i]? = some x:=by rfl) (hx:qkB X.env.scope x=true:=by kernel_rfl) (hf:(X.fn x || X.env.scope.names.lookup x == some .local)=true:=by kernel_rfl):PG X (.Name x pos) (qai i):=
 qjw hN hi (qgv hx) (by
  rw [Bool.or_eq_true] at hf
  exact hf.elim .inl fun z=>.inr (eq_of_beq z))
theorem vn (x:Str) (i:Nat) (hN:X.N[i]? = some x:=by with_unfolding_all rfl) (hv:qkx X.env.scope x=true:=by kernel_rfl):PE X (.Name x pos) (tV i):=vk i hN hv
theorem gn (x:Str) (i:Nat) (hN:X.N.Nodup) (hi:X.N[i]? = some x:=by with_unfolding_all rfl) (hx:qkB X.env.scope x=true:=by kernel_rfl) (hf:(X.fn x || X.env.scope.names.lookup x == some .local)=true:=by kernel_rfl):PG X (.Name x pos) (qai i):=gk i hN hi hx hf
def gB (X:Cx) (x:Str):Bool:=X.env.scope.names.lookup x == some .globalImplicit
theorem qaz (h:gB X x=true):Gl X x:=eq_of_beq h
variable {p apos:Pos} {e o:Expr} {es:List Expr} {t:TA} {te to ti:TE} {k:Nat} {ps:List Str} {sp:Sp} {tg:Expr}
theorem qmb (x:Str) {P':Program} {w':World} {K':PySem.W.Frag} {mg':Str->Option Value} {base':Heap} (C:Can P' w' K' mg' base' x k ps sp) (hX:X.prog=P'/\X.w=w'/\X.K=K'/\X.mg=mg'/\X.base=base') (hr:Room k X.A) (ha:PA X (e :: es) t) (hg:gB X x=true:=by kernel_rfl)
  (hdb:(x == ("__debug__" : Str))=false:=by kernel_rfl) (he:starEach (e :: es) X.env=(false,eval e X.env) :: starEach es X.env:=by kernel_rfl) (hpl:(backTo pos (starEach es X.env)).any (·.1)=false:=by kernel_rfl) :
  PE X (.Call (.Name x p) (e :: es) [] pos) (qmt sp t):=by
 obtain ⟨rfl,rfl,rfl,rfl,rfl⟩:=hX
 exact qls C hr ha (qaz hg) hdb he hpl
theorem ql9 {mg':Str->Option Value} (hm:mg' "len" = none) (hX:X.mg=mg') (ha:PA X (e :: es) t) (hg:gB X "len" = true:=by kernel_rfl) (he:starEach (e :: es) X.env=(false,eval e X.env) :: starEach es X.env:=by kernel_rfl) (hpl:(backTo pos (starEach es X.env)).any (·.1)=false:=by kernel_rfl) :
  PE X (.Call (.Name "len" p) (e :: es) [] pos) (tCB qjh t):=qlr (by rw [hX];exact hm) ha (qaz hg) he hpl
theorem qgO {mg':Str->Option Value} (hm:mg' "isinstance" = none) (hX:X.mg=mg') (ha:PA X (e :: es) t) (hg:gB X "isinstance" = true:=by kernel_rfl) (he:starEach (e :: es) X.env=(false,eval e X.env) :: starEach es X.env:=by kernel_rfl) (hpl:(backTo pos (starEach es X.env)).any (·.1)=false:=by kernel_rfl) :
  PE X (.Call (.Name "isinstance" p) (e :: es) [] pos) (tCB qmA t):=qgd (by rw [hX];exact hm) ha (qaz hg) he hpl
theorem qmc {mg':Str->Option Value} (hm:mg' "all" = none) (hX:X.mg=mg') (ha:PA X (e :: es) t) (hc:X.calm=true:=by kernel_rfl) (hg:gB X "all" = true:=by kernel_rfl) (he:starEach (e :: es) X.env=(false,eval e X.env) :: starEach es X.env:=by kernel_rfl) (hpl:(backTo pos (starEach es X.env)).any (·.1)=false:=by kernel_rfl) :
  PE X (.Call (.Name "all" p) (e :: es) [] pos) (tCB qmB t):=qlt hc (by rw [hX];exact hm) ha (qaz hg) he hpl
theorem ql8 {mg':Str->Option Value} (hm:mg' "max" = none) (hX:X.mg=mg') (ha:PA X (e :: es) t) (hc:X.calm=true:=by kernel_rfl) (hg:gB X "max" = true:=by kernel_rfl) (he:starEach (e :: es) X.env=(false,eval e X.env) :: starEach es X.env:=by kernel_rfl) (hpl:(backTo pos (starEach es X.env)).any (·.1)=false:=by kernel_rfl) :
  PE X (.Call (.Name "max" p) (e :: es) [] pos) (tCB qmy t):=qlp hc (by rw [hX];exact hm) ha (qaz hg) he hpl
theorem ql7 {mg':Str->Option Value} (hm:mg' "min" = none) (hX:X.mg=mg') (ha:PA X (e :: es) t) (hc:X.calm=true:=by kernel_rfl) (hg:gB X "min" = true:=by kernel_rfl) (he:starEach (e :: es) X.env=(false,eval e X.env) :: starEach es X.env:=by kernel_rfl) (hpl:(backTo pos (starEach es X.env)).any (·.1)=false:=by kernel_rfl) :
  PE X (.Call (.Name "min" p) (e :: es) [] pos) (tCB qmx t):=qlo hc (by rw [hX];exact hm) ha (qaz hg) he hpl
theorem qma {mg':Str->Option Value} (hm:mg' "int" = none) (hX:X.mg=mg') (ha:PA X (e :: es) t) (hg:gB X "int" = true:=by kernel_rfl) (he:starEach (e :: es) X.env=(false,eval e X.env) :: starEach es X.env:=by kernel_rfl) (hpl:(backTo pos (starEach es X.env)).any (·.1)=false:=by kernel_rfl) :
  PE X (.Call (.Name "int" p) (e :: es) [] pos) (tCB qeI t):=qjz (by rw [hX];exact hm) ha (qaz hg) he hpl
theorem qka {mg':Str->Option Value} (hm:mg' "list" = none) (hX:X.mg=mg') (ha:PA X (e :: es) t) (hg:gB X "list" = true:=by kernel_rfl) (he:starEach (e :: es) X.env=(false,eval e X.env) :: starEach es X.env:=by kernel_rfl) (hpl:(backTo pos (starEach es X.env)).any (·.1)=false:=by kernel_rfl) :
  PE X (.Call (.Name "list" p) (e :: es) [] pos) (tCB qb6 t):=qhB (by rw [hX];exact hm) ha (qaz hg) he hpl
theorem qkF {mg':Str->Option Value} (hm:mg' "int" = none) (hX:X.mg=mg') (hg:gB X "int" = true:=by kernel_rfl):PE X (.Name "int" pos) (tC (.ty "int")):=qgc PyProof.Rows.boot_int (by rw [hX];exact hm) (qaz hg)
theorem qiO {mg':Str->Option Value} (hm:mg' "bool" = none) (hX:X.mg=mg') (hg:gB X "bool" = true:=by kernel_rfl):PE X (.Name "bool" pos) (tC (.ty "bool")):=qgc PyProof.Rows.boot_bool (by rw [hX];exact hm) (qaz hg)
theorem qiN {mg':Str->Option Value} (hm:mg' "list" = none) (hX:X.mg=mg') (hg:gB X "list" = true:=by kernel_rfl):PE X (.Name "list" pos) (tC (.ty "list")):=qgc PyProof.Rows.boot_list (by rw [hX];exact hm) (qaz hg)
theorem qhk {mg':Str->Option Value} (hm:mg' "tuple" = none) (hX:X.mg=mg') (hg:gB X "tuple" = true:=by kernel_rfl):PE X (.Name "tuple" pos) (tC (.ty "tuple")):=qgc PyProof.Rows.boot_tuple (by rw [hX];exact hm) (qaz hg)
theorem qkE {mg':Str->Option Value} (hm:mg' "str" = none) (hX:X.mg=mg') (hg:gB X "str" = true:=by kernel_rfl):PE X (.Name "str" pos) (tC (.ty "str")):=qgc PyProof.Rows.boot_str (by rw [hX];exact hm) (qaz hg)
theorem qnp {a:Expr} {ta:TA} {mg':Str->Option Value} (hm:mg' "range" = none) (hX:X.mg=mg') (ha:PA X [a] ta) (hg:gB X "range" = true:=by kernel_rfl) (hs:starEach [a] X.env=[(false,eval a X.env)]:=by kernel_rfl):PI X tg (.Call (.Name "range" p) [a] [] pos) (iR1 ta):=qm9 (by rw [hX];exact hm) ha (qaz hg) hs
theorem qno {a b:Expr} {ta:TA} {mg':Str->Option Value} (hm:mg' "range" = none) (hX:X.mg=mg') (ha:PA X [a,b] ta) (hg:gB X "range" = true:=by kernel_rfl) (hs:starEach [a,b] X.env=[(false,eval a X.env),(false,eval b X.env)]:=by kernel_rfl) (hs2:starEach [b] X.env=[(false,eval b X.env)]:=by kernel_rfl) :
  PI X tg (.Call (.Name "range" p) [a,b] [] pos) (iR2 ta):=qm8 (by rw [hX];exact hm) ha (qaz hg) hs hs2
theorem qnn {a b c:Expr} {ta:TA} {mg':Str->Option Value} (hm:mg' "range" = none) (hX:X.mg=mg') (ha:PA X [a,b,c] ta) (hg:gB X "range" = true:=by kernel_rfl) (hs:starEach [a,b,c] X.env=[(false,eval a X.env),(false,eval b X.env),(false,eval c X.env)]:=by kernel_rfl) (hs2:starEach [b,c] X.env=[(false,eval b X.env),(false,eval c X.env)]:=by kernel_rfl) :
  PI X tg (.Call (.Name "range" p) [a,b,c] [] pos) (iR3 ta):=qm7 (by rw [hX];exact hm) ha (qaz hg) hs hs2
theorem qnm {a b:Expr} {ta tb:TE} (ha:PE X a ta) (hb:PE X b tb) (hs:∀ o i,subscripted b false o i=operate [o,i] (getItem o i):=by intro _ _;kernel_rfl):PE X (.Subscript a b pos) (tOp qmz ta tb):=qjy ixU ha hb hs
theorem qmr {e:Expr} {es:List Expr} {te:TE} {t:TA} (ha:PE X e te) (hr:PA X es t) (hs:starEach (e :: es) X.env=(false,eval e X.env) :: starEach es X.env:=by kernel_rfl):PA X (e :: es) (qkL te t):=qjH ha hr hs
theorem qmI {op:CmpOp} {r:R2} {a b:Expr} {ta tb:TE} (ho:OpR X (compareOp op) r) (ha:PE X a ta) (hb:PE X b tb) (hm:behindInMarks op b=false:=by kernel_rfl):PT X (.Compare a [op] [b] pos) (tBU (tOp r ta tb)):=qjp ho ha hb hm
theorem qny {op:CmpOp} {r:R2} {a b:Expr} {ta tb:TE} (ho:OpR X (compareOp op) r) (ha:PE X a ta) (hb:PE X b tb) (hm:behindInMarks op b=false:=by kernel_rfl):PE X (.Compare a [op] [b] pos) (tOp r ta tb):=qjC ho ha hb hm
theorem qke {op op':CmpOp} {r r':R2} {a b c:Expr} {ta tb tc:TE} (ho:OpR X (compareOp op) r) (ho':OpR X (compareOp op') r') (ha:PE X a ta) (hb:PE X b tb) (hc:PE X c tc)
  (hm:lastMarks [op,op'] [b,c]=false:=by kernel_rfl):PE X (.Compare a [op,op'] [b,c] pos) (qfD r r' ta tb tc):=qge ho ho' ha hb hc hm
theorem qmV {tg e:Expr} {te:TE} {g:TG} (he:PE X e te) (hg:PG X tg g) (hs:swapsWithSole [tg] e pos.line X.env=pure false:=by kernel_rfl) (hw:swappedStores [tg] e X.env=pure none:=by kernel_rfl)
  (h1:(assignEach [tg] X.env).map (·.2)=[assign tg X.env]:=by kernel_rfl):PS X (.Assign [tg] e pos) (qmu te g):=qle he hg hs hw h1
theorem qkS {e:Expr} {te:TE} (he:PE X e te) (hs:swapsWith e none pos.line X.env=pure false:=by kernel_rfl):PS X (.Expr e pos) (qkJ te):=qjr he hs
theorem qmU {iter:Expr} {body:List Stmt} {wi:TI} {g:TG} {tb:TS} (hi:PI X tg iter wi) (hg:PG X tg g) (hb:PSs X body tb) (hp:PassesOwn (model X.prog X.w) X.A X.env X.xe:=by exact PassesOwn.never) (hc:X.calm=true:=by kernel_rfl)
  (hs:∀ x,foldedSetIterable iter X.env x=pure x:=by intro _;kernel_rfl):PS X (.For tg iter body [] pos) (qnN wi g tb):=qlc hp hc hi hg hb hs
theorem qi4 {c:Expr} {body:List Stmt} {tc:TT} {tb:TS} (hc:PT X c tc) (hb:PSs X body tb) (hp:PassesOwn (model X.prog X.w) X.A X.env X.xe:=by exact PassesOwn.never):PS X (.While c body [] pos) (qil tc tb):=qhv hp hc hb
theorem qi5 {a b:Option Expr}:PS X (.Raise a b pos) qim:=qhw
theorem qj6 {es:List Expr} {t:TG} {u:TGs} (h1:PG X e t) (h2:PGs X es u)
  (hs:(assignEach (e :: es) X.env).map (·.2)=assign e X.env :: (assignEach es X.env).map (·.2):=by kernel_rfl):PGs X (e :: es) (qgJ t u):=qgb h1 h2 hs
theorem qns {o i:Expr} {to ti:TE} (ho:PE X o to) (hi:PE X i ti) (ha:∀ v,assign (.Subscript o i pos) X.env v=(do
   let ov <-holding [v] (eval o X.env)
   let iv <-holding [v,ov] (eval i X.env)
   standAt pos
   holding [v,ov,iv] (setItem ov iv v)
   release [v,ov,iv] []):=by intro _;kernel_rfl):PG X (.Subscript o i pos) (qnt to ti qht):=qir ho hi qnO ha
theorem qeQ {cpos:Pos} (ho:PE X o to) (ha:PA X (e :: es) t)
  (hbase:attributeBase o "append" X.env (eval o X.env)=eval o X.env:=by kernel_rfl)
  (hfew:((backTo cpos (starEach (e :: es) X.env)).all (fun x=>!x.1) && (backToKw cpos (keywordEach [] X.env)).all (fun x=>x.1.isSome)
   && decide ((e :: es).length+([]:List Keyword).length+(if ([]:List Keyword).isEmpty then 0 else 1) < 30))=true:=by kernel_rfl)
  (hline:(apos.endLine == cpos.line)=true:=by kernel_rfl) (hs:starEach (e :: es) X.env=(false,eval e X.env) :: starEach es X.env:=by kernel_rfl) (hplain:(backTo cpos (starEach es X.env)).any (·.1)=false:=by kernel_rfl) :
  PE X (.Call (.Attribute o "append" apos) (e :: es) [] cpos) (tMt "list" qm4 to t):=qfa PySem.F.plainAttrs_list PySem.F.slot_list_append PySem.F.type_list_append qjS ho ha hbase hfew hline hs hplain
theorem qh0 {cpos:Pos} (ho:PE X o to) (ha:PA X (e :: es) t)
  (hbase:attributeBase o "extend" X.env (eval o X.env)=eval o X.env:=by kernel_rfl)
  (hfew:((backTo cpos (starEach (e :: es) X.env)).all (fun x=>!x.1) && (backToKw cpos (keywordEach [] X.env)).all (fun x=>x.1.isSome)
   && decide ((e :: es).length+([]:List Keyword).length+(if ([]:List Keyword).isEmpty then 0 else 1) < 30))=true:=by kernel_rfl)
  (hline:(apos.endLine == cpos.line)=true:=by kernel_rfl) (hs:starEach (e :: es) X.env=(false,eval e X.env) :: starEach es X.env:=by kernel_rfl) (hplain:(backTo cpos (starEach es X.env)).any (·.1)=false:=by kernel_rfl) :
  PE X (.Call (.Attribute o "extend" apos) (e :: es) [] cpos) (tMt "list" qm3 to t):=qfa PySem.F.plainAttrs_list PySem.F.slot_list_extend PySem.F.type_list_extend qjR ho ha hbase hfew hline hs hplain
theorem qnk {cpos:Pos} (ho:PE X o to) (ha:PA X (e :: es) t)
  (hbase:attributeBase o "pop" X.env (eval o X.env)=eval o X.env:=by kernel_rfl)
  (hfew:((backTo cpos (starEach (e :: es) X.env)).all (fun x=>!x.1) && (backToKw cpos (keywordEach [] X.env)).all (fun x=>x.1.isSome)
   && decide ((e :: es).length+([]:List Keyword).length+(if ([]:List Keyword).isEmpty then 0 else 1) < 30))=true:=by kernel_rfl)
  (hline:(apos.endLine == cpos.line)=true:=by kernel_rfl) (hs:starEach (e :: es) X.env=(false,eval e X.env) :: starEach es X.env:=by kernel_rfl) (hplain:(backTo cpos (starEach es X.env)).any (·.1)=false:=by kernel_rfl) :
  PE X (.Call (.Attribute o "pop" apos) (e :: es) [] cpos) (tMt "list" qjf to t):=qfa PySem.F.plainAttrs_list PySem.F.slot_list_pop PySem.F.type_list_pop qjQ ho ha hbase hfew hline hs hplain
theorem qlN {cpos:Pos} (ho:PE X o to) (ha:PA X (e :: es) t)
  (hbase:attributeBase o "join" X.env (eval o X.env)=eval o X.env:=by kernel_rfl)
  (hfew:((backTo cpos (starEach (e :: es) X.env)).all (fun x=>!x.1) && (backToKw cpos (keywordEach [] X.env)).all (fun x=>x.1.isSome)
   && decide ((e :: es).length+([]:List Keyword).length+(if ([]:List Keyword).isEmpty then 0 else 1) < 30))=true:=by kernel_rfl)
  (hline:(apos.endLine == cpos.line)=true:=by kernel_rfl) (hs:starEach (e :: es) X.env=(false,eval e X.env) :: starEach es X.env:=by kernel_rfl) (hplain:(backTo cpos (starEach es X.env)).any (·.1)=false:=by kernel_rfl) :
  PE X (.Call (.Attribute o "join" apos) (e :: es) [] cpos) (tMt "str" qji to t):=qfa PySem.F.plainAttrs_str PySem.F.slot_str_join PySem.F.type_str_join qhV ho ha hbase hfew hline hs hplain
theorem qlO {cpos:Pos} (ho:PE X o to) (hbase:attributeBase o "bit_length" X.env (eval o X.env)=eval o X.env:=by kernel_rfl) (hline:(apos.endLine == cpos.line)=true:=by kernel_rfl):PE X (.Call (.Attribute o "bit_length" apos) [] [] cpos) (tMt "int" qjl to qmO):=qln PySem.F.plainAttrs_int PySem.F.slot_int_bit_length PySem.F.type_int_bit_length qhW ho hbase hline
theorem qaH (N:List Str) (js:List Nat) {elt target iter:Expr} {ifs:List Expr} {scope:Scope} {wi:TI} {g:TG} {tt:TT} {te:TE} (hN:N.Nodup) (hi:PI X target iter wi)
  (hg:∀ cl C s H fp,PG (X.block scope cl C N s H fp) target g) (ht:∀ cl C s H fp,PF (X.block scope cl C N s H fp) ifs tt) (he:∀ cl C s H fp,PE (X.block scope cl C N s H fp) elt te)
  (hok:qcw X.env.scope X.N scope N js=true:=by kernel_rfl) (hc:X.calm=true:=by kernel_rfl) (hk:scope.kind = .function:=by kernel_rfl) (hs:∀ x,foldedSetIterable iter X.env x=pure x:=by intro _;kernel_rfl) :
  PE X (.ListComp elt [⟨target,iter,ifs,0⟩] scope pos) (qho (N.length - js.length) js wi g tt te):=qjB N js hok hN hc hi hg ht he hk hs
theorem qdg (y:Str) (i:Nat) (N:List Str) (js:List Nat) {elt target iter:Expr} {ifs:List Expr} {scope:Scope} {wi:TI} {g:TG} {tt:TT} {te:TE} {py spos:Pos} (hN:N.Nodup) (hXN:X.N.Nodup) (hi:PI X target iter wi)
  (hg:∀ cl C s H fp,PG (X.block scope cl C N s H fp) target g) (ht:∀ cl C s H fp,PF (X.block scope cl C N s H fp) ifs tt) (he:∀ cl C s H fp,PE (X.block scope cl C N s H fp) elt te)
  (hyi:X.N[i]? = some y:=by with_unfolding_all rfl) (hy:qkB X.env.scope y=true:=by kernel_rfl)
  (hok:qcw X.env.scope X.N scope N js=true:=by kernel_rfl) (hc:X.calm=true:=by kernel_rfl) (hk:scope.kind = .function:=by kernel_rfl) (hs:∀ x,foldedSetIterable iter X.env x=pure x:=by intro _;kernel_rfl)
  (hsw:swapsWith (.ListComp elt [⟨target,iter,ifs,0⟩] scope pos) (some (.Name y py)) spos.line X.env=pure true:=by kernel_rfl) (hf:(X.fn y || X.env.scope.names.lookup y == some .local)=true:=by kernel_rfl) :
  PS X (.Assign [.Name y py] (.ListComp elt [⟨target,iter,ifs,0⟩] scope pos) spos) (qmu (qho (N.length - js.length) js wi g tt te) (qai i)):=
 qe9 N js hok hN hc hXN hyi (qgv hy) hi hg ht he hsw hk hs (by
  rw [Bool.or_eq_true] at hf
  exact hf.elim .inl fun z=>.inr (eq_of_beq z))
end
theorem qem {c A B:Prop} [Decidable c] (hc:c) (h:A):if c then A else B:=by rw [if_pos hc];exact h
theorem qol {c A B:Prop} [Decidable c] (hc:¬ c) (h:B):if c then A else B:=by rw [if_neg hc];exact h
end L2
end
section
namespace L2
open PySem PySem.Spec PyProof.Rows
def Off (F:Addr->Prop) (H H':Hp):Prop:=∀ b o,H b=some o->¬ F b->H' b=some o
structure Deck (F:Addr->Prop) (H:Hp) (a:Addr):Prop where
 ex:∃ (p:Addr) (qs:List Addr) (n:Int),H a=some (.lst [.ref p,.int n])/\H p=some (.lst (qs.map V.ref))/\0 < qs.length/\qs.length<=63/\(∀ q∈qs,∃ c f m,H q=some (.lst [.int c,.int f,.int m]))/\∀ b,F b↔b=a\/b=p\/b∈qs
theorem Off.refl {F:Addr->Prop} {H:Hp}:Off F H H:=fun _ _ e _=>e
theorem Off.trans {F:Addr->Prop} {H H1 H2:Hp} (h:Off F H H1) (k:Off F H1 H2):Off F H H2:=fun b o e n=>k b o (h b o e n) n
theorem Same.off {F:Addr->Prop} {H H1:Hp} (h:Same H H1):Off F H H1:=fun b o e _=>h b o e
theorem Deck.same {F:Addr->Prop} {H H1:Hp} {a:Addr} (h:Deck F H a) (k:Same H H1):Deck F H1 a:=by
 obtain ⟨p,qs,n,h1,h2,h3,h4,h5,h6⟩:=h.ex
 exact ⟨p,qs,n,k _ _ h1,k _ _ h2,h3,h4,fun q hq=>let ⟨c,f,m,e⟩:=h5 q hq;⟨c,f,m,k _ _ e⟩,h6⟩
theorem Deck.there {F:Addr->Prop} {H:Hp} {a b:Addr} (h:Deck F H a) (hb:F b):∃ o,H b=some o:=by
 obtain ⟨p,qs,n,h1,h2,h3,h4,h5,h6⟩:=h.ex
 rcases (h6 b).mp hb with rfl | rfl | z
 ·exact ⟨_,h1⟩
 ·exact ⟨_,h2⟩
 ·obtain ⟨c,f,m,e⟩:=h5 b z
  exact ⟨_,e⟩
theorem Deck.new {F:Addr->Prop} {H:Hp} {a b:Addr} (h:Deck F H a) (hb:H b=none):¬ F b:=fun z=>by
 obtain ⟨o,e⟩:=h.there z
 rw [hb] at e
 cases e
theorem qek {p:Addr} {n:Int} (qs:List Addr):HO.lst (qs.map V.ref)≠HO.lst [.ref p,.int n]:=by
 intro z
 injection z with z
 match qs,z with
 | [],z=>cases z
 | [_],z=>cases z
 | _ :: _ :: _,z=>injection z with z1 z2;injection z2 with z2 z3;cases z2
theorem qa3 {c f m:Int} (qs:List Addr):HO.lst [.int c,.int f,.int m]≠HO.lst (qs.map V.ref):=by
 intro z
 injection z with z
 match qs,z with
 | [],z=>cases z
 | _ :: _,z=>injection z with z1 z2;cases z1
theorem qch {c f m n:Int} {p:Addr}:HO.lst [.int c,.int f,.int m]≠HO.lst [.ref p,.int n]:=by
 intro z
 injection z with z
 injection z with z1 z2
 cases z1
theorem qdE {F:Addr->Prop} {H:Hp} {a p q:Addr} {qs:List Addr} {n n' c' f' m':Int} (ha:H a=some (.lst [.ref p,.int n])) (hp:H p=some (.lst (qs.map V.ref))) (h0:0 < qs.length) (h63:qs.length<=63)
  (hqs:∀ q∈qs,∃ c f m,H q=some (.lst [.int c,.int f,.int m])) (hF:∀ b,F b↔b=a\/b=p\/b∈qs) (hq:q∈qs) :
  Deck F (upd (upd H a (.lst [.ref p,.int n'])) q (.lst [.int c',.int f',.int m'])) a/\Off F H (upd (upd H a (.lst [.ref p,.int n'])) q (.lst [.int c',.int f',.int m'])):=by
 have qa:∀ x∈qs,x≠a:=fun x hx=>by
  obtain ⟨c,f,m,e⟩:=hqs x hx
  exact qax e ha qch
 have qp:∀ x∈qs,x≠p:=fun x hx=>by
  obtain ⟨c,f,m,e⟩:=hqs x hx
  exact qax e hp (qa3 qs)
 have pa:p≠a:=qax hp ha (qek qs)
 refine ⟨⟨p,qs,n',?_,?_,h0,h63,fun x hx=>?_,hF⟩,fun b o e nb=>?_⟩
 ·rw [qab (qa q hq).symm,qaa]
 ·rw [qab (qp q hq).symm,qab pa];exact hp
 ·by_cases hxq:x=q
  ·subst hxq
   exact ⟨c',f',m',qaa⟩
  ·rw [qab hxq,qab (qa x hx)]
   exact hqs x hx
 ·have n1:b≠q:=fun z=>nb ((hF b).mpr (.inr (.inr (z ▸ hq))))
  have n2:b≠a:=fun z=>nb ((hF b).mpr (.inl z))
  rw [qab n1,qab n2]
  exact e
theorem qiV {t u:TT} {σ:St} {H:Hp} {Q:Bool->Hp->Prop} {c1 c2:Bool} (h1:∀ Q:Bool->Hp->Prop,Q c1 H->t σ H Q) (h2:c1=true->∀ Q:Bool->Hp->Prop,Q c2 H->u σ H Q) (q:Q (c1 && c2) H):qky t u σ H Q:=by
 refine h1 _ ?_
 cases c1 with
 | true=>exact qnY (h2 rfl _ (by simpa using q))
 | false=>exact qdu (by simpa using q)
theorem qeB {t u:TT} {σ:St} {H:Hp} {Q:Bool->Hp->Prop} {c1 c2:Bool} (h1:∀ Q:Bool->Hp->Prop,Q c1 H->t σ H Q) (h2:c1=false->∀ Q:Bool->Hp->Prop,Q c2 H->u σ H Q) (q:Q (c1 || c2) H):tOr t u σ H Q:=by
 refine h1 _ ?_
 cases c1 with
 | true=>exact qnY (by simpa using q)
 | false=>exact qdu (h2 rfl _ (by simpa using q))
def qa8:Sp:=fun vs H Q _=>match vs with
 | [.ref a,.int many]=>∃ F,Deck F H a/\0 < many/\many < 1073741824/\∀ r H',0<=r->r < many->Deck F H' a->Off F H H'->Q (.int r) H'
 | _=>False
end L2
namespace L2
open PySem PySem.Spec PyProof.Rows
section
variable {H:Hp}
theorem DV.lst_inv {v:V} {ds:List PyData} (h:DV H v (.list ds)):∃ a xs,v = .ref a/\H a=some (.lst xs)/\DVs H xs ds:=by
 cases h with
 | lst h r=>exact ⟨_,_,rfl,h,r⟩
theorem DV.tup_inv {v:V} {ds:List PyData} (h:DV H v (.tuple ds)):∃ a xs,v = .ref a/\H a=some (.tup xs)/\DVs H xs ds:=by
 cases h with
 | tup h r=>exact ⟨_,_,rfl,h,r⟩
theorem DV.int_inv {v:V} {i:Int} (h:DV H v (.int i)):v = .int i:=by cases h;rfl
theorem DV.str_inv {v:V} {x:Str} (h:DV H v (.str x)):v = .str x:=by cases h;rfl
theorem DVs.length:∀ {xs:List V} {ds:List PyData},DVs H xs ds->xs.length=ds.length
 | _,_,.nil=>rfl
 | _,_,.cons _ r=>by rw [List.length_cons,List.length_cons,DVs.length r]
theorem DVs.get:∀ {xs:List V} {ds:List PyData} {i:Nat} {d:PyData},DVs H xs ds->ds[i]? = some d->∃ x,xs[i]? = some x/\DV H x d
 | _,_,_,_,.nil,h=>by simp at h
 | _,_,0,_,.cons h _,e=>by
  simp at e
  subst e
  exact ⟨_,rfl,h⟩
 | _,_,i+1,d,.cons _ r,e=>by
  obtain ⟨x,h1,h2⟩:=DVs.get (i:=i) (d:=d) r (by simpa using e)
  exact ⟨x,by simpa using h1,h2⟩
theorem DVs.app:∀ {xs ys:List V} {ds es:List PyData},DVs H xs ds->DVs H ys es->DVs H (xs++ys) (ds++es)
 | _,_,_,_,.nil,s=>s
 | _,_,_,_,.cons h r,s=>.cons h (DVs.app r s)
theorem DVs.ints:∀ (ns:List Int),DVs H (ns.map V.int) (ns.map PyData.int)
 | []=>.nil
 | n :: r=>.cons (.int n) (DVs.ints r)
theorem DVs.strs:∀ (ws:List Str),DVs H (ws.map V.str) (ws.map PyData.str)
 | []=>.nil
 | n :: r=>.cons (.str n) (DVs.strs r)
end
end L2
end
section
namespace Om
abbrev Rows:=List (List (List Bool×Nat))
structure CodeOk (k n:Nat) (rows:Rows):Prop where
 k1:1<=k
 k3:k<=3
 n1:1<=n
 n6:n<=6
 s1:1<=rows.length
 s8:rows.length<=8
 len:∀ st∈rows,st.length=2 ^ k
 row:∀ st∈rows,∀ r∈st,r.1.length=n/\r.2 < rows.length
def step (rows:Rows) (s l:Nat):List Bool×Nat:=(rows.getD s []).getD l ([],0)
def send (rows:Rows):Nat->List Nat->List Bool×Nat
 | s,[]=>([],s)
 | s,l :: r=>((step rows s l).1++(send rows (step rows s l).2 r).1,(send rows (step rows s l).2 r).2)
theorem send_app (rows:Rows):∀ (a b:List Nat) (s:Nat),send rows s (a++b)=((send rows s a).1++(send rows (send rows s a).2 b).1,(send rows (send rows s a).2 b).2)
 | [],b,s=>rfl
 | l :: a,b,s=>by
  show ((step rows s l).1++(send rows (step rows s l).2 (a++b)).1,(send rows (step rows s l).2 (a++b)).2)=_
  rw [send_app rows a b]
  simp [send]
theorem step_get {k n:Nat} {rows:Rows} (c:CodeOk k n rows) {s l:Nat} (hs:s < rows.length) (hl:l < 2 ^ k):∃ st,rows[s]? = some st/\st[l]? = some (step rows s l)/\(step rows s l).1.length=n/\(step rows s l).2 < rows.length:=by
 have h1:rows[s]? = some rows[s]:=gE_ hs
 have hm:rows[s]∈rows:=List.getElem_mem hs
 have hl':l < rows[s].length:=by rw [c.len _ hm];exact hl
 have h2:rows[s][l]? = some rows[s][l]:=gE_ hl'
 have e:step rows s l=rows[s][l]:=by
  unfold step
  have e1:rows.getD s []=rows[s]:=by rw [List.getD_eq_getElem?_getD,h1];rfl
  rw [e1,List.getD_eq_getElem?_getD,h2]
  rfl
 rw [e]
 have:=c.row _ hm _ (List.getElem_mem hl')
 exact ⟨rows[s],h1,h2,this.1,this.2⟩
theorem send_ok {k n:Nat} {rows:Rows} (c:CodeOk k n rows):∀ (t:List Nat) (s:Nat),s < rows.length->(∀ l∈t,l < 2 ^ k)->(send rows s t).1.length=n * t.length/\(send rows s t).2 < rows.length
 | [],s,hs,_=>⟨by simp [send],hs⟩
 | l :: t,s,hs,ht=>by
  obtain ⟨st,_,_,h1,h2⟩:=step_get c hs (ht l List.mem_cons_self)
  obtain ⟨h3,h4⟩:=send_ok c t (step rows s l).2 h2 fun x hx=>ht x (mC_ _ hx)
  refine ⟨?_,h4⟩
  show ((step rows s l).1++(send rows (step rows s l).2 t).1).length=_
  rw [lA_,h1,h3,List.length_cons,Nat.mul_add,Nat.mul_one,Nat.add_comm]
def letterOf (c:List Int):Int:=c.foldl (fun a b=>2 * a+b) 0
def qmo (k:Nat) (l:Int):List Int:=(List.range k).map fun i=>l / 2 ^ (k - 1 - i) % 2
def Bit (b:Int):Prop:=b=0\/b=1
theorem letter_ok {k:Nat} (hk:k=1\/k=2\/k=3) {c:List Int} (hl:c.length=k) (hb:∀ b∈c,Bit b):0<=letterOf c/\letterOf c < 2 ^ k/\qmo k (letterOf c)=c:=by
 rcases hk with rfl | rfl | rfl
 ·match c,hl with
  | [a],_=>
   rcases hb a (by simp) with rfl | rfl<;>decide
 ·match c,hl with
  | [a,b],_=>
   rcases hb a (by simp) with rfl | rfl<;>rcases hb b (by simp) with rfl | rfl<;>decide
 ·match c,hl with
  | [a,b,d],_=>
   rcases hb a (by simp) with rfl | rfl<;>rcases hb b (by simp) with rfl | rfl<;>rcases hb d (by simp) with rfl | rfl<;>decide
theorem cut (k:Nat) (hk:0 < k):∀ (m:Nat) (b:List Int),b.length=m * k->∃ cs:List (List Int),cs.length=m/\(∀ c∈cs,c.length=k)/\cs.flatten=b
 | 0,b,h=>⟨[],rfl,by simp,by simp at h;simp [h]⟩
 | m+1,b,h=>by
  have h1:(b.take k).length=k:=by rw [List.length_take,h,Nat.succ_mul];omega
  have h2:(b.drop k).length=m * k:=by rw [List.length_drop,h,Nat.succ_mul];omega
  obtain ⟨cs,e1,e2,e3⟩:=cut k hk m (b.drop k) h2
  refine ⟨b.take k :: cs,by rw [List.length_cons,e1],fun c hc=>?_,by rw [List.flatten_cons,e3,List.take_append_drop]⟩
  rcases List.mem_cons.mp hc with rfl | hc
  ·exact h1
  ·exact e2 c hc
theorem cut_get {k:Nat}:∀ (cs:List (List Int)) (i:Nat),(∀ c∈cs,c.length=k)->(h:i < cs.length)->(cs.flatten.drop (i * k)).take k=cs[i]
 | [],i,_,h=>by simp at h
 | c :: cs,0,hc,h=>by
  have:c.length=k:=hc c List.mem_cons_self
  simp [List.flatten_cons,<-this]
 | c :: cs,i+1,hc,h=>by
  have e:c.length=k:=hc c List.mem_cons_self
  have ih:=cut_get cs i (fun x hx=>hc x (mC_ _ hx)) (by simpa using h)
  rw [List.flatten_cons,List.drop_append,List.drop_of_length_le (by rw [e,Nat.succ_mul];omega),List.nil_append,e]
  have:(i+1) * k - k=i * k:=by rw [Nat.succ_mul];omega
  rw [this,ih]
  simp
theorem flat_len {k:Nat}:∀ (cs:List (List Int)),(∀ c∈cs,c.length=k)->cs.flatten.length=cs.length * k
 | [],_=>by simp
 | c :: cs,h=>by
  rw [List.flatten_cons,lA_,flat_len cs fun x hx=>h x (mC_ _ hx),h c List.mem_cons_self,List.length_cons,Nat.succ_mul,Nat.add_comm]
end Om
end
section
namespace L2
open PySem PySem.Spec PyProof.Rows
theorem qkr {i:Int} {k:Nat} (h0:0<=i) (h:i < 2 ^ k):((Builtin.Int.intBits i:Nat):Int)<=(k:Int):=by
 unfold Builtin.Int.intBits
 by_cases hi:i=0
 ·subst hi;simp
 ·have hb:(i == 0)=false:=by simpa using hi
  rw [hb]
  simp only [Bool.false_eq_true,if_false]
  have hn:i.natAbs≠0:=by omega
  have h2:i.natAbs < 2 ^ k:=by
   have e:((i.natAbs:Nat):Int)=i:=by omega
   have:((i.natAbs:Nat):Int) < ((2 ^ k:Nat):Int):=by rw [e];simpa using h
   exact_mod_cast this
  have:=(Nat.log2_lt hn).mpr h2
  omega
theorem qha (ws:List (List Bool)):Txt.join ("" : Str) (ws.map bs)=bs ws.flatten:=by
 rw [eq_of_beq (join_plain_closes _ _)]
 have e0:("" : Str)=(⟨#[]⟩ : Str):=by decide +kernel
 rw [e0]
 induction ws with
 | nil=>rfl
 | cons w ws ih=>rw [List.map_cons,join_nil_cons,ih,qdM,List.flatten_cons]
theorem qnA {w:List Bool} {j:Int} (h0:0<=j) (h1:j<=w.length):Txt.slice (bs w) none (some j)=bs (w.take j.toNat):=by
 have e:(bs w).cps.toList=w.map sg:=by show (w.map sg).toArray.toList=_;simp
 have:=StrLaws.sliceText_to (x:=bs w) (j:=j) ⟨h0,by rw [e,lM_];exact h1⟩
 refine Eq.trans (show Txt.slice (bs w) none (some j)=StrLaws.sliceText (bs w) none (some j) from rfl) (this.trans ?_)
 rw [e]
 simp [bs,List.map_take]
theorem qko {w:List Bool} {j:Int} (h0:0<=j) (h1:j<=w.length):Txt.slice (bs w) (some j) none=bs (w.drop j.toNat):=by
 have e:(bs w).cps.toList=w.map sg:=by show (w.map sg).toArray.toList=_;simp
 have:=StrLaws.sliceText_from (x:=bs w) (i:=j) ⟨h0,by rw [e,lM_];exact h1⟩
 refine Eq.trans (show Txt.slice (bs w) (some j) none=StrLaws.sliceText (bs w) (some j) none from rfl) (this.trans ?_)
 rw [e,List.take_of_length_le (by simp;omega)]
 simp [bs,List.map_drop]
def qhe (r:List Bool×Nat):PyData:=.tuple [.str (bs r.1),.int (r.2:Nat)]
def qaF (st:List (List Bool×Nat)):PyData:=.list (st.map qhe)
def qaA (k n:Nat) (rows:Om.Rows):PyData:=.tuple [.int (k:Nat),.int (n:Nat),.list (rows.map qaF)]
end L2
namespace L2
open PySem PySem.Spec PyProof.Rows
theorem qbp {J:It} {D:Addr} {xs:List V} {ok:Hp->Prop} {te:TE} {Q:Hp->Prop} {v0:Option V} {fr:St} {H:Hp} (IO:ItOk J xs ok) (f:V->V) (hz:xs.length<=sizeLine) (hok:∀ o,ok (upd H D o))
  (hs:∀ (i:Nat) (x:V) (ys:List V),xs[i]? = some x->∀ C:VK,C (f x) (upd H D (.lst ys))->te (some x :: fr) (upd H D (.lst ys)) C)
  (hd:Q (upd H D (.lst (xs.map f)))) :
  ∃ W:Nat->Nat->St->Hp->List V->Prop,(∃ m,W 0 m (v0 :: fr) (upd H D (.lst [])) [])/\∀ i m τ H2 ys,W i m τ H2 ys->H2 D=some (.lst ys) ∧
   ((J.stop i H2/\Q H2)\/(J.go i H2/\ys.length < sizeLine/\∃ N:St->Hp->List V->Prop,(∀ τ' H' ys',N τ' H' ys'->∃ m',m' < m/\W (i+1) m' τ' H' ys')/\∀ x H3,J.yld i H2 x H3->qai 0 x τ H3 fun τ4 H4=>qnM τ4 H4 fun b H5=>
    if b=true then te τ4 H5 fun y H6=>H6 D=some (.lst ys)/\N τ4 (upd H6 D (.lst (ys++[y]))) (ys++[y])
    else N τ4 H5 ys)):=by
 refine qaq IO (fun i τ H2 ys=>(∃ v,τ=v :: fr)/\H2=upd H D (.lst ys)/\ys=(xs.take i).map f/\i<=xs.length) hz ⟨⟨v0,rfl⟩,rfl,rfl,Nat.zero_le _⟩ ?_ ?_ ?_
 ·rintro i τ H2 ys hi ⟨_,rfl,rfl,_⟩
  exact ⟨hok _,qaa,by simp [List.length_take];omega⟩
 ·rintro i x τ H2 ys hi hx ⟨⟨v,rfl⟩,rfl,rfl,_⟩
  refine hs i x _ hx _ ⟨qaa,⟨_,rfl⟩,qbf,?_,hi⟩
  rw [List.take_add_one,hx,List.map_append]
  rfl
 ·rintro τ H2 ys ⟨_,rfl,rfl,_⟩
  rw [List.take_length]
  exact hd
theorem SqL.upd {K:PySem.W.Frag} {H:Hp} {a D:Addr} {xs:List V} {o:HO} (h:H a=some (.lst xs)) (hD:H D=none):SqL K (upd H D o) a xs:=SqL.of (Same.upd hD _ _ h)
theorem qih {α:Type} (l:List α):((l.map fun _=>V.bl true))=(l.map fun _=>true).map V.bl:=by simp
theorem qmq (n:Nat) {l:List Bool} (h:∀ b∈l,b=true):l.all id=true:=List.all_eq_true.mpr fun b hb=>h b hb
end L2
end
section
namespace L2
open PySem PySem.Spec PyProof.Rows
section
variable {prog:Program} {w:World} {A:Around} {E:Value->Shared->Prop}
theorem qdD {it l:Addr} {items:Array Value} (hne:l≠it):∀ (n i:Nat) (s:Shared) (Q:List Value->Shared->Prop),s.heap.IsListIter it l i->s.heap.IsList l items->i+n<=items.size →
  (∀ h',h'.IsListIter it l (i+n)->Heap.SameBut it s.heap h'->Q ((items.toList.drop i).take n) { s with heap:=h' })->wpAny (model prog w) A (draw (.ref it) n) Q E s
 | 0,i,s,Q,hit,_,_,hQ=>by
  show wpAny _ _ (pure []) Q E s
  exact wpAny_pure (by simpa using hQ s.heap hit (Heap.SameBut.refl ..))
 | n+1,i,s,Q,hit,ht,hle,hQ=>by
  have hlt:i < items.size:=by omega
  show wpAny _ _ (pyNext (.ref it) >>= _) Q E s
  refine wpAny_bind (wpAny_pyNext_list_item hit ht (x:=items[i]) (by simp [hlt]) fun h₁ hit₁ hs₁=>?_)
  refine wpAny_bind (wpAny_holding (qdD hne n (i+1) _ _ hit₁ (ht.extBut hs₁.extBut hne) (by omega) fun h₂ hit₂ hs₂=>wpAny_pure ?_))
  have hd:items.toList.drop i=items[i] :: items.toList.drop (i+1):=by simp [List.drop_eq_getElem_cons,hlt]
  have:=hQ h₂ (by rw [show i+(n+1)=i+1+n by omega];exact hit₂) (hs₁.trans hs₂)
  rw [hd,List.take_succ_cons] at this
  exact this
theorem qbH {s:Shared} {t:Addr} {items:Array Value} {Q:List Value->Shared->Prop} (hh:A.handled=none) (ht:s.heap.IsList t items)
  (hQ:∀ h',Heap.ExtBut s.heap.objs.size s.heap h'->Q items.toList { s with heap:=h' }):wpAny (model prog w) A (unpackItems (.ref t) items.size none) Q E s:=by
 have hlt:t≠s.heap.objs.size:=by obtain ⟨o,ho,_⟩:=ht;exact Nat.ne_of_lt (Heap.lt_size ho)
 unfold unpackItems
 refine wpAny_bind ?_
 ·unfold notIterableAtAll
  refine wpAny_bind (wpAny_specialOf ht.typeIs slot_list_iter.lookup ?_)
  refine wpAny_pure ?_
  simp only [Bool.false_eq_true,if_false]
  refine wpAny_bind (wpAny_holding (wpAny_pyIter_list ht ?_))
  refine wpAny_bind (wpAny_holding (qdD hlt items.size 0 _ _ ⟨_,Heap.get?_push_size _ rfl,rfl,rfl⟩ (ht.push _) (by omega) fun h₁ hit₁ hs₁=>?_))
  have hall:List.take items.size (List.drop 0 items.toList)=items.toList:=by
   rw [List.drop_zero];exact List.take_of_length_le (by simp)
  rw [hall]
  rw [if_neg (by simp)]
  have ht₁:h₁.IsList t items:=(ht.push _).extBut hs₁.extBut hlt
  refine wpAny_bind (wpAny_holding (wpAny_pyNext_list_end hh hit₁ ht₁ (by simp) fun h₂ he₂=>?_))
  simp only [Option.isSome_none,Bool.false_eq_true,if_false]
  refine wpAny_pure (hQ h₂ fun b o hb e=>he₂ b o hb (hs₁.extBut b o hb (Heap.get?_push_of_some _ e)))
theorem qbB {s:Shared} {env:Env} {elts:List Expr} {x1} {pos:Pos} {t:Addr} {items:Array Value} {Q:Unit->Shared->Prop} (hh:A.handled=none) (ht:s.heap.IsList t items)
  (hn:(assignEach elts env).length=items.size) (hstar:(assignEach elts env).findIdx? (·.1)=none)
  (h:∀ h',Heap.ExtBut s.heap.objs.size s.heap h'->wpAny (model prog w) A (assignInOrder ((assignEach elts env).map (·.2)) items.toList) Q E { s with heap:=h' }) :
  wpAny (model prog w) A (assign (.Tuple elts x1 pos) env (.ref t)) Q E s:=by
 rw [assign_Tuple]
 refine wpAny_bind (wpAny_standAt ?_)
 unfold unpack
 rw [hn,hstar]
 exact wpAny_bind (wpAny_holding (qbH hh ht h))
end
section
variable {X:Cx} {pos:Pos}
def qj7 (K:PySem.W.Frag) (n:Nat) (t:TGs):TG:=fun v σ H Q=>match v with
 | .ref a=>∃ xs,(H a=some (.tup xs)\/H a=some (.lst xs))/\xs.length=n/\t xs σ H Q
 | _=>False
theorem qiE {es:List Expr} {k:Nat} {t:TGs} (h:PGs X es t) (hc:X.calm=true:=by kernel_rfl)
  (hst:(assignEach es X.env).findIdx? (·.1)=none:=by kernel_rfl):PG X (.Tuple es k pos) (qj7 X.K (assignEach es X.env).length t):=by
 intro pins s σ H v u Q I r hw
 unfold qj7 at hw
 split at hw
 ·obtain ⟨xs,h1 | h1,h2,hw⟩:=hw
  ·exact qlg hc h rfl hst pins s σ H _ u Q I r ⟨_,xs,rfl,SqT.of h1,h2,hw⟩
  ·cases r
   obtain ⟨its,rv,p,hz⟩:=I.list (SqL.of h1)
   refine qbB (I.ok.hd hc) p.isList (by simp [<-rv.length,h2]) hst fun h' hx=>?_
   have I1:Inv X pins σ H { s with heap:=h' }:=I.kept (t':=s.toks) fun b o e=>hx b o (Nat.ne_of_lt (Heap.lt_size e)) e
   exact h pins _ σ H xs _ Q I1 (by simpa using rv) hw
 ·exact hw.elim
theorem qlB:OpR X (compareOp .Is) (fun x y H Q=>match x,y with
  | .bl a,.bl b=>Q (.bl (a == b)) H
  | _,_=>False):=by
 intro pins s σ H x y v u Q I rx ry h
 split at h
 ·cases rx
  cases ry
  exact is_bool ⟨.bl _,H,I,rfl,h⟩
 ·exact h.elim
end
section
variable {X:Cx}
def qn5 (t:TE):TT:=fun σ H Q=>t σ H fun x H1=>match x with
 | .bl c=>Q c H1
 | .ref p=>∃ xs,H1 p=some (.lst xs)/\Q (!xs.isEmpty) H1
 | _=>False
theorem qmH {e:Expr} {t:TE} (h:PE X e t) (he:∀ qc3,isTrue e X.env qc3=(do let v <-qc3;standAt e.pos;holding [v] (truthy v)):=by intro _;kernel_rfl):PT X e (qn5 t):=by
 intro pins s σ H Q I hw
 refine isTrue_plain (thn (h pins s σ H _ I hw) fun v s1 ⟨x,H1,I1,r1,q1⟩=>?_) (he _)
 refine qfA pins s1 σ H1 x v Q I1 r1 ?_
 dsimp only at q1
 split at q1
 ·exact ⟨_,rfl,q1⟩
 ·obtain ⟨xs,h1,q⟩:=q1
  exact ⟨_,.inl ⟨xs,SqL.of h1,rfl⟩,q⟩
 ·exact q1.elim
end
section
variable {X:Cx}
def qnS:V->Hp->VK->Prop:=fun x H Q=>match x with
 | .int i=>Q (.int (-i)) H
 | _=>False
theorem qnx {a:Expr} {ta:TE} {pos:Pos} (ha:PE X a ta):PE X (.UnaryOp .USub a pos) (tUn qnS ta):=by
 refine qna (fun pins s σ H x v Q I rx q=>?_) ha
 unfold qnS at q
 split at q
 ·exact qkD pins s σ H _ v Q I rx ⟨_,rfl,q⟩
 ·exact q.elim
end
theorem qkj (xs:List V) (a b:Nat) (h:a<=b) (hb:b<=xs.length):qdR xs (some (a:Int)) (some (b:Int))=(xs.drop a).take (b - a):=by
 unfold qdR
 have e1:min a xs.length=a:=Nat.min_eq_left (by omega)
 have e2:min b xs.length=b:=Nat.min_eq_left hb
 rw [HT.sIx_nat,HT.sIx_nat,e1,e2]
section
variable {H:Hp}
def ni (ls:List Nat):List Int:=ls.map fun l:Nat=>(l:Int)
theorem qas {cv:V} {k n:Nat} {rows:Om.Rows} (h:DV H cv (qaA k n rows)):∃ a b ss,cv = .ref a/\H a=some (.tup [.int k,.int n,.ref b])/\H b=some (.lst ss)/\DVs H ss (rows.map qaF):=by
 obtain ⟨a,xs,rfl,ha,hx⟩:=h.tup_inv
 cases hx with
 | cons h1 hx=>
  cases hx with
  | cons h2 hx=>
   cases hx with
   | cons h3 hx=>
    cases hx
    obtain rfl:=h1.int_inv
    obtain rfl:=h2.int_inv
    obtain ⟨b,ss,rfl,hb,hs⟩:=h3.lst_inv
    exact ⟨a,b,ss,rfl,ha,hb,hs⟩
theorem qaJ {ss:List V} {rows:Om.Rows} (h:DVs H ss (rows.map qaF)) {s:Nat} {st:List (List Bool×Nat)} (hs:rows[s]? = some st):∃ q rs,ss[s]? = some (.ref q)/\H q=some (.lst rs)/\DVs H rs (st.map qhe):=by
 obtain ⟨x,hx,d⟩:=h.get (i:=s) (d:=qaF st) (by rw [gM_,hs];rfl)
 obtain ⟨q,rs,rfl,hq,hr⟩:=d.lst_inv
 exact ⟨q,rs,hx,hq,hr⟩
theorem qa9 {rs:List V} {st:List (List Bool×Nat)} (h:DVs H rs (st.map qhe)) {l:Nat} {r:List Bool×Nat} (hl:st[l]? = some r):∃ p,rs[l]? = some (.ref p)/\H p=some (.tup [.str (bs r.1),.int (r.2:Nat)]):=by
 obtain ⟨x,hx,d⟩:=h.get (i:=l) (d:=qhe r) (by rw [gM_,hl];rfl)
 obtain ⟨p,xs,rfl,hp,hd⟩:=d.tup_inv
 cases hd with
 | cons h1 hd=>
  cases hd with
  | cons h2 hd=>
   cases hd
   obtain rfl:=h1.str_inv
   obtain rfl:=h2.int_inv
   exact ⟨p,hx,hp⟩
end
end L2
namespace Om
def words (rows:Rows):Nat->List Nat->List (List Bool)
 | _,[]=>[]
 | s,l :: r=>(step rows s l).1 :: words rows (step rows s l).2 r
theorem words_flat (rows:Rows):∀ (t:List Nat) (s:Nat),(words rows s t).flatten=(send rows s t).1
 | [],_=>rfl
 | l :: t,s=>by rw [words,List.flatten_cons,words_flat rows t];rfl
theorem words_len (rows:Rows):∀ (t:List Nat) (s:Nat),(words rows s t).length=t.length
 | [],_=>rfl
 | l :: t,s=>by rw [words,List.length_cons,words_len rows t,List.length_cons]
theorem words_snoc (rows:Rows):∀ (t:List Nat) (s l:Nat),words rows s (t++[l])=words rows s t++[(step rows (send rows s t).2 l).1]
 | [],_,_=>rfl
 | x :: t,s,l=>by
  show (step rows s x).1 :: words rows (step rows s x).2 (t++[l])=_
  rw [words_snoc rows t]
  rfl
theorem send_snoc (rows:Rows) (t:List Nat) (s l:Nat):(send rows s (t++[l])).2=(step rows (send rows s t).2 l).2:=by rw [send_app];rfl
end Om
end
section
namespace L2
open PySem PySem.Spec PyProof.Rows
section
variable {X:Cx} {x:Str} {p pos:Pos} {e:Expr} {es:List Expr} {t:TA}
def qk2 (K:PySem.W.Frag):List V->Hp->VK->Prop:=fun vs H Q=>match vs with
 | [.ref a]=>∃ ys,SqL K H a ys/\Q (.int (ys.length:Nat)) H
 | _=>False
theorem qkc {mg':Str->Option Value} (hm:mg' "len" = none) (hX:X.mg=mg') (ha:PA X (e :: es) t) (hg:gB X "len" = true:=by kernel_rfl) (he:starEach (e :: es) X.env=(false,eval e X.env) :: starEach es X.env:=by kernel_rfl) (hpl:(backTo pos (starEach es X.env)).any (·.1)=false:=by kernel_rfl) :
  PE X (.Call (.Name "len" p) (e :: es) [] pos) (tCB (qk2 X.K) t):=qaE (call_len_seq.of fun xs H Q q=>by
   unfold qk2 at q
   split at q
   ·obtain ⟨ys,h,q⟩:=q
    exact ⟨_,ys,rfl,.inl h,q⟩
   ·exact q.elim) (qaz hg) (by rw [hX];exact hm) PySem.boot_len ha (he:=he) (hpl:=hpl)
def qk5 (K:PySem.W.Frag):R2:=fun x y H Q=>match x,y with
 | .ref a,.int i=>∃ ys v,SqL K H a ys/\atI ys i=some v/\Q v H
 | _,_=>False
theorem qlX {a b:Expr} {ta tb:TE} (ha:PE X a ta) (hb:PE X b tb) (hs:∀ o i,subscripted b false o i=operate [o,i] (getItem o i):=by intro _ _;kernel_rfl):PE X (.Subscript a b pos) (tOp (qk5 X.K) ta tb):=
 qjy (fun value slice pins s σ H x y v u Q I rx ry q hs=>ix_list value slice pins s σ H x y v u Q I rx ry (by
  unfold qk5 at q
  split at q
  ·obtain ⟨ys,z,h1,h2,q⟩:=q
   exact ⟨_,ys,_,z,rfl,rfl,h1,h2,q⟩
  ·exact q.elim) hs) ha hb hs
end
theorem SqL.same {K:PySem.W.Frag} {H H':Hp} {a:Addr} {xs:List V} (h:SqL K H a xs) (s:Same H H'):SqL K H' a xs:=s.seq h
theorem qnE:("01" : Str)=bs [false,true]:=by decide +kernel
theorem qnD:("10" : Str)=bs [true,false]:=by decide +kernel
theorem g01 {H:Hp} {r:Int} (h0:0<=r) (h1:r < 2):qen H (.str ("01" : Str)) r=some (.str (bs [decide (r=1)])):=by
 rw [qnE]
 refine gs (lZ_ rfl) h0 ?_
 have:r=0\/r=1:=by omega
 rcases this with rfl | rfl<;>rfl
theorem g10 {H:Hp} (k:Bool):qen H (.str ("10" : Str)) (if k then 1 else 0)=some (.str (bs [!k])):=by
 rw [qnD]
 cases k
 ·exact gs (lZ_ rfl) (by decide) rfl
 ·exact gs (lZ_ rfl) (by decide) rfl
theorem qkn (w:List Bool):Txt.join ("" : Str) (w.map fun b=>bs [b])=bs w:=by
 have e:(w.map fun b=>bs [b])=(w.map fun b=>[b]).map bs:=by rw [List.map_map];rfl
 rw [e,qha]
 congr 1
 clear e
 induction w with
 | nil=>rfl
 | cons a w ih=>rw [List.map_cons,List.flatten_cons,ih];rfl
theorem Off.upd_new {F:Addr->Prop} {H H':Hp} {p:Addr} {o:HO} (h:Off F H H') (hp:H' p=none):Off F H (upd H' p o):=h.trans (Same.upd hp).off
theorem Off.upd_own {F:Addr->Prop} {H H':Hp} {p:Addr} {o:HO} (h:Off F H H') (hp:H p=none):Off F H (upd H' p o):=fun b u e n=>by
 rw [qab (qac e hp)]
 exact h b u e n
theorem Deck.own {F:Addr->Prop} {H:Hp} {a p:Addr} {o:HO} (h:Deck F H a) (hp:¬ F p):Deck F (upd H p o) a:=by
 obtain ⟨q,qs,n,h1,h2,h3,h4,h5,h6⟩:=h.ex
 refine ⟨q,qs,n,?_,?_,h3,h4,fun x hx=>?_,h6⟩
 ·rw [qab (fun z=>hp ((h6 p).mpr (.inl z.symm)))];exact h1
 ·rw [qab (fun z=>hp ((h6 p).mpr (.inr (.inl z.symm))))];exact h2
 ·obtain ⟨c,f,m,e⟩:=h5 x hx
  have np:x≠p:=fun z=>hp ((h6 p).mpr (.inr (.inr (by rw [<-z];exact hx))))
  exact ⟨c,f,m,by rw [qab np];exact e⟩
end L2
end
section
namespace L2
open PySem PySem.Spec PyProof.Rows
theorem qdf {t u:TS} {D:Ends} {σ:St} {H:Hp} (M:St->Hp->Prop) (fin:∀ σ' H',M σ' H'->u D σ' H') (h:(∀ σ' H',M σ' H'->u D σ' H')->t { D with nx:=u D } σ H):qfr t u D σ H:=h fin
def WS (ws:List (List Bool)):HO:=.lst (ws.map fun w=>V.str (bs w))
theorem qaB {ws:List (List Bool)}:(ws.map fun w=>V.str (bs w)).length=ws.length:=by simp
theorem qeu {ws:List (List Bool)} {i:Nat} {w:List Bool} (h:ws[i]? = some w):(ws.map fun w=>V.str (bs w))[i]? = some (.str (bs w)):=by rw [gM_,h];rfl
theorem qkC {H:Hp} {p:Addr} {ws:List (List Bool)} (h:H p=some (WS ws)):DV H (.ref p) (.list (ws.map fun w=>PyData.str (bs w))):=by
 refine .lst h ?_
 have e1:(ws.map fun w=>V.str (bs w))=(ws.map bs).map V.str:=by rw [List.map_map];rfl
 have e2:(ws.map fun w=>PyData.str (bs w))=(ws.map bs).map PyData.str:=by rw [List.map_map];rfl
 rw [e1,e2]
 exact DVs.strs _
theorem qbw:∀ {ds:List PyData},(∀ d∈ds,d.canLay0=true)->PyData.canLayAll0 ds=true
 | [],_=>rfl
 | d :: ds,h=>by rw [PyData.canLayAll0,h d List.mem_cons_self,qbw fun x hx=>h x (mC_ _ hx)];rfl
theorem qaL {k:Nat}:∀ {ds:List PyData},(∀ d∈ds,d.depth<=k)->PyData.depthAll ds<=k
 | [],_=>Nat.zero_le _
 | d :: ds,h=>by
  rw [PyData.depthAll]
  exact Nat.max_le.mpr ⟨h d List.mem_cons_self,qaL fun x hx=>h x (mC_ _ hx)⟩
theorem qb3 {k:Nat} {ds:List PyData} (h1:∀ d∈ds,d.canLay0=true) (h2:∀ d∈ds,d.depth<=k) (hk:k < 64):SeqAt.shaped (.list ds)=true:=by
 unfold SeqAt.shaped
 rw [Bool.and_eq_true]
 refine ⟨by rw [PyData.canLay0];exact qbw h1,decide_eq_true ?_⟩
 have:=qaL h2
 rw [PyData.depth]
 omega
theorem qe7 {k:Nat} {ds:List PyData} (h1:∀ d∈ds,d.canLay0=true) (h2:∀ d∈ds,d.depth<=k) (hk:k < 64):SeqAt.shaped (.tuple ds)=true:=by
 unfold SeqAt.shaped
 rw [Bool.and_eq_true]
 refine ⟨by rw [PyData.canLay0];exact qbw h1,decide_eq_true ?_⟩
 have:=qaL h2
 rw [PyData.depth]
 omega
theorem qc2 (ws:List (List Bool)):SeqAt.shaped (.list (ws.map fun w=>PyData.str (bs w)))=true:=qb3 (k:=0) (fun d hd=>by
 obtain ⟨w,_,rfl⟩:=mM_ hd
 exact qmj w) (fun d hd=>by
 obtain ⟨w,_,rfl⟩:=mM_ hd
 exact Nat.le_refl _) (by decide)
theorem qcs:SeqAt.shaped (.list [])=true:=by decide
end L2
namespace L2
open PySem PySem.Spec PyProof.Rows
theorem qms {v w:List (List Bool)} (h:WS v=WS w):v=w:=by
 unfold WS at h
 injection h with h
 induction v generalizing w with
 | nil=>cases w with
  | nil=>rfl
  | cons y r=>simp at h
 | cons x v ih=>
  cases w with
  | nil=>simp at h
  | cons y w=>
   simp only [List.map_cons,List.cons.injEq] at h
   obtain ⟨h1,h2⟩:=h
   injection h1 with h1
   rw [bs_inj h1,ih h2]
theorem qdq {α β:Type} (f:α->β):∀ (l:List α) (i:Nat),(l.eraseIdx i).map f=(l.map f).eraseIdx i
 | [],_=>rfl
 | _ :: _,0=>rfl
 | x :: l,i+1=>by simp [qdq f l i]
end L2
end
section
namespace L2
open PySem PySem.Spec PyProof.Rows
structure Sub (F:Addr->Prop) (st:Addr) (G H:Hp):Prop where
 s:Same G H
 n:G st=none
 f:∀ b,F b->G b=none
theorem qmD {F:Addr->Prop} {b p:Addr} (hb:F b) (hp:¬ F p):b≠p:=fun z=>hp (by rw [<-z];exact hb)
section
variable {F:Addr->Prop} {st p:Addr} {G H H':Hp} {o:HO}
theorem Sub.off (h:Sub F st G H) (k:Off F H H'):Sub F st G H':=⟨fun b u e=>k b u (h.s b u e) (fun z=>by rw [h.f b z] at e;cases e),h.n,h.f⟩
theorem Sub.more (h:Sub F st G H) (hp:H p=none):Sub F st G (upd H p o):=⟨h.s.trans (Same.upd hp),h.n,h.f⟩
theorem Sub.write (h:Sub F st G H):Sub F st G (upd H st o):=⟨fun b u e=>by rw [qab (qac e h.n)];exact h.s b u e,h.n,h.f⟩
theorem Sub.new (h:Sub F st G H) (hp:H p=none) (hst:st≠p) (hF:¬ F p):Sub F st (upd G p o) (upd H p o):=by
 refine ⟨fun b u e=>?_,by rw [qab hst];exact h.n,fun b hb=>by rw [qab (qmD hb hF)];exact h.f b hb⟩
 by_cases hb:b=p
 ·subst hb
  rw [qaa] at e ⊢
  exact e
 ·rw [qab hb] at e ⊢
  exact h.s b u e
theorem Sub.free (h:Sub F st G H) (hp:H p=none):G p=none:=h.s.free hp
theorem Sub.grow (h:Sub F st G H) (hp:H p=none):Same G (upd G p o):=Same.upd (h.free hp)
theorem Off.free (h:Off F H H') {a:Addr} (d:Deck F H' a) (hp:H' p=none):H p=none:=by
 cases e:H p with
 | none=>rfl
 | some u=>
  by_cases hf:F p
  ·obtain ⟨o',e'⟩:=d.there hf
   rw [hp] at e';cases e'
  ·rw [h _ _ e hf] at hp;cases hp
end
end L2
end
section
namespace L2
open PySem PySem.Spec PyProof.Rows
def ql4 (n:Nat) (t:TGs):TG:=fun v σ H Q=>match v with
 | .ref a=>∃ xs,(H a=some (.tup xs)\/H a=some (.lst xs))/\xs.length=n/\t xs σ H Q
 | _=>False
theorem ql3 {X:Cx} {pos:Pos} {es:List Expr} {k:Nat} {t:TGs} (h:PGs X es t) (hc:X.calm=true:=by kernel_rfl)
  (hst:(assignEach es X.env).findIdx? (·.1)=none:=by kernel_rfl) (hn:(assignEach es X.env).length=es.length:=by kernel_rfl):PG X (.Tuple es k pos) (ql4 es.length t):=by
 intro pins s σ H v u Q I r hw
 exact qiE h hc hst pins s σ H v u Q I r (by
  unfold ql4 at hw
  unfold qj7
  split at hw
  ·exact hn ▸ hw
  ·exact hw.elim)
end L2
namespace Om
section
variable {ord:List Nat} {rows:Rows} {k n:Nat}
end
end Om
end
section
namespace L2
open PySem PySem.Spec PyProof.Rows
def qnL (w:List Bool) (s:Nat):PyData:=.tuple [.str (bs w),.int (s:Nat)]
theorem qhn (w:List Bool) (s:Nat):(qnL w s).canLay0=true:=by
 unfold qnL
 rw [PyData.canLay0]
 refine qbw fun d hd=>?_
 rcases List.mem_cons.mp hd with rfl | hd
 ·exact qmj w
 ·rw [mS_ hd];rfl
theorem qah (ns:List Int):SeqAt.shaped (.list (ns.map PyData.int))=true:=by
 refine qb3 (k:=0) (fun d hd=>?_) (fun d hd=>?_) (by decide)
 ·obtain ⟨n,_,rfl⟩:=mM_ hd;rfl
 ·obtain ⟨n,_,rfl⟩:=mM_ hd;exact Nat.le_refl _
theorem Deck.not_tup {F:Addr->Prop} {H:Hp} {a b:Addr} {xs:List V} (h:Deck F H a) (hb:H b=some (.tup xs)):¬ F b:=fun z=>by
 obtain ⟨p,qs,n,h1,h2,h3,h4,h5,h6⟩:=h.ex
 rcases (h6 b).mp z with rfl | rfl | z
 ·rw [h1] at hb;cases hb
 ·rw [h2] at hb;cases hb
 ·obtain ⟨c,f,m,e⟩:=h5 b z
  rw [e] at hb;cases hb
end L2
end
section
namespace L2
open PySem PySem.Spec PyProof.Rows
section
variable {X:Cx} {pins:List (Addr×Obj)} {σ:List (Option V)} {H:Hp} {s:Shared} {h':Heap}
theorem Inv.turnedL {t':Nat} {ch:List Addr} (I:Inv X pins σ H s) (hch:∀ b∈ch,qft X pins H b) (k:∀ b o,b ∉ ch->s.heap.get? b=some o->h'.get? b=some o):Inv X pins σ H { s with heap:=h',toks:=t' }:=by
 have nit:∀ b u,H b=some u->b ∉ ch:=fun b u e z=>by rw [(hch b z).1] at e;cases e
 refine I.step (g':=s.gens) (d':=s.drawn) (ch:=ch) (fun b hb=>?_) (fun b o _ _ hc e _=>k b o hc e) (fun b o _ _ hc e _=>⟨o.slots,k b o hc e⟩) (fun _ _ _ _ n=>n)
  (fun b o hc e=>⟨o,k b o hc e⟩) (fun _ _ e=>e) (fun _ _ _ e=>e) (fun b ps e=>⟨#[],by rw [e];simp⟩) (fun m hm=>?_) (fun b u e=>?_) I.bare
 ·obtain ⟨_,q1,_,q3,q4,q5⟩:=hch b hb
  exact ⟨q3,q1,q4,q5⟩
 ·obtain ⟨o,es,ep,ho,r⟩:=hm
  exact ⟨o,es,ep,k _ o (fun z=>(hch _ z).2.1 rfl) ho,r⟩
 ·refine (I.hok b u e).stay (fun c v hc q=>k c v ?_ q) (fun _ q=>q) fun _ _ q=>q
  rcases hc with z | z
  ·rw [z];exact nit b u e
  ·exact nit c _ z
theorem Inv.turnLaid {t':Nat} {ch:List Addr} {a:Addr} {o':HO} (I:Inv X pins σ H s) (hch:∀ b∈ch,qft X pins H b) (k:∀ b o,b ∉ ch->s.heap.get? b=some o->h'.get? b=some o)
  (hp:s.heap.objs.size<=a) (new:ObjOk X.prog X.w (upd H a o') h' a o'):Inv X pins σ (upd H a o') { s with heap:=h',toks:=t' }:=by
 have nit:∀ b u,H b=some u->b ∉ ch:=fun b u e z=>by rw [(hch b z).1] at e;cases e
 have ha:H a=none:=I.hok.fresh hp
 have na:∀ b o,s.heap.get? b=some o->b≠a:=fun b o e z=>absurd (Nat.lt_of_lt_of_le (Heap.lt_size e) hp) (by rw [z];exact Nat.lt_irrefl _)
 refine I.step (g':=s.gens) (d':=s.drawn) (ch:=ch) (fun b hb=>?_) (fun b o _ _ hc e _=>k b o hc e) (fun b o _ _ hc e _=>⟨o.slots,k b o hc e⟩) (fun b o _ e n=>by rw [qab (na b o e)];exact n)
  (fun b o hc e=>⟨o,k b o hc e⟩) (fun b xs e=>by rw [qab (qac e ha)];exact e) (fun b o u e=>by rw [qab (qac e ha)];exact e) (fun b ps e=>⟨#[],by rw [qab (qac e ha),e];simp⟩) (fun m hm=>?_) (fun b u e=>?_) I.bare
 ·obtain ⟨_,q1,_,q3,q4,q5⟩:=hch b hb
  exact ⟨q3,q1,q4,q5⟩
 ·obtain ⟨o,es,ep,ho,r⟩:=hm
  exact ⟨o,es,ep,k _ o (fun z=>(hch _ z).2.1 rfl) ho,r⟩
 ·by_cases hb:b=a
  ·subst hb
   rw [qaa] at e
   cases e
   exact new
  ·rw [qab hb] at e
   refine (I.hok b u e).stay (fun c v hc q=>k c v ?_ q) (fun c q=>by rw [qab (qac q ha)];exact q) fun c xs q=>by rw [qab (qac q ha)];exact q
   rcases hc with z | z
   ·rw [z];exact nit b u e
   ·exact nit c _ z
end
def Ite (K:PySem.W.Frag) (a:Addr):It:=
 ⟨fun i H=>∃ xs x,SqL K H a xs/\xs[i]? = some x,fun i H x H'=>∃ t y,(∀ xs,SqL K H a xs->xs[i]? = some y)/\H t=none/\x = .ref t/\H'=upd H t (.tup [.int (i:Nat),y]),fun i H=>∃ xs,SqL K H a xs/\xs.length<=i⟩
theorem qfz {P:Program} {w:World} {K:PySem.W.Frag} {es:List Expr} {k:Nat} {pos:Pos} (a it e:Addr) (hne:e≠it):Turn P w K (.Tuple es k pos) (Ite K a) [e,it] e (fun i h=>(∃ old,IsEnum h e it (i:Nat) old)/\h.IsListIter it a i) where
 mem:=by simp
 obj:=fun i h st b hb=>by
  obtain ⟨⟨old,he⟩,o,ho,c,d⟩:=st
  have hb':b=e\/b=it:=by simpa using hb
  rcases hb' with rfl | rfl
  ·exact ⟨_,he,fun v z=>by cases z⟩
  ·exact ⟨o,ho,fun v z=>by rw [d] at z;cases z⟩
 keep:=fun i h h' st k=>⟨let ⟨old,he⟩:=st.1;⟨old,k e (by simp) _ he⟩,st.2.at fun o e=>k it (by simp) o e⟩
 item:=by
  intro X hP hw hK hc i pins s σ H E I hf st hg
  subst hP hw hK
  obtain ⟨xs,x,hq,hx⟩:=hg
  obtain ⟨its,rv,p,hz⟩:=I.list hq
  obtain ⟨u,hu,ru⟩:=rv.get hx
  obtain ⟨⟨old,he⟩,hit⟩:=st
  have helt:e < s.heap.objs.size:=Heap.lt_size he
  have hilt:it < s.heap.objs.size:=by obtain ⟨_,x,_⟩:=hit;exact Heap.lt_size x
  have fT:=I.fresh
  refine wpAny_pyNext_enum_item he hit p.isList (x:=u) (by simpa using hu) hne fun h' ho hit' hT hsz hk=>⟨_,rfl,?_⟩
  refine wpAny_letOwnedTupleGo_enum ho fun h2 he2 hs2=>?_
  have hs2:Heap.SameBut e h' h2:=hs2
  have up:∀ b o,b ∉ [e,it]->s.heap.get? b=some o->h2.get? b=some o:=fun b o hb ee=>by
   have h1:b≠e:=fun z=>hb (by simp [z])
   have h2':b≠it:=fun z=>hb (by simp [z])
   exact (hs2.2 b h1).trans (hk b o h1 h2' ee)
  have hT2:h2.get? s.heap.objs.size=some { cls:=.type "tuple",data:=.seq #[.int (i:Nat) s.toks,u] }:=(hs2.2 _ (Nat.ne_of_gt helt)).trans hT
  refine ⟨.ref s.heap.objs.size,upd H s.heap.objs.size (.tup [.int (i:Nat),x]),?_,rfl,⟨_,x,fun ys hy=>by rw [I.list_inj hy hq];exact hx,fT,rfl,rfl⟩,⟨⟨_,by simpa using he2⟩,hit'.at fun o y=>(hs2.2 it hne.symm).trans y⟩,fun b hb=>?_⟩
  ·exact I.turnLaid (t':=s.toks+1) hf up (Nat.le_refl _) ⟨Nat.le_of_ble_eq_true rfl,[.int (i:Nat) s.toks,u],.cons ⟨_,rfl⟩ (.cons ru .nil),⟨_,hT2,rfl,0,rfl⟩⟩
  ·have hb':b=e\/b=it:=by simpa using hb
   rcases hb' with rfl | rfl
   ·rw [qab (Nat.ne_of_lt helt)];exact (hf _ hb).1
   ·rw [qab (Nat.ne_of_lt hilt)];exact (hf _ hb).1
 done:=by
  intro X hP hw hK hc i pins s σ H E I hf st hg
  subst hP hw hK
  obtain ⟨xs,hq,hx⟩:=hg
  obtain ⟨its,rv,p,hz⟩:=I.list hq
  have hl:=rv.length
  obtain ⟨⟨old,he⟩,hit⟩:=st
  exact wpAny_pyNext_enum_end (I.ok.hd hc) he hit p.isList (by simp;omega) fun h' eb=>⟨rfl,I.turnedL (t':=s.toks) hf fun b o hb e'=>eb b o (fun z=>hb (by simp [z])) e'⟩
 self:=fun _ _ _ _ _ st h=>let ⟨_,he⟩:=st.1;wpAny_pyIter_enum he h
def Itz (K:PySem.W.Frag) (a b:Addr):It:=
 ⟨fun i H=>∃ xs ys x y,SqL K H a xs/\SqL K H b ys/\xs[i]? = some x/\ys[i]? = some y,fun i H x H'=>∃ t y z,(∀ xs,SqL K H a xs->xs[i]? = some y)/\(∀ xs,SqL K H b xs->xs[i]? = some z)/\H t=none/\x = .ref t/\H'=upd H t (.tup [y,z]),
  fun i H=>∃ xs ys,SqL K H a xs/\SqL K H b ys/\(xs.length<=i\/ys.length<=i)⟩
theorem qhl {P:Program} {w:World} {K:PySem.W.Frag} {es:List Expr} {k:Nat} {pos:Pos} (a b z TI TO i1 i2:Addr) (D:ZipApart z TI TO i1 i2 a b):Turn P w K (.Tuple es k pos) (Itz K a b) [z,TI,TO,i1,i2] z
  (fun i h=>IsZip h z TI TO .none/\IsPair h TI (.ref i1) (.ref i2)/\(∃ c d,IsPair h TO c d)/\h.IsListIter i1 a i/\h.IsListIter i2 b i) where
 mem:=by simp
 obj:=fun i h st c hc=>by
  obtain ⟨hz,hTI,⟨_,_,hTO⟩,⟨o1,ho1,c1,d1⟩,⟨o2,ho2,c2,d2⟩⟩:=st
  have hb':c=z\/c=TI\/c=TO\/c=i1\/c=i2:=by simpa using hc
  rcases hb' with rfl | rfl | rfl | rfl | rfl
  ·exact ⟨_,hz,fun v z=>by cases z⟩
  ·exact ⟨_,hTI,fun v z=>by cases z⟩
  ·exact ⟨_,hTO,fun v z=>by cases z⟩
  ·exact ⟨o1,ho1,fun v z=>by rw [d1] at z;cases z⟩
  ·exact ⟨o2,ho2,fun v z=>by rw [d2] at z;cases z⟩
 keep:=fun i h h' st k=>⟨k z (by simp) _ st.1,k TI (by simp) _ st.2.1,let ⟨c,d,e⟩:=st.2.2.1;⟨c,d,k TO (by simp) _ e⟩,st.2.2.2.1.at fun o e=>k i1 (by simp) o e,st.2.2.2.2.at fun o e=>k i2 (by simp) o e⟩
 item:=by
  intro X hP hw hK hc i pins s σ H E I hf st hg
  subst hP hw hK
  obtain ⟨xs,ys,x,y,hq1,hq2,hx,hy⟩:=hg
  obtain ⟨its1,rv1,p1,hz1⟩:=I.list hq1
  obtain ⟨its2,rv2,p2,hz2⟩:=I.list hq2
  obtain ⟨u1,hu1,ru1⟩:=rv1.get hx
  obtain ⟨u2,hu2,ru2⟩:=rv2.get hy
  obtain ⟨hz,hTI,⟨c0,d0,hTO⟩,h1,h2⟩:=st
  have zlt:z < s.heap.objs.size:=Heap.lt_size hz
  have lts:∀ c∈[z,TI,TO,i1,i2],c < s.heap.objs.size:=fun c hc'=>by
   have hb':c=z\/c=TI\/c=TO\/c=i1\/c=i2:=by simpa using hc'
   rcases hb' with rfl | rfl | rfl | rfl | rfl
   ·exact Heap.lt_size hz
   ·exact Heap.lt_size hTI
   ·exact Heap.lt_size hTO
   ·obtain ⟨_,q,_⟩:=h1;exact Heap.lt_size q
   ·obtain ⟨_,q,_⟩:=h2;exact Heap.lt_size q
  have fT:=I.fresh
  refine wpAny_pyNext_zip_item D hz hTI hTO h1 h2 p1.isList p2.isList (x:=u1) (y:=u2) (by simpa using hu1) (by simpa using hu2) fun h' hz' hTO' h1' h2' hT hsz hk=>⟨_,rfl,?_⟩
  refine wpAny_letOwnedTupleGo_zip hz' fun h3 hz3 hs3=>?_
  have hs3:Heap.SameBut z h' h3:=hs3
  have up:∀ b o,b ∉ [z,TI,TO,i1,i2]->s.heap.get? b=some o->h3.get? b=some o:=fun b o hb ee=>by
   have n1:b≠z:=fun q=>hb (by simp [q])
   exact (hs3.2 b n1).trans (hk b o n1 (fun q=>hb (by simp [q])) (fun q=>hb (by simp [q])) (fun q=>hb (by simp [q])) ee)
  have hT2:h3.get? s.heap.objs.size=some { cls:=.type "tuple",data:=.seq #[u1,u2] }:=(hs3.2 _ (Nat.ne_of_gt zlt)).trans hT
  refine ⟨.ref s.heap.objs.size,upd H s.heap.objs.size (.tup [x,y]),?_,rfl,⟨_,x,y,fun zs hz'=>by rw [I.list_inj hz' hq1];exact hx,fun zs hz'=>by rw [I.list_inj hz' hq2];exact hy,fT,rfl,rfl⟩,?_,fun b hb=>?_⟩
  ·exact I.turnLaid (t':=s.toks) hf up (Nat.le_refl _) ⟨Nat.le_of_ble_eq_true rfl,[u1,u2],.cons ru1 (.cons ru2 .nil),⟨_,hT2,rfl,0,rfl⟩⟩
  ·refine ⟨hz3,(hs3.2 _ D.TIz).trans (hk _ _ D.TIz D.TITO D.TIi1 D.TIi2 hTI),⟨_,_,(hs3.2 _ D.TOz).trans hTO'⟩,h1'.at fun o q=>(hs3.2 _ D.i1z).trans q,h2'.at fun o q=>(hs3.2 _ D.i2z).trans q⟩
  ·rw [qab (Nat.ne_of_lt (lts b hb))];exact (hf _ hb).1
 done:=by
  intro X hP hw hK hc i pins s σ H E I hf st hg
  subst hP hw hK
  obtain ⟨xs,ys,hq1,hq2,hend⟩:=hg
  obtain ⟨its1,rv1,p1,hz1⟩:=I.list hq1
  obtain ⟨its2,rv2,p2,hz2⟩:=I.list hq2
  have l1:=rv1.length
  have l2:=rv2.length
  obtain ⟨hz,hTI,⟨c0,d0,hTO⟩,h1,h2⟩:=st
  refine wpAny_pyNext_zip_end (I.ok.hd hc) D hz hTI hTO h1 h2 p1.isList p2.isList ?_ fun h' eb=>⟨rfl,I.turnedL (t':=s.toks) hf fun b o hb e'=>eb b o (fun q=>hb (by simp [q])) (fun q=>hb (by simp [q])) (fun q=>hb (by simp [q])) (fun q=>hb (by simp [q])) e'⟩
  rcases hend with q | q
  ·exact .inl (by simp;omega)
  ·exact .inr (by simp;omega)
 self:=fun _ _ _ _ _ st h=>wpAny_pyIter_zip st.1 h
section
variable {X:Cx} {p pos tpos:Pos} {a b:Expr} {es:List Expr} {tk:Nat}
def qnr (K:PySem.W.Frag) (ta:TA):TI:=fun σ H R=>ta σ H fun vs H1=>match vs with
 | [.ref l]=>(∃ xs,SqL K H1 l xs)/\R (Ite K l) H1
 | _=>False
theorem qj2 {ta:TA} {mg':Str->Option Value} (hm:mg' "enumerate" = none) (hX:X.mg=mg') (ha:PA X [a] ta) (hg:gB X "enumerate" = true:=by kernel_rfl) (hs:starEach [a] X.env=[(false,eval a X.env)]:=by kernel_rfl) :
  PI X (.Tuple es tk tpos) (.Call (.Name "enumerate" p) [a] [] pos) (qnr X.K ta):=by
 intro pins s σ H R I h
 refine Call_ (qa0 I (qaz hg) (by rw [hX];exact hm) boot_enumerate (PyProof.Rows.callWith_type1 (thn (ha pos pins s σ H _ I h) fun us s1 ⟨vs,H1,I1,r1,q1⟩=>?_) hs rfl))
 dsimp only at q1
 split at q1
 ·rename_i l
  obtain ⟨⟨xs,hq⟩,q⟩:=q1
  obtain ⟨u,rfl,r⟩:=qaP r1
  cases r
  obtain ⟨its,rv,pl,hz⟩:=I1.list hq
  refine call_enumerate_list pl.isList fun h' hE hI hsz hk=>wpAny_pyIter_enum hE ?_
  refine ⟨s1.heap.objs.size+1,[s1.heap.objs.size+1,s1.heap.objs.size],_,_,H1,rfl,I1.kept (t':=s1.toks) hk,qfz l s1.heap.objs.size (s1.heap.objs.size+1) (Nat.succ_ne_self _),⟨⟨_,hE⟩,hI⟩,fun c hc=>?_,q⟩
  have hb':c=s1.heap.objs.size+1\/c=s1.heap.objs.size:=by simpa using hc
  have hle:s1.heap.objs.size<=c:=by rcases hb' with rfl | rfl<;>first | exact Nat.le_refl _ | exact Nat.le_add_right _ _
  exact I1.fpOk hle (I1.hok.fresh hle)
 ·exact q1.elim
def qom (K:PySem.W.Frag) (ta:TA):TI:=fun σ H R=>ta σ H fun vs H1=>match vs with
 | [.ref l,.ref m]=>(∃ xs,SqL K H1 l xs)/\(∃ xs,SqL K H1 m xs)/\R (Itz K l m) H1
 | _=>False
theorem qlZ {ta:TA} {mg':Str->Option Value} (hm:mg' "zip" = none) (hX:X.mg=mg') (ha:PA X [a,b] ta) (hg:gB X "zip" = true:=by kernel_rfl) (hs:starEach [a,b] X.env=[(false,eval a X.env),(false,eval b X.env)]:=by kernel_rfl) (hs2:starEach [b] X.env=[(false,eval b X.env)]:=by kernel_rfl) :
  PI X (.Tuple es tk tpos) (.Call (.Name "zip" p) [a,b] [] pos) (qom X.K ta):=by
 intro pins s σ H R I h
 refine Call_ (qa0 I (qaz hg) (by rw [hX];exact hm) boot_zip (PyProof.Rows.callWith_type1 (thn (ha pos pins s σ H _ I h) fun us s1 ⟨vs,H1,I1,r1,q1⟩=>?_) (by rw [hs,hs2]) (by rw [hs2];rfl)))
 dsimp only at q1
 split at q1
 ·rename_i l m
  obtain ⟨⟨xs,hq⟩,⟨ys,hq2⟩,q⟩:=q1
  obtain ⟨u,u2,rfl,r,r2⟩:=qe2 r1
  cases r
  cases r2
  obtain ⟨its,rv,pl,hz⟩:=I1.list hq
  obtain ⟨its2,rv2,pl2,hz2⟩:=I1.list hq2
  have ll:l < s1.heap.objs.size:=by obtain ⟨_,e,_⟩:=pl.isList;exact Heap.lt_size e
  have lm:m < s1.heap.objs.size:=by obtain ⟨_,e,_⟩:=pl2.isList;exact Heap.lt_size e
  refine call_zip_2 pl.isList pl2.isList fun h' hz' hTI hTO h1 h2 hsz hk=>wpAny_pyIter_zip hz' ?_
  refine ⟨_,_,_,_,H1,rfl,I1.kept (t':=s1.toks) hk,qhl l m _ _ _ _ _ (zipApart_new ll lm),⟨hz',hTI,⟨_,_,hTO⟩,h1,h2⟩,fun c hc=>?_,q⟩
  have hb':c=s1.heap.objs.size+4\/c=s1.heap.objs.size+2\/c=s1.heap.objs.size+3\/c=s1.heap.objs.size\/c=s1.heap.objs.size+1:=by simpa using hc
  have hle:s1.heap.objs.size<=c:=by rcases hb' with rfl | rfl | rfl | rfl | rfl<;>first | exact Nat.le_refl _ | exact Nat.le_add_right _ _
  exact I1.fpOk hle (I1.hok.fresh hle)
 ·exact q1.elim
structure ItPr (J:It) (n:Nat) (row:Nat->List V) (ok:Hp->Prop):Prop where
 stop:∀ H,ok H->J.stop n H
 go:∀ i H,ok H->i < n->J.go i H
 yld:∀ i H x H',ok H->i < n->J.yld i H x H'->∃ t,H t=none/\x = .ref t/\H'=upd H t (.tup (row i))
theorem qci {J:It} {n:Nat} {row:Nat->List V} {ok:Hp->Prop} {g:TG} {tb:TS} {D:Ends} {σ:St} {H:Hp} (IO:ItPr J n row ok) (Pv:Nat->St->Hp->Prop) (h0:Pv 0 σ H) (hl:∀ i σ H,i<=n->Pv i σ H->ok H)
  (hs:∀ i t σ H,i < n->Pv i σ H->H t=none->g (.ref t) σ (upd H t (.tup (row i))) fun σ2 H2=>tb { D with nx:=Pv (i+1),ct:=Pv (i+1),bk:=D.nx } σ2 H2) (hd:∀ σ H,Pv n σ H->D.nx σ H) :
  ∃ W:Nat->Nat->St->Hp->Prop,(∃ m,W 0 m σ H)/\∀ i m σ H,W i m σ H →
   (J.stop i H/\D.nx σ H)\/(J.go i H/\∃ N:St->Hp->Prop,(∀ σ' H',N σ' H'->∃ m',m' < m/\W (i+1) m' σ' H')/\∀ x H',J.yld i H x H'->g x σ H' fun σ2 H2=>tb { D with nx:=N,ct:=N,bk:=D.nx } σ2 H2):=by
 refine ⟨fun i m σ H=>m=n - i/\i<=n/\Pv i σ H,⟨n,by simp,Nat.zero_le _,h0⟩,?_⟩
 rintro i m σ H ⟨rfl,hi,p⟩
 have q:=hl i σ H hi p
 by_cases hlt:i < n
 ·refine .inr ⟨IO.go i H q hlt,Pv (i+1),fun σ' H' p'=>⟨n - (i+1),by omega,rfl,hlt,p'⟩,fun x H' y=>?_⟩
  obtain ⟨t,ht,rfl,rfl⟩:=IO.yld i H x H' q hlt y
  exact hs i t σ _ hlt p ht
 ·have e:i=n:=by omega
  subst e
  exact .inl ⟨IO.stop H q,hd σ H p⟩
theorem qaU (K:PySem.W.Frag) (a:Addr) (xs:List V):ItPr (Ite K a) xs.length (fun i=>[.int (i:Nat),xs.getD i .non]) fun H=>H a=some (.lst xs):=
 ⟨fun H h=>⟨xs,SqL.of h,Nat.le_refl _⟩,fun i H h hi=>⟨xs,xs[i],SqL.of h,by simp [hi]⟩,fun i H x H' h hi y=>by
  obtain ⟨t,y',hq,ht,e1,e2⟩:=y
  have hy:=hq xs (SqL.of h)
  have e3:xs.getD i .non=y':=by rw [List.getD_eq_getElem?_getD,hy];rfl
  exact ⟨t,ht,e1,by rw [e2,e3]⟩⟩
theorem qjZ (K:PySem.W.Frag) (a b:Addr) (xs ys:List V) (hl:xs.length=ys.length):ItPr (Itz K a b) xs.length (fun i=>[xs.getD i .non,ys.getD i .non]) fun H=>H a=some (.lst xs)/\H b=some (.lst ys):=
 ⟨fun H h=>⟨xs,ys,SqL.of h.1,SqL.of h.2,.inl (Nat.le_refl _)⟩,fun i H h hi=>⟨xs,ys,xs[i],ys[i]'(by omega),SqL.of h.1,SqL.of h.2,by simp [hi],by simp [<-hl,hi]⟩,fun i H x H' h hi y=>by
  obtain ⟨t,y1,y2,hq1,hq2,ht,e1,e2⟩:=y
  have e3:xs.getD i .non=y1:=by rw [List.getD_eq_getElem?_getD,hq1 xs (SqL.of h.1)];rfl
  have e4:ys.getD i .non=y2:=by rw [List.getD_eq_getElem?_getD,hq2 ys (SqL.of h.2)];rfl
  exact ⟨t,ht,e1,by rw [e2,e3,e4]⟩⟩
end
end L2
end
section
namespace L2
open PySem PySem.Spec PyProof.Rows
section
variable {X:Cx} {a b c d e o:Expr} {es:List Expr} {pos apos:Pos} {ta tb tc td te to:TE}
def qiT (r r':R2) (ta tb tc:TE):TT:=fun σ H Q=>ta σ H fun x H1=>tb σ H1 fun y H2=>r x y H2 fun z H3=>match z with
 | .bl k=>if k=true then tc σ H3 fun w' H4=>r' y w' H4 fun z' H5=>match z' with
   | .bl k'=>Q k' H5
   | _=>False
  else Q false H3
 | _=>False
theorem qiR {op op':CmpOp} {r r':R2} (ho:OpR X (compareOp op) r) (ho':OpR X (compareOp op') r') (ha:PE X a ta) (hb:PE X b tb) (hc:PE X c tc)
  (hm:lastMarks [op,op'] [b,c]=false:=by kernel_rfl):PT X (.Compare a [op,op'] [b,c] pos) (qiT r r' ta tb tc):=by
 intro pins s σ H Q I h
 refine isTrue_chain (thn (ha pins s σ H _ I h) fun v s1 ⟨x,H1,I1,r1,q1⟩=>test_link (thn (hb pins s1 σ H1 _ I1 q1) fun u s2 ⟨y,H2,I2,r2,q2⟩=>
  thn (ho pins s2 σ H2 x y v u _ I2 r1 r2 q2) fun d s3 ⟨z,H3,I3,r3,q3⟩=>?_)) hm
 dsimp only at q3
 split at q3
 ·rename_i k
  cases r3
  refine wpAny_truthy_bool ?_
  cases k with
  | false=>exact ite_ff ⟨H3,I3,q3⟩
  | true=>
   refine ite_tt (test_last (thn (hc pins s3 σ H3 _ I3 q3) fun w' s4 ⟨z',H4,I4,r4,q4⟩=>thn (ho' pins s4 σ H4 y z' u w' _ I4 r2 r4 q4) fun d' s5 ⟨z5,H5,I5,r5,q5⟩=>?_))
   obtain ⟨k',e,q5⟩:=qmh q5
   subst e
   cases r5
   exact wpAny_truthy_bool ⟨H5,I5,q5⟩
 ·exact q3.elim
def qkA:R2:=fun x y H Q=>match y with
 | .non=>Q (.bl (decide (x = .non))) H
 | .bl b=>match x with
  | .bl a=>Q (.bl (a == b)) H
  | _=>False
 | _=>False
theorem qlA:OpR X (compareOp .Is) qkA:=(op_isN.or qlB).of fun x y H Q q=>by
 unfold qkA at q
 split at q
 ·exact .inl ⟨rfl,q⟩
 ·split at q
  ·exact .inr q
  ·exact q.elim
 ·exact q.elim
def qbv:R2:=fun x y H Q=>match y with
 | .non=>Q (.bl (!decide (x = .non))) H
 | _=>False
theorem qgi:OpR X (compareOp .IsNot) qbv:=op_notN.of fun x y H Q q=>by
 unfold qbv at q
 split at q
 ·exact ⟨rfl,q⟩
 ·exact q.elim
end
abbrev At (a:Addr):Addr->Prop:=fun b=>b=a
section
variable {H H' G:Hp} {a p:Addr} {o:HO}
theorem Same.own (h:Same G H) (hG:G p=none):Same G (L2.upd H p o):=fun b u e=>by rw [qab (qac e hG)];exact h b u e
end
end L2
end
section
namespace L2
open PySem PySem.Spec PyProof.Rows
section
variable {G H0 H H':Hp} {a p:Addr} {o:HO}
end
theorem qhj {G:Hp} {p q:Addr} {o:HO} (h:G q=none) (hn:q≠p):upd G p o q=none:=by rw [qab hn];exact h
theorem qeA {G:Hp} {p q:Addr} {o u:HO} (h:G q=some u) (hn:q≠p):upd G p o q=some u:=by rw [qab hn];exact h
end L2
end
section
namespace L2
open PySem PySem.Spec PyProof.Rows
def qaX (x:Nat×Nat):PyData:=.tuple [.int (x.1:Nat),.int (x.2:Nat)]
theorem qgf (x:Nat×Nat):(qaX x).canLay0=true:=rfl
theorem qee (x:Nat×Nat):(qaX x).depth<=1:=by
 rw [qaX,PyData.depth]
 have:=qaL (k:=0) (ds:=[.int (x.1:Nat),.int (x.2:Nat)]) (fun d hd=>by
  rcases List.mem_cons.mp hd with rfl | hd
  ·exact Nat.le_refl _
  ·rw [mS_ hd];exact Nat.le_refl _)
 omega
theorem qbD (x:Nat×Nat):SeqAt.shaped (qaX x)=true:=by
 unfold SeqAt.shaped
 rw [Bool.and_eq_true]
 exact ⟨qgf x,decide_eq_true (by have:=qee x;omega)⟩
theorem qbQ {H:Hp} {v:V} {x:Nat×Nat} (h:DV H v (qaX x)):∃ p,v = .ref p/\H p=some (.tup [.int (x.1:Nat),.int (x.2:Nat)]):=by
 obtain ⟨p,xs,rfl,hp,hd⟩:=h.tup_inv
 cases hd with
 | cons h1 hd=>
  cases hd with
  | cons h2 hd=>
   cases hd
   obtain rfl:=h1.int_inv
   obtain rfl:=h2.int_inv
   exact ⟨p,rfl,hp⟩
theorem qb7 {H:Hp} {p:Addr} {x:Nat×Nat} (h:H p=some (.tup [.int (x.1:Nat),.int (x.2:Nat)])):DV H (.ref p) (qaX x):=.tup h (.cons (.int _) (.cons (.int _) .nil))
theorem DVs.take {H:Hp}:∀ {xs:List V} {ds:List PyData} (n:Nat),DVs H xs ds->DVs H (xs.take n) (ds.take n)
 | _,_,0,_=>.nil
 | _,_,_+1,.nil=>.nil
 | _,_,n+1,.cons h r=>.cons h (DVs.take n r)
structure Gr (G H0 H:Hp) (L:Addr) (vs:List V):Prop where
 s:Same G H
 s0:Same H0 G
 gL:G L=none
 hL:H L=some (.lst vs)
section
variable {G H0 H:Hp} {L p:Addr} {vs:List V} {o:HO}
theorem Gr.all (h:Gr G H0 H L vs):Same H0 H:=h.s0.trans h.s
theorem Gr.ne (h:Gr G H0 H L vs) (hp:H p=none):L≠p:=qac h.hL hp
theorem Gr.new (h:Gr G H0 H L vs) (hp:H p=none):Gr G H0 (upd H p o) L vs:=⟨h.s.trans (Same.upd hp),h.s0,h.gL,qeA h.hL (h.ne hp)⟩
theorem Gr.put (h:Gr G H0 H L vs) (hp:H p=none):Gr (upd G p o) H0 (upd H p o) L vs:=by
 have gp:G p=none:=h.s.free hp
 refine ⟨fun b u e=>?_,h.s0.trans (Same.upd gp),qhj h.gL (h.ne hp),qeA h.hL (h.ne hp)⟩
 by_cases hb:b=p
 ·subst hb
  rw [qaa] at e ⊢
  exact e
 ·rw [qab hb] at e ⊢
  exact h.s b u e
theorem Gr.set {ws:List V} (h:Gr G H0 H L vs):Gr G H0 (upd H L (.lst ws)) L ws:=⟨h.s.own h.gL,h.s0,h.gL,qaa⟩
theorem Gr.start (hp:H0 L=none):Gr H0 H0 (upd H0 L (.lst [])) L []:=⟨Same.upd hp,Same.refl _,hp,qaa⟩
theorem Gr.up (h:Gr G H0 H L vs) (hp:H p=none):Same G (upd G p o):=Same.upd (h.s.free hp)
end
end L2
end
section
namespace L2
open PySem PySem.Spec PyProof.Rows
theorem DVs.imp {H H':Hp}:∀ {xs:List V} {ds:List PyData},(∀ x d,d∈ds->DV H x d->DV H' x d)->DVs H xs ds->DVs H' xs ds
 | _,_,_,.nil=>.nil
 | _,_,f,.cons h r=>.cons (f _ _ List.mem_cons_self h) (DVs.imp (fun x d hd=>f x d (mC_ _ hd)) r)
section
variable {H H':Hp} {a l:Addr}
end
section
variable {G H H2 H3:Hp} {a T U L p:Addr} {xs ys:List Int} {vs:List V} {ps:List (Nat×Nat)} {m:Nat} {o:HO}
end
end L2
end
section
namespace Om
def pst (rows:Rows) (x y:Nat) (ls ms:List Nat) (i:Nat):Nat×Nat:=((send rows x (ls.take i)).2,(send rows y (ms.take i)).2)
def Alike (rows:Rows) (x y:Nat) (ls ms:List Nat) (j:Nat):Prop:=(step rows (pst rows x y ls ms j).1 (ls.getD j 0)).1=(step rows (pst rows x y ls ms j).2 (ms.getD j 0)).1
theorem take_succ_getD {ls:List Nat} {i:Nat} (h:i < ls.length):ls.take (i+1)=ls.take i++[ls.getD i 0]:=by
 rw [List.take_add_one,List.getD_eq_getElem?_getD,gE_ h];rfl
theorem pst_succ {rows:Rows} {x y:Nat} {ls ms:List Nat} {i:Nat} (h:i < ls.length) (h':i < ms.length) :
  pst rows x y ls ms (i+1)=((step rows (pst rows x y ls ms i).1 (ls.getD i 0)).2,(step rows (pst rows x y ls ms i).2 (ms.getD i 0)).2):=by
 unfold pst
 rw [take_succ_getD h,take_succ_getD h',send_snoc,send_snoc]
theorem pst_lt {k n:Nat} {rows:Rows} (c:CodeOk k n rows) {x y:Nat} {ls ms:List Nat} (hx:x < rows.length) (hy:y < rows.length) (hl:∀ l∈ls,l < 2 ^ k) (hm:∀ l∈ms,l < 2 ^ k) (i:Nat) :
  (pst rows x y ls ms i).1 < rows.length/\(pst rows x y ls ms i).2 < rows.length:=
 ⟨(send_ok c _ x hx fun l h=>hl l (List.mem_of_mem_take h)).2,(send_ok c _ y hy fun l h=>hm l (List.mem_of_mem_take h)).2⟩
def nats (xs:List Int):List Nat:=xs.map Int.toNat
theorem nats_len (xs:List Int):(nats xs).length=xs.length:=by unfold nats;simp
def InR (k:Nat) (xs:List Int):Prop:=∀ l∈xs,0<=l/\l < 2 ^ k
theorem nats_lt {k:Nat} {xs:List Int} (h:InR k xs):∀ l∈nats xs,l < 2 ^ k:=fun l hl=>by
 obtain ⟨x,hx,rfl⟩:=mM_ hl
 obtain ⟨h0,h1⟩:=h x hx
 have:((x.toNat:Nat):Int) < ((2 ^ k:Nat):Int):=by rw [Int.toNat_of_nonneg h0];simpa using h1
 exact_mod_cast this
theorem nats_get {xs:List Int} {i:Nat} {x:Int} (h:xs[i]? = some x):(nats xs).getD i 0=x.toNat:=by
 unfold nats
 rw [List.getD_eq_getElem?_getD,gM_,h];rfl
end Om
namespace L2
open PySem PySem.Spec PyProof.Rows
theorem qgQ (x y:Nat×Nat):PyData.eqv (qaX x) (qaX y)=decide (x=y):=by
 unfold qaX
 rw [PyData.eqv,PyData.eqvAll,PyData.eqvAll,PyData.eqvAll,PyData.eqv,PyData.eqv,Bool.and_true,Bool.eq_iff_iff,Bool.and_eq_true,decide_eq_true_eq]
 obtain ⟨x1,x2⟩:=x
 obtain ⟨y1,y2⟩:=y
 simp only [Prod.mk.injEq,beq_iff_eq,Int.natCast_inj]
theorem qig {i:Int} {k:Nat} (h0:0<=i):((Builtin.Int.intBits i:Nat):Int)<=(k:Int)↔i < 2 ^ k:=by
 constructor
 ·intro h
  unfold Builtin.Int.intBits at h
  by_cases hi:i=0
  ·subst hi
   have:(0:Nat) < 2 ^ k:=Nat.two_pow_pos k
   exact_mod_cast this
  ·have hb:(i == 0)=false:=by simpa using hi
   rw [hb] at h
   simp only [Bool.false_eq_true,if_false] at h
   have hn:i.natAbs≠0:=by omega
   have h1:Nat.log2 i.natAbs < k:=by omega
   have h2:=(Nat.log2_lt hn).mp h1
   have e:((i.natAbs:Nat):Int)=i:=by omega
   have:((i.natAbs:Nat):Int) < ((2 ^ k:Nat):Int):=by exact_mod_cast h2
   rw [e] at this
   simpa using this
 ·exact qkr h0
def ltr (k:Nat) (i:Int):Bool:=decide (0<=i) && decide (i < 2 ^ k)
theorem qjT {k:Nat} {xs:List Int}:xs.all (ltr k)=true↔Om.InR k xs:=by
 rw [List.all_eq_true]
 unfold Om.InR ltr
 constructor
 ·intro h l hl
  have:=h l hl
  rw [Bool.and_eq_true,decide_eq_true_eq,decide_eq_true_eq] at this
  exact this
 ·intro h l hl
  rw [Bool.and_eq_true,decide_eq_true_eq,decide_eq_true_eq]
  exact h l hl
def qhh (rows:Om.Rows) (x y:Nat) (xs ys:List Int) (n:Nat):List PyData:=((List.range n).map (Om.pst rows x y (Om.nats xs) (Om.nats ys))).map qaX
theorem qfv {H:Hp} {rows:Om.Rows} {x y:Nat} {xs ys:List Int} {n i:Nat} {vs:List V} (h:DVs H vs (qhh rows x y xs ys n)) (hi:i < n):∃ p,vs[i]? = some (.ref p)/\DV H (.ref p) (qaX (Om.pst rows x y (Om.nats xs) (Om.nats ys) i)):=by
 obtain ⟨v,e1,e2⟩:=h.get (i:=i) (d:=qaX (Om.pst rows x y (Om.nats xs) (Om.nats ys) i)) (by unfold qhh;rw [gM_,gM_,List.getElem?_range hi];rfl)
 obtain ⟨p,rfl,_⟩:=qbQ e2
 exact ⟨p,e1,e2⟩
theorem qfu {H:Hp} {rows:Om.Rows} {x y:Nat} {xs ys:List Int} {n:Nat} {vs:List V} (h:DVs H vs (qhh rows x y xs ys n)):vs.length=n:=by rw [h.length];unfold qhh;simp
theorem qhg (rows:Om.Rows) (x y:Nat) (xs ys:List Int) (n:Nat):qhh rows x y xs ys (n+1)=qhh rows x y xs ys n++[qaX (Om.pst rows x y (Om.nats xs) (Om.nats ys) n)]:=by
 unfold qhh;rw [List.range_succ,List.map_append,List.map_append];rfl
end L2
end
section
namespace L2
open PySem PySem.Spec PyProof.Rows
theorem qhs (r:List Bool×Nat):(qhe r).canLay0=true:=qhn r.1 r.2
theorem qe8 (r:List Bool×Nat):(qhe r).depth<=1:=by
 rw [qhe,PyData.depth]
 have:=qaL (k:=0) (ds:=[.str (bs r.1),.int (r.2:Nat)]) (fun d hd=>by
  rcases List.mem_cons.mp hd with rfl | hd
  ·exact Nat.le_refl _
  ·rw [mS_ hd];exact Nat.le_refl _)
 omega
theorem qe5 (st:List (List Bool×Nat)):(qaF st).canLay0=true:=by
 rw [qaF,PyData.canLay0]
 refine qbw fun d hd=>?_
 obtain ⟨r,_,rfl⟩:=mM_ hd
 exact qhs r
theorem qdb (st:List (List Bool×Nat)):(qaF st).depth<=2:=by
 rw [qaF,PyData.depth]
 have:=qaL (k:=1) (ds:=st.map qhe) (fun d hd=>by
  obtain ⟨r,_,rfl⟩:=mM_ hd
  exact qe8 r)
 omega
theorem qe4 (rows:Om.Rows):PyData.canLay0 (.list (rows.map qaF))=true:=by
 rw [PyData.canLay0]
 refine qbw fun d hd=>?_
 obtain ⟨r,_,rfl⟩:=mM_ hd
 exact qe5 r
theorem qda (rows:Om.Rows):PyData.depth (.list (rows.map qaF))<=3:=by
 rw [PyData.depth]
 have:=qaL (k:=2) (ds:=rows.map qaF) (fun d hd=>by
  obtain ⟨r,_,rfl⟩:=mM_ hd
  exact qdb r)
 omega
theorem qbG (k n:Nat) (rows:Om.Rows):SeqAt.shaped (qaA k n rows)=true:=by
 refine qe7 (k:=3) (fun d hd=>?_) (fun d hd=>?_) (by decide)
 ·rcases List.mem_cons.mp hd with rfl | hd
  ·rfl
  rcases List.mem_cons.mp hd with rfl | hd
  ·rfl
  ·rw [mS_ hd];exact qe4 rows
 ·rcases List.mem_cons.mp hd with rfl | hd
  ·exact Nat.zero_le _
  rcases List.mem_cons.mp hd with rfl | hd
  ·exact Nat.zero_le _
  ·rw [mS_ hd];exact qda rows
theorem qlY {n:Nat} {r:Int} (h0:0<=r) (h1:r < n):ixN n r=some r.toNat:=by unfold ixN;rw [if_pos h0,if_pos h1]
section
variable {G H0 H:Hp} {p:Addr}
end
section
variable {G H H':Hp} {a T U p:Addr} {xs ys:List Int} {m:Nat} {o:HO}
end
end L2
end
section
namespace L2
open PySem
def DefIn (K:PySem.W.Frag) (x:Str) (st:Stmt):Prop:=∃ (f:Addr) (oc:Value) (od an:Option Addr) (osl:Array (Option Value)) (kV dc pm cd ct:Value),PySem.W.nsIn K mainGlobals x=some (some (.ref f)) ∧
 K.lookup f=some ⟨oc,od,.func (PySem.W.fnOf x x (qav st) (qao st) (qad st) .none kV dc pm an cd ct),osl⟩/\PySem.W.codeIn K cd x=true/\PySem.W.keepIn K (.ref f)=true
theorem DefIn.mk {K:PySem.W.Frag} {x:Str} {st:Stmt} {f:Addr} {oc:Value} {od an:Option Addr} {osl:Array (Option Value)} {kV dc pm cd ct:Value} (a:PySem.W.nsIn K mainGlobals x=some (some (.ref f)))
  (l:K.lookup f=some ⟨oc,od,.func (PySem.W.fnOf x x (qav st) (qao st) (qad st) .none kV dc pm an cd ct),osl⟩) (c:PySem.W.codeIn K cd x=true) (k:PySem.W.keepIn K (.ref f)=true):DefIn K x st:=⟨f,oc,od,an,osl,kV,dc,pm,cd,ct,a,l,c,k⟩
theorem DefIn.fnX {K:PySem.W.Frag} {h:Heap} {mg:Str->Option Value} {x:Str} {st:Stmt} {ps:List Str} (D:DefIn K x st) (X:K.In h) (G:h.Ns mainGlobals mg)
  (hb:∀ (kV doc pm:Value) (an:Option Addr) (cdv ct:Value) (us:List Value),us.length=ps.length->bindArgs (PySem.W.fnOf x x (qav st) (qao st) (qad st) .none kV doc pm an cdv ct) ⟨us,[]⟩=pure (ps.zip us)):FnX K mg x st ps:=by
 obtain ⟨f,oc,od,an,osl,kV,dc,pm,cd,ct,h1,h2,h3,h4⟩:=D
 have F:=qiF (st:=st) h2 h3 h4
 exact ⟨f,_,F,PySem.W.mg_of X G h1,F.binds hb⟩
end L2
end
section
namespace L2
open PySem PySem.Spec PyProof.Rows
def qob (i:Int):Str:=Str.ofString (toString i)
section
variable {X:Cx} {p pos:Pos} {e:Expr} {es:List Expr} {t:TA}
def qnQ:List V->Hp->VK->Prop:=fun vs H Q=>match vs with
 | [.int i]=>i.natAbs.log2 < 1920/\Q (.str (qob i)) H
 | _=>False
theorem qbt:∀ {ns:List Int} {us:List Value},Vals (ns.map V.int) us->IntsAre us ns
 | [],us,r=>by cases r;exact .nil
 | n :: ns,us,r=>by
  cases r with
  | cons r1 r2=>
   obtain ⟨t,rfl⟩:=r1
   exact .cons n t (qbt r2)
theorem qcf:∀ {us:List Value} {ns:List Int},IntsAre us ns->Vals (ns.map V.int) us
 | _,_,.nil=>.nil
 | _,_,.cons n t r=>.cons ⟨t,rfl⟩ (qcf r)
def qeb:List V->Hp->VK->Prop:=fun vs H Q=>match vs with
 | [.ref p]=>∃ ns:List Int,H p=some (.lst (ns.map V.int))/\ns.length < 64/\∀ (l:Addr) (ns':List Int),H l=none->ns'.Perm ns->ns'.Pairwise (·<=·)->Q (.ref l) (upd H l (.lst (ns'.map V.int)))
 | _=>False
theorem qdI:CallR X (.builtin "sorted") qeb:=by
 intro pins s σ H xs us Q I r h
 unfold qeb at h
 split at h
 ·rename_i p
  obtain ⟨ns,hH,hl,q⟩:=h
  obtain ⟨u,rfl,r1⟩:=qaP r
  cases r1
  obtain ⟨z,its,n,rv,e⟩:=I.hok p _ hH
  have hI:=qbt rv
  have hlen:its.length=ns.length:=by have:=rv.length;simpa using this.symm
  refine sorted_ints (vs:=its) ⟨_,e,rfl,_,rfl⟩ hI (by omega) fun out ns' a1 a2 a3=>?_
  obtain ⟨ep,he⟩:=sortedAll_at s.heap its out
  have hz:(ns'.map V.int).length<=sizeLine:=by rw [lM_,a2.length_eq];exact qae (by omega)
  refine ⟨.ref (s.heap.objs.size+1),upd H (s.heap.objs.size+1) (.lst (ns'.map V.int)),I.laid (t':=s.toks) (fun b u hb=>sortedAll_old hb) (Nat.le_succ _) ⟨hz,out.toList,ep,qcf a1,?_⟩,rfl,q _ _ (I.hok.fresh (Nat.le_succ _)) a2 a3⟩
  exact he
 ·exact h.elim
def qnW (neg:Bool):R2:=fun x y H Q=>match x,y with
 | .int i,.ref p=>∃ ns:List Int,H p=some (.lst (ns.map V.int))/\Q (.bl (if neg then !decide (i∈ns) else decide (i∈ns))) H
 | _,_=>False
theorem qgP (ns:List Int):(ns.map V.int).all qcX=true:=by
 rw [List.all_map,List.all_eq_true]
 intro x _
 rfl
theorem qh4 (i:Int) (ns:List Int):inV (.int i) (ns.map V.int)=decide (i∈ns):=by
 unfold inV
 rw [Bool.eq_iff_iff,List.any_eq_true,decide_eq_true_eq]
 constructor
 ·rintro ⟨x,hx,e⟩
  obtain ⟨n,hn,rfl⟩:=mM_ hx
  have:n=i:=by simpa [eqV] using e
  rw [<-this];exact hn
 ·intro h
  exact ⟨.int i,List.mem_map_of_mem h,by simp [eqV]⟩
theorem qgh:OpR X (compareOp .NotIn) (qnW true):=op_notIn_seq.of fun x y H Q q=>by
 unfold qnW at q
 split at q
 ·obtain ⟨ns,h,q⟩:=q
  refine ⟨_,_,rfl,.inl (SqL.of h),rfl,qgP ns,?_⟩
  simp only [if_true] at q ⊢
  rw [qh4];exact q
 ·exact q.elim
end
end L2
end
section
namespace L2
open PySem PySem.Spec PyProof.Rows
end L2
end
section
namespace Om
end Om
namespace L2
open PySem PySem.Spec PyProof.Rows
theorem qaO {n:Nat} (h:n<=100000):n<=sizeLine:=Nat.le_trans h (by decide)
theorem qeR {n:Nat} (h:n<=100000):n < sizeLine:=Nat.lt_of_le_of_lt h (by decide)
section
variable {F:Addr->Prop} {H0 H H':Hp} {a p:Addr} {ob:HO}
end
theorem qck:∀ xs ys:List Int,PyData.eqvAll (xs.map PyData.int) (ys.map PyData.int)=decide (xs=ys)
 | [],[]=>by simp [PyData.eqvAll]
 | [],_ :: _=>by simp [PyData.eqvAll]
 | _ :: _,[]=>by simp [PyData.eqvAll]
 | x :: xs,y :: ys=>by
  rw [List.map_cons,List.map_cons,PyData.eqvAll,qck xs ys,PyData.eqv,Bool.eq_iff_iff,Bool.and_eq_true]
  simp
theorem qa7 (xs ys:List Int):PyData.eqv (.list (xs.map PyData.int)) (.list (ys.map PyData.int))=decide (xs=ys):=by rw [PyData.eqv,qck]
end L2
end
section
namespace L2
open PySem PySem.Spec PyProof.Rows
end L2
end
section
namespace Om
def par (ts:List Int) (f:Nat->Bool) (i:Nat):Bool:=ts.foldr (fun t acc=>xor (decide (0<=(i:Int) - t) && f ((i:Int) - t).toNat) acc) false
def put (x P:List Int):List Int:=(List.range x.length).map fun i=>(x.getD i 0+(if ((i:Nat):Int)∈P then 1 else 0)) % 2
section
variable {most:Int} {ts bits:List Int}
end
end Om
end
section
namespace Om
section
variable {most:Int} {ts bits:List Int}
end
end Om
namespace L2
open PySem PySem.Spec PyProof.Rows
theorem qkk {J:It} {D:Addr} {n:Nat} {row:Nat->List V} {ok:Hp->Prop} {g:TG} {tt:TT} {te:TE} {Q:Hp->Prop} {τ:St} {H:Hp} (IO:ItPr J n row ok) (Pv:Nat->St->Hp->List V->Prop) (hz:n<=sizeLine) (h0:Pv 0 τ H [])
  (hl:∀ i τ H ys,i<=n->Pv i τ H ys->ok H/\H D=some (.lst ys)/\ys.length<=i)
  (hs:∀ i t τ H ys,i < n->Pv i τ H ys->H t=none->g (.ref t) τ (upd H t (.tup (row i))) fun τ4 H4=>tt τ4 H4 fun b H5=>
   if b=true then te τ4 H5 fun y H6=>H6 D=some (.lst ys)/\Pv (i+1) τ4 (upd H6 D (.lst (ys++[y]))) (ys++[y]) else Pv (i+1) τ4 H5 ys)
  (hd:∀ τ H ys,Pv n τ H ys->Q H) :
  ∃ W:Nat->Nat->St->Hp->List V->Prop,(∃ m,W 0 m τ H [])/\∀ i m τ H2 ys,W i m τ H2 ys->H2 D=some (.lst ys) ∧
   ((J.stop i H2/\Q H2)\/(J.go i H2/\ys.length < sizeLine/\∃ N:St->Hp->List V->Prop,(∀ τ' H' ys',N τ' H' ys'->∃ m',m' < m/\W (i+1) m' τ' H' ys')/\∀ x H3,J.yld i H2 x H3->g x τ H3 fun τ4 H4=>tt τ4 H4 fun b H5=>
    if b=true then te τ4 H5 fun y H6=>H6 D=some (.lst ys)/\N τ4 (upd H6 D (.lst (ys++[y]))) (ys++[y])
    else N τ4 H5 ys)):=by
 refine ⟨fun i m τ H ys=>m=n - i/\i<=n/\Pv i τ H ys,⟨n,by simp,Nat.zero_le _,h0⟩,?_⟩
 rintro i m τ H ys ⟨rfl,hi,p⟩
 obtain ⟨q,hD,hy⟩:=hl i τ H ys hi p
 refine ⟨hD,?_⟩
 by_cases hlt:i < n
 ·refine .inr ⟨IO.go i H q hlt,by omega,Pv (i+1),fun τ' H' ys' p'=>⟨n - (i+1),by omega,rfl,hlt,p'⟩,fun x H' y=>?_⟩
  obtain ⟨t,ht,rfl,rfl⟩:=IO.yld i H x H' q hlt y
  exact hs i t τ _ ys hlt p ht
 ·have e:i=n:=by omega
  subst e
  exact .inl ⟨IO.stop H q,hd τ H ys p⟩
end L2
end
section
namespace L2
open PySem PySem.Spec PyProof.Rows
section
variable {κ:Type} [DecidableEq κ]
def qaM (kvs:List (κ×V)) (k:κ):Option V:=(kvs.find? fun kv=>decide (kv.1=k)).map (·.2)
def qba (kvs:List (κ×V)) (k:κ) (v:V):List (κ×V):=
 if (kvs.any fun kv=>decide (kv.1=k))=true then kvs.map (fun kv=>if kv.1=k then (kv.1,v) else kv) else kvs++[(k,v)]
def qmf (kvs:List (κ×V)) (k:κ):List (κ×V):=kvs.filter fun kv=>decide (kv.1≠k)
theorem qhi {k:κ}:qaM ([]:List (κ×V)) k=none:=rfl
theorem qar {p:κ×V} {r:List (κ×V)} {k:κ} (e:p.1=k):qaM (p :: r) k=some p.2:=by simp [qaM,List.find?_cons,e]
theorem qau {p:κ×V} {r:List (κ×V)} {k:κ} (e:¬ p.1=k):qaM (p :: r) k=qaM r k:=by simp [qaM,List.find?_cons,e]
theorem qbk (k:κ):∀ kvs:List (κ×V),(kvs.any fun kv=>decide (kv.1=k))=(qaM kvs k).isSome
 | []=>rfl
 | p :: r=>by
  rw [List.any_cons]
  by_cases e:p.1=k
  ·simp only [qar e,decide_eq_true e,Bool.true_or,Option.isSome_some]
  ·rw [qau e,decide_eq_false e,Bool.false_or];exact qbk k r
theorem qez (k j:κ) (y:V):∀ kvs:List (κ×V),qaM (kvs.map fun kv=>if kv.1=k then (kv.1,y) else kv) j=(qaM kvs j).map fun x=>if j=k then y else x
 | []=>rfl
 | p :: r=>by
  have ih:=qez k j y r
  rw [List.map_cons]
  by_cases h:p.1=k
  ·rw [if_pos h]
   by_cases e:p.1=j
   ·rw [qar (p:=(p.1,y)) e,qar e,Option.map_some,if_pos (e.symm.trans h)]
   ·rw [qau (p:=(p.1,y)) e,qau e,ih]
  ·rw [if_neg h]
   by_cases e:p.1=j
   ·rw [qar (p:=p) e,qar e,Option.map_some,if_neg (fun z=>h (e.trans z))]
   ·rw [qau (p:=p) e,qau e,ih]
theorem qc5 (k j:κ) (y:V):∀ kvs:List (κ×V),qaM kvs k=none->qaM (kvs++[(k,y)]) j=if j=k then some y else qaM kvs j
 | [],_=>by
  by_cases e:k=j
  ·rw [if_pos e.symm];exact qar (p:=(k,y)) e
  ·rw [if_neg (fun z=>e z.symm)];exact qau (p:=(k,y)) e
 | p :: r,hn=>by
  rw [List.cons_append]
  have hk:¬ p.1=k:=fun z=>by rw [qar z] at hn;cases hn
  rw [qau hk] at hn
  have ih:=qc5 k j y r hn
  by_cases e:p.1=j
  ·rw [qar e,qar e,if_neg (fun z=>hk (e.trans z))]
  ·rw [qau e,qau e,ih]
theorem qbL (kvs:List (κ×V)) (k j:κ) (y:V):qaM (qba kvs k y) j=if j=k then some y else qaM kvs j:=by
 unfold qba
 by_cases a:(kvs.any fun kv=>decide (kv.1=k))=true
 ·rw [if_pos a,qez]
  rw [qbk] at a
  by_cases e:j=k
  ·obtain ⟨x,hx⟩:=Option.isSome_iff_exists.mp a
   rw [if_pos e,e,hx,Option.map_some,if_pos rfl]
  ·rw [if_neg e]
   cases qaM kvs j with
   | none=>rfl
   | some x=>rw [Option.map_some,if_neg e]
 ·rw [if_neg a]
  refine qc5 k j y kvs ?_
  rw [qbk] at a
  cases q:qaM kvs k with
  | none=>rfl
  | some x=>rw [q] at a;exact (a rfl).elim
theorem qbh (kvs:List (κ×V)) (k:κ) (v:V):(qba kvs k v).length<=kvs.length+1:=by
 unfold qba
 split
 ·rw [lM_];omega
 ·rw [lA_,List.length_cons,List.length_nil];omega
theorem qeJ {kvs:List (κ×V)} {k:κ} (v:V) (h:qaM kvs k=none):qba kvs k v=kvs++[(k,v)]:=by
 unfold qba
 rw [qbk,h]
 exact if_neg (by decide)
theorem RelO.isSome_eq {o:Option V} {u:Option Value} (r:RelO o u):o.isSome=u.isSome:=by
 cases o with
 | none=>cases u with
  | none=>rfl
  | some _=>exact (show False from r).elim
 | some _=>cases u with
  | none=>exact (show False from r).elim
  | some _=>rfl
theorem RelO.getD {o:Option V} {u:Option Value} {d:V} {d':Value} (r:RelO o u) (rd:RelV d d'):RelV (o.getD d) (u.getD d'):=by
 cases o with
 | none=>cases u with
  | none=>exact rd
  | some _=>exact (show False from r).elim
 | some _=>cases u with
  | none=>exact (show False from r).elim
  | some _=>exact r
theorem KV.val {kvs:List (κ×V)} {vs:List (κ×Value)} (r:KV kvs vs) (k:κ):RelO (qaM kvs k) (valueAt vs k):=by
 unfold KV at r
 induction r with
 | nil=>exact True.intro
 | @cons p q ps qs h t ih=>
  obtain ⟨h1,h2⟩:=h
  by_cases e:p.1=k
  ·have e':q.1=k:=h1.symm.trans e
   have b:valueAt (q :: qs) k=some q.2:=by simp [valueAt,List.find?_cons,e']
   rw [qar e,b];exact h2
  ·have e':¬ q.1=k:=fun z=>e (h1.trans z)
   have b:valueAt (q :: qs) k=valueAt qs k:=by simp [valueAt,List.find?_cons,e']
   rw [qau e,b];exact ih
theorem KV.any {kvs:List (κ×V)} {vs:List (κ×Value)} (r:KV kvs vs) (k:κ):(kvs.any fun kv=>decide (kv.1=k))=vs.any fun kv=>decide (kv.1=k):=by
 unfold KV at r
 induction r with
 | nil=>rfl
 | cons h t ih=>rw [List.any_cons,List.any_cons,ih,h.1]
theorem KV.repl {kvs:List (κ×V)} {vs:List (κ×Value)} (r:KV kvs vs) (k:κ) {y:V} {u:Value} (ry:RelV y u) :
  KV (kvs.map fun kv=>if kv.1=k then (kv.1,y) else kv) (vs.map fun kv=>if kv.1=k then (kv.1,u) else kv):=by
 unfold KV at r ⊢
 induction r with
 | nil=>exact .nil
 | @cons p q ps qs h t ih=>
  rw [List.map_cons,List.map_cons]
  refine .cons ?_ ih
  obtain ⟨h1,h2⟩:=h
  by_cases e:p.1=k
  ·rw [if_pos e,if_pos (h1.symm.trans e)];exact ⟨h1,ry⟩
  ·rw [if_neg e,if_neg (fun z=>e (h1.trans z))];exact ⟨h1,h2⟩
theorem KV.put {kvs:List (κ×V)} {vs:List (κ×Value)} (r:KV kvs vs) (k:κ) {y:V} {u:Value} (ry:RelV y u):KV (qba kvs k y) (stored vs k u):=by
 unfold qba stored
 rw [r.any k]
 by_cases e:(vs.any fun kv=>decide (kv.1=k))=true
 ·rw [if_pos e,if_pos e];exact r.repl k ry
 ·rw [if_neg e,if_neg e];exact Paired.snoc r ⟨rfl,ry⟩
theorem KV.drop {kvs:List (κ×V)} {vs:List (κ×Value)} (r:KV kvs vs) (k:κ):KV (qmf kvs k) (without vs k):=by
 unfold KV at r ⊢
 unfold qmf without
 induction r with
 | nil=>exact .nil
 | @cons p q ps qs h t ih=>
  obtain ⟨h1,h2⟩:=h
  rw [List.filter_cons,List.filter_cons]
  by_cases e:p.1=k
  ·have a:¬ decide (p.1≠k)=true:=by simp [e]
   have b:¬ decide (q.1≠k)=true:=by simp [h1.symm.trans e]
   rw [if_neg a,if_neg b];exact ih
  ·have e':¬ q.1=k:=fun z=>e (h1.trans z)
   have a:decide (p.1≠k)=true:=by simp [e]
   have b:decide (q.1≠k)=true:=by simp [e']
   rw [if_pos a,if_pos b];exact .cons ⟨h1,h2⟩ ih
theorem KV.keys {kvs:List (κ×V)} {vs:List (κ×Value)} (r:KV kvs vs):kvs.map (·.1)=vs.map (·.1):=by
 unfold KV at r
 induction r with
 | nil=>rfl
 | cons h t ih=>rw [List.map_cons,List.map_cons,ih,h.1]
theorem KV.length {kvs:List (κ×V)} {vs:List (κ×Value)} (r:KV kvs vs):kvs.length=vs.length:=Paired.length r
end
theorem qfj {P:Program} {w:World} {k:Key} {u:Value} (r:RelV (kV k) u):(qat P w).is k u=true:=by
 cases k with
 | inl i=>obtain ⟨t,e⟩:=(show ∃ t,u=Value.int i t from r);subst e;exact qej P w i t
 | inr x=>obtain ⟨t,e⟩:=(show ∃ t,u=Value.str x t from r);subst e;exact qei P w x t
theorem qdt {P:Program} {w:World}:∀ {ks:List Key} {us:List Value},Vals (ks.map kV) us->ItemsAre (qat P w) ks us
 | [],_,r=>by rw [List.map_nil] at r;cases r;exact .nil
 | k :: ks,_,r=>by
  rw [List.map_cons] at r
  cases r with
  | cons h t=>exact .cons (qfj h) (qdt t)
abbrev KT (H:Hp):List (List Key×V)->List (List Key×Addr×Value)->Prop:=Paired fun p q=>p.1=q.1/\H q.2.1=some (.tup (p.1.map kV))/\RelV p.2 q.2.2
theorem KT.val {H:Hp} {kvs:List (List Key×V)} {xs:List (List Key×Addr×Value)} (r:KT H kvs xs) (k:List Key):RelO (qaM kvs k) ((atKey xs k).map (·.2)):=by
 induction r with
 | nil=>exact True.intro
 | @cons p q ps qs h t ih=>
  obtain ⟨h1,_,h2⟩:=h
  by_cases e:p.1=k
  ·have e':q.1=k:=h1.symm.trans e
   have b:atKey (q :: qs) k=some q.2:=by simp [atKey,List.find?_cons,e']
   rw [qar e,b];exact h2
  ·have e':¬ q.1=k:=fun z=>e (h1.trans z)
   have b:atKey (q :: qs) k=atKey qs k:=by simp [atKey,List.find?_cons,e']
   rw [qau e,b];exact ih
theorem KT.repl {H:Hp} {kvs:List (List Key×V)} {xs:List (List Key×Addr×Value)} (r:KT H kvs xs) (k:List Key) {y:V} {u:Value} (ry:RelV y u) :
  KT H (kvs.map fun kv=>if kv.1=k then (kv.1,y) else kv) (xs.map (putAt k u)):=by
 induction r with
 | nil=>exact .nil
 | @cons p q ps qs h t ih=>
  rw [List.map_cons,List.map_cons]
  refine .cons ?_ ih
  obtain ⟨h1,h2,h3⟩:=h
  unfold putAt
  by_cases e:p.1=k
  ·rw [if_pos e,if_pos (h1.symm.trans e)];exact ⟨h1,h2,ry⟩
  ·rw [if_neg e,if_neg (fun z=>e (h1.trans z))];exact ⟨h1,h2,h3⟩
theorem KT.put {H:Hp} {kvs:List (List Key×V)} {xs:List (List Key×Addr×Value)} (r:KT H kvs xs) (k:List Key) {b:Addr} {y:V} {u:Value} (hb:H b=some (.tup (k.map kV))) (ry:RelV y u) :
  KT H (qba kvs k y) (storedH xs k b u):=by
 have e:(kvs.any fun kv=>decide (kv.1=k))=(atKey xs k).isSome:=by
  rw [qbk,(r.val k).isSome_eq,Option.isSome_map]
 unfold qba storedH
 rw [e]
 by_cases q:(atKey xs k).isSome=true
 ·rw [if_pos q,if_pos q];exact r.repl k ry
 ·rw [if_neg q,if_neg q];exact Paired.snoc r ⟨rfl,hb,ry⟩
theorem KT.keeps {H H':Hp} {kvs:List (List Key×V)} {xs:List (List Key×Addr×Value)} (r:KT H kvs xs) (ht:∀ b ys,H b=some (.tup ys)->H' b=some (.tup ys)):KT H' kvs xs:=
 Paired.mapP r fun _ _ z=>⟨z.1,ht _ _ z.2.1,z.2.2⟩
section
variable {P:Program} {w:World} {H:Hp} {h:Heap} {a:Addr}
theorem qjd {u:HO} (ok:HOk P w H h) (e:Rd H a u):ObjOk P w H h a u:=e.ok ok
theorem qcY {kvs:List (Key×V)} (ok:HOk P w H h) (e:Rd H a (.dK kvs)):kvs.length<=sizeLine/\(a == sysModules)=false/\∃ vs,KV kvs vs/\h.DictOf (qat P w) a vs:=
 show ObjOk P w H h a (.dK kvs) from qjd ok e
theorem qmg {kvs:List (Key×V)} (ok:HOk P w H h) (e:H a=some (.dK kvs)):kvs.length<=sizeLine/\(a == sysModules)=false/\∃ vs,KV kvs vs/\h.DictOf (qat P w) a vs:=qcY ok (.inl e)
theorem qdr {ks:List Key} (ok:HOk P w H h) (e:H a=some (.tup (ks.map kV))):(tupleKind (qat P w)).is h ks a:=by
 obtain ⟨_,its,r,o,h1,h2,n,h3⟩:=(show ObjOk P w H h a (.tup (ks.map kV)) from ok a _ e)
 exact ⟨o,its.toArray,n,h1,h2,h3,by simpa using qdt r⟩
theorem qdC {kvs:List (List Key×V)} (ok:HOk P w H h) (e:Rd H a (.dT kvs)):kvs.length<=sizeLine/\(a == sysModules)=false ∧
  ∃ xs,KT H kvs xs/\h.DictOfH (tupleKind (qat P w)) a xs:=by
 obtain ⟨z,y,xs,r,o,es,ep,h1,h2,h3,h4,h5⟩:=(show ObjOk P w H h a (.dT kvs) from qjd ok e)
 refine ⟨z,y,xs,r,o,es,ep,h1,h2,h3,h4,fun x hx=>?_,h5⟩
 have all:∀ {l:List (List Key×V)} {m:List (List Key×Addr×Value)},KT H l m->∀ x∈m,(tupleKind (qat P w)).is h x.1 x.2.1:=by
  intro l m q
  induction q with
  | nil=>intro x hx;exact nomatch hx
  | @cons p q ps qs hq t ih=>
   intro x hx
   rcases List.mem_cons.mp hx with e | hx
   ·subst e
    exact qdr ok (by rw [<-hq.1];exact hq.2.1)
   ·exact ih x hx
 exact all r x hx
theorem qnz {kvs:List (List Key×V)} (ok:HOk P w H h) (e:H a=some (.dT kvs)):kvs.length<=sizeLine/\(a == sysModules)=false ∧
  ∃ xs,KT H kvs xs/\h.DictOfH (tupleKind (qat P w)) a xs:=qdC ok (.inl e)
end
def DGet (H:Hp) (a:Addr) (y:V) (r:Option V):Prop:=
 (∃ kvs k,Rd H a (.dK kvs)/\y=kV k/\r=qaM kvs k)\/∃ kvs k b,Rd H a (.dT kvs)/\y = .ref b/\H b=some (.tup (k.map kV))/\r=qaM kvs k
def DPut (H:Hp) (a:Addr) (y v:V) (H':Hp):Prop:=
 (∃ kvs k,H a=some (.dK kvs)/\y=kV k/\kvs.length < sizeLine/\H'=upd H a (.dK (qba kvs k v))) ∨
 ∃ kvs k b,H a=some (.dT kvs)/\y = .ref b/\H b=some (.tup (k.map kV))/\kvs.length < sizeLine/\H'=upd H a (.dT (qba kvs k v))
theorem DGet.k {H:Hp} {a:Addr} {kvs:List (Key×V)} {k:Key} (e:H a=some (.dK kvs)):DGet H a (kV k) (qaM kvs k):=.inl ⟨kvs,k,.inl e,rfl,rfl⟩
theorem DGet.t {H:Hp} {a b:Addr} {kvs:List (List Key×V)} {k:List Key} (e:H a=some (.dT kvs)) (eb:H b=some (.tup (k.map kV))):DGet H a (.ref b) (qaM kvs k):=.inr ⟨kvs,k,b,.inl e,rfl,eb,rfl⟩
theorem DPut.k {H:Hp} {a:Addr} {kvs:List (Key×V)} {k:Key} {v:V} (e:H a=some (.dK kvs)) (hl:kvs.length < sizeLine):DPut H a (kV k) v (upd H a (.dK (qba kvs k v))):=.inl ⟨kvs,k,e,rfl,hl,rfl⟩
theorem DPut.t {H:Hp} {a b:Addr} {kvs:List (List Key×V)} {k:List Key} {v:V} (e:H a=some (.dT kvs)) (eb:H b=some (.tup (k.map kV))) (hl:kvs.length < sizeLine) :
  DPut H a (.ref b) v (upd H a (.dT (qba kvs k v))):=.inr ⟨kvs,k,b,e,rfl,eb,hl,rfl⟩
section
variable {X:Cx} {pins:List (Addr×Obj)} {σ:St} {H:Hp} {s:Shared} {a:Addr} {y v:V} {u r:Value} {o:Option V} {A:Around} {E:Value->Shared->Prop}
theorem Inv.big (I:Inv X pins σ H s):sysModules < s.heap.objs.size:=by
 have h:mainGlobals < s.heap.objs.size:=(I.mod.glob.keeps I.bk).lt
 exact Nat.lt_trans (by decide) h
theorem qgY {Q:Value->Shared->Prop} (hu:A.units+1 < cLine) (I:Inv X pins σ H s) (g:DGet H a y (some v)) (ry:RelV y u) (h:∀ w' s',Inv X pins σ H s'->RelV v w'->Q w' s') :
  wpAny (model X.prog X.w) A (getItem (.ref a) u) Q E s:=by
 rcases g with ⟨kvs,k,e,ey,l⟩ | ⟨kvs,k,b,e,ey,eb,l⟩
 ·subst ey
  obtain ⟨z,hd,vs,rel,dd⟩:=qcY I.hok e
  obtain ⟨w',hw,rw'⟩:=RelO.some_of (v:=v) (o:=valueAt vs k) (by rw [l];exact rel.val k)
  exact wpAny_getItem_of (qfj ry) dd.mapOf hw (h w' _ (I.tok _) rw')
 ·subst ey
  cases (show u=Value.ref b from ry)
  obtain ⟨z,hd,xs,rel,dd⟩:=qdC I.hok e
  obtain ⟨w',hw,rw'⟩:=RelO.some_of (v:=v) (o:=(atKey xs k).map (·.2)) (by rw [l];exact rel.val k)
  obtain ⟨p,hp,hp2⟩:=Option.map_eq_some_iff.mp hw
  refine wpAny_getItem_heap (tupleKind_room_in1 hu) (qdr I.hok eb) dd hp ?_
  rw [hp2]
  exact h w' _ (I.tok _) rw'
theorem qos {Q:Value->Shared->Prop} (hu:A.units+1 < cLine) (I:Inv X pins σ H s) (g:DGet H a y o) (ry:RelV y u) (h:∀ s',Inv X pins σ H s'->Q (.bool o.isSome) s') :
  wpAny (model X.prog X.w) A (compareOp .In u (.ref a)) Q E s:=by
 rcases g with ⟨kvs,k,e,ey,l⟩ | ⟨kvs,k,b,e,ey,eb,l⟩
 ·subst ey
  obtain ⟨z,hd,vs,rel,dd⟩:=qcY I.hok e
  refine wpAny_in_of (qfj ry) hd dd.mapOf ?_
  rw [<-(rel.val k).isSome_eq,<-l]
  exact h _ (I.tok _)
 ·subst ey
  cases (show u=Value.ref b from ry)
  obtain ⟨z,hd,xs,rel,dd⟩:=qdC I.hok e
  refine wpAny_in_heap (tupleKind_room_in1 hu) (qdr I.hok eb) hd dd ?_
  have q:=(rel.val k).isSome_eq
  rw [Option.isSome_map] at q
  rw [<-q,<-l]
  exact h _ (I.tok _)
theorem qkh {Q:Value->Shared->Prop} (hu:A.units+1 < cLine) (I:Inv X pins σ H s) (g:DGet H a y o) (ry:RelV y u) (h:∀ s',Inv X pins σ H s'->Q (.bool (!o.isSome)) s') :
  wpAny (model X.prog X.w) A (compareOp .NotIn u (.ref a)) Q E s:=by
 rcases g with ⟨kvs,k,e,ey,l⟩ | ⟨kvs,k,b,e,ey,eb,l⟩
 ·subst ey
  obtain ⟨z,hd,vs,rel,dd⟩:=qcY I.hok e
  refine wpAny_notIn_of (qfj ry) hd dd.mapOf ?_
  rw [<-(rel.val k).isSome_eq,<-l]
  exact h _ (I.tok _)
 ·subst ey
  cases (show u=Value.ref b from ry)
  obtain ⟨z,hd,xs,rel,dd⟩:=qdC I.hok e
  refine wpAny_notIn_heap (tupleKind_room_in1 hu) (qdr I.hok eb) hd dd ?_
  have q:=(rel.val k).isSome_eq
  rw [Option.isSome_map] at q
  rw [<-q,<-l]
  exact h _ (I.tok _)
theorem qep {h':Heap} {t':Nat} {ob:HO} (I:Inv X pins σ H s) (mu:Mut (H a)) (hs:Heap.SameBut a s.heap h') (he:∃ q,h'.get? a=some q) (new:ObjOk X.prog X.w (upd H a ob) h' a ob) :
  Inv X pins σ (upd H a ob) { s with heap:=h',toks:=t' }:=
 I.write (x:=a) (e:=a) mu (.inl rfl) (fun b q hb z=>(hs.2 b hb).trans z) he new
theorem qiJ {P:Program} {w:World} {H':Hp} {h':Heap} {kvs:List (Key×V)} {vs:List (Key×Value)} (z:kvs.length<=sizeLine) (hd:(a == sysModules)=false) (rel:KV kvs vs) (dd:h'.DictOf (qat P w) a vs) :
  ObjOk P w H' h' a (.dK kvs):=⟨z,hd,vs,rel,dd⟩
theorem qgX {H':Hp} {Q:Unit->Shared->Prop} (hu:A.units+1 < cLine) (I:Inv X pins σ H s) (g:DPut H a y v H') (ry:RelV y u) (rv:RelV v r) (h:∀ s',Inv X pins σ H' s'->Q () s') :
  wpAny (model X.prog X.w) A (setItem (.ref a) u r) Q E s:=by
 rcases g with ⟨kvs,k,e,ey,l,eH⟩ | ⟨kvs,k,b,e,ey,eb,l,eH⟩
 ·subst ey eH
  obtain ⟨z,hd,vs,rel,dd⟩:=qmg I.hok e
  have hz:vs.length<=sizeLine:=by rw [<-rel.length];exact z
  have hl:(qba kvs k v).length<=sizeLine:=by have:=qbh kvs k v;omega
  refine wpAny_setItem_pairs (hsz:=hz) (qfj ry) dd fun h' dd' hs=>h _ ?_
  have he:∃ q,h'.get? a=some q:=let ⟨q,_,_,hq,_⟩:=dd';⟨q,hq⟩
  exact qep I (by rw [e];exact True.intro) hs he (qiJ hl hd (rel.put k rv) dd')
 ·subst ey eH
  cases (show u=Value.ref b from ry)
  obtain ⟨z,hd,xs,rel,dd⟩:=qnz I.hok e
  have hz:xs.length<=sizeLine:=by rw [<-Paired.length rel];exact z
  have hl:(qba kvs k v).length<=sizeLine:=by have:=qbh kvs k v;omega
  refine wpAny_setItem_heap (hsz:=hz) (tupleKind_room_in1 hu) (qdr I.hok eb) dd fun h' dd' hs=>h _ ?_
  obtain ⟨q,es,ep,hq,h2,h3,h4,_,h5⟩:=dd'
  refine qep I (by rw [e];exact True.intro) hs ⟨q,hq⟩ ⟨hl,hd,_,(rel.put k eb rv).keeps fun c ys ec=>?_,q,es,ep,hq,h2,h3,h4,h5⟩
  rw [qab (qax ec e (fun z=>nomatch z))]
  exact ec
end
section
variable {X:Cx} {pins:List (Addr×Obj)} {σ:St} {H:Hp} {s:Shared} {a:Addr} {kvs:List (Key×V)} {k:Key} {u:Value} {A:Around} {E:Value->Shared->Prop}
theorem qkg {Q:Bool->Shared->Prop} (I:Inv X pins σ H s) (e:Rd H a (.dK kvs)) (h:∀ s',Inv X pins σ H s'->Q (!kvs.isEmpty) s'):wpAny (model X.prog X.w) A (truthy (.ref a)) Q E s:=by
 obtain ⟨z,hd,vs,rel,dd⟩:=qcY I.hok e
 refine wpAny_truthy_dict hd dd (by rw [<-rel.length];rw [sizeLine_eq] at z;omega) ?_
 have q:kvs.isEmpty=vs.isEmpty:=by cases rel<;>rfl
 rw [<-q]
 exact h _ (I.tok _)
end
theorem qeo {X:Cx} {pins:List (Addr×Obj)} {σ:St} {H:Hp} {s:Shared} {a:Addr} {y:V} {o:Option V} (I:Inv X pins σ H s) (g:DGet H a y o):s.TypeIs (.ref a) "dict" := by
 rcases g with ⟨kvs,k,e,_,_⟩ | ⟨kvs,k,b,e,_,_,_⟩
 ·obtain ⟨_,_,vs,_,dd⟩:=qcY I.hok e
  exact dd.typeIs
 ·obtain ⟨_,_,xs,_,dd⟩:=qdC I.hok e
  exact dd.typeIs
section
variable {X:Cx} {o i e value:Expr} {pos pos' tpos:Pos} {td ty tv:TE}
end
theorem qic {P:Program} {w:World} {H:Hp} (h:Heap) (hb:sysModules < h.objs.size):ObjOk P w H (h.push { cls:=.type "dict",data:=.dict #[] }) h.objs.size (.dK []):=
 ⟨Nat.zero_le _,beq_eq_false_iff_ne.mpr (Ne.symm (Nat.ne_of_lt hb)),[],.nil,Heap.DictOf.new h⟩
theorem qib {P:Program} {w:World} {H:Hp} (h:Heap) (hb:sysModules < h.objs.size):ObjOk P w H (h.push { cls:=.type "dict",data:=.dict #[] }) h.objs.size (.dT []):=
 ⟨Nat.zero_le _,beq_eq_false_iff_ne.mpr (Ne.symm (Nat.ne_of_lt hb)),[],.nil,_,#[],0,Heap.get?_push_size _ rfl,⟨rfl,rfl,rfl⟩,rfl,rfl,List.nodup_nil⟩
def qkK:TE:=fun _ H Q=>∀ p,H p=none->Q (.ref p) (upd H p (.dT []))
section
variable {X:Cx} {pos:Pos}
theorem qbP:PE X (.Dict [] [] pos) qkK:=fun pins s σ H Q I h=>
 wpAny_Dict_empty ⟨.ref s.heap.objs.size,_,I.laid (a:=s.heap.objs.size) (o:=.dT []) (t':=s.toks) (fun _ _ q=>Heap.get?_push_of_some _ q) (Nat.le_refl _) (qib s.heap I.big),rfl,h _ (I.hok.fresh (Nat.le_refl _))⟩
end
def qfC:List (TE×TE)->St->Hp->(List (V×V)->Hp->Prop)->Prop
 | [],_,H,Q=>Q [] H
 | (tk,tv) :: r,σ,H,Q=>tk σ H fun x H1=>tv σ H1 fun y H2=>qfC r σ H2 fun ps H3=>Q ((x,y) :: ps) H3
abbrev VV:List (V×V)->List (Value×Value)->Prop:=Paired fun p q=>RelV p.1 q.1/\RelV p.2 q.2
def PPs (X:Cx) (pos:Pos) (keys:List (Option Expr)) (values:List Expr) (trs:List (TE×TE)):Prop:=
 ∀ (pins:List (Addr×Obj)) (s:Shared) (σ:St) (H:Hp) (Q:List (V×V)->Hp->Prop),Inv X pins σ H s->qfC trs σ H Q →
  wpAny (model X.prog X.w) X.A (evalPairs (pairTrees keys values X.env pos)) (fun vs s'=>∃ ps H',Inv X pins σ H' s'/\VV ps vs/\Q ps H') X.xe s
theorem qjs {X:Cx} {pos:Pos}:PPs X pos [] [] []:=fun pins s σ H Q I h=>pairTrees_nil_walk ⟨[],H,I,.nil,h⟩
theorem qhx {X:Cx} {pos:Pos} {k v:Expr} {ks:List (Option Expr)} {vs:List Expr} {tk tv:TE} {trs:List (TE×TE)} (hk:PE X k tk) (hv:PE X v tv) (hr:PPs X pos ks vs trs) :
  PPs X pos (some k :: ks) (v :: vs) ((tk,tv) :: trs):=fun pins s σ H Q I h=>
 pairTrees_cons_walk (thn (hk pins s σ H _ I h) fun u s1 ⟨x,H1,I1,rx,q1⟩=>thn (hv pins s1 σ H1 _ I1 q1) fun w2 s2 ⟨y,H2,I2,ry,q2⟩=>
  thn (hr pins s2 σ H2 _ I2 q2) fun ws s3 ⟨ps,H3,I3,rel,q3⟩=>⟨(x,y) :: ps,H3,I3,.cons ⟨rx,ry⟩ rel,q3⟩)
def qdm (kvs more:List (Key×V)):List (Key×V):=more.foldl (fun acc kv=>qba acc kv.1 kv.2) kvs
theorem KV.merge:∀ {more:List (Key×V)} {rs:List (Key×Value)} {kvs:List (Key×V)} {vs:List (Key×Value)},KV more rs->KV kvs vs->KV (qdm kvs more) (merged vs rs):=by
 intro more rs kvs vs r
 unfold KV at r
 induction r generalizing kvs vs with
 | nil=>intro q;exact q
 | @cons p q ps qs h t ih=>
  intro r0
  have e:KV (qba kvs p.1 p.2) (stored vs q.1 q.2):=by
   have:=r0.put p.1 h.2
   rw [<-h.1];exact this
  exact ih e
theorem qbn:∀ (more kvs:List (Key×V)),(qdm kvs more).length<=kvs.length+more.length
 | [],kvs=>by show kvs.length<=kvs.length+0;omega
 | p :: r,kvs=>by
  have h1:=qbn r (qba kvs p.1 p.2)
  have h2:=qbh kvs p.1 p.2
  show (qdm (qba kvs p.1 p.2) r).length<=_
  rw [List.length_cons];omega
theorem qcx {P:Program} {w:World}:∀ {kvs:List (Key×V)} {ws:List (Value×Value)},VV (kvs.map fun kv=>(kV kv.1,kv.2)) ws->∃ rs,Carries (qat P w) ws rs/\KV kvs rs
 | [],_,r=>by rw [List.map_nil] at r;cases r;exact ⟨[],True.intro,.nil⟩
 | p :: kvs,_,r=>by
  rw [List.map_cons] at r
  cases r with
  | @cons a b as bs h t=>
   obtain ⟨rs,c,q⟩:=qcx (P:=P) (w:=w) t
   obtain ⟨b1,b2⟩:=b
   exact ⟨(p.1,b2) :: rs,⟨qfj h.1,rfl,c⟩,.cons ⟨rfl,h.2⟩ q⟩
def qmP (trs:List (TE×TE)):TE:=fun σ H Q=>∀ p,H p=none->qfC trs σ (upd H p (.dK [])) fun ps H2=>H2 p=some (.dK [])/\∃ kvs:List (Key×V),ps=kvs.map (fun kv=>(kV kv.1,kv.2))/\kvs.length<=15/\Q (.ref p) (upd H2 p (.dK (qdm [] kvs)))
theorem qjA {X:Cx} {pos:Pos} {keys:List (Option Expr)} {values:List Expr} {trs:List (TE×TE)} (h:PPs X pos keys values trs) (hall:keys.all (·.isSome)=true) (hl:keys.length=values.length) (h0:keys≠[])
  (h15:keys.length<=15):PE X (.Dict keys values pos) (qmP trs):=by
 intro pins s σ H Q I q
 have hn:=I.hok.fresh (Nat.le_refl s.heap.objs.size)
 have I1:=I.laid (a:=s.heap.objs.size) (o:=.dK []) (h':=s.heap.push { cls:=.type "dict",data:=.dict #[] }) (t':=s.toks) (fun _ _ q=>Heap.get?_push_of_some _ q) (Nat.le_refl _) (qic s.heap I.big)
 refine wpAny_Dict_walk (knd:=qat X.prog X.w) hall hl h0 h15 (thn (h pins _ σ _ _ I1 (q _ hn)) fun ws s2 ⟨ps,H2,I2,rel,e,kvs,ep,lk,q2⟩=>?_)
 subst ep
 obtain ⟨rs,c,rk⟩:=qcx (P:=X.prog) (w:=X.w) rel
 obtain ⟨z,hd,vs0,r0,dd⟩:=qmg I2.hok e
 cases r0
 refine ⟨rs,c,dd,fun h' dd' hs=>⟨.ref s.heap.objs.size,_,?_,rfl,q2⟩⟩
 have hz:(qdm [] kvs).length<=sizeLine:=by
  have h1:=qbn kvs []
  rw [List.length_nil] at h1
  rw [sizeLine_eq];omega
 have he:∃ q,h'.get? s.heap.objs.size=some q:=let ⟨q,_,_,hq,_⟩:=dd';⟨q,hq⟩
 exact qep I2 (by rw [e];exact True.intro) hs he (qiJ hz hd (rk.merge .nil) dd')
structure M1 (X:Cx) (o:Expr) (m:Str) (apos:Pos) (e:Expr) (cpos:Pos):Prop where
 base:attributeBase o m X.env (eval o X.env)=eval o X.env
 few:((backTo cpos (starEach [e] X.env)).all (fun x=>!x.1) && (backToKw cpos (keywordEach [] X.env)).all (fun x=>x.1.isSome)
  && decide (([e]:List Expr).length+([]:List Keyword).length+(if ([]:List Keyword).isEmpty then 0 else 1) < 30))=true
 line:(apos.endLine == cpos.line)=true
 trees:backTo cpos (starEach [e] X.env)=[(false,eval e X.env)]
structure M2 (X:Cx) (o:Expr) (m:Str) (apos:Pos) (e f:Expr) (cpos:Pos):Prop where
 base:attributeBase o m X.env (eval o X.env)=eval o X.env
 few:((backTo cpos (starEach [e,f] X.env)).all (fun x=>!x.1) && (backToKw cpos (keywordEach [] X.env)).all (fun x=>x.1.isSome)
  && decide (([e,f]:List Expr).length+([]:List Keyword).length+(if ([]:List Keyword).isEmpty then 0 else 1) < 30))=true
 line:(apos.endLine == cpos.line)=true
 trees:backTo cpos (starEach [e,f] X.env)=[(false,eval e X.env),(false,eval f X.env)]
section
variable {X:Cx} {pins:List (Addr×Obj)} {σ:St} {H:Hp} {s:Shared} {a:Addr} {y d:V} {u r:Value} {o:Option V} {A:Around} {E:Value->Shared->Prop}
end
section
variable {X:Cx} {o e f:Expr} {apos cpos:Pos} {td ty tx:TE}
end
section
variable {X:Cx} {pins:List (Addr×Obj)} {σ:St} {H:Hp} {s:Shared} {a:Addr} {kvs:List (Key×V)} {A:Around} {E:Value->Shared->Prop}
end
section
variable {X:Cx} {pins:List (Addr×Obj)} {σ:St} {H:Hp} {s:Shared} {a:Addr} {y:V} {u:Value} {A:Around} {E:Value->Shared->Prop}
end
end L2
end
section
namespace L2
open PySem PySem.Spec PyProof.Rows
def tyD:PyData->String
 | .none=>"NoneType"
 | .bool _=>"bool"
 | .int _=>"int"
 | .str _=>"str"
 | .list _=>"list"
 | .tuple _=>"tuple"
 | .dict _=>"dict"
theorem DV.ty {H:Hp} {v:V} {d:PyData} (h:DV H v d):tyN H v=some (tyD d):=by
 cases h with
 | non=>rfl
 | bl b=>rfl
 | int i=>rfl
 | str x=>rfl
 | lst e _=>simp [tyN,e,tyD]
 | tup e _=>simp [tyN,e,tyD]
 | dic e=>simp [tyN,e,tyD]
mutual
def qkN:PyData->Bool
 | .str z=>decide (z.length<=1000)
 | .list xs=>decide (xs.length<=1000) && qb0 xs
 | .tuple xs=>decide (xs.length<=1000) && qb0 xs
 | _=>true
def qb0:List PyData->Bool
 | []=>true
 | d :: ds=>qkN d && qb0 ds
end
def qnl:V->Prop
 | .non | .bl _ | .int _ | .str _=>True
 | _=>False
mutual
inductive Tw (H:Hp):Nat->V->V->Prop
 | leaf {n:Nat} {x:V}:qnl x->Tw H n x x
 | dic {n:Nat} {a:Addr}:H a=some (.dK [])->Tw H n (.ref a) (.ref a)
 | lst {n:Nat} {a b:Addr} {xs ys:List V}:H a=some (.lst xs)->H b=some (.lst ys)->Tws H n xs ys->Tw H (n+1) (.ref a) (.ref b)
 | tup {n:Nat} {a b:Addr} {xs ys:List V}:H a=some (.tup xs)->H b=some (.tup ys)->Tws H n xs ys->Tw H (n+1) (.ref a) (.ref b)
inductive Tws (H:Hp):Nat->List V->List V->Prop
 | nil {n:Nat}:Tws H n [] []
 | cons {n:Nat} {x y:V} {xs ys:List V}:Tw H n x y->Tws H n xs ys->Tws H n (x :: xs) (y :: ys)
end
mutual
theorem Tw.mono {H H':Hp} (k:Same H H'):∀ {n:Nat} {x y:V},Tw H n x y->Tw H' n x y
 | _,_,_,.leaf h=>.leaf h
 | _,_,_,.dic h=>.dic (k _ _ h)
 | _,_,_,.lst h h' r=>.lst (k _ _ h) (k _ _ h') (Tws.mono k r)
 | _,_,_,.tup h h' r=>.tup (k _ _ h) (k _ _ h') (Tws.mono k r)
theorem Tws.mono {H H':Hp} (k:Same H H'):∀ {n:Nat} {xs ys:List V},Tws H n xs ys->Tws H' n xs ys
 | _,_,_,.nil=>.nil
 | _,_,_,.cons h r=>.cons (Tw.mono k h) (Tws.mono k r)
end
theorem Tws.length {H:Hp}:∀ {n:Nat} {xs ys:List V},Tws H n xs ys->xs.length=ys.length
 | _,_,_,.nil=>rfl
 | _,_,_,.cons _ r=>by rw [List.length_cons,List.length_cons,r.length]
theorem Tws.app {H:Hp}:∀ {n:Nat} {xs ys xs' ys':List V},Tws H n xs ys->Tws H n xs' ys'->Tws H n (xs++xs') (ys++ys')
 | _,_,_,_,_,.nil,k=>k
 | _,_,_,_,_,.cons h r,k=>.cons h (Tws.app r k)
theorem Tws.get {H:Hp}:∀ {n:Nat} {xs ys:List V} {j:Nat} {x y:V},Tws H n xs ys->xs[j]? = some x->ys[j]? = some y->Tw H n x y
 | _,_,_,0,_,_,.cons h _,e,e'=>by simp at e e';subst e;subst e';exact h
 | _,_,_,j+1,_,_,.cons _ r,e,e'=>Tws.get r (by simpa using e) (by simpa using e')
section
variable {X:Cx} {pins:List (Addr×Obj)} {σ:St} {H:Hp} {s:Shared} {A:Around}
end
section
variable {X:Cx}
end
end L2
end
section
namespace L2
open PySem PySem.Spec PyProof.Rows
namespace Om
def qc3:PyData->Bool
 | .int _=>true
 | _=>false
end Om
theorem qgx {H:Hp} {z:Str} (hz:z.length<=sizeLine):lenV H (.str z)=some z.length:=by
 unfold lenV
 first | exact if_pos hz | simp [hz] | rfl
end L2
end
section
namespace L2
open PySem PySem.Spec PyProof.Rows
section
variable {X:Cx} {p pos:Pos} {e:Expr} {es:List Expr} {t:TA}
end
end L2
end
section
namespace L2
open PySem PySem.Spec PyProof.Rows
section
variable {prog:Program} {w:World} {A:Around} {E:Value->Shared->Prop} {s:Shared}
theorem qel {d:Addr} {ep:Nat} {od:Obj} {es:Array DictEntry} {Q:Value->Shared->Prop} (hd:(d == sysModules)=false) (hT:s.TypeIs (.ref d) "dict") (ho:s.heap.get? d=some od) (hdat:od.data = .dict es ep)
  (hQ:Q (.ref s.heap.objs.size) { s with heap:=s.heap.push { cls:=.type "dict_keyiterator",data:=.fields #[.ref d,.int 0 0,.int es.size 0,.int ep 0] } }):wpAny (model prog w) A (pyIter (.ref d)) Q E s:=by
 refine wpAny_pyIter_slot hT F.slot_dict_iter (wpAny_call_entry F.slot_dict_iter hT F.entry_dict_iter ?_ (F.args_dict_iter_1 _))
 unfold Builtin.«dict.__iter__» Builtin.Dict.dictSlotNone
 refine wpAny_bind (wpAny_bind (wpAny_notOrdered_dict hT ?_))
 refine wpAny_pure ?_
 show wpAny _ _ (Builtin.Dict.showsAll d >>= _) _ _ s
 unfold Builtin.Dict.showsAll
 rw [if_neg (by rw [hd];exact Bool.false_ne_true)]
 refine wpAny_bind (wpAny_pure (wpAny_bind (wpAny_dictEntries ho hdat (wpAny_bind (wpAny_dictEpoch ho hdat ?_)))))
 refine wpAny_bind (wpAny_newObj_type (wpAny_pure ⟨_,rfl,"dict_keyiterator",_,⟨_,Heap.get?_push_size _ rfl,rfl⟩,F.slot_dict_keyiterator_next.lookup,?_⟩))
 simpa [rawInt] using hQ
theorem qgC {it d:Addr} {i ep:Nat} {od:Obj} {es:Array DictEntry} {e:DictEntry} {Q:Option Value->Shared->Prop} (hit:s.heap.IsKeyIter it d i es.size ep) (hod:s.heap.get? d=some od) (hdd:od.data = .dict es ep) (he:es[i]? = some e)
  (hQ:∀ h',h'.IsKeyIter it d (i+1) es.size ep->Heap.SameBut it s.heap h'->Q (some e.key) { s with heap:=h' }):wpAny (model prog w) A (pyNext (.ref it)) Q E s:=by
 obtain ⟨o,ho,hc,hd⟩:=id hit
 unfold pyNext
 refine wpAny_bind (wpAny_attempt (wpAny_callSpecial?_slot (name:=Str.ofString "__next__") hit.typeIs F.slot_dict_keyiterator_next
  (wpAny_call_entry F.slot_dict_keyiterator_next hit.typeIs F.entry_dict_keyiterator_next ?_ (F.args_dict_keyiterator_next_1 _))))
 refine wpAny_bind (wpAny_pure (wpAny_bind (wpAny_bind ?_)))
 first | refine wpAny_bind (wpAny_typeNameOfWhole_keyiter hit.typeIs (wpAny_pure ?_)) | refine wpAny_bind (wpAny_typeNameOf_keyiter hit.typeIs (wpAny_pure ?_))
 refine wpAny_bind (wpAny_fieldsOf ho hd ?_)
 simp only [show Builtin.Dict_items.ownsTuple "dict_keyiterator" = false from by decide,Bool.false_eq_true,if_false]
 show wpAny _ _ (if (Value.ref d == Value.none)=true then _ else _) _ _ s
 rw [if_neg (show ¬ ((Value.ref d == Value.none)=true) from Bool.false_ne_true)]
 refine wpAny_bind (wpAny_pure (wpAny_bind (wpAny_dictEntries hod hdd ?_)))
 rw [if_neg (by simp)]
 refine wpAny_bind (wpAny_pure (wpAny_bind (wpAny_dictEpoch hod hdd ?_)))
 rw [if_neg (by simp)]
 refine wpAny_pure ?_
 simp only [show ¬ ((i:Int) < 0) from by omega,if_false,Int.toNat_natCast,he]
 refine wpAny_bind ?_
 first | refine wpAny_bind (wpAny_typeNameOfWhole_keyiter hit.typeIs (wpAny_pure ?_)) | refine wpAny_bind (wpAny_typeNameOf_keyiter hit.typeIs (wpAny_pure ?_))
 refine wpAny_bind (wpAny_isOneOf_keyiter hit.typeIs ?_)
 show wpAny _ _ (setField (.ref it) 1 (rawInt ((i:Int)+1)) >>= _) _ _ s
 refine wpAny_bind (wpAny_setField ho hd (by simp) ?_)
 have hit':(s.heap.update it (Obj.mapFields (·.setIfInBounds 1 (rawInt ((i:Int)+1))))).IsKeyIter it d (i+1) es.size ep:=
  ⟨_,Heap.get?_update_self _ ho (Obj.isFreed_of_fields (Obj.data_mapFields hd _)),(Obj.cls_mapFields ..).trans hc,by rw [Obj.data_mapFields hd];simp [rawInt]⟩
 refine wpAny_bind (wpAny_holding ?_)
 refine wpAny_bind (wpAny_isOneOf_keyiter (s:={ s with heap:=s.heap.update it (Obj.mapFields (·.setIfInBounds 1 (rawInt ((i:Int)+1)))) }) hit'.typeIs ?_)
 show wpAny _ _ (pure e.key) _ _ _
 exact wpAny_pure (wpAny_pure ⟨_,rfl,wpAny_pure (hQ _ hit' (Heap.SameBut.update ..))⟩)
theorem qiB {it d:Addr} {i ep:Nat} {od:Obj} {es:Array DictEntry} {Q:Option Value->Shared->Prop} (hh:A.handled=none) (hit:s.heap.IsKeyIter it d i es.size ep) (hod:s.heap.get? d=some od) (hdd:od.data = .dict es ep) (hge:es.size<=i)
  (hQ:∀ h',Heap.ExtBut it s.heap h'->Q none { s with heap:=h' }):wpAny (model prog w) A (pyNext (.ref it)) Q E s:=by
 obtain ⟨o,ho,hc,hd⟩:=id hit
 unfold pyNext
 refine wpAny_bind (wpAny_attempt (wpAny_callSpecial?_slot (name:=Str.ofString "__next__") hit.typeIs F.slot_dict_keyiterator_next
  (wpAny_call_entry F.slot_dict_keyiterator_next hit.typeIs F.entry_dict_keyiterator_next ?_ (F.args_dict_keyiterator_next_1 _))))
 refine wpAny_bind (wpAny_pure (wpAny_bind (wpAny_bind ?_)))
 first | refine wpAny_bind (wpAny_typeNameOfWhole_keyiter hit.typeIs (wpAny_pure ?_)) | refine wpAny_bind (wpAny_typeNameOf_keyiter hit.typeIs (wpAny_pure ?_))
 refine wpAny_bind (wpAny_fieldsOf ho hd ?_)
 simp only [show Builtin.Dict_items.ownsTuple "dict_keyiterator" = false from by decide,Bool.false_eq_true,if_false]
 show wpAny _ _ (if (Value.ref d == Value.none)=true then _ else _) _ _ s
 rw [if_neg (show ¬ ((Value.ref d == Value.none)=true) from Bool.false_ne_true)]
 refine wpAny_bind (wpAny_pure (wpAny_bind (wpAny_dictEntries hod hdd ?_)))
 rw [if_neg (by simp)]
 refine wpAny_bind (wpAny_pure (wpAny_bind (wpAny_dictEpoch hod hdd ?_)))
 rw [if_neg (by simp)]
 refine wpAny_pure ?_
 simp only [show ¬ ((i:Int) < 0) from by omega,if_false,Int.toNat_natCast,Array.getElem?_eq_none hge]
 refine wpAny_bind ?_
 first | refine wpAny_bind (wpAny_typeNameOfWhole_keyiter hit.typeIs (wpAny_pure ?_)) | refine wpAny_bind (wpAny_typeNameOf_keyiter hit.typeIs (wpAny_pure ?_))
 show wpAny _ _ (setField (.ref it) 0 .none >>= _) _ _ s
 refine wpAny_bind (wpAny_setField ho hd (by simp) ?_)
 show wpAny _ _ (newExc (.type "StopIteration") [] >>= _) _ _ _
 refine wpAny_bind ?_
 simp only [newExc,newTuple]
 refine wpAny_bind (wpAny_newObj_type ?_ (by size_fits))
 refine wpAny_bind (m:=firstArgMember _ _) (wpAny_of_eq (a:=Value.none) (by first | rfl | (simp only [firstArgMember];rfl)) ?_)
 refine wpAny_newObj_type ?_ (by size_fits)
 simp only [raiseNew]
 refine wpAny_bind (wpAny_handled ?_)
 rw [show A.in1.handled=none from hh]
 refine wpAny_bind (wpAny_pure (wpAny_throw ?_))
 refine wpAny_bind (wpAny_isInstance (T:= "StopIteration") (b:=true) ⟨_,Heap.get?_push_size _ rfl,rfl⟩ isSubtype_stop ?_)
 exact wpAny_pure (hQ _ (((Heap.SameBut.update ..).extBut.push _).push _))
end
end L2
end
section
namespace L2
open PySem PySem.Spec PyProof.Rows
section
variable {X:Cx} {pins:List (Addr×Obj)} {σ:St} {H:Hp} {s:Shared} {a:Addr} {u:HO} {o:Obj}
theorem Inv.freeze (I:Inv X pins σ H s) (e:H a=some u) (mu:Mut (some u)) (ho:s.heap.get? a=some o):Inv X pins σ (upd H a (.frz o u)) s:=by
 have nown:∀ c y,H c=some (.own y)->c≠a:=fun c y r z=>by subst z;rw [r] at e;cases e;exact mu
 have ntup:∀ c xs,H c=some (.tup xs)->c≠a:=fun c xs r z=>by subst z;rw [r] at e;cases e;exact mu
 exact I.write (t':=s.toks) (h':=s.heap) (x:=a) (e:=a) (by rw [e];exact mu) (.inl rfl) (fun _ _ _ q=>q) ⟨o,ho⟩
  ⟨ho,(I.hok a u e).stay (fun _ _ _ q=>q) (fun b q=>by rw [qab (nown b a q)];exact q) fun b xs q=>by rw [qab (ntup b xs q)];exact q⟩
theorem Inv.frozen (I:Inv X pins σ H s) (e:H a=some (.frz o u)):s.heap.get? a=some o:=(I.hok a _ e).1
theorem Inv.obj (I:Inv X pins σ H s) (e:H a=some u):∃ o,s.heap.get? a=some o:=by
 have l:=(I.hok a u e).lt
 cases u with
 | lst xs=>obtain ⟨_,_,_,_,q⟩:=I.hok a _ e;exact ⟨_,q⟩
 | dK kvs=>obtain ⟨_,_,_,_,o,_,_,q,_⟩:=I.hok a _ e;exact ⟨_,q⟩
 | dT kvs=>obtain ⟨_,_,_,_,o,_,_,q,_⟩:=I.hok a _ e;exact ⟨_,q⟩
 | tup xs=>obtain ⟨_,_,_,o,q,_⟩:=I.hok a _ e;exact ⟨_,q⟩
 | set S n=>obtain ⟨o,_,_,_,q,_⟩:=I.hok a _ e;exact ⟨_,q⟩
 | ins C dx fs=>obtain ⟨_,_,_,q,_⟩:=I.hok a _ e;exact ⟨_,q⟩
 | own y=>obtain ⟨_,q⟩:=I.hok a _ e;exact ⟨_,q⟩
 | xd fs=>obtain ⟨_,⟨_,_,_,q,_⟩,_⟩:=I.hok a _ e;exact ⟨_,q⟩
 | rng lo hi=>obtain ⟨_,_,_,q⟩:=I.hok a _ e;exact ⟨_,q⟩
 | frz ob u=>obtain ⟨q,_⟩:=I.hok a _ e;exact ⟨_,q⟩
 | tbl ps=>exact ⟨_,I.hok a _ e⟩
 | met f y=>exact ⟨_,I.hok a _ e⟩
 | ext φ=>obtain ⟨_,q,_⟩:=I.hok a _ e;exact q
end
section
variable {X:Cx} {e:Expr} {te:TE} {pos:Pos}
def qmL (te:TE):TS:=fun D σ H=>te σ H fun x H1=>match x with
 | .ref a=>(∃ u,H1 a=some u/\Mut (some u)/\∀ o,D.rt (.ref a) (upd H1 a (.frz o u)))\/D.rt (.ref a) H1
 | x=>D.rt x H1
theorem qeE (he:PE X e te):PS X (.Return (some e) pos) (qmL te):=by
 intro pins s σ H D I h
 refine wpAny_Return_some (thn (he pins s σ H _ I h) fun v s1 ⟨x,H1,I1,r1,q1⟩=>?_)
 cases x with
 | ref a=>
  rcases q1 with ⟨u,e,mu,q⟩ | q
  ·obtain ⟨o,ho⟩:=I1.obj e
   exact ⟨.ref a,σ,_,I1.freeze e mu ho,r1,q o⟩
  ·exact ⟨.ref a,σ,H1,I1,r1,q⟩
 | _=>exact ⟨_,σ,H1,I1,r1,q1⟩
end
abbrev qbe (H:Hp):List (List Key×V)->List Addr->Prop:=Paired fun p b=>H b=some (.tup (p.1.map kV))
def Itk (a:Addr) (o:Obj) (xs:List V):It:=
 ⟨fun i H=>i < xs.length/\∃ u,H a=some (.frz o u),fun i H x H'=>H'=H/\xs[i]? = some x,fun i H=>xs.length<=i/\∃ u,H a=some (.frz o u)⟩
theorem qj1 (a:Addr) (o:Obj) (xs:List V):ItOk (Itk a o xs) xs fun H=>∃ u,H a=some (.frz o u):=
 ⟨fun _ h=>⟨Nat.le_refl _,h⟩,fun _ _ h hi=>⟨hi,h⟩,fun _ _ _ _ _ _ y=>y⟩
theorem qc9 {P:Program} {w:World} {K:PySem.W.Frag} {tg:Expr} {a it:Addr} {o:Obj} {es:Array DictEntry} {ep:Nat} {xs:List V} (hd:o.data = .dict es ep) (rel:Vals xs (es.toList.map (·.key))) :
  Turn P w K tg (Itk a o xs) [it] it (fun i h=>h.IsKeyIter it a i es.size ep) where
 mem:=by simp
 obj:=fun i h st b hb=>by
  have e:b=it:=by simpa using hb
  subst e
  obtain ⟨o,e,c,d⟩:=st
  exact ⟨o,e,fun v z=>by rw [d] at z;cases z⟩
 keep:=fun i h h' st k=>st.at fun o e=>k it (by simp) o e
 item:=by
  intro X hP hw hK hc i pins s σ H E I hf st hg
  subst hP hw hK
  obtain ⟨hi,u,hu⟩:=hg
  have hx:xs[i]? = some xs[i]:=by simp [hi]
  obtain ⟨v,hv,rv⟩:=rel.get hx
  obtain ⟨e,he,ev⟩ : ∃ e,es[i]? = some e/\e.key=v:=by
   rw [gM_] at hv
   obtain ⟨e,h1,h2⟩:=Option.map_eq_some_iff.mp hv
   exact ⟨e,by simpa using h1,h2⟩
  obtain ⟨f0,f1,f2,f3,f4,f5⟩:=hf it (by simp)
  refine qgC st (I.frozen hu) hd he fun h' st' sb=>?_
  have I1:Inv X pins σ H { s with heap:=h' }:=I.turned (t':=s.toks) (fun b o hb e=>(sb.2 b hb).trans e) f0 f1 f3 f4 f5
  refine ⟨e.key,rfl,letGo_keyiter st' ⟨xs[i],H,I1,by rw [ev];exact rv,⟨rfl,hx⟩,st',fun b hb=>(hf b hb).1⟩⟩
 done:=by
  intro X hP hw hK hc i pins s σ H E I hf st hg
  subst hP hw hK
  obtain ⟨hi,u,hu⟩:=hg
  have hl:es.size<=i:=by
   have:=rel.length
   simp at this
   omega
  obtain ⟨f0,f1,f2,f3,f4,f5⟩:=hf it (by simp)
  exact qiB (I.ok.hd hc) st (I.frozen hu) hd hl fun h' eb=>⟨rfl,I.turned (t':=s.toks) (fun b o hb e=>eb b o hb e) f0 f1 f3 f4 f5⟩
 self:=fun _ _ _ _ _ st h=>wpAny_pyIter_keyiter st h
section
variable {X:Cx} {tg:Expr}
def qnq (K:PySem.W.Frag) (tl:TE):TI:=fun σ H R=>tl σ H fun x H1=>match x with
 | .ref a=>((∃ xs,SqL K H1 a xs)/\R (Itl K a) H1)\/(∃ o kvs,H1 a=some (.frz o (.dT kvs))/\∀ bs,qbe H1 kvs bs->R (Itk a o (bs.map V.ref)) H1) ∨
   ∃ o kvs,H1 a=some (.frz o (.dK kvs))/\R (Itk a o (kvs.map fun p=>kV p.1)) H1
 | _=>False
theorem qeT {H:Hp} {kvs:List (List Key×V)} {xs:List (List Key×Addr×Value)} (r:KT H kvs xs):qbe H kvs (xs.map (·.2.1)):=by
 induction r with
 | nil=>exact .nil
 | cons h _ ih=>exact .cons h.2.1 ih
theorem qcU {P:Program} {w:World} {kvs:List (Key×V)}:∀ {es:List DictEntry} {vs:List (Key×Value)},KV kvs vs->Pairs (qat P w) es vs->Vals (kvs.map fun p=>kV p.1) (es.map (·.key)):=by
 intro es vs r q
 unfold KV at r
 induction r generalizing es with
 | nil=>cases q;exact .nil
 | @cons p v ps vs' h t ih=>
  cases q with
  | cons h1 h2 h3=>
   refine .cons ?_ (ih h3)
   dsimp only
   rw [h.1]
   rcases qan h1 with ⟨i,t,e1,e2⟩ | ⟨x,t,e1,e2⟩
   ·rw [e1,e2];exact ⟨t,rfl⟩
   ·rw [e1,e2];exact ⟨t,rfl⟩
theorem qju {l:Expr} {tl:TE} (hl:PE X l tl):PI X tg l (qnq X.K tl):=by
 intro pins s σ H R I h
 refine thn (hl pins s σ H _ I h) fun v s1 ⟨x,H1,I1,r1,q1⟩=>?_
 dsimp only at q1
 split at q1
 ·rename_i a
  cases r1
  rcases q1 with ⟨⟨xs,hq⟩,q⟩ | ⟨o,kvs,hq,q⟩ | ⟨o,kvs,hq,q⟩
  ·obtain ⟨its,rv,p,hz⟩:=I1.list hq
   refine wpAny_pyIter_list p.isList ?_
   refine ⟨s1.heap.objs.size,[s1.heap.objs.size],_,_,H1,rfl,I1.kept (t':=s1.toks) fun b o e=>Heap.get?_push_of_some _ e,qc8 a _,⟨_,Heap.get?_push_size _ rfl,rfl,rfl⟩,fun b hb=>?_,q⟩
   have e:b=s1.heap.objs.size:=by simpa using hb
   subst e
   exact I1.fpOk (Nat.le_refl _) (I1.hok.fresh (Nat.le_refl _))
  ·have ho:=I1.frozen hq
   obtain ⟨_,z,hd,xs,r,o',es,ep,h1,h2,h3,h4,h5⟩:=I1.hok a _ hq
   rw [ho] at h1;cases h1
   have hT:s1.TypeIs (.ref a) "dict" := let ⟨_,_,_,_,dd⟩:=qdC I1.hok (.inr ⟨o,hq⟩);dd.typeIs
   have rel:Vals ((xs.map (·.2.1)).map V.ref) (es.toList.map (·.key)):=by
    rw [h4]
    clear h4 h5 r
    induction xs with
    | nil=>exact .nil
    | cons x xs ih=>exact .cons rfl ih
   refine qel hd hT ho h3 ?_
   refine ⟨s1.heap.objs.size,[s1.heap.objs.size],_,_,H1,rfl,I1.kept (t':=s1.toks) fun b o e=>Heap.get?_push_of_some _ e,qc9 h3 rel,⟨_,Heap.get?_push_size _ rfl,rfl,rfl⟩,fun b hb=>?_,q _ (qeT r)⟩
   have e:b=s1.heap.objs.size:=by simpa using hb
   subst e
   exact I1.fpOk (Nat.le_refl _) (I1.hok.fresh (Nat.le_refl _))
  ·have ho:=I1.frozen hq
   obtain ⟨_,z,hd,vs,r,o',es,ep,h1,h2,h3,h4,h5,h6⟩:=I1.hok a _ hq
   rw [ho] at h1;cases h1
   have hT:s1.TypeIs (.ref a) "dict" := let ⟨_,_,_,_,dd⟩:=qcY I1.hok (.inr ⟨o,hq⟩);dd.typeIs
   refine qel hd hT ho h3 ?_
   refine ⟨s1.heap.objs.size,[s1.heap.objs.size],_,_,H1,rfl,I1.kept (t':=s1.toks) fun b o e=>Heap.get?_push_of_some _ e,qc9 h3 (qcU r h5),⟨_,Heap.get?_push_size _ rfl,rfl,rfl⟩,fun b hb=>?_,q⟩
   have e:b=s1.heap.objs.size:=by simpa using hb
   subst e
   exact I1.fpOk (Nat.le_refl _) (I1.hok.fresh (Nat.le_refl _))
 ·exact q1.elim
end
end L2
end
section
namespace L2
open PySem PySem.Spec PyProof.Rows
section
variable {X:Cx} {pos:Pos}
def qk7:R2:=fun x y H Q=>∃ a v,x = .ref a/\DGet H a y (some v)/\Q v H
def qoh:R2:=fun y x H Q=>∃ a o,x = .ref a/\DGet H a y o/\Q (.bl o.isSome) H
def qjk:R2:=fun y x H Q=>∃ a o,x = .ref a/\DGet H a y o/\Q (.bl (!o.isSome)) H
def qk6:V->V->V->Hp->(Hp->Prop)->Prop:=fun o i v H Q=>∃ a H',o = .ref a/\DPut H a i v H'/\Q H'
theorem qjX (hu:X.A.units+64 < cLine):IxR X qk7:=by
 intro value slice pins s σ H x y v u Q I rx ry ⟨a,z,ex,g,q⟩ hs
 subst ex
 obtain rfl:v=Value.ref a:=rx
 have hT:=qeo I g
 unfold subscriptTail
 refine wpAny_bind ?_
 rw [getitemInPython_of_ne hT.not_modules]
 refine wpAny_bind (wpAny_specialOf hT PySem.F.slot_dict_getitem.lookup ?_)
 have fin:wpAny (model X.prog X.w) X.A (subscripted slice false (.ref a) u) (fun r s₃=>wpAny (model X.prog X.w) X.A (letTemporaryGo value (.ref a) r >>= fun _=>pure r) (EP X pins σ Q) X.xe s₃) X.xe s:=by
  rw [hs]
  exact wpAny_operating (qgY (by omega) I g ry fun w' s3 I3 rw'=>wpAny_bind (wpAny_letTemporaryGo (wpAny_pure ⟨z,H,I3,rw',q⟩)))
 first
  | exact wpAny_pure (wpAny_bind fin)
  | exact wpAny_bind (wpAny_pure (wpAny_bind fin))
  | exact wpAny_bind fin
theorem qgj (hu:X.A.units+64 < cLine):OpR X (compareOp .In) qoh:=by
 intro pins s σ H y x u v Q I ry rx ⟨a,o,ex,g,q⟩
 subst ex
 obtain rfl:v=Value.ref a:=rx
 exact qos (by omega) I g ry fun s3 I3=>⟨.bl o.isSome,H,I3,rfl,q⟩
theorem qaY (hu:X.A.units+64 < cLine):OpR X (compareOp .NotIn) qjk:=by
 intro pins s σ H y x u v Q I ry rx ⟨a,o,ex,g,q⟩
 subst ex
 obtain rfl:v=Value.ref a:=rx
 exact qkh (by omega) I g ry fun s3 I3=>⟨.bl (!o.isSome),H,I3,rfl,q⟩
theorem qhr (hu:X.A.units+64 < cLine):qmF X qk6:=by
 intro pins s σ H o i v ov iv u Q I ro ri rv ⟨a,H',eo,g,q⟩
 subst eo
 obtain rfl:ov=Value.ref a:=ro
 exact qgX (by omega) I g ri rv fun s4 I4=>⟨H',I4,q⟩
def qof:R2:=fun x y H Q=>qmz x y H Q\/qk7 x y H Q
def qm2:V->V->V->Hp->(Hp->Prop)->Prop:=fun o i v H Q=>qht o i v H Q\/qk6 o i v H Q
theorem qeU {a b:Expr} {ta tb:TE} (hu:X.A.units+64 < cLine) (ha:PE X a ta) (hb:PE X b tb) (hs:∀ o i,subscripted b false o i=operate [o,i] (getItem o i):=by intro _ _;kernel_rfl):PE X (.Subscript a b pos) (tOp qof ta tb):=
 qjy (ixU.or (qjX hu)) ha hb hs
theorem qdx {o i:Expr} {to ti:TE} (hu:X.A.units+64 < cLine) (ho:PE X o to) (hi:PE X i ti) (ha:∀ v,assign (.Subscript o i pos) X.env v=(do
   let ov <-holding [v] (eval o X.env)
   let iv <-holding [v,ov] (eval i X.env)
   standAt pos
   holding [v,ov,iv] (setItem ov iv v)
   release [v,ov,iv] []):=by intro _;kernel_rfl):PG X (.Subscript o i pos) (qnt to ti qm2):=
 qir ho hi (fun pins s σ H o i v ov iv u Q I ro ri rv q=>by
  rcases q with q | q
  ·exact qnO pins s σ H o i v ov iv u Q I ro ri rv q
  ·exact qhr hu pins s σ H o i v ov iv u Q I ro ri rv q) ha
end
section
variable {prog:Program} {w:World} {A:Around} {E:Value->Shared->Prop} {s:Shared}
theorem qcn {d:Addr} {o:Obj} {es:Array DictEntry} {ep:Nat} {Q:Bool->Shared->Prop} (hd:(d == sysModules)=false) (hT:s.TypeIs (.ref d) "dict") (ho:s.heap.get? d=some o) (hdat:o.data = .dict es ep) (hfit:(es.size:Int) < 2 ^ 63)
  (h:Q (decide (es.size≠0)) { s with toks:=s.toks+1+1 }):wpAny (model prog w) A (truthy (.ref d)) Q E s:=by
 have hne:((es.size:Int) != 0)=decide (es.size≠0):=by
  by_cases z:es.size=0
  ·simp [z]
  ·simp [z]
 have len1:MeetsIn prog w (Builtin.«dict.__len__» ⟨[.ref d],[]⟩) (fun _ R s=>s.heap.get? d=some o/\R (.ok (.ret (.int es.size s.toks))) { s with toks:=s.toks+1 }):=
  .of_wp fun A R s ⟨ho,h⟩=>by
   show wpAny _ _ (dictSize d >>= _) _ _ s
   unfold dictSize
   refine wpAny_bind (wpAny_bind (wpAny_dictEntries ho hdat (wpAny_pure ?_)))
   show wpAny _ _ (Builtin.Dict.pendingCount d >>= _) _ _ s
   refine wpAny_bind (wpAny_pendingCount_other hd ?_)
   refine wpAny_ret_mkInt ?_
   rw [Nat.add_zero];exact h
 have key:wpAny (model prog w) A (runValue (.builtin "len" ⟨[.ref d],[]⟩)) (fun r s'=>r = .int es.size (s.toks+1)/\Q (decide (es.size≠0)) s') E s:=by
  refine wpAny_runValue (codeAny_builtin entry_len ?_)
  rw [Around.under_plainId plain_len _]
  unfold Builtin.«len»
  refine wpAny_bind (m:=oneArg "len" _) (wpAny_pure ?_)
  refine wpAny_bind (m:=callSpecial? (.ref d) (Str.ofString "__len__")) (wpAny_callSpecial?_slot (name:=Str.ofString "__len__") hT F.slot_dict_len
   (call_meetsIn F.slot_dict_len hT F.entry_dict_len (F.args_dict_len_1 _) len1 ⟨ho,?_⟩))
  show wpAny _ _ _ _ _ { s with toks:=s.toks+1 }
  refine wpAny_bind (wpAny_holding (wpAny_pure ?_))
  refine wpAny_bind (wpAny_letGo ?_)
  show wpAny _ _ (if ((es.size:Nat):Int) < 0 then _ else _) _ _ _
  rw [if_neg (by omega)]
  show wpAny _ _ (if ((es.size:Nat):Int) ≥ 2 ^ 63 then _ else _) _ _ _
  rw [if_neg (by omega)]
  exact wpAny_bind (wpAny_mkInt (wpAny_pure ⟨rfl,h⟩))
 unfold truthy
 first
  | refine wpAny_bind (wpAny_callSpecial?_none (name:=Str.ofString "__bool__") hT noBool_dict ?_)
  | refine wpAny_bind (wpAny_pure (wpAny_bind (wpAny_callSpecial?_none (name:=Str.ofString "__bool__") hT noBool_dict ?_)))
 first
  | refine wpAny_bind (wpAny_specialOf (name:=Str.ofString "__len__") hT F.slot_dict_len.lookup ?_)
  | refine wpAny_bind (wpAny_pure (wpAny_bind (wpAny_specialOf (name:=Str.ofString "__len__") hT F.slot_dict_len.lookup ?_)))
 first
  | exact wpAny_bind (wpAny_mono key (fun r s' h'=>by obtain ⟨rfl,hq⟩:=h';exact wpAny_pure (hne ▸ hq)) fun _ _ e=>e)
  | exact wpAny_bind (wpAny_pure (wpAny_bind (wpAny_mono key (fun r s' h'=>by obtain ⟨rfl,hq⟩:=h';exact wpAny_pure (hne ▸ hq)) fun _ _ e=>e)))
end
section
variable {X:Cx} {pins:List (Addr×Obj)} {σ:St} {H:Hp} {s:Shared} {a:Addr} {A:Around} {E:Value->Shared->Prop}
theorem qid {kvs:List (List Key×V)} {Q:Bool->Shared->Prop} (I:Inv X pins σ H s) (e:Rd H a (.dT kvs)) (h:∀ s',Inv X pins σ H s'->Q (!kvs.isEmpty) s'):wpAny (model X.prog X.w) A (truthy (.ref a)) Q E s:=by
 obtain ⟨z,hd,xs,rel,dd⟩:=qdC I.hok e
 have hT:s.TypeIs (.ref a) "dict" := dd.typeIs
 obtain ⟨o,es,ep,h1,h2,h3,h4,_⟩:=dd
 have hl:es.size=kvs.length:=by
  have:=congrArg List.length h4
  simp at this
  rw [this,Paired.length rel]
 refine qcn hd hT h1 h3 (by rw [hl];rw [sizeLine_eq] at z;omega) ?_
 have q:decide (es.size≠0)=!kvs.isEmpty:=by rw [hl];cases kvs<;>simp
 rw [q]
 exact h _ ((I.tok _).tok _)
end
section
variable {X:Cx} {pos:Pos}
def qje (_K:PySem.W.Frag) (x:V) (H:Hp) (Q:Bool->Hp->Prop):Prop:=match x with
 | .bl c=>Q c H
 | .ref p=>(∃ xs,H p=some (.lst xs)/\Q (!xs.isEmpty) H)\/(∃ kvs,Rd H p (.dK kvs)/\Q (!kvs.isEmpty) H)\/∃ kvs,Rd H p (.dT kvs)/\Q (!kvs.isEmpty) H
 | _=>False
def qmK (K:PySem.W.Frag) (t:TE):TT:=fun σ H Q=>t σ H fun x H1=>qje K x H1 Q
theorem qn3 {pins:List (Addr×Obj)} {s:Shared} {σ:St} {H:Hp} {x:V} {v:Value} {Q:Bool->Hp->Prop} (I:Inv X pins σ H s) (rx:RelV x v) (q:qje X.K x H Q) :
  wpAny (model X.prog X.w) X.A (truthy v) (fun b s'=>∃ H',Inv X pins σ H' s'/\Q b H') X.xe s:=by
 unfold qje at q
 split at q
 ·exact qfA pins s σ H _ v Q I rx ⟨_,rfl,q⟩
 ·rcases q with ⟨xs,h1,q⟩ | ⟨kvs,h1,q⟩ | ⟨kvs,h1,q⟩
  ·exact qfA pins s σ H _ v Q I rx ⟨_,.inl ⟨xs,SqL.of h1,rfl⟩,q⟩
  ·obtain rfl:=(show v=Value.ref _ from rx)
   exact qkg I h1 fun s' I'=>⟨H,I',q⟩
  ·obtain rfl:=(show v=Value.ref _ from rx)
   exact qid I h1 fun s' I'=>⟨H,I',q⟩
 ·exact q.elim
theorem qkH {e:Expr} {t:TE} (h:PE X e t) (he:∀ qc3,isTrue e X.env qc3=(do let v <-qc3;standAt e.pos;holding [v] (truthy v)):=by intro _;kernel_rfl):PT X e (qmK X.K t):=by
 intro pins s σ H Q I hw
 exact isTrue_plain (thn (h pins s σ H _ I hw) fun v s1 ⟨x,H1,I1,r1,q1⟩=>qn3 I1 r1 q1) (he _)
end
section
variable {X:Cx} {o e:Expr} {es:List Expr} {to:TE} {t:TA} {apos:Pos}
end
end L2
end
section
namespace L2
open PySem PySem.Spec PyProof.Rows
section
variable {X:Cx} {p pos:Pos} {a b e:Expr} {es:List Expr} {t:TA}
end
end L2
namespace Om
end Om
end
section
namespace Om
abbrev Stp:=(Nat×Nat)×(Nat×Nat)
abbrev R2n:=Nat->Nat->Prop
def St (rows:Rows) (x y:Nat) (s:Stp):Prop:=
 s.1.1 < (rows.getD x []).length/\s.1.2 < (rows.getD y []).length/\(step rows x s.1.1).1=(step rows y s.1.2).1/\s.2=((step rows x s.1.1).2,(step rows y s.1.2).2)
def AllR (rows:Rows):R2n:=fun x y=>x < rows.length/\y < rows.length
inductive Pth (rows:Rows):Nat->List Nat->List Bool->Nat->Prop
 | nil {s:Nat}:s < rows.length->Pth rows 0 [] [] s
 | snoc {m:Nat} {t:List Nat} {w:List Bool} {p i:Nat}:Pth rows m t w p->i < (rows.getD p []).length->Pth rows (m+1) (t++[i]) (w++(step rows p i).1) (step rows p i).2
section
variable {k n:Nat} {rows:Rows}
theorem CodeOk.stp (ok:CodeOk k n rows) {p i:Nat} (hi:i < (rows.getD p []).length):p < rows.length/\(step rows p i).1.length=n/\(step rows p i).2 < rows.length:=by
 by_cases hp:p < rows.length
 ·have e:rows.getD p []=rows[p]:=by simp [List.getD_eq_getElem?_getD,hp]
  rw [e] at hi
  have e2:step rows p i=rows[p][i]:=by unfold step;rw [e];simp [List.getD_eq_getElem?_getD,hi]
  rw [e2]
  have:=ok.row _ (List.getElem_mem hp) _ (List.getElem_mem hi)
  exact ⟨hp,this.1,this.2⟩
 ·have:rows.getD p []=[]:=by simp [List.getD_eq_getElem?_getD,List.getElem?_eq_none (Nat.le_of_not_lt hp)]
  rw [this] at hi
  simp at hi
def qnJ (rows:Rows) (b m:Nat) (x y:Nat):Prop:=∃ t t' w,Pth rows m t w x/\Pth rows m t' w y/\t.getD b 0≠t'.getD b 0
end
end Om
end
section
namespace L2
open PySem PySem.Spec PyProof.Rows
def kk (p:Nat×Nat):List Key:=[.inl ((p.1:Nat):Int),.inl ((p.2:Nat):Int)]
theorem qiA {p q:Nat×Nat} (h:kk p=kk q):p=q:=by
 obtain ⟨a,b⟩:=p
 obtain ⟨c,d⟩:=q
 unfold kk at h
 simp at h
 obtain ⟨h1,h2⟩:=h
 have:a=c:=by omega
 have:b=d:=by omega
 subst_vars;rfl
structure KD (ks:List (Nat×Nat)) (kvs:List (List Key×V)):Prop where
 keys:kvs.map (·.1)=ks.map kk
 nd:ks.Nodup
 lt:∀ p∈ks,p.1 < 8/\p.2 < 8
section
variable {ks:List (Nat×Nat)} {kvs:List (List Key×V)} {p:Nat×Nat} {v:V}
theorem KD.nil:KD [] []:=⟨rfl,List.nodup_nil,by simp⟩
def all64:List (Nat×Nat):=(List.range 8).flatMap fun x=>(List.range 8).map fun y=>(x,y)
theorem KD.le (h:KD ks kvs):ks.length<=64:=by
 have:ks ⊆ all64:=fun p hp=>by
  obtain ⟨h1,h2⟩:=h.lt p hp
  unfold all64
  rw [List.mem_flatMap]
  exact ⟨p.1,List.mem_range.mpr h1,List.mem_map.mpr ⟨p.2,List.mem_range.mpr h2,rfl⟩⟩
 have:=List.Nodup.length_le_of_subset h.nd this
 have e:all64.length=64:=by decide +kernel
 omega
theorem KD.len (h:KD ks kvs):kvs.length=ks.length:=by
 have:=congrArg List.length h.keys
 simpa using this
theorem KD.lt_line (h:KD ks kvs):kvs.length < sizeLine:=by
 rw [h.len,sizeLine_eq];have:=h.le;omega
theorem qaV:∀ {kvs:List (List Key×V)} {k:List Key},(qaM kvs k).isSome=true↔k∈kvs.map (·.1)
 | [],k=>by simp [qhi]
 | q :: r,k=>by
  by_cases e:q.1=k
  ·rw [qar e];simp [e]
  ·rw [qau e,qaV]
   simp only [List.map_cons,List.mem_cons]
   constructor
   ·exact fun h=>.inr h
   ·rintro (h | h)
    ·exact absurd h.symm e
    ·exact h
theorem KD.mem (h:KD ks kvs):(qaM kvs (kk p)).isSome=true↔p∈ks:=by
 rw [qaV,h.keys,List.mem_map]
 constructor
 ·rintro ⟨q,hq,e⟩;rw [<-qiA e];exact hq
 ·exact fun h=>⟨p,h,rfl⟩
theorem KD.none (h:KD ks kvs) (n:p ∉ ks):qaM kvs (kk p)=none:=by
 cases e:qaM kvs (kk p) with
 | none=>rfl
 | some v=>exact absurd (h.mem.mp (by rw [e];rfl)) n
theorem KD.put (h:KD ks kvs) (n:p ∉ ks) (l1:p.1 < 8) (l2:p.2 < 8):KD (ks++[p]) (qba kvs (kk p) v):=by
 rw [qeJ v (h.none n)]
 refine ⟨by simp [h.keys],?_,fun q hq=>?_⟩
 ·rw [List.nodup_append]
  refine ⟨h.nd,by simp,fun a ha b hb=>?_⟩
  have:b=p:=by simpa using hb
  subst this
  exact fun e=>n (e ▸ ha)
 ·rcases mA_ hq with hq | hq
  ·exact h.lt q hq
  ·have:q=p:=by simpa using hq
   subst this;exact ⟨l1,l2⟩
theorem KD.at (h:KD ks kvs) {i:Nat} (hi:i < ks.length):∃ v,kvs[i]? = some (kk ks[i],v):=by
 have hi':i < kvs.length:=by rw [h.len];exact hi
 have e:=congrArg (fun l=>l[i]?) h.keys
 simp only [gM_,gE_ hi,gE_ hi',Option.map_some] at e
 exact ⟨kvs[i].2,by rw [gE_ hi',<-oI_ e]⟩
theorem Paired.getP {α β:Type} {F:α->β->Prop}:∀ {l₁:List α} {l₂:List β},Paired F l₁ l₂->∀ {i:Nat} {a:α},l₁[i]? = some a->∃ b,l₂[i]? = some b/\F a b
 | _,_,.nil,_,_,e=>by simp at e
 | _,_,.cons r _,0,_,e=>by simp at e;subst e;exact ⟨_,rfl,r⟩
 | _,_,.cons _ t,i+1,_,e=>by
  obtain ⟨b,h1,h2⟩:=Paired.getP t (i:=i) (by simpa using e)
  exact ⟨b,by simpa using h1,h2⟩
theorem KD.key {H:Hp} {bs:List Addr} (h:KD ks kvs) (hb:qbe H kvs bs) {i:Nat} {x:V} (hi:i < ks.length) (hx:(bs.map V.ref)[i]? = some x):∃ b,x = .ref b/\H b=some (.tup ((kk ks[i]).map kV)):=by
 obtain ⟨v,hv⟩:=h.at hi
 obtain ⟨b,h1,h2⟩:=Paired.getP hb hv
 rw [gM_,h1] at hx
 exact ⟨b,(oI_ hx).symm,h2⟩
theorem KD.blen {H:Hp} {bs:List Addr} (h:KD ks kvs) (hb:qbe H kvs bs):(bs.map V.ref).length=ks.length:=by
 rw [lM_,<-Paired.length hb,h.len]
end
def LyV (H:Hp) (v:V) (R:Om.R2n):Prop:=∃ a o kvs ks,v = .ref a/\H a=some (.frz o (.dT kvs))/\KD ks kvs/\∀ x y,(x,y)∈ks↔R x y
def sD (s:Om.Stp):PyData:=.tuple [qaX s.1,qaX s.2]
def StL (H:Hp) (l:Addr) (ss:List Om.Stp):Prop:=DV H (.ref l) (.list (ss.map sD))
theorem StL.mono {H H':Hp} {l:Addr} {ss:List Om.Stp} (h:StL H l ss) (s:Same H H'):StL H' l ss:=(show DV H (.ref l) (.list (ss.map sD)) from h).mono s
theorem LyV.mono {H H':Hp} {v:V} {R:Om.R2n} (h:LyV H v R) (s:Same H H'):LyV H' v R:=by
 obtain ⟨a,o,kvs,ks,e,h1,h2⟩:=h
 exact ⟨a,o,kvs,ks,e,s _ _ h1,h2⟩
theorem qio {H:Hp} {v:V} {s:Om.Stp} (h:DV H v (sD s)):∃ p a b,v = .ref p/\H p=some (.tup [.ref a,.ref b])/\H a=some (.tup [.int (s.1.1:Nat),.int (s.1.2:Nat)])/\H b=some (.tup [.int (s.2.1:Nat),.int (s.2.2:Nat)]):=by
 obtain ⟨p,xs,rfl,hp,hd⟩:=h.tup_inv
 cases hd with
 | cons h1 hd=>
  cases hd with
  | cons h2 hd=>
   cases hd
   obtain ⟨a,rfl,ha⟩:=qbQ h1
   obtain ⟨b,rfl,hb⟩:=qbQ h2
   exact ⟨p,a,b,rfl,hp,ha,hb⟩
structure Gd (G H0 H:Hp) (D:Addr) (kvs:List (List Key×V)):Prop where
 s:Same G H
 s0:Same H0 G
 gD:G D=none
 hD:H D=some (.dT kvs)
section
variable {G H0 H:Hp} {D p:Addr} {kvs:List (List Key×V)} {o:HO}
theorem Gd.start (h:H0 D=none):Gd H0 H0 (upd H0 D (.dT [])) D []:=⟨Same.upd h,Same.refl _,h,qaa⟩
theorem Gd.all (g:Gd G H0 H D kvs):Same H0 H:=g.s0.trans g.s
theorem Gd.put (g:Gd G H0 H D kvs) (h:H p=none):Gd (upd G p o) H0 (upd H p o) D kvs:=by
 have pD:D≠p:=qac g.hD h
 refine ⟨fun x u e=>?_,g.s0.trans (Same.upd (g.s.free h)),by rw [qab pD];exact g.gD,by rw [qab pD];exact g.hD⟩
 by_cases hx:x=p
 ·subst hx;rw [qaa] at e ⊢;exact e
 ·rw [qab hx] at e ⊢;exact g.s _ _ e
theorem Gd.up (g:Gd G H0 H D kvs) (h:H p=none):Same G (upd G p o):=Same.upd (g.s.free h)
theorem Gd.set {kvs':List (List Key×V)} (g:Gd G H0 H D kvs):Gd G H0 (upd H D (.dT kvs')) D kvs':=by
 refine ⟨fun x u e=>?_,g.s0,g.gD,qaa⟩
 have:x≠D:=qac e g.gD
 rw [qab this];exact g.s _ _ e
theorem Gd.frz {ob:Obj} (g:Gd G H0 H D kvs):Same G (upd H D (.frz ob (.dT kvs))):=fun x u e=>by
 have:x≠D:=qac e g.gD
 rw [qab this];exact g.s _ _ e
theorem Gd.free (g:Gd G H0 H D kvs):H0 D=none:=g.s0.free g.gD
theorem Gd.call {H':Hp} (g:Gd G H0 H D kvs) (s:Same H H'):∃ G',Gd G' H0 H' D kvs/\Same G G'/\∀ x,x≠D->G' x=H' x:=by
 refine ⟨fun x=>if x=D then none else H' x,⟨fun x u e=>?_,fun x u e=>?_,if_pos rfl,s _ _ g.hD⟩,fun x u e=>?_,fun x hx=>if_neg hx⟩
 ·by_cases hx:x=D
  ·rw [if_pos hx] at e;cases e
  ·rw [if_neg hx] at e;exact e
 ·have hx:x≠D:=qac (g.s0 _ _ e) g.gD
  show (if x=D then none else H' x)=some u
  rw [if_neg hx];exact s _ _ (g.all _ _ e)
 ·have hx:x≠D:=qac e g.gD
  show (if x=D then none else H' x)=some u
  rw [if_neg hx];exact s _ _ (g.s _ _ e)
end
end L2
end
section
namespace L2
open PySem PySem.Spec PyProof.Rows
section
variable {X:Cx} {a:Expr} {p pos:Pos} {ta:TA}
def qn6 (ta:TA):TE:=fun σ H Q=>ta σ H fun vs H1=>match vs with
 | [.int j]=>0<=j/\j < 2 ^ 24/\∀ q,H1 q=none->Q (.ref q) (upd H1 q (.rng 0 j))
 | _=>False
def qf5:List V->Hp->VK->Prop:=fun vs H Q=>match vs with
 | [.ref p]=>(∃ j:Nat,H p=some (.rng 0 j)/\j<=2 ^ 24/\∀ l,H l=none->Q (.ref l) (upd H l (.lst ((List.range j).map fun i=>V.int (i:Nat)))))\/qb6 vs H Q
 | _=>False
theorem qfy:∀ {xs:List V} {us:List Value},xs.length=us.length->(∀ (i:Nat) (x:V) (u:Value),xs[i]? = some x->us[i]? = some u->RelV x u)->Vals xs us
 | [],[],_,_=>.nil
 | [],_ :: _,h,_=>by simp at h
 | _ :: _,[],h,_=>by simp at h
 | x :: xs,u :: us,h,r=>.cons (r 0 x u rfl rfl) (qfy (by simpa using h) fun i y v h1 h2=>r (i+1) y v (by simpa using h1) (by simpa using h2))
theorem qfk {acc:Array Value} {n:Nat} (h:ItemsOf (fun i v=>∃ t,v = .int (0+(i:Nat) * 1) t) acc n):Vals ((List.range n).map fun i=>V.int (i:Nat)) acc.toList:=by
 refine qfy (by simp [h.1]) fun i x u hx hu=>?_
 have hu':acc[i]? = some u:=by simpa using hu
 obtain ⟨t,rfl⟩:=h.2 i u hu'
 rw [gM_] at hx
 obtain ⟨j,h1,rfl⟩:=Option.map_eq_some_iff.mp hx
 have hj:j=i:=by
  have hlt:i < n:=by
   have:=gS_ h1
   obtain ⟨hl,_⟩:=this
   simpa using hl
  rw [List.getElem?_range hlt] at h1
  exact (oI_ h1).symm
 subst hj
 exact ⟨t,by simp⟩
theorem qfp (hc:X.calm=true):CallR X (.type "list") qf5:=by
 intro pins s σ H xs us Q I r h
 unfold qf5 at h
 split at h
 ·rcases h with ⟨j,hp,hj,q⟩ | h
  ·obtain ⟨u,rfl,rx⟩:=qaP r
   cases rx
   obtain ⟨t,u,v,e⟩:=I.hok _ _ hp
   refine call_list_range (I.ok.hd hc) e (small_one (by omega) (by omega) (by omega) (by omega)) (n:=j) (by rw [rangeSize_one];split<;>omega) hj fun h' tk acc' c' kp e' it=>?_
   have hv:=qfk it
   have hl:((List.range j).map fun i=>V.int (i:Nat)).length<=sizeLine:=by rw [lM_,List.length_range,sizeLine_eq];omega
   exact ⟨.ref s.heap.objs.size,_,I.laid (t':=tk) kp (Nat.le_refl _) (show ObjOk X.prog X.w _ h' _ (.lst _) from ⟨hl,acc'.toList,c',hv,by simpa using e'⟩),rfl,q _ (I.hok.fresh (Nat.le_refl _))⟩
  ·exact qcy pins s σ H _ us Q I r h
 ·exact h.elim
end
end L2
end
section
namespace L2
open PySem PySem.Spec PyProof.Rows
structure Lt (H H':Hp):Prop where
 l:∀ a xs,H a=some (.lst xs)->H' a=some (.lst xs)
 t:∀ a xs,H a=some (.tup xs)->H' a=some (.tup xs)
 d:∀ a,H a=some (.dK [])->H' a=some (.dK [])
mutual
theorem DV.lt {H H':Hp} (k:Lt H H'):∀ {v:V} {d:PyData},DV H v d->DV H' v d
 | _,_,.non=>.non
 | _,_,.bl b=>.bl b
 | _,_,.int i=>.int i
 | _,_,.str x=>.str x
 | _,_,.lst h r=>.lst (k.l _ _ h) (DVs.lt k r)
 | _,_,.tup h r=>.tup (k.t _ _ h) (DVs.lt k r)
 | _,_,.dic h=>.dic (k.d _ h)
theorem DVs.lt {H H':Hp} (k:Lt H H'):∀ {vs:List V} {ds:List PyData},DVs H vs ds->DVs H' vs ds
 | _,_,.nil=>.nil
 | _,_,.cons h r=>.cons (DV.lt k h) (DVs.lt k r)
end
theorem Lt.but {H G:Hp} {D:Addr} {kvs:List (List Key×V)} (hD:H D=some (.dT kvs)) (h:∀ x,x≠D->G x=H x):Lt H G:=
 ⟨fun a xs e=>by rw [h a (qax e hD (fun z=>nomatch z))];exact e,fun a xs e=>by rw [h a (qax e hD (fun z=>nomatch z))];exact e,fun a e=>by rw [h a (qax e hD (fun z=>nomatch z))];exact e⟩
end L2
end
section
namespace Om
abbrev Rw:=List Nat×List Bool×Nat
def ext (rows:Rows) (r:Rw):List Rw:=(List.range (rows.getD r.2.2 []).length).map fun l=>(r.1++[l],r.2.1++(step rows r.2.2 l).1,(step rows r.2.2 l).2)
section
variable {k n:Nat} {rows:Rows}
end
end Om
namespace L2
open PySem PySem.Spec PyProof.Rows
end L2
end
section
namespace L2
open PySem PySem.Spec PyProof.Rows
section
variable {prog:Program} {w:World} {A:Around} {E:Value->Shared->Prop} {s:Shared}
theorem qfw (hh:A.handled=none) (I d:Addr) (hne:d≠I) {od:Obj} {es:Array DictEntry} {ep:Nat} (hdat:od.data = .dict es ep) :
  Walks prog w A I [I,d] [I] es.size (fun i v=>∃ e,es[i]? = some e/\v=e.key) (fun i h=>h.IsKeyIter I d i es.size ep/\h.get? d=some od) where
 sub:=fun b hb=>by simp at hb;simp [hb]
 frame:=fun _ _ _ st hk=>⟨st.1.at fun o e=>hk I (by simp) o e,hk d (by simp) _ st.2⟩
 item:=fun i s Q E hi st hQ=>by
  have he:es[i]? = some es[i]:=by simp [hi]
  refine qgC st.1 st.2 hdat he fun h' hit' hs'=>?_
  exact hQ _ h' s.toks ⟨_,he,rfl⟩ ⟨hit',hs'.extBut d _ hne st.2⟩ fun b o hb e=>hs'.extBut b o (fun h=>hb (by simp [h])) e
 done:=fun s Q E st hQ=>qiB hh st.1 st.2 hdat (Nat.le_refl _) fun h' he'=>hQ h' s.toks fun b o hb e=>he' b o (fun h=>hb (by simp [h])) e
 self:=fun _ _ _ _ st hQ=>wpAny_pyIter_keyiter st.1 hQ
theorem qgI {d:Addr} {Q:Bool->Shared->Prop} (hT:s.TypeIs (.ref d) "dict") (h:Q false s):wpAny (model prog w) A (Builtin.List.listLengthHint (.ref d)) Q E s:=by
 unfold Builtin.List.listLengthHint
 refine wpAny_bind (wpAny_specialOf hT F.slot_dict_len.lookup ?_)
 generalize hid:("dict.__len__" : String)=id0
 wp_delta
 rw [show splitId id0=some ("dict","__len__") from by subst hid;decide +kernel]
 subst hid
 refine wpAny_bind (wpAny_isInstance (T:= "dict") (b:=true) hT (by rw [isSubtype_type];kernel_rfl) ?_)
 refine wpAny_ite_split (fun hab=>absurd hab (by decide)) (fun _=>?_)
 refine wpAny_ite_split (fun _=>?_) (fun hab=>absurd (by decide +kernel) hab)
 refine wpAny_bind (wpAny_typeOf (T:= "dict") hT ?_)
 exact wpAny_pure h
theorem qcj {R:Result->Shared->Prop} {d:Addr} {od:Obj} {es:Array DictEntry} {ep:Nat} (hh:A.handled=none) (hd:(d == sysModules)=false) (hT:s.TypeIs (.ref d) "dict") (ho:s.heap.get? d=some od) (hdat:od.data = .dict es ep) (hlen:es.size<=sizeLine) (S:Addr) (res:Value) (c₀:Nat) (hS:s.heap.get? S=some { cls:=.type "list",data:=.seq #[] c₀ })
  (hR:∀ h' tk acc' c',(∀ b o,b≠S->s.heap.get? b=some o->h'.get? b=some o)->h'.get? S=some { cls:=.type "list",dict:=none,data:=.seq acc' c',slots:=#[] } →
   ItemsOf (fun i v=>∃ e,es[i]? = some e/\v=e.key) acc' es.size->R (.ok (.ret res)) { s with heap:=h',toks:=tk }) :
  wpAny (model prog w) A.in1 (Builtin.List.listExtendWith (.ref S) (.ref d) res)
   (fun fin s'=>match fin with | .done f=>R (.ok f) s' | .again c'=>c'.quiet=true/\codeAny (model prog w) A c' R s') (fun e s'=>R (.error e) s') s:=by
 have hSr:S≠d:=fun e=>by rw [e,ho] at hS;cases hS;cases hdat
 have hSlt:S < s.heap.objs.size:=Heap.lt_size hS
 have hSI:S≠s.heap.objs.size:=Nat.ne_of_lt hSlt
 have hdI:d≠s.heap.objs.size:=Nat.ne_of_lt (Heap.lt_size ho)
 have hSf:S ∉ [s.heap.objs.size,d]:=fun hm=>by simp at hm;rcases hm with h | h;exact hSI h;exact hSr h
 have W:=(qfw (prog:=prog) (w:=w) (A:=A.in1) hh s.heap.objs.size d hdI hdat).toS
 unfold Builtin.List.listExtendWith
 refine wpAny_bind (wpAny_typeOf (T:= "dict") hT ?_)
 have h1:Builtin.List.listSameRef (.ref S) (.ref d)=false:=by simp [Builtin.List.listSameRef,hSr]
 have h2:(Value.type "dict" == Value.type "list")=false:=by decide
 have h3:(Value.type "dict" == Value.type "tuple")=false:=by decide
 simp only [h1,h2,h3,Bool.or_false,Bool.false_eq_true,if_false]
 refine wpAny_bind (qel hd hT ho hdat ?_)
 have hT1:(⟨s.heap.push { cls:=.type "dict_keyiterator",data:=.fields #[.ref d,.int 0 0,.int es.size 0,.int ep 0] },s.gens,s.drawn,s.toks,s.os⟩ : Shared).TypeIs (.ref d) "dict" := by
  obtain ⟨o,e1,e2⟩:=hT
  exact ⟨o,Heap.get?_push_of_some _ e1,e2⟩
 refine wpAny_bind (wpAny_holding (qgI hT1 ?_))
 have hit₁:(s.heap.push { cls:=.type "dict_keyiterator",data:=.fields #[.ref d,.int 0 0,.int es.size 0,.int ep 0] }).IsKeyIter s.heap.objs.size d 0 es.size ep:=⟨_,Heap.get?_push_size _ rfl,rfl,rfl⟩
 have hS₁:=Heap.get?_push_of_some { cls:=.type "dict_keyiterator",data:=.fields #[.ref d,.int 0 0,.int es.size 0,.int ep 0] } hS
 have hd₁:=Heap.get?_push_of_some { cls:=.type "dict_keyiterator",data:=.fields #[.ref d,.int 0 0,.int es.size 0,.int ep 0] } ho
 have key:∀ (h:Heap) (c₁ tk:Nat),h.IsKeyIter s.heap.objs.size d 0 es.size ep->h.get? d=some od->(∀ b o,b≠S->s.heap.get? b=some o->h.get? b=some o) →
   h.get? S=some { cls:=.type "list",data:=.seq #[] c₁ }->codeAny (model prog w) A (.builtin "list.extend.loop" ⟨[.ref S,.ref s.heap.objs.size,res],[]⟩) R { s with heap:=h,toks:=tk }:=by
  intro h c₁ tk hit hdd hk hS₁
  refine codeAny_extend_loopS W hlen S hSf res es.size 0 _ #[] c₁ rfl (Nat.zero_le _) ⟨hit,hdd⟩ hS₁ (ItemsOf.nil _) fun s' acc' c' hm hS' hacc=>?_
  rw [Moved.eq_with hm]
  refine hR s'.heap s'.toks acc' c' (fun b o hb e=>hm.heap b o (fun hmem=>?_) (hk b o hb e)) hS' hacc
  rcases List.mem_cons.mp hmem with e' | hmem
  ·exact hb e'
  ·exact absurd (Heap.lt_size e) (by rw [mS_ hmem];exact Nat.lt_irrefl _)
 refine wpAny_ite_split (fun _=>?_) (fun _=>wpAny_pure ⟨plainId_quiet F.plain_extend_loop _,key _ c₀ _ hit₁ hd₁ (fun b o _ e=>Heap.get?_push_of_some _ e) hS₁⟩)
 refine wpAny_bind (wpAny_rule ?_)
 refine wpAny_bind ?_
 show wpAny _ _ (updateSeq S (·.push .none) >>= fun _=>updateSeq S (·.pop)) _ _ _
 refine wpAny_bind (wpAny_updateSeq hS₁ rfl ?_)
 have hS₂:=Heap.get?_update_self (Obj.mapSeq (·.push Value.none)) hS₁ rfl
 refine wpAny_updateSeq (hz:=by seq_fits) hS₂ rfl ?_
 have hS₃:=Heap.get?_update_self (Obj.mapSeq (·.pop)) hS₂ rfl
 refine wpAny_pure ⟨plainId_quiet F.plain_extend_loop _,key _ _ _ ?_ ?_ (fun b o hb e=>?_) hS₃⟩
 ·exact hit₁.at fun o e=>(Heap.get?_update_other _ _ hSI).trans ((Heap.get?_update_other _ _ hSI).trans e)
 ·exact (Heap.get?_update_other _ _ hSr).trans ((Heap.get?_update_other _ _ hSr).trans hd₁)
 ·exact (Heap.get?_update_other _ _ (Ne.symm hb)).trans ((Heap.get?_update_other _ _ (Ne.symm hb)).trans (Heap.get?_push_of_some _ e))
theorem qbd {Q:Value->Shared->Prop} {d:Addr} {od:Obj} {es:Array DictEntry} {ep:Nat} (hh:A.handled=none) (hd:(d == sysModules)=false) (hT:s.TypeIs (.ref d) "dict") (ho:s.heap.get? d=some od) (hdat:od.data = .dict es ep) (hlen:es.size<=sizeLine)
  (hQ:∀ h' tk acc' c',(∀ b o,s.heap.get? b=some o->h'.get? b=some o) →
   h'.get? s.heap.objs.size=some { cls:=.type "list",dict:=none,data:=.seq acc' c',slots:=#[] }->ItemsOf (fun i v=>∃ e,es[i]? = some e/\v=e.key) acc' es.size->Q (.ref s.heap.objs.size) { s with heap:=h',toks:=tk }) :
  wpAny (model prog w) A (call (.type "list") [.ref d]) Q E s:=by
 refine callType_codes (Q₁:=fun obj s₁=>obj = .ref s.heap.objs.size/\s₁={ s with heap:=s.heap.push { cls:=.type "list",data:=.seq #[] } }) F.called_list (F.typeCall_list_1 _) F.entry_list_init
  (code_list_new _ ⟨rfl,rfl⟩) fun obj s₁ h₁=>?_
 obtain ⟨rfl,rfl⟩:=h₁
 have hS:(s.heap.push { cls:=.type "list",data:=.seq #[] }).get? s.heap.objs.size=some { cls:=.type "list",data:=.seq #[] }:=Heap.get?_push_size _ rfl
 have hSr:s.heap.objs.size≠d:=Nat.ne_of_gt (Heap.lt_size ho)
 refine ⟨⟨_,hS,rfl⟩,F.args_list_init_2 _ _,?_⟩
 show wpAny _ _ (do let old <-Builtin.List.listItems (.ref s.heap.objs.size);Builtin.List.listUpdate (.ref s.heap.objs.size) (fun _=>#[]);letGo old.toList.reverse;Builtin.List.listExtendWith (.ref s.heap.objs.size) (.ref d) .none) _ _ _
 refine wpAny_bind ?_
 unfold Builtin.List.listItems
 refine wpAny_bind (wpAny_seqItems hS rfl (wpAny_pure ?_))
 show wpAny _ _ (updateSeq s.heap.objs.size (fun _=>#[]) >>= fun _=>letGo (#[]:Array Value).toList.reverse >>= fun _=>Builtin.List.listExtendWith (.ref s.heap.objs.size) (.ref d) .none) _ _ _
 refine wpAny_bind (wpAny_updateSeq hS rfl ?_)
 have hS₂:=Heap.get?_update_self (Obj.mapSeq (fun _=>(#[]:Array Value))) hS rfl
 have oth:∀ b o,b≠s.heap.objs.size->(s.heap.push { cls:=.type "list",data:=.seq #[] }).get? b=some o->((s.heap.push { cls:=.type "list",data:=.seq #[] }).update s.heap.objs.size (Obj.mapSeq (fun _=>(#[]:Array Value)))).get? b=some o:=
  fun b o hb e=>(Heap.get?_update_other _ _ (Ne.symm hb)).trans e
 refine wpAny_bind (wpAny_letGo ?_)
 have ho2:=oth d _ (Ne.symm hSr) (Heap.get?_push_of_some _ ho)
 refine qcj (A:=A.in1) hh hd ?_ ho2 hdat hlen _ .none _ hS₂ fun h' tk acc' c' hk hS' hacc=>?_
 ·obtain ⟨o,e1,e2⟩:=hT
  rw [ho] at e1;cases e1
  exact ⟨_,ho2,e2⟩
 ·exact ⟨rfl,hQ h' tk acc' c' (fun b o e=>hk b o (Nat.ne_of_lt (Heap.lt_size e)) (oth b o (Nat.ne_of_lt (Heap.lt_size e)) (Heap.get?_push_of_some _ e))) hS' hacc⟩
end
end L2
end
section
namespace L2
open PySem PySem.Spec PyProof.Rows
section
variable {X:Cx} {p pos:Pos}
theorem qct {es:Array DictEntry} {acc:Array Value} {xs:List V} (h:ItemsOf (fun i v=>∃ e,es[i]? = some e/\v=e.key) acc es.size) (r:Vals xs (es.toList.map (·.key))):Vals xs acc.toList:=by
 have:acc.toList=es.toList.map (·.key):=by
  apply List.ext_getElem?
  intro i
  rw [gM_]
  by_cases hi:i < es.size
  ·have hi':i < acc.size:=by rw [h.1];exact hi
   obtain ⟨e,e1,e2⟩:=h.2 i acc[i] (by simp [hi'])
   have e3:es.toList[i]? = some e:=by simpa using e1
   rw [e3]
   simp [hi',e2]
  ·have:¬ i < acc.size:=by rw [h.1];exact hi
   simp [Nat.le_of_not_lt hi,Nat.le_of_not_lt this]
 rw [this];exact r
def qf6:List V->Hp->VK->Prop:=fun vs H Q=>match vs with
 | [.ref p]=>(∃ kvs,H p=some (.dT kvs)/\∀ o bs l,qbe H kvs bs->H l=none->Q (.ref l) (upd (upd H p (.frz o (.dT kvs))) l (.lst (bs.map V.ref)))) ∨
   (∃ o kvs,H p=some (.frz o (.dT kvs))/\∀ bs l,qbe H kvs bs->H l=none->Q (.ref l) (upd H l (.lst (bs.map V.ref)))) ∨
   (∃ o kvs,H p=some (.frz o (.dK kvs))/\∀ l,H l=none->Q (.ref l) (upd H l (.lst (kvs.map fun p=>kV p.1))))\/qf5 vs H Q
 | _=>False
theorem qfq (hc:X.calm=true):CallR X (.type "list") qf6:=by
 have hT2:∀ (pins:List (Addr×Obj)) (s:Shared) (σ:St) (H:Hp) (a:Addr) (Q:VK) (o:Obj) (kvs:List (List Key×V)),Inv X pins σ H s->H a=some (.frz o (.dT kvs)) →
   (∀ bs l,qbe H kvs bs->H l=none->Q (.ref l) (upd H l (.lst (bs.map V.ref))))->wpAny (model X.prog X.w) X.A (call (.type "list") [.ref a]) (EP X pins σ Q) X.xe s:=by
  intro pins s σ H a Q o kvs I hq q
  have ho:=I.frozen hq
  obtain ⟨_,z,hd,xs,r,o',es,ep,h1,h2,h3,h4,h5⟩:=I.hok a _ hq
  rw [ho] at h1;cases h1
  have hT:s.TypeIs (.ref a) "dict" := let ⟨_,_,_,_,dd⟩:=qdC I.hok (.inr ⟨o,hq⟩);dd.typeIs
  have rel:Vals ((xs.map (·.2.1)).map V.ref) (es.toList.map (·.key)):=by
   rw [h4]
   clear h4 h5 r
   induction xs with
   | nil=>exact .nil
   | cons x xs ih=>exact .cons rfl ih
  have le:es.size<=sizeLine:=by
   have e1:=congrArg List.length h4
   have e2:=Paired.length r
   simp at e1
   omega
  refine qbd (I.ok.hd hc) hd hT ho h3 le fun h' tk acc' c' kp e' it=>?_
  have hl:((xs.map (·.2.1)).map V.ref).length<=sizeLine:=by
   have:=rel.length
   simp at this ⊢
   omega
  exact ⟨.ref s.heap.objs.size,_,I.laid (t':=tk) kp (Nat.le_refl _) (show ObjOk X.prog X.w _ h' _ (.lst _) from ⟨hl,acc'.toList,c',qct it rel,by simpa using e'⟩),rfl,q _ _ (qeT r) (I.hok.fresh (Nat.le_refl _))⟩
 intro pins s σ H xs us Q I r h
 unfold qf6 at h
 split at h
 ·rename_i a
  have r':=r
  obtain ⟨u,rfl,rx⟩:=qaP r
  cases rx
  rcases h with ⟨kvs,hq,q⟩ | ⟨o,kvs,hq,q⟩ | ⟨o,kvs,hq,q⟩ | h
  ·obtain ⟨o,ho⟩:=I.obj hq
   refine hT2 pins s σ _ a Q o kvs (I.freeze hq trivial ho) qaa fun bs l kb hl=>?_
   have hla:l≠a:=fun z=>by subst z;rw [qaa] at hl;cases hl
   rw [qab hla] at hl
   refine q o bs l ?_ hl
   refine Paired.mapP kb fun x b e=>?_
   have:b≠a:=fun z=>by subst z;rw [qaa] at e;cases e
   rw [qab this] at e;exact e
  ·exact hT2 pins s σ H a Q o kvs I hq q
  ·have ho:=I.frozen hq
   obtain ⟨_,z,hd,vs,r,o',es,ep,h1,h2,h3,h4,h5,h6⟩:=I.hok a _ hq
   rw [ho] at h1;cases h1
   have hT:s.TypeIs (.ref a) "dict" := let ⟨_,_,_,_,dd⟩:=qcY I.hok (.inr ⟨o,hq⟩);dd.typeIs
   have rel:=qcU r h5
   have le:es.size<=sizeLine:=by
    have e1:=rel.length
    simp at e1
    omega
   refine qbd (I.ok.hd hc) hd hT ho h3 le fun h' tk acc' c' kp e' it=>?_
   have hl:(kvs.map fun p=>kV p.1).length<=sizeLine:=by
    have:=rel.length
    simp at this ⊢
    omega
   exact ⟨.ref s.heap.objs.size,_,I.laid (t':=tk) kp (Nat.le_refl _) (show ObjOk X.prog X.w _ h' _ (.lst _) from ⟨hl,acc'.toList,c',qct it rel,by simpa using e'⟩),rfl,q _ (I.hok.fresh (Nat.le_refl _))⟩
  ·exact qfp hc pins s σ H _ _ Q I r' h
 ·exact h.elim
theorem qh9 {e:Expr} {es:List Expr} {t:TA} {mg':Str->Option Value} (hm:mg' "list" = none) (hX:X.mg=mg') (ha:PA X (e :: es) t) (hc:X.calm=true:=by kernel_rfl) (hg:gB X "list" = true:=by kernel_rfl) (he:starEach (e :: es) X.env=(false,eval e X.env) :: starEach es X.env:=by kernel_rfl) (hpl:(backTo pos (starEach es X.env)).any (·.1)=false:=by kernel_rfl) :
  PE X (.Call (.Name "list" p) (e :: es) [] pos) (tCB qf6 t):=qaW (qfq hc) (qaz hg) (by rw [hX];exact hm) PyProof.Rows.boot_list ha (he:=he) (hpl:=hpl)
end
section
variable {prog:Program} {w:World} {A:Around} {E:Value->Shared->Prop} {s:Shared}
end
end L2
end
section
namespace L2
open PySem PySem.Spec PyProof.Rows
theorem qbm {α β:Type} {f:α->β}:∀ {l:List α},(l.map f).Nodup->∀ {a b:α},a∈l->b∈l->f a=f b->a=b
 | [],_,_,_,h,_,_=>nomatch h
 | x :: l,nd,a,b,ha,hb,e=>by
  rw [List.map_cons,List.nodup_cons] at nd
  rcases List.mem_cons.mp ha with h1 | h1<;>rcases List.mem_cons.mp hb with h2 | h2
  ·rw [h1,h2]
  ·exact absurd (List.mem_map.mpr ⟨b,h2,by rw [<-e,h1]⟩) nd.1
  ·exact absurd (List.mem_map.mpr ⟨a,h1,by rw [e,h2]⟩) nd.1
  ·exact qbm nd.2 h1 h2 e
section
variable {X:Cx} {p pos:Pos}
open Classical in
noncomputable def eqT (H:Hp) (k:List Key) (u:Value):Bool:=match u with
 | .ref c=>decide (H c=some (.tup (k.map kV)))
 | _=>false
open Classical in
theorem qku {H:Hp} {k:List Key}:∀ {xs:List V} {us:List Value},Vals xs us->(∀ v∈xs,∃ (c:Addr) (k':List Key),v = .ref c/\H c=some (.tup (k'.map kV)))->(us.any (eqT H k)=true↔∃ c,V.ref c∈xs/\H c=some (.tup (k.map kV)))
 | _,_,.nil,_=>by simp
 | y :: xs,u :: us,.cons r t,f=>by
  obtain ⟨c,k',rfl,hc⟩:=f y List.mem_cons_self
  cases r
  rw [List.any_cons,Bool.or_eq_true,qku t (fun v hv=>f v (mC_ _ hv))]
  have e0:eqT H k (.ref c)=true↔H c=some (.tup (k.map kV)):=by unfold eqT;dsimp only;exact (by classical exact decide_eq_true_iff)
  rw [e0]
  constructor
  ·rintro (h | ⟨d,h1,h2⟩)
   ·exact ⟨c,List.mem_cons_self,h⟩
   ·exact ⟨d,mC_ _ h1,h2⟩
  ·rintro ⟨d,h1,h2⟩
   rcases List.mem_cons.mp h1 with e | h1
   ·injection e with e;subst e;exact .inl h2
   ·exact .inr ⟨d,h1,h2⟩
end
end L2
end
section
namespace Om
def Win (rows:Rows) (b a:Nat):Prop:=∀ x y,¬ qnJ rows b (b+1+a) x y
open Classical in
noncomputable def wf (rows:Rows) (p:Nat×Nat):Bool:=decide (Win rows p.1 p.2)
open Classical in
theorem qnK {rows:Rows} {p:Nat×Nat}:wf rows p=true↔Win rows p.1 p.2:=by unfold wf;exact decide_eq_true_iff
end Om
namespace L2
open PySem PySem.Spec PyProof.Rows
theorem KD.again {ks:List (Nat×Nat)} {kvs:List (List Key×V)} {p:Nat×Nat} {v:V} (h:KD ks kvs) (hp:p∈ks):KD ks (qba kvs (kk p) v):=by
 refine ⟨?_,h.nd,h.lt⟩
 rw [<-h.keys]
 unfold qba
 have:(kvs.any fun kv=>decide (kv.1=kk p))=true:=by
  have hm:kk p∈kvs.map (·.1):=by rw [h.keys];exact List.mem_map.mpr ⟨p,hp,rfl⟩
  obtain ⟨q,hq,e⟩:=mM_ hm
  exact List.any_eq_true.mpr ⟨q,hq,by simpa using e⟩
 rw [if_pos this,List.map_map]
 apply List.map_congr_left
 intro q _
 simp only [Function.comp]
 split<;>rfl
theorem KD.set {ks:List (Nat×Nat)} {kvs:List (List Key×V)} {p:Nat×Nat} {v:V} (h:KD ks kvs) (l1:p.1 < 8) (l2:p.2 < 8):∃ ks',KD ks' (qba kvs (kk p) v)/\∀ q,q∈ks'↔q∈ks\/q=p:=by
 by_cases hp:p∈ks
 ·exact ⟨ks,h.again hp,fun q=>⟨.inl,fun e=>e.elim id fun e=>e ▸ hp⟩⟩
 ·exact ⟨ks++[p],h.put hp l1 l2,fun q=>by rw [List.mem_append,List.mem_singleton]⟩
end L2
end
section
namespace L2
open PySem PySem.Spec PyProof.Rows
section
variable {prog:Program} {w:World} {A:Around} {E:Value->Shared->Prop} {s:Shared}
theorem qbJ {d:Addr} {o:Obj} {es:Array DictEntry} {ep:Nat} {Q:Value->Shared->Prop} (hd:(d == sysModules)=false) (hT:s.TypeIs (.ref d) "dict") (ho:s.heap.get? d=some o) (hdat:o.data = .dict es ep) (hfit:(es.size:Int) < 2 ^ 63)
  (h:Q (.int es.size (s.toks+1)) { s with toks:=s.toks+1+1 }):wpAny (model prog w) A (call (.builtin "len") [.ref d]) Q E s:=by
 have len1:MeetsIn prog w (Builtin.«dict.__len__» ⟨[.ref d],[]⟩) (fun _ R s=>s.heap.get? d=some o/\R (.ok (.ret (.int es.size s.toks))) { s with toks:=s.toks+1 }):=
  .of_wp fun A R s ⟨ho,h⟩=>by
   show wpAny _ _ (dictSize d >>= _) _ _ s
   unfold dictSize
   refine wpAny_bind (wpAny_bind (wpAny_dictEntries ho hdat (wpAny_pure ?_)))
   show wpAny _ _ (Builtin.Dict.pendingCount d >>= _) _ _ s
   refine wpAny_bind (wpAny_pendingCount_other hd ?_)
   refine wpAny_ret_mkInt ?_
   rw [Nat.add_zero];exact h
 refine Calls.call_function_entry kind_len plain_len entry_len (args_len1 _) ?_
 unfold Builtin.«len»
 refine wpAny_bind (m:=oneArg "len" _) (wpAny_pure ?_)
 refine wpAny_bind (m:=callSpecial? (.ref d) (Str.ofString "__len__")) (wpAny_callSpecial?_slot (name:=Str.ofString "__len__") hT F.slot_dict_len
  (call_meetsIn F.slot_dict_len hT F.entry_dict_len (F.args_dict_len_1 _) len1 ⟨ho,?_⟩))
 show wpAny _ _ _ _ _ { s with toks:=s.toks+1 }
 refine wpAny_bind (wpAny_holding (wpAny_pure ?_))
 refine wpAny_bind (wpAny_letGo ?_)
 show wpAny _ _ (if ((es.size:Nat):Int) < 0 then _ else _) _ _ _
 rw [if_neg (by omega)]
 show wpAny _ _ (if ((es.size:Nat):Int) ≥ 2 ^ 63 then _ else _) _ _ _
 rw [if_neg (by omega)]
 exact wpAny_bind (wpAny_mkInt (wpAny_pure ⟨_,rfl,h⟩))
end
section
variable {X:Cx} {p pos:Pos}
def qk4:List V->Hp->VK->Prop:=fun vs H Q=>(∃ a kvs,vs=[.ref a]/\Rd H a (.dT kvs)/\kvs.length<=2 ^ 24/\Q (.int (kvs.length:Nat)) H)\/qjh vs H Q
theorem qg7:CallR X (.builtin "len") qk4:=by
 intro pins s σ H xs us Q I r h
 rcases h with ⟨a,kvs,rfl,rd,hl,q⟩ | h
 ·obtain ⟨u,rfl,rx⟩:=qaP r
  cases rx
  obtain ⟨z,hd,ys,kt,o,es,ep,h1,h2,h3,h4,h5⟩:=(show ObjOk X.prog X.w H s.heap a (.dT kvs) from qjd I.hok rd)
  have hT:s.TypeIs (.ref a) "dict" := ⟨o,h1,h2.1⟩
  have esl:es.size=kvs.length:=by
   have e1:=congrArg List.length h4
   have e2:=Paired.length kt
   simp at e1
   omega
  refine qbJ hd hT h1 h3 (by omega) ?_
  exact ⟨.int _,H,I.tok _,⟨_,rfl⟩,by rw [esl];exact q⟩
 ·exact qbq pins s σ H xs us Q I r h
theorem qgN {e:Expr} {es:List Expr} {t:TA} {mg':Str->Option Value} (hm:mg' "len" = none) (hX:X.mg=mg') (ha:PA X (e :: es) t) (hg:gB X "len" = true:=by kernel_rfl) (he:starEach (e :: es) X.env=(false,eval e X.env) :: starEach es X.env:=by kernel_rfl) (hpl:(backTo pos (starEach es X.env)).any (·.1)=false:=by kernel_rfl) :
  PE X (.Call (.Name "len" p) (e :: es) [] pos) (tCB qk4 t):=qaE qg7 (qaz hg) (by rw [hX];exact hm) boot_len ha (he:=he) (hpl:=hpl)
end
def GrN (c:Nat) (H:Hp) (v:V) (R:Om.R2n) (E:Nat->Nat->Om.Stp->Prop):Prop:=∃ a o kvs ks,v = .ref a/\H a=some (.frz o (.dT kvs))/\KD ks kvs/\(∀ x y,(x,y)∈ks↔R x y) ∧
 ∀ p∈ks,∃ l ss,qaM kvs (kk p)=some (.ref l)/\StL H l ss/\ss.length<=c/\∀ s,s∈ss↔E p.1 p.2 s
theorem GrN.mono {c:Nat} {H H':Hp} {v:V} {R:Om.R2n} {E:Nat->Nat->Om.Stp->Prop} (h:GrN c H v R E) (s:Same H H'):GrN c H' v R E:=by
 obtain ⟨a,o,kvs,ks,e,h1,h2,h3,h4⟩:=h
 refine ⟨a,o,kvs,ks,e,s _ _ h1,h2,h3,fun p hp=>?_⟩
 obtain ⟨l,ss,q1,q2,q3⟩:=h4 p hp
 exact ⟨l,ss,q1,q2.mono s,q3⟩
theorem GrN.ly {c:Nat} {H:Hp} {v:V} {R:Om.R2n} {E:Nat->Nat->Om.Stp->Prop} (h:GrN c H v R E):LyV H v R:=by
 obtain ⟨a,o,kvs,ks,e,h1,h2,h3,h4⟩:=h
 exact ⟨a,o,kvs,ks,e,h1,h2,h3⟩
section
variable {G H0 H:Hp} {D q:Addr} {kvs:List (List Key×V)} {ks:List (Nat×Nat)} {c:Nat} {E:Nat×Nat->Om.Stp->Prop} {o:HO}
end
end L2
namespace Om
def BSt (rows:Rows) (x y:Nat) (s:Stp):Prop:=St rows s.2.1 s.2.2 (s.1,(x,y))
end Om
end
section
namespace L2
open PySem PySem.Spec PyProof.Rows
section
variable {prog:Program} {w:World} {A:Around} {E:Value->Shared->Prop} {s:Shared}
theorem qgH {R:Result->Shared->Prop} {d:Addr} {od:Obj} {es:Array DictEntry} {ep:Nat} (hh:A.handled=none) (hd:(d == sysModules)=false) (hT:s.TypeIs (.ref d) "dict") (ho:s.heap.get? d=some od) (hdat:od.data = .dict es ep) (hlen:es.size<=sizeLine) (S:Addr) (c₀:Nat) (hS:s.heap.get? S=some { cls:=.type "list",data:=.seq #[] c₀ })
  (hR:∀ h' tk acc' c',(∀ b o,b≠S->s.heap.get? b=some o->h'.get? b=some o)->h'.get? S=some { cls:=.type "list",dict:=none,data:=.seq acc' c',slots:=#[] } →
   ItemsOf (fun i v=>∃ e,es[i]? = some e/\v=e.key) acc' es.size->R (.ok (.ret (.ref S))) { s with heap:=h',toks:=tk }) :
  codeAny (model prog w) A (.builtin "list.__iadd__" ⟨[.ref S,.ref d],[]⟩) R s:=by
 refine codeAny_builtin entry_list_iadd' ?_
 rw [Around.under_plainId (by decide +kernel) _]
 exact qcj hh hd hT ho hdat hlen S (.ref S) c₀ hS hR
theorem qdH {d:Addr} {od:Obj} {es:Array DictEntry} {ep:Nat} {Q:List Value->Shared->Prop} (hh:A.handled=none) (hd:(d == sysModules)=false) (hT:s.TypeIs (.ref d) "dict") (ho:s.heap.get? d=some od) (hdat:od.data = .dict es ep) (hlen:es.size<=sizeLine)
  (h:∀ (h':Heap) (tk:Tok) (acc:Array Value),(∀ b o,s.heap.get? b=some o->h'.get? b=some o)->s.heap.objs.size < h'.objs.size->ItemsOf (fun i v=>∃ e,es[i]? = some e/\v=e.key) acc es.size->Q acc.toList { s with heap:=h',toks:=tk }) :
  wpAny (model prog w) A (collect (.ref d)) Q E s:=by
 unfold collect
 refine wpAny_bind (wpAny_runValue (codeAny_builtin entry_proto_collect' ?_))
 show wpAny _ _ (do again (.builtin "list.__iadd__" ⟨[<-newList [],.ref d],[]⟩)) _ _ s
 refine wpAny_bind (wpAny_newList (wpAny_pure ⟨Code.quiet_builtin _ (by decide +kernel),?_⟩))
 have hT':(⟨s.heap.push (seqObj "list" #[] 0),s.gens,s.drawn,s.toks,s.os⟩ : Shared).TypeIs (.ref d) "dict" := by
  obtain ⟨o,e1,e2⟩:=hT
  exact ⟨o,Heap.get?_push_of_some _ e1,e2⟩
 refine qgH hh hd hT' (Heap.get?_push_of_some _ ho) hdat hlen s.heap.objs.size 0 (Heap.get?_push_size _ rfl) fun h' tk acc' c' hk hS' hacc=>?_
 show wpAny (model prog w) A (do
   let o <-load s.heap.objs.size
   match o.data with
   | .seq xs _=>pure xs.toList
   | _=>unsupported "internal:collect") Q E { s with heap:=h',toks:=tk }
 refine wpAny_bind (wpAny_load hS' ?_)
 exact wpAny_pure (h h' tk acc' (fun b o e=>hk b o (Nat.ne_of_lt (Heap.lt_size e)) (Heap.get?_push_of_some _ e)) (Heap.lt_size hS') hacc)
theorem qd3 {d:Addr} {od:Obj} {es:Array DictEntry} {ep:Nat} {ns:List Int} {Q:Value->Shared->Prop} (hh:A.handled=none) (hd:(d == sysModules)=false) (hT:s.TypeIs (.ref d) "dict") (ho:s.heap.get? d=some od) (hdat:od.data = .dict es ep) (hI:IntsAre (es.toList.map (·.key)) ns) (h64:es.size < 64)
  (h:∀ (h':Heap) (tk:Tok) (l:Addr) (out:Array Value) (ns':List Int) (e:Nat),(∀ b o,s.heap.get? b=some o->h'.get? b=some o)->s.heap.objs.size<=l->h'.get? l=some (seqObj "list" out e)->IntsAre out.toList ns'->ns'.Perm ns->ns'.Pairwise (·<=·)->Q (.ref l) { s with heap:=h',toks:=tk }) :
  wpAny (model prog w) A (call (.builtin "sorted") [.ref d]) Q E s:=by
 refine Calls.call_function_entry kind_sorted plain_sorted entry_sorted (args_sorted1 _) ?_
 unfold Builtin.«sorted»
 refine wpAny_bind (m:=checkCount "sorted" 1 1 _) (wpAny_pure ?_)
 refine wpAny_bind (qdH hh hd hT ho hdat (by rw [sizeLine_eq];omega) fun h1 tk acc kp lt it=>?_)
 have ea:acc.toList=es.toList.map (·.key):=by
  apply List.ext_getElem?
  intro i
  rw [gM_]
  by_cases hi:i < es.size
  ·have hi':i < acc.size:=by rw [it.1];exact hi
   obtain ⟨e,e1,e2⟩:=it.2 i acc[i] (by simp [hi'])
   have e3:es.toList[i]? = some e:=by simpa using e1
   rw [e3]
   simp [hi',e2]
  ·have:¬ i < acc.size:=by rw [it.1];exact hi
   simp [Nat.le_of_not_lt hi,Nat.le_of_not_lt this]
 rw [ea]
 generalize hvs:es.toList.map (·.key)=vs at *
 have hv64:vs.length < 64:=by rw [<-hvs];simpa using h64
 refine wpAny_bind (wpAny_newList ?_)
 have hoL:(h1.push (seqObj "list" vs.toArray 0)).get? h1.objs.size=some (seqObj "list" vs.toArray 0):=Heap.get?_push_size _ rfl
 refine wpAny_bind (wpAny_holding (wpAny_call_entry slot_list_sort ⟨_,hoL,rfl⟩ entry_list_sort (list_sort_tree hoL hI hv64 fun out ns' a1 a2 a3=>⟨_,rfl,?_⟩) (args_list_sort _)))
 obtain ⟨e,he⟩:=sortedHeap_at (out:=out) hoL
 refine wpAny_pure ⟨_,rfl,h _ tk h1.objs.size out ns' e (fun b o hb=>?_) (Nat.le_of_lt lt) he a1 a2 a3⟩
 have hb1:=kp b o hb
 have bl:=Heap.lt_size hb1
 rw [sortedHeap_old (Nat.ne_of_lt bl) (by rw [size_push'];exact Nat.lt_succ_of_lt bl)]
 exact Heap.get?_push_of_some _ hb1
end
section
variable {X:Cx} {p pos:Pos}
def qeH:List V->Hp->VK->Prop:=fun vs H Q=>(∃ (a:Addr) (kvs:List (Key×V)) (ns:List Int),vs=[.ref a]/\Rd H a (.dK kvs)/\kvs.map (·.1)=ns.map Sum.inl/\ns.length < 64 ∧
  ∀ (l:Addr) (ns':List Int),H l=none->ns'.Perm ns->ns'.Pairwise (·<=·)->Q (.ref l) (upd H l (.lst (ns'.map V.int))))\/qeb vs H Q
theorem qdJ (hc:X.calm=true):CallR X (.builtin "sorted") qeH:=by
 intro pins s σ H xs us Q I r h
 rcases h with ⟨a,kvs,ns,rfl,rd,hk,hl,q⟩ | h
 ·obtain ⟨u,rfl,rx⟩:=qaP r
  cases rx
  obtain ⟨z,hd,vs,kv,o,es,ep,h1,h2,h3,h4,h5,h6⟩:=qcY I.hok rd
  have hT:s.TypeIs (.ref a) "dict" := ⟨o,h1,h2.1⟩
  have rel:=qcU kv h5
  have e1:(kvs.map fun p=>kV p.1)=ns.map V.int:=by
   have:(kvs.map fun p=>kV p.1)=(kvs.map (·.1)).map kV:=by rw [List.map_map];rfl
   rw [this,hk,List.map_map]
   rfl
  rw [e1] at rel
  have hI:=qbt rel
  have es64:es.size < 64:=by
   have:=rel.length
   simp at this
   omega
  refine qd3 (I.ok.hd hc) hd hT h1 h3 hI es64 fun h' tk l out ns' e kp hl' he a1 a2 a3=>?_
  have hz:(ns'.map V.int).length<=sizeLine:=by rw [lM_,a2.length_eq];exact qae (by omega)
  exact ⟨.ref l,upd H l (.lst (ns'.map V.int)),I.laid (t':=tk) kp hl' ⟨hz,out.toList,e,qcf a1,by simpa using he⟩,rfl,q _ _ (I.hok.fresh hl') a2 a3⟩
 ·exact qdI pins s σ H xs us Q I r h
theorem qfm {e:Expr} {es:List Expr} {t:TA} {mg':Str->Option Value} (hm:mg' "sorted" = none) (hX:X.mg=mg') (ha:PA X (e :: es) t) (hc:X.calm=true:=by kernel_rfl) (hg:gB X "sorted" = true:=by kernel_rfl) (he:starEach (e :: es) X.env=(false,eval e X.env) :: starEach es X.env:=by kernel_rfl) (hpl:(backTo pos (starEach es X.env)).any (·.1)=false:=by kernel_rfl) :
  PE X (.Call (.Name "sorted" p) (e :: es) [] pos) (tCB qeH t):=qaE (qdJ hc) (qaz hg) (by rw [hX];exact hm) PyProof.Rows.boot_sorted ha (he:=he) (hpl:=hpl)
end
end L2
end
section
namespace L2
open PySem PySem.Spec PyProof.Rows
section
variable {X:Cx} {p pos p2:Pos} {a b e st:Expr} {es:List Expr} {t:TA} {te:TE} {ts:TO}
end
section
variable {H H':Hp} {n:Nat} {v:V} {a:Addr} {xs:List V}
end
section
variable {F:Addr->Prop} {H H':Hp} {b:Addr} {o:HO}
end
end L2
end
section
namespace L2
open PySem PySem.Spec PyProof.Rows
theorem qb5 {α:Type} (k:Nat) (xs:List α):((List.replicate k xs).flatten).length=k * xs.length:=by
 induction k with
 | zero=>simp
 | succ k ih=>rw [List.replicate_succ,List.flatten_cons,lA_,ih,Nat.succ_mul];omega
end L2
end
section
namespace L2
open PySem PySem.Spec PyProof.Rows
def CodeO (c:Addr) (q:Str):HO:=.ext fun h=>h.CodeRec (.ref c) q
theorem CodeO.mk {P:Program} {w:World} {H:Hp} {h:Heap} {c:Addr} {q:Str} (x:h.CodeRec (.ref c) q):ObjOk P w H h c (CodeO c q):=by
 refine ⟨x,?_,fun h1 h2 x1 k=>?_⟩
 ·obtain ⟨c',o,vs,t,e,g,r⟩:=x
  cases e
  exact ⟨o,g⟩
 ·obtain ⟨c',o,vs,t,e,g,r⟩:=x1
  cases e
  exact ⟨_,o,vs,t,rfl,k o g,r⟩
theorem CodeO.at {P:Program} {w:World} {H:Hp} {h:Heap} {c:Addr} {q:Str} (ok:HOk P w H h) (e:H c=some (CodeO c q)):h.CodeRec (.ref c) q:=(ok c _ e).1
def qii (h:Heap) (f:Addr) (params:Arguments) (body:Expr) (scope:Scope) (qual:Str) (c:Addr) (F:List Str) (fvs:List V):Prop:=
 ∃ (pm ctv:Value) (clos:List (Str×Addr)),h.get? f=some (PySem.W.kla_obj "<lambda>" qual params body scope clos pm c ctv) ∧
  (∀ x y d,clos.lookup x=some d->clos.lookup y=some d->x=y) ∧
  (∀ y∈scope.names,y.2 = .free->∃ d,clos.lookup y.1=some d) ∧
  (∀ x d,clos.lookup x=some d->∃ v,h.IsCell d v) ∧
  ∀ (i:Nat) x v,F[i]? = some x->fvs[i]? = some v->∃ d u,clos.lookup x=some d/\h.IsCell d (some u)/\RelV v u
structure LamSc (p:Str) (F:List Str) (sc:Scope):Prop where
 kind:sc.kind = .function
 co:sc.isCoroutine=false
 gen:sc.isGenerator=false
 par:sc.names.lookup p=some .local
 fre:∀ x∈F,sc.names.lookup x=some .free
 nocell:∀ y∈sc.names,y.2≠.cell
def qki (CX:CXT) (P:Program) (w:World) (K:PySem.W.Frag) (mg:Str->Option Value) (base:Heap) (N:List Str) (qual:Str) (scope:Scope) (f:Addr) (cd:Value) (clos:List (Str×Addr)) (A:Around) (outer:List Env) (s:Shared) (H:Hp) (E:XK):Cx where
 prog:=P
 w:=w
 K:=K
 mg:=mg
 base:=base
 A:=A.deeper (PySem.W.envX qual scope s.heap.objs.size f cd clos)
 N:=N
 s₀:=s
 H₀:=H
 env:=PySem.W.envX qual scope s.heap.objs.size f cd clos
 outer:=outer
 stack:=PySem.W.envX qual scope s.heap.objs.size f cd clos :: outer
 ex:=[]
 calm:=true
 fn:=fun _=>false
 pn:=[]
 xe:=fun e s'=>wpAny (model P w) (A.deeper (PySem.W.envX qual scope s.heap.objs.size f cd clos)) (leaving (PySem.W.envX qual scope s.heap.objs.size f cd clos) e) (fun _ s''=>CX outer H s E e s'') (fun e' s''=>CX outer H s E e' s'') s'
theorem qj3 {CX:CXT} {P:Program} {w:World} {K:PySem.W.Frag} {mg:Str->Option Value} {base:Heap} {p:Str} {F:List Str} {fvs:List V} {qual:Str} {scope:Scope} {f:Addr} {cd:Value} {clos:List (Str×Addr)} {A:Around} {outer:List Env} {s:Shared} {H:Hp} {E:XK}
  {u:Value} {v:V} {h':Heap} {tk:Nat} (S:LamSc p F scope) (hd:A.handled=none) (e0:Env0 P w K mg base A outer s H) (rv:RelV v u) (hl:F.length=fvs.length)
  (inj:∀ x y d,clos.lookup x=some d->clos.lookup y=some d->x=y) (has:∀ y∈scope.names,y.2 = .free->∃ d,clos.lookup y.1=some d) (cel:∀ x d,clos.lookup x=some d->∃ v,base.IsCell d v)
  (vals:∀ (i:Nat) x v,F[i]? = some x->fvs[i]? = some v->∃ d u,clos.lookup x=some d/\base.IsCell d (some u)/\RelV v u)
  (hns:h'.Ns s.heap.objs.size (fun x=>[(p,u)].reverse.lookup x)) (hk:∀ b o,s.heap.get? b=some o->h'.get? b=some o) :
  Inv (qki CX P w K mg base (p :: F) qual scope f cd clos A outer s H E) [] (some v :: fvs.map some) H { s with heap:=h',toks:=tk }:=by
 have noA:∀ b:Addr,b ∉ (qki CX P w K mg base (p :: F) qual scope f cd clos A outer s H E).ex:=fun b z=>absurd (show b∈([]:List Addr) from z) (by simp)
 have up:∀ {d:Addr} {v:Option Value},base.IsCell d v->h'.IsCell d v:=fun {d v} ⟨o,e,q⟩=>⟨o,hk _ _ (e0.bs _ _ e).1,q⟩
 refine ⟨⟨e0.mod,S.kind,rfl,rfl,Nat.le_refl _,inj,fun y hy=>?_,fun y c hf _=>(by cases (show false=true from hf)),fun _=>hd,Around.frames_deeper e0.frames,.inr ⟨rfl,rfl⟩,fun b z=>absurd z (noA b),e0.bs,e0.bsz,fun b _ _=>noA b,fun b z=>absurd z (noA b),e0.funs,e0.frf⟩,
  rfl,e0.bare,Un.kept hk,⟨_,hns,fun i y x h1 h2 h3=>?_⟩,fun y c h=>?_,e0.hok.fresh (Nat.le_refl _),fun y c h=>?_,fun p hp=>absurd (show p∈([]:List (Addr×Obj)) from hp) (by simp),e0.hok.kept hk,?_⟩
 ·have hy:scope.names.lookup y=some .cell\/scope.names.lookup y=some .free:=hy
  rcases hy with hy | hy
  ·exact absurd rfl (S.nocell _ (PySem.mem_of_lookup hy))
  ·exact has _ (PySem.mem_of_lookup hy) rfl
 ·cases i with
  | zero=>
   cases h1
   cases h2
   exact ⟨u,rv,.inl ⟨S.par,by simp⟩⟩
  | succ i=>
   have h1:F[i]? = some y:=by
    have h1:(p :: F)[i+1]? = some y:=h1
    rw [List.getElem?_cons_succ] at h1
    exact h1
   have h2:fvs[i]? = some x:=by
    rw [List.getElem?_cons_succ,gM_] at h2
    cases q:fvs[i]? with
    | none=>rw [q] at h2;cases h2
    | some z=>rw [q] at h2;cases h2;rfl
   obtain ⟨d,u',e1,e2,e3⟩:=vals i y x h1 h2
   exact ⟨u',e3,.inr ⟨.inr (S.fre y (mO_ h1)),d,e1,up e2⟩⟩
 ·obtain ⟨x,e⟩:=cel y c h
  exact ⟨x,up e⟩
 ·obtain ⟨x,o,e,_⟩:=cel y c h
  exact (e0.bs _ _ e).2
 ·show (some v :: fvs.map some).length=(p :: F).length
  simp [hl]
def qmG (P:Program) (w:World) (K:PySem.W.Frag) (mg:Str->Option Value) (base:Heap) (f:Addr) (k:Nat) (p:Str) (sp:Sp):Prop:=
 ∃ fd,FnOk P w K mg base CX0 k f fd [p] sp/\(∃ oc od sl,base.get? f=some ⟨oc,od,.func fd,sl⟩)/\Binds K fd [p] []
theorem qlQ {P:Program} {w:World} {K:PySem.W.Frag} {mg:Str->Option Value} {base:Heap} {f c:Addr} {params:Arguments} {body:Expr} {scope:Scope} {qual p:Str} {F:List Str} {fvs:List V} {k:Nat} {sp:Sp} (L:qii base f params body scope qual c F fvs) (S:LamSc p F scope)
  (hl:F.length=fvs.length) (hbind:∀ clos pm ctv u,bindArgs (PySem.W.kla_fn "<lambda>" qual params body scope clos pm (.ref c) ctv) ⟨[u],[]⟩=pure [(p,u)]) (len:∀ vs H Q E,sp vs H Q E->vs.length=1)
  (hbody:∀ (clos:List (Str×Addr)) (A:Around) (outer:List Env) (s:Shared) (H:Hp) (v:V) (Q:VK) (E:XK),Room k (A.deeper (PySem.W.envX qual scope s.heap.objs.size f (.ref c) clos))->sp [v] H Q E →
   H c=some (CodeO c qual)/\∃ t,PE (qki CX0 P w K mg base (p :: F) qual scope f (.ref c) clos A outer s H E).nox body t/\t (some v :: fvs.map some) H Q):qmG P w K mg base f (k+1) p sp:=by
 obtain ⟨pm,ctv,clos,hf,inj,has,cel,vals⟩:=L
 refine ⟨_,⟨len,fun A outer s H args us vs Q E hr e0 hb r hsp=>?_⟩,⟨_,_,_,hf⟩,.all fun us hl=>?_⟩
 ·have hl1:=len _ _ _ _ hsp
  match vs,hl1 with
  | [v],_=>
   obtain ⟨u,rfl,rv⟩:=qaP r
   have lim:s.heap.NoLimit:=e0.mod.nolimit.keeps fun b o e=>(e0.bs b o e).1
   obtain ⟨hc,t,ht,hq⟩:=hbody clos A outer s H v Q E (hr.deeper _) hsp
   refine PySem.W.kla_callFunE hr.depth (e0.bs _ _ hf).1 rfl S.co S.gen rfl (CodeO.at e0.hok hc) (hb _ _ _ _ ?_)
   refine wpAny_newFunctionEnv S.nocell (fun y hy=>?_) (fun h' hns hsb=>?_) S.kind
   ·have e:y=(p,u):=by simpa using hy
    subst e
    exact S.par
   ·have hk:∀ b o,s.heap.get? b=some o->h'.get? b=some o:=fun b o e=>hsb.extBut b o (Nat.ne_of_lt (Heap.lt_size e)) (Heap.get?_push_of_some _ e)
    refine ⟨lim.keeps hk,PySem.W.kla_codeExpr ?_⟩
    have I:=qj3 (CX:=CX0) (E:=E) (f:=f) (cd:=.ref c) (qual:=qual) (tk:=s.toks+([p].zip [u]).length) S hr.hd e0 rv hl inj has cel vals hns hk
    refine wpAny_mono (ht.nox [] _ _ H _ I hq) (fun u' s' hs=>?_) fun e s' hs=>hs
    obtain ⟨v',H',J,rv',q⟩:=hs
    exact ⟨v',H',J.os,J.bare,J.base,J.hok,rv',q⟩
 ·match us,hl with
  | [u],_=>exact hbind clos pm ctv u
section
variable {X:Cx} {p pos:Pos} {e:Expr} {es:List Expr} {t:TA}
def qmQ (i:Nat) (f:Addr) (sp:Sp) (t:TA):TE:=fun σ H Q=>σ[i]? = some (some (.ref f))/\t σ H fun vs H1=>sp vs H1 Q E0
theorem qkf (x:Str) (i:Nat) {P':Program} {w':World} {K':PySem.W.Frag} {mg':Str->Option Value} {base':Heap} {f:Addr} {k:Nat} {y:Str} {sp:Sp} (V:qmG P' w' K' mg' base' f k y sp)
  (hX:X.prog=P'/\X.w=w'/\X.K=K'/\X.mg=mg'/\X.base=base') (hr:Room k X.A) (ha:PA X (e :: es) t) (hN:X.N[i]? = some x:=by with_unfolding_all rfl) (hv:qkx X.env.scope x=true:=by kernel_rfl)
  (he:starEach (e :: es) X.env=(false,eval e X.env) :: starEach es X.env:=by kernel_rfl) (hpl:(backTo pos (starEach es X.env)).any (·.1)=false:=by kernel_rfl) :
  PE X (.Call (.Name x p) (e :: es) [] pos) (qmQ i f sp t):=by
 obtain ⟨rfl,rfl,rfl,rfl,rfl⟩:=hX
 obtain ⟨fd,F,⟨oc,od,sl,hf⟩,b⟩:=V
 intro pins s σ H Q I h
 obtain ⟨ef,h⟩:=h
 refine wpAny_Call_Name_kw (thn ((vn (X:=X) (pos:=p) x i hN hv) pins s σ H (fun v H'=>v = .ref f/\H'=H) I ?_) fun u s1 ⟨v,H1,I1,r1,q1,q2⟩=>?_)
 ·unfold tV
  rw [ef]
  exact ⟨rfl,rfl⟩
 ·subst q1
  subst q2
  cases r1
  have go:wpAny (model X.prog X.w) X.A (spliced (backTo pos (starEach (e :: es) X.env))) (fun vs s₁=>s₁.heap.get? f=some ⟨oc,od,.func fd,sl⟩/\wpAny (model X.prog X.w) X.A (call (.ref f) vs) (EP X pins σ Q) X.xe s₁) X.xe s1:=
   thn (ha pos pins s1 σ H1 _ I1 h) fun us s2 ⟨vs,H2,I2,r,q⟩=>⟨I2.bk _ _ hf,qip (dvs:=[]) (E:=E0) F hr b .nil qlv I2 r (by rw [List.append_nil];exact q)⟩
  rw [he] at go ⊢
  exact PySem.W.callWith_of (P:=fun h=>h.get? f=some ⟨oc,od,.func fd,sl⟩) (first:=[]) (by show ((false || (backTo pos (starEach es X.env)).any (·.1)) || false)=false;rw [hpl];rfl)
   (fun h hh=>⟨.frame,.inl rfl,(PySem.W.Looks.ld (part:=none) hh).andThen .now⟩) (Calls.evalArgs_plain go)
end
end L2
end
section
namespace L2
open PySem PySem.Spec PyProof.Rows
structure Maker (mg:Str->Option Value) (base:Heap) (c P:Addr):Prop where
 bm:∃ bm ob,mg "__builtins__" = some (.ref bm)/\bm≠builtinsNs/\base.get? bm=some ob/\ob.cls = .type "module"/\ob.dict=some builtinsNs/\ob.data = .plain
 hd:PySem.W.CodeHd base c P
theorem Maker.keeps {mg:Str->Option Value} {base base':Heap} {c P:Addr} (M:Maker mg base c P) (k:∀ b o,base.get? b=some o->base'.get? b=some o):Maker mg base' c P:=
 ⟨let ⟨bm,ob,a,b,e,r⟩:=M.bm;⟨bm,ob,a,b,k _ _ e,r⟩,M.hd.keeps k⟩
def Tab (P:Addr) (pos:Pos) (qual:Str) (H:Hp):Prop:=H P=some (.tbl #[])\/∃ c,H P=some (.tbl #[rawInt pos.line,rawInt pos.col,.ref c])/\H c=some (CodeO c qual)
def SameT (P:Addr) (H H':Hp):Prop:=∀ b o,b≠P->H b=some o->H' b=some o
theorem SameT.refl (P:Addr) (H:Hp):SameT P H H:=fun _ _ _ h=>h
theorem SameT.trans {P:Addr} {H H1 H2:Hp} (a:SameT P H H1) (b:SameT P H1 H2):SameT P H H2:=fun c o n h=>b c o n (a c o n h)
theorem Same.t {P:Addr} {H H':Hp} (a:Same H H'):SameT P H H':=fun c o _ h=>a c o h
theorem Tab.mono {P:Addr} {pos:Pos} {qual:Str} {H H':Hp} (t:Tab P pos qual H) (s:Same H H'):Tab P pos qual H':=by
 rcases t with e | ⟨c,e1,e2⟩
 ·exact .inl (s _ _ e)
 ·exact .inr ⟨c,s _ _ e1,s _ _ e2⟩
theorem qkG {Pg:Program} {w:World} {fs ex:List Addr} {H:Hp} {h h':Heap} {P c:Addr} {ps more:Array Value} {q:Str} (ok:HOk Pg w H h) (e:H P=some (.tbl ps)) (k:∀ b o,b≠P->h.get? b=some o->h'.get? b=some o) (hP:h'.get? P=some (PySem.W.tabObj (ps++more)))
  (hc:h.objs.size<=c):Un fs ex H (upd (upd H P (.tbl (ps++more))) c (CodeO c q)) h h':=by
 have nc:=ok.fresh hc
 have cP:c≠P:=fun z=>by rw [z,e] at nc;cases nc
 have at':∀ b o,b≠P->H b=some o->upd (upd H P (.tbl (ps++more))) c (CodeO c q) b=some o:=fun b o n g=>by
  rw [qab (qac g nc),qab n]
  exact g
 have un:∀ b,H b=none->b≠P:=fun b n z=>by rw [z,e] at n;cases n
 refine ⟨fun b o g n _ _=>k b o (un b n) g,fun b o g n _ _=>⟨o.slots,k b o (un b n) g⟩,fun b o g n _=>?_,fun b o g _=>?_,fun b xs g=>at' b _ (fun z=>by rw [z,e] at g;cases g) g,fun b o u g=>at' b _ (fun z=>by rw [z,e] at g;cases g) g,fun b qs g=>?_⟩
 ·rw [qab (Nat.ne_of_lt (Nat.lt_of_lt_of_le (Heap.lt_size g) hc)),qab (un b n)]
  exact n
 ·by_cases z:b=P
  ·rw [z];exact ⟨_,hP⟩
  ·exact ⟨o,k b o z g⟩
 ·by_cases z:b=P
  ·subst z
   rw [e] at g
   cases g
   exact ⟨more,by rw [qab (Ne.symm cP),qaa]⟩
  ·exact ⟨#[],by rw [at' b _ z g];simp⟩
theorem qiQ {Pg:Program} {w:World} {H:Hp} {h h':Heap} {P c:Addr} {ps more:Array Value} {q:Str} (ok:HOk Pg w H h) (e:H P=some (.tbl ps)) (k:∀ b o,b≠P->h.get? b=some o->h'.get? b=some o) (hP:h'.get? P=some (PySem.W.tabObj (ps++more)))
  (hc:h.objs.size<=c) (rec:h'.CodeRec (.ref c) q):HOk Pg w (upd (upd H P (.tbl (ps++more))) c (CodeO c q)) h':=by
 have nc:=ok.fresh hc
 have cP:c≠P:=fun z=>by rw [z,e] at nc;cases nc
 have at':∀ b o,b≠P->H b=some o->upd (upd H P (.tbl (ps++more))) c (CodeO c q) b=some o:=fun b o n g=>by
  rw [qab (qac g nc),qab n]
  exact g
 intro a o g
 by_cases z:a=c
 ·subst z
  rw [qaa] at g
  cases g
  exact CodeO.mk rec
 ·rw [qab z] at g
  by_cases y:a=P
  ·subst y
   rw [qaa] at g
   cases g
   exact hP
  ·rw [qab y] at g
   refine (ok a o g).stay (fun b u hb r=>k b u ?_ r) (fun b r=>at' b _ (fun z=>by rw [z,e] at r;cases r) r) fun b xs r=>at' b _ (fun z=>by rw [z,e] at r;cases r) r
   rintro rfl
   rcases hb with rfl | hb
   ·exact y rfl
   ·rw [e] at hb;cases hb
section
variable {X:Cx} {pins:List (Addr×Obj)} {σ:St} {H:Hp} {s:Shared}
theorem qh2 {params:Arguments} {body:Expr} {scope:Scope} {pos:Pos} {c P:Addr} {Q:Value->Shared->Prop} (I:Inv X pins σ H s) (M:Maker X.mg X.base c P) (hcd:X.env.code = .ref c) (hdef:defaultsOf params X.env=([],[]))
  (tb:Tab P pos (X.env.qual++"<lambda>") H) (hfr:∀ y∈scope.names,y.2 = .free->∃ d,X.env.cells.lookup y.1=some d)
  (h:∀ (f c':Addr) (clos:List (Str×Addr)) (pm ctv:Value) (H2:Hp) (s2:Shared),Inv X pins σ H2 s2->SameT P H H2->H2 P=some (.tbl #[rawInt pos.line,rawInt pos.col,.ref c'])->H2 c'=some (CodeO c' (X.env.qual++"<lambda>"))->H2 f=none →
   s2.heap.get? f=some (PySem.W.kla_obj "<lambda>" (X.env.qual++"<lambda>") params body scope clos pm c' ctv)->s.heap.objs.size<=f->(∀ x d,clos.lookup x=some d->X.env.cells.lookup x=some d)->(∀ y∈scope.names,y.2 = .free->∃ d,clos.lookup y.1=some d)->Q (.ref f) s2) :
  wpAny (model X.prog X.w) X.A (eval (.Lambda params body scope pos) X.env) Q X.xe s:=by
 refine PySem.W.kla_eval hdef ?_
 obtain ⟨clos,hcl,hc1,hc2⟩:=qbA hfr
 have hgs:=I.mod.glob.keeps I.bk
 obtain ⟨bm,ob,b1,b2,b3,b4,b5,b6⟩:=M.bm
 have hbm:=I.bk _ _ b3
 have hbG:bm≠mainGlobals:=fun q=>by
  obtain ⟨o,es,ep,e,hd,_⟩:=hgs
  rw [q,e] at hbm;cases hbm;rw [hd] at b6;cases b6
 have side:∀ {ps:Array Value},s.heap.get? P=some (PySem.W.tabObj ps)->mainGlobals≠P/\s.heap.BuiltinsAt X.mg P:=fun {ps} hP=>by
  refine ⟨fun q=>?_,bm,ob,b1,b2,hbG,fun q=>?_,hbm,b4,b5,b6⟩
  ·obtain ⟨o,es,ep,e,hd,_⟩:=hgs
   rw [q,hP] at e;cases e;cases hd
  ·rw [q,hP] at hbm;cases hbm;cases b4
 rcases tb with e | ⟨c',e1,e2⟩
 ·have hP:s.heap.get? P=some (PySem.W.tabObj #[]):=I.hok P _ e
  obtain ⟨g1,g2⟩:=side hP
  refine PySem.W.kla_makeFunction (mg:=X.mg) hcl I.ok.glob hgs hcd (M.hd.keeps I.bk) hP trivial rfl g1 g2 fun c' ctv h' tk hx hge hlt hrec htb=>?_
  have k:∀ (o:Obj) b u,b≠P->s.heap.get? b=some u->(h'.push o).get? b=some u:=fun o b u n g=>Heap.get?_push_of_some _ (hx b u n g)
  have hf:s.heap.objs.size<=h'.objs.size:=Nat.le_of_lt (Nat.lt_of_le_of_lt hge hlt)
  have nf:=I.hok.fresh hf
  have cP:c'≠P:=fun z=>by have:=I.hok.fresh hge;rw [z,e] at this;cases this
  have J:=I.un (t':=tk) (qkG (fs:=X.fs) (ex:=[]) (more:=#[rawInt pos.line,rawInt pos.col,.ref c']) (q:=X.env.qual++"<lambda>") I.hok e (k _) (Heap.get?_push_of_some (PySem.W.kla_obj "<lambda>" (X.env.qual++"<lambda>") params body scope clos ((X.mg "__name__").getD .none) c' ctv) htb) hge)
   (qiQ I.hok e (k _) (Heap.get?_push_of_some _ htb) hge (hrec.push _))
  refine h h'.objs.size c' clos _ ctv _ _ J (fun b o n g=>?_) ?_ qaa ?_ (Heap.get?_push_size _ rfl) hf hc1 hc2
  ·rw [qab (qac g (I.hok.fresh hge)),qab n]
   exact g
  ·rw [qab (Ne.symm cP),qaa]
   simp
  ·rw [qab (Nat.ne_of_gt hlt),qab (fun z=>by rw [z,e] at nf;cases nf)]
   exact nf
 ·have hP:s.heap.get? P=some (PySem.W.tabObj #[rawInt pos.line,rawInt pos.col,.ref c']):=I.hok P _ e1
  obtain ⟨g1,g2⟩:=side hP
  refine PySem.W.kla_makeFunctionHit (mg:=X.mg) hcl I.ok.glob hgs hcd (M.hd.keeps I.bk) hP (TriplesOk_snoc _ _ _ [] trivial) (codeAmong_snoc [] trivial rfl) g2 fun ctv h' tk hk hsz=>?_
  have J:=I.kept (t':=tk) (h':=h'.push (PySem.W.kla_obj "<lambda>" (X.env.qual++"<lambda>") params body scope clos ((X.mg "__name__").getD .none) c' ctv)) fun b u g=>Heap.get?_push_of_some _ (hk b u g)
  exact h h'.objs.size c' clos _ ctv H _ J (SameT.refl _ _) e1 e2 (I.hok.fresh hsz) (Heap.get?_push_size _ rfl) hsz hc1 hc2
def qdS (X:Cx) (h:Heap) (H:Hp):Heap:=PySem.W.hideAll h (trk h H++frs X.stack)
theorem qbU {h:Heap} {b:Addr} {o:Obj} (e:h.get? b=some o) (n:H b=none) (f:b ∉ frs X.stack):(qdS X h H).get? b=some o:=
 PySem.W.hideAll_get _ e fun hm=>by
  rcases mA_ hm with hm | hm
  ·have q:(H b).isSome=true:=(List.mem_filter.mp hm).2
   rw [n] at q;simp at q
  ·exact f hm
theorem qeM {h:Heap} {b:Addr} {o:Obj} (e:(qdS X h H).get? b=some o):h.get? b=some o/\H b=none/\b ∉ frs X.stack:=by
 have e':h.get? b=some o:=PySem.W.of_hideAll _ e
 have nm:b ∉ trk h H++frs X.stack:=fun hm=>by rw [show (qdS X h H).get? b=none from PySem.W.hideAll_none _ hm] at e;cases e
 refine ⟨e',?_,fun z=>nm (List.mem_append_right _ z)⟩
 cases q:H b with
 | none=>rfl
 | some x=>exact absurd (List.mem_append_left _ (List.mem_filter.mpr ⟨List.mem_range.mpr (Heap.lt_size e'),by simp [q]⟩)) nm
theorem Inv.nostk (I:Inv X pins σ H s) {b:Addr} {o:Obj} (e:X.base.get? b=some o):b ∉ frs X.stack:=fun hb=>by
 have:=(I.stack.mem hb).1
 rw [e] at this;cases this
theorem Inv.wide (I:Inv X pins σ H s):(∀ b o,X.base.get? b=some o->(qdS X s.heap H).get? b=some o):=fun b o e=>qbU (I.bs b o e).1 (I.bs b o e).2 (I.nostk e)
theorem qbc {h base base':Heap}:∀ {l:List Env},h.FunFrames base l->(∀ b∈frs l,base'.get? b=none)->h.FunFrames base' l
 | [],_,_=>trivial
 | env :: r,⟨hk,⟨L,o,hf,hn,ho,hd⟩,hr⟩,k=>by
  have hL:L∈frs (env :: r):=by unfold frs;rw [List.filterMap_cons,hf];exact List.mem_cons_self
  exact ⟨hk,⟨L,o,hf,k L hL,ho,hd⟩,qbc hr fun b hb=>k b (by unfold frs;rw [List.filterMap_cons,hf];exact mC_ _ hb)⟩
theorem Mod.keeps {K:PySem.W.Frag} {mg:Str->Option Value} {base base':Heap} (M:Mod K mg base) (k:∀ b o,base.get? b=some o->base'.get? b=some o):Mod K mg base':=
 ⟨M.kin.keeps k,M.glob.keeps k,let ⟨mb,a,b⟩:=M.blt;⟨mb,a.keeps k,b⟩,M.nolimit.keeps k⟩
theorem Inv.env1 (I:Inv X pins σ H s):Env0 X.prog X.w X.K X.mg (qdS X s.heap H) X.A X.stack s H:=
 ⟨I.ok.frames,I.mod.keeps I.wide,fun b o e=>⟨(qeM e).1,(qeM e).2.1⟩,Nat.le_of_eq (PySem.W.hideAll_size _ _),qbc I.stack fun b hb=>PySem.W.hideAll_none _ (List.mem_append_right _ hb),I.stkFree,I.hok,I.bare⟩
end
section
variable {X:Cx} {p pos lp:Pos} {a:Expr} {ta:TE}
def qn9 (P:Addr) (lp:Pos) (qual:Str) (js:List Nat) (sp:Addr->Addr->List V->Sp) (ta:TE):TE:=fun σ H Q=>ta σ H fun x H1=>Tab P lp qual H1/\∃ fvs:List V,js.map (fun j=>σ[j]?)=fvs.map (fun v=>some (some v)) ∧
 ∀ f c H2,SameT P H1 H2->H2 P=some (.tbl #[rawInt lp.line,rawInt lp.col,.ref c])->H2 c=some (CodeO c qual)->H2 f=none->sp f c fvs [x,.ref f] H2 Q E0
theorem qgT (x:Str) {params:Arguments} {body:Expr} {scope:Scope} {c P:Addr} {F:List Str} {js:List Nat} {k:Nat} {ps:List Str} {sp:Addr->Addr->List V->Sp} (hm:∃ f,X.mg x=some (.ref f)/\PySem.W.keepIn X.K (.ref f)=true) (M:Maker X.mg X.base c P) (hcd:X.env.code = .ref c)
  (hF:∀ (i:Nat) y,F[i]? = some y->∃ j,js[i]? = some j/\X.N[j]? = some y/\X.env.scope.names.lookup y=some .cell) (hFn:F.length=js.length) (hFs:∀ y∈F,scope.names.lookup y=some .free) (hfn:∀ y,X.fn y=true) (hfree:∀ y∈scope.names,y.2 = .free->X.env.scope.names.lookup y.1=some .cell)
  (hC:∀ (B:Heap) (f c':Addr) (fvs:List V),Mod X.K X.mg B->(∀ b o,X.base.get? b=some o->B.get? b=some o)->F.length=fvs.length->qii B f params body scope (X.env.qual++"<lambda>") c' F fvs->Can X.prog X.w X.K X.mg B x k ps (sp f c' fvs))
  (hr:Room k X.A) (ha:PE X a ta) (hg:gB X x=true) (hdef:defaultsOf params X.env=([],[])) (hdb:(x == ("__debug__" : Str))=false)
  (he:starEach [a,.Lambda params body scope lp] X.env=[(false,eval a X.env),(false,eval (.Lambda params body scope lp) X.env)]) :
  PE X (.Call (.Name x p) [a,.Lambda params body scope lp] [] pos) (qn9 P lp (X.env.qual++"<lambda>") js sp ta):=by
 obtain ⟨tf,hm,hk⟩:=hm
 intro pins s σ H Q I h
 refine wpAny_Call_Name_kw (qgy I (qaz hg) hm ?_ hdb)
 have go:wpAny (model X.prog X.w) X.A (spliced (backTo pos (starEach [a,.Lambda params body scope lp] X.env))) (fun vs s₁=>X.K.In s₁.heap/\wpAny (model X.prog X.w) X.A (call (.ref tf) vs) (EP X pins σ Q) X.xe s₁) X.xe s:=by
  rw [he]
  refine Calls.spliced_cons (thn (ha pins s σ H _ I h) fun u s1 ⟨v,H1,I1,r1,q1⟩=>?_)
  obtain ⟨tb,fvs,hv,q⟩:=q1
  refine Calls.spliced_cons (qh2 I1 M hcd hdef tb (fun y hy hz=>I1.ok.has _ (.inl (hfree y hy hz))) fun f c' clos pm ctv H2 s2 I2 sm e1 e2 nf hf hge cl1 cl2=>Calls.spliced_nil ⟨I2.kIn,?_⟩)
  have ls:F.length=fvs.length:=by
   have:=congrArg List.length hv
   rw [lM_,lM_] at this
   omega
  have nst:f ∉ frs X.stack:=fun hb=>by
   obtain ⟨_,o,ho,_⟩:=I1.stack.mem hb
   exact absurd (Heap.lt_size ho) (Nat.not_lt.mpr hge)
  have cellB:∀ {y:Str} {d:Addr} {z:Option Value},X.env.cells.lookup y=some d->s2.heap.IsCell d z->(qdS X s2.heap H2).IsCell d z:=fun {y d z} hd ⟨o,eo,od⟩=>by
   refine ⟨o,qbU eo (I2.freeC y d hd) fun hb=>?_,od⟩
   rcases List.mem_cons.mp (I2.stkSub d hb) with z1 | z1
   ·exact I2.cne y d hd z1
   ·obtain ⟨_,o',ho',_⟩:=I2.ok.funs.mem z1
    exact absurd (Heap.lt_size ho') (Nat.not_lt.mpr (I2.ok.cab y d (hfn y) hd))
  have L:qii (qdS X s2.heap H2) f params body scope (X.env.qual++"<lambda>") c' F fvs:=by
   refine ⟨pm,ctv,clos,qbU hf nf nst,fun y z d h1 h2=>I2.ok.inj y z d (cl1 y d h1) (cl1 z d h2),cl2,fun y d hd=>?_,fun i y v' hi hv'=>?_⟩
   ·obtain ⟨z,hz⟩:=I2.cell y d (cl1 y d hd)
    exact ⟨z,cellB (cl1 y d hd) hz⟩
   ·obtain ⟨j,hj,hN,hc⟩:=hF i y hi
    have ej:σ[j]? = some (some v'):=by
     have:=congrArg (·[i]?) hv
     simp only [gM_,hj,hv',Option.map_some] at this
     exact oI_ this
    obtain ⟨m,_,hloc⟩:=I2.loc
    obtain ⟨u',ru,lk⟩:=hloc j y v' hN ej (.inr (.inl hc))
    rcases lk with ⟨k1,_⟩ | ⟨_,d,hd,hcell⟩
    ·have k1:X.env.scope.names.lookup y=some .local:=k1
     rw [hc] at k1;cases k1
    ·obtain ⟨d',hd'⟩:=cl2 (y,.free) (PySem.mem_of_lookup (hFs y (mO_ hi))) rfl
     have:=cl1 y d' hd'
     rw [hd] at this
     cases this
     exact ⟨d,u',hd',cellB hd hcell,ru⟩
  obtain ⟨f',fd,Fk,hm',hk',hb⟩:=hC _ f c' fvs I2.env1.mod I2.wide ls L
  rw [hm] at hm'
  cases hm'
  have r2:Vals [v,.ref f] [u,.ref f]:=.cons r1 (.cons rfl .nil)
  have hq:=q f c' H2 sm e1 e2 nf
  have hl:([u,Value.ref f]++[]).length=ps.length:=by rw [List.append_nil,<-r2.length];exact Fk.len _ _ _ _ hq
  refine wpAny_call (codeAny_mono (Fk.run X.A X.stack s2 H2 ⟨[u,.ref f],[]⟩ ([u,.ref f]++[]) [v,.ref f] Q E0 hr I2.env1 (hb s2 _ I2.kIn hl) (by rw [List.append_nil];exact r2) hq) fun r s' hq=>?_)
  cases r with
  | error e=>exact hq.elim
  | ok fl=>
   cases fl with
   | ret u=>exact I2.after hq
   | next=>exact False.elim hq
   | brk=>exact False.elim hq
   | cont=>exact False.elim hq
 rw [he] at go ⊢
 exact PySem.W.callWith_of (P:=fun h=>X.K.In h) (first:=[]) rfl (PySem.W.keeps_K hk) (Calls.evalArgs_plain go)
end
end L2
end
section
namespace Om
def once {α:Type} [DecidableEq α] (l:List α):List α:=l.foldl (fun acc x=>if x∈acc then acc else acc++[x]) []
section
variable {α:Type} [DecidableEq α]
theorem snocInd {P:List α->Prop} (h0:P []) (h1:∀ l x,P l->P (l++[x])) (l:List α):P l:=by
 have all:∀ (n:Nat) (l:List α),l.length=n->P l:=by
  intro n
  induction n with
  | zero=>intro l e;rw [List.length_eq_zero_iff.mp e];exact h0
  | succ n ih=>
   intro l e
   have ne:l≠[]:=fun z=>by rw [z] at e;cases e
   rw [<-List.dropLast_concat_getLast ne]
   exact h1 _ _ (ih _ (by rw [List.length_dropLast];omega))
 exact all _ l rfl
theorem once_snoc (l:List α) (x:α):once (l++[x])=if x∈once l then once l else once l++[x]:=by unfold once;rw [List.foldl_append];rfl
theorem once_le (l:List α):(once l).length<=l.length:=by
 induction l using snocInd with
 | h0=>exact Nat.le_refl _
 | h1 l x ih=>
  rw [once_snoc]
  split
  ·rw [lA_];exact Nat.le_trans ih (Nat.le_add_right _ _)
  ·rw [lA_,lA_];exact Nat.add_le_add_right ih _
theorem mem_once (l:List α) (y:α):y∈once l↔y∈l:=by
 induction l using snocInd with
 | h0=>exact Iff.rfl
 | h1 l x ih=>
  rw [once_snoc,List.mem_append,List.mem_singleton]
  split
  ·rename_i h
   exact ⟨fun z=>.inl (ih.mp z),fun z=>z.elim ih.mpr fun e=>e ▸ h⟩
  ·rw [List.mem_append,List.mem_singleton,ih]
theorem once_len (l:List α):(once l).length=l.length↔l.Nodup:=by
 induction l using snocInd with
 | h0=>exact ⟨fun _=>List.nodup_nil,fun _=>rfl⟩
 | h1 l x ih=>
  rw [once_snoc,List.nodup_append,lA_]
  have le:=once_le l
  by_cases h:x∈once l
  ·rw [if_pos h]
   constructor
   ·intro e;simp at e;omega
   ·rintro ⟨_,_,d⟩
    exact absurd rfl (d x ((mem_once l x).mp h) x (by simp))
  ·rw [if_neg h,lA_]
   constructor
   ·intro e
    refine ⟨ih.mp (by simpa using e),by simp,fun a ha b hb e2=>?_⟩
    have:b=x:=by simpa using hb
    subst this
    subst e2
    exact h ((mem_once l a).mpr ha)
   ·rintro ⟨nd,_,_⟩
    rw [ih.mpr nd]
end
end Om
namespace L2
open PySem PySem.Spec PyProof.Rows
section
variable {prog:Program} {w:World} {A:Around} {I:Addr} {fp wr:List Addr} {G:Array GenState->Array GenState->Prop} {n:Nat} {P:Nat->Value->Prop} {St:Nat->Shared->Prop} {κ:Type} [DecidableEq κ] {knd:KeyKind prog w κ}
theorem qaT {h h':Heap} {S:Addr} {M:κ->Bool} {m:Nat} (x:h.SetOf knd S M m) (k:∀ o,h.get? S=some o->h'.get? S=some o):h'.SetOf knd S M m:=by
 obtain ⟨o,es,ep,t,ho,r⟩:=x
 exact ⟨o,es,ep,t,k o ho,r⟩
theorem qfK (W:WalksS prog w A.in1 I fp wr G n P St) (S:Addr) (hSf:S ∉ fp) (ks:List κ) (hn:ks.length=n) (hval:∀ i v,P i v->∃ x,ks[i]? = some x/\knd.is x v=true/\v.scannable=true) (hb:n+1 < scanBound) {R:Result->Shared->Prop} :
  ∀ (m i:Nat) (s:Shared),n - i=m->i<=n->St i s->s.heap.SetOf knd S (fun x=>decide (x∈Om.once (ks.take i))) (Om.once (ks.take i)).length →
   (∀ s',Moved (S :: wr) G s s'->s'.heap.SetOf knd S (fun x=>decide (x∈Om.once ks)) (Om.once ks).length->R (.ok (.ret .none)) s') →
   codeAny (model prog w) A (.builtin "set.update.loop" ⟨[.ref S,.ref I],[]⟩) R s:=by
 have nw:S ∉ wr:=fun h=>hSf (W.sub _ h)
 have up:∀ b∈wr,b∈S :: wr:=fun b hb=>mC_ _ hb
 intro m
 induction m with
 | zero=>
  intro i s hm hi st x out
  obtain rfl:i=n:=by omega
  refine codeAny_builtin F.entry_set_update_loop ?_
  rw [Around.under_plainId F.plain_set_update_loop _]
  show wpAny _ A.in1 (pyNext (.ref I) >>= _) _ _ s
  refine wpAny_bind (W.done s _ _ st fun s1 mv=>?_)
  show wpAny _ A.in1 (ret Value.none) _ _ s1
  rw [List.take_of_length_le (by omega)] at x
  exact wpAny_pure (out s1 (mv.mono up) (qaT x fun o e=>mv.heap S o nw e))
 | succ m ih=>
  intro i s hm hi st x out
  have lt:i < n:=by omega
  refine codeAny_builtin F.entry_set_update_loop ?_
  rw [Around.under_plainId F.plain_set_update_loop _]
  show wpAny _ A.in1 (pyNext (.ref I) >>= _) _ _ s
  refine wpAny_bind (W.item i s _ _ lt st fun v s1 hv st1 mv=>?_)
  obtain ⟨y,hy,ky,sy⟩:=hval i v hv
  have x1:=qaT (h':=s1.heap) x fun o e=>mv.heap S o nw e
  show wpAny _ A.in1 (holding [v] (setAdd S v) >>= _) _ _ s1
  refine wpAny_bind (wpAny_holding ?_)
  unfold setAdd
  refine wpAny_holding (wpAny_bind (knd.pyHash ky ?_))
  have rm:(Om.once (ks.take i)).length+1 < scanBound:=by
   have h1:=Om.once_le (ks.take i)
   have h2:(ks.take i).length<=i:=by rw [List.length_take];exact Nat.min_le_left _ _
   omega
  refine wpAny_setAddHashed_of (knd:=knd) (s:={ s1 with toks:=s1.toks+1 }) ky sy x1 rm fun h2 sb x2=>?_
  have tk:ks.take (i+1)=ks.take i++[y]:=by rw [List.take_succ,hy];rfl
  have x3:h2.SetOf knd S (fun x=>decide (x∈Om.once (ks.take (i+1)))) (Om.once (ks.take (i+1))).length:=by
   rw [tk,Om.once_snoc]
   by_cases hm2:y∈Om.once (ks.take i)
   ·rw [if_pos hm2]
    rw [if_pos (by simpa using hm2)] at x2
    refine (congrArg (fun M=>h2.SetOf knd S M (Om.once (ks.take i)).length) (funext fun z=>?_)).mp x2
    by_cases e:z=y
    ·subst e;simp [hm2]
    ·simp [e]
   ·rw [if_neg hm2,lA_]
    rw [if_neg (by simpa using hm2)] at x2
    refine (congrArg (fun M=>h2.SetOf knd S M ((Om.once (ks.take i)).length+1)) (funext fun z=>?_)).mp x2
    rw [Bool.eq_iff_iff]
    simp [List.mem_append]
  refine wpAny_pure ⟨plainId_quiet F.plain_set_update_loop _,ih (i+1) _ (by omega) lt (W.frame _ s1 _ _ st1 (Nat.le_succ _) fun b hb o e=>?_) x3 fun s2 mv2 x4=>?_⟩
  ·rw [sb.2 b fun h:b=S=>hSf (h ▸ hb)]
   exact e
  ·refine out s2 (Moved.trans W.gtrans ((mv.mono up).then_heap (Nat.le_succ _) fun b o hb e=>?_) mv2) x4
   rw [sb.2 b fun h:b=S=>hb (h ▸ List.mem_cons_self)]
   exact e
theorem qcl {E:Value->Shared->Prop} {s:Shared} {l:Addr} {items:Array Value} {ks:List κ} {Q:Value->Shared->Prop} (hh:A.handled=none) (hl:s.heap.IsList l items) (hn:ks.length=items.size)
  (hi:∀ (i:Nat) v,items[i]? = some v->∃ x,ks[i]? = some x/\knd.is x v=true/\v.scannable=true) (hb:items.size+1 < scanBound)
  (h:∀ (h':Heap) (tk:Nat),h'.SetOf knd s.heap.objs.size (fun x=>decide (x∈Om.once ks)) (Om.once ks).length->(∀ b o,s.heap.get? b=some o->h'.get? b=some o)->Q (.ref s.heap.objs.size) { s with heap:=h',toks:=tk }) :
  wpAny (model prog w) A (call (.type "set") [.ref l]) Q E s:=by
 obtain ⟨c,tl,m1⟩:=PySem.F.called_set.mro
 have m2:=PySem.F.called_set.made
 have m3:=PySem.F.called_set.sub
 refine wpAny_call (codeAny_of_tree ?_)
 show wpAny _ _ (callAny (.type "set") _) _ _ _
 refine wpAny_pure ⟨Code.quiet_builtin _ (by decide +kernel),codeAny_builtin PySem.F.entry_type_call ?_⟩
 rw [Around.under_plain (weight_type_call_type "set" [.ref l] []) rfl]
 have t1:=PySem.F.called_set.notType
 have t2:=PySem.F.called_set.canCreate
 have t3:=PySem.F.typeCall_set_1 (.ref l)
 repeat (any_goals (first | assumption | wp_step))
 refine codeAny_mono (code_set_new_1 (.ref l) (E:=E) (Q₁:=fun ob s1=>∃ led:Bool,ob = .ref s.heap.objs.size/\s1={ s with heap:=s.heap.push { cls:=.type "set",dict:=none,data:=.set #[] 0 (.fresh 0 0 led) } }) fun led=>⟨led,rfl,rfl⟩) fun r s1 hr=>?_
 cases r with
 | error e=>exact hr
 | ok fl=>
  cases fl with
  | ret ob=>
   obtain ⟨led,rfl,rfl⟩:=hr
   have at0:(s.heap.push { cls:=.type "set",dict:=none,data:=.set #[] 0 (.fresh 0 0 led) }).get? s.heap.objs.size=some { cls:=.type "set",dict:=none,data:=.set #[] 0 (.fresh 0 0 led) }:=Heap.get?_push_size _ rfl
   have ty:Shared.TypeIs { s with heap:=s.heap.push { cls:=.type "set",dict:=none,data:=.set #[] 0 (.fresh 0 0 led) } } (.ref s.heap.objs.size) "set" := ⟨_,at0,rfl⟩
   have i1:=PySem.F.called_set.init.lookup
   have i2:=PySem.F.called_set.init.bind (.ref s.heap.objs.size)
   repeat (any_goals (first | assumption | wp_step))
   refine codeAny_mono (codeAny_call_builtin (R:=wants (fun r s2=>r = .none/\∃ h' tk,s2={ s with heap:=h',toks:=tk }/\h'.SetOf knd s.heap.objs.size (fun x=>decide (x∈Om.once ks)) (Om.once ks).length/\∀ b o,s.heap.get? b=some o->h'.get? b=some o) E)
    PySem.F.called_set.init.plain PySem.F.entry_set_init (check_set_init_1 ty ?_)) fun r2 s2 hr2=>?_
   ·have l1:(s.heap.push { cls:=.type "set",dict:=none,data:=.set #[] 0 (.fresh 0 0 led) }).IsList l items:=hl.push _
    have lS:l < s.heap.objs.size:=by obtain ⟨ol,e,_⟩:=hl;exact Heap.lt_size e
    obtain ⟨ol,e0,ec,nl,ed⟩:=hl
    obtain ⟨oc,od,dt,sl⟩:=ol
    simp only at ec ed
    subst ec
    subst ed
    have e1:(s.heap.push { cls:=.type "set",dict:=none,data:=.set #[] 0 (.fresh 0 0 led) }).get? l=some { cls:=.type "list",dict:=od,data:=.seq items nl,slots:=sl }:=Heap.get?_push_of_some _ e0
    have u1:=PySem.F.sub_list_set
    have u2:=PySem.F.sub_list_frozenset
    have u3:(Value.type "list" == Value.type "dict")=false:=by decide
    unfold Builtin.«set.__init__» noKeywords Builtin.Frozenset.updateFrom
    generalize ePI:pyIter=PI
    wp_walk
    subst ePI
    refine wpAny_pyIter_list l1 ?_
    refine wpAny_bind (wpAny_runValue ?_)
    have z1:(s.heap.push { cls:=.type "set",dict:=none,data:=.set #[] 0 (.fresh 0 0 led) }).objs.size=s.heap.objs.size+1:=Heap.size_push _ _
    have nI:l≠(s.heap.push { cls:=.type "set",dict:=none,data:=.set #[] 0 (.fresh 0 0 led) }).objs.size:=by rw [z1];exact Nat.ne_of_lt (Nat.lt_succ_of_lt lS)
    have nS:s.heap.objs.size ∉ [(s.heap.push { cls:=.type "set",dict:=none,data:=.set #[] 0 (.fresh 0 0 led) }).objs.size,l]:=by
     rw [z1]
     intro hm
     rcases List.mem_cons.mp hm with z | z
     ·exact absurd z (Nat.ne_of_lt (Nat.lt_succ_self _))
     ·have:s.heap.objs.size=l:=by simpa using z
      exact absurd this (Nat.ne_of_gt lS)
    refine qfK (knd:=knd) ((Walks.list (by simp [hh]) _ l nI items).toS) s.heap.objs.size nS ks hn (fun i v hv=>hi i v hv) hb (items.size - 0) 0 _ (by omega) (Nat.zero_le _) ⟨⟨_,Heap.get?_push_size _ rfl,rfl,rfl⟩,l1.push _⟩ ?x0 ?out
    case x0=>
     have at1:((s.heap.push { cls:=.type "set",dict:=none,data:=.set #[] 0 (.fresh 0 0 led) }).push { cls:=.type "list_iterator",data:=.fields #[.ref l,.int 0 0] }).get? s.heap.objs.size=some { cls:=.type "set",dict:=none,data:=.set #[] 0 (.fresh 0 0 led) }:=Heap.get?_push_of_some _ at0
     have:=(PyProof.Rows.setObjOf_fresh (knd:=knd) led).setOf at1 (by unfold scanBound;omega)
     refine (congrArg (fun M=>Heap.SetOf knd _ _ M 0) (funext fun z=>?_)).mp this
     simp [Om.once]
    case out=>
     intro s' mv x
     obtain ⟨h',g',d',tk',os'⟩:=s'
     obtain rfl:g'=s.gens:=mv.gens
     obtain rfl:d'=s.drawn:=mv.drawn
     obtain rfl:os'=s.os:=mv.os
     show wpAny _ _ _ _ _ _
     refine wpAny_pure ?_
     show wpAny _ _ (ret Value.none) _ _ _
     refine wpAny_pure ⟨rfl,h',tk',rfl,x,fun b o e=>?_⟩
     have lb:=Heap.lt_size e
     refine mv.heap b o (fun hm=>?_) (Heap.get?_push_of_some _ (Heap.get?_push_of_some _ e))
     rcases List.mem_cons.mp hm with z | z
     ·exact absurd z (Nat.ne_of_lt lb)
     ·have:b=(s.heap.push { cls:=.type "set",dict:=none,data:=.set #[] 0 (.fresh 0 0 led) }).objs.size:=by simpa using z
      rw [z1] at this
      exact absurd this (Nat.ne_of_lt (Nat.lt_succ_of_lt lb))
   ·cases r2 with
    | error e=>exact hr2
    | ok f2=>
     cases f2 with
     | ret r=>
      obtain ⟨rfl,h',tk,rfl,x,k⟩:=hr2
      repeat (any_goals (first | assumption | wp_step))
      exact h _ _ x k
     | _=>exact hr2.elim
  | _=>exact hr.elim
end
def SetS (P:Program) (w:World) (a:Addr) (n:Nat):HO:=.ext fun h=>∃ M,h.SetOf (strKind P w) a M n
theorem SetS.mk {P:Program} {w:World} {H:Hp} {h:Heap} {a:Addr} {M:Str->Bool} {n:Nat} (x:h.SetOf (strKind P w) a M n):ObjOk P w H h a (SetS P w a n):=by
 refine ⟨⟨M,x⟩,?_,fun h1 h2 ⟨M1,x1⟩ k=>⟨M1,qaT x1 k⟩⟩
 obtain ⟨o,es,ep,t,e,_⟩:=x
 exact ⟨o,e⟩
section
variable {X:Cx} {p pos:Pos} {e:Expr} {es:List Expr} {t:TA}
def qkX (P:Program) (w:World):List V->Hp->VK->Prop:=fun vs H Q=>∃ (l:Addr) (xs:List Str),vs=[.ref l]/\H l=some (.lst (xs.map V.str))/\xs.length<=1000/\∀ a,H a=none->Q (.ref a) (upd H a (SetS P w a (Om.once xs).length))
theorem qgZ (hc:X.calm=true):CallR X (.type "set") (qkX X.prog X.w):=by
 intro pins s σ H vs us Q I r h
 obtain ⟨l,xs,rfl,hl,hz,q⟩:=h
 obtain ⟨u,rfl,rx⟩:=qaP r
 cases rx
 obtain ⟨_,its,n,rv,e0⟩:=I.hok l _ hl
 have ln:=rv.length
 rw [lM_] at ln
 refine qcl (knd:=strKind X.prog X.w) (ks:=xs) (I.ok.hd hc) ⟨_,e0,rfl,n,rfl⟩ (by simpa using ln) (fun i v hv=>?_) (by simp;unfold scanBound;omega) fun h' tk x k=>?_
 ·have hv':its[i]? = some v:=by simpa using hv
  have lt:i < its.length:=(gS_ hv').1
  have lx:i < xs.length:=by omega
  obtain ⟨u,hu,ru⟩:=rv.get (i:=i) (x:=.str xs[i]) (by rw [gM_,gE_ lx];rfl)
  rw [hv'] at hu
  cases hu
  obtain ⟨tk,rfl⟩:=ru
  exact ⟨xs[i],gE_ lx,by simp [PySem.strKind,Value.isStrOf],rfl⟩
 ·exact ⟨.ref s.heap.objs.size,upd H s.heap.objs.size (SetS X.prog X.w s.heap.objs.size (Om.once xs).length),I.laid (t':=tk) k (Nat.le_refl _) (SetS.mk x),rfl,q _ (I.hok.fresh (Nat.le_refl _))⟩
def qk1 (P:Program) (w:World):List V->Hp->VK->Prop:=fun vs H Q=>(∃ (a:Addr) (n:Nat),vs=[.ref a]/\H a=some (SetS P w a n)/\Q (.int (n:Nat)) H)\/qjh vs H Q
theorem qg5:CallR X (.builtin "len") (qk1 X.prog X.w):=by
 intro pins s σ H vs us Q I r h
 rcases h with ⟨a,n,rfl,ha,q⟩ | h
 ·obtain ⟨u,rfl,rx⟩:=qaP r
  cases rx
  obtain ⟨M,o,es,ep,tb,e0,ex,ed,_,_,sb,ft,en⟩:=(I.hok a _ ha).1
  refine call_len_set e0 ex ed ft (by unfold scanBound at sb;omega) ⟨.int (n:Nat),H,I.tok _,⟨_,by rw [en]⟩,q⟩
 ·exact qbq pins s σ H vs us Q I r h
theorem qj8 {mg':Str->Option Value} (hm:mg' "set" = none) (hX:X.mg=mg') (ha:PA X (e :: es) t) (hc:X.calm=true:=by kernel_rfl) (hg:gB X "set" = true:=by kernel_rfl) (he:starEach (e :: es) X.env=(false,eval e X.env) :: starEach es X.env:=by kernel_rfl) (hpl:(backTo pos (starEach es X.env)).any (·.1)=false:=by kernel_rfl) :
  PE X (.Call (.Name "set" p) (e :: es) [] pos) (tCB (qkX X.prog X.w) t):=qaW (qgZ hc) (qaz hg) (by rw [hX];exact hm) PyProof.Rows.boot_set ha (he:=he) (hpl:=hpl)
theorem qkb {mg':Str->Option Value} (hm:mg' "len" = none) (hX:X.mg=mg') (ha:PA X (e :: es) t) (hg:gB X "len" = true:=by kernel_rfl) (he:starEach (e :: es) X.env=(false,eval e X.env) :: starEach es X.env:=by kernel_rfl) (hpl:(backTo pos (starEach es X.env)).any (·.1)=false:=by kernel_rfl) :
  PE X (.Call (.Name "len" p) (e :: es) [] pos) (tCB (qk1 X.prog X.w) t):=qaE qg5 (qaz hg) (by rw [hX];exact hm) PySem.boot_len ha (he:=he) (hpl:=hpl)
end
end L2
end
section
namespace Om
section
variable {ts:List Int} {g:Nat} {f:Nat->Bool}
def val (f:Nat->Bool) (k:Nat):Nat->Nat
 | 0=>0
 | g+1=>2 * val f k g+(if f (k+g) then 1 else 0)
end
end Om
end
section
namespace L2
open PySem PySem.Spec PyProof.Rows
section
variable {X:Cx} {p pos:Pos} {a b e:Expr} {es:List Expr} {t:TA}
def qkM (i:Nat) (te:TE):TS:=fun D σ H=>match σ[i]? with
 | some (some (.int a))=>te σ H fun y H1=>match y with
  | .int b=>D.nx (σ.set i (some (.int (a+b)))) H1
  | _=>False
 | _=>False
theorem qkT (y:Str) (i:Nat) {te:TE} {py:Pos} (hN:X.N.Nodup) (he:PE X e te) (hi:X.N[i]? = some y:=by with_unfolding_all rfl) (hx:qkB X.env.scope y=true:=by kernel_rfl)
  (hf:(X.fn y || X.env.scope.names.lookup y == some .local)=true:=by kernel_rfl):PS X (.AugAssign (.Name y py) .Add e pos) (qkM i te):=by
 have h:=qld (pos:=pos) (pos':=py) hN hi (qgv hx) he (ql1 (X:=X)) (by
  rw [Bool.or_eq_true] at hf
  exact hf.elim .inl fun z=>.inr (eq_of_beq z))
 intro pins s σ H D I q
 refine h pins s σ H D I ?_
 unfold qkM at q
 split at q
 ·rename_i a ea
  have q2:te σ H fun y H1=>ipI (fun i j=>i+j) (.int a) y H1 fun z H2=>D.nx (σ.set i (some z)) H2:=by
   have e:(fun (y:V) (H1:Hp)=>match y with
    | .int b=>D.nx (σ.set i (some (.int (a+b)))) H1
    | _=>False)=fun y H1=>ipI (fun i j=>i+j) (.int a) y H1 fun z H2=>D.nx (σ.set i (some z)) H2:=by
    funext y H1
    apply propext
    unfold ipI
    constructor
    ·intro z
     split at z
     ·exact ⟨_,_,rfl,rfl,z⟩
     ·exact z.elim
    ·rintro ⟨i',j',e1,e2,z⟩
     cases e1
     cases e2
     exact z
   rw [e] at q
   exact q
  exact ⟨_,ea,q2⟩
 ·exact q.elim
end
end L2
namespace Om
end Om
end
section
namespace Om
inductive Rch (nx:Nat->List Nat):Nat->Prop
 | z:Rch nx 0
 | s {a b:Nat}:Rch nx a->b∈nx a->Rch nx b
theorem rch_in {nx:Nat->List Nat} {qs:List Nat} (h0:0∈qs) (hc:∀ a∈qs,∀ b∈nx a,b∈qs):∀ s,Rch nx s->s∈qs:=fun s h=>by
 induction h with
 | z=>exact h0
 | s _ hb ih=>exact hc _ ih _ hb
theorem nodup_len:∀ (m:Nat) (qs:List Nat),qs.Nodup->(∀ s∈qs,s < m)->qs.length<=m
 | 0,[],_,_=>Nat.le_refl _
 | 0,q :: _,_,h=>absurd (h q List.mem_cons_self) (Nat.not_lt_zero _)
 | m+1,qs,nd,h=>by
  have ih:=nodup_len m (qs.erase m) (nd.erase m) fun s hs=>by
   have h1:=(nd.mem_erase_iff.mp hs)
   have h2:=h s h1.2
   have h3:=h1.1
   omega
  rw [List.length_erase] at ih
  split at ih<;>omega
theorem qkW {nx:Nat->List Nat} {m:Nat} (h0:0 < m) (h:∀ a,a < m->∀ b∈nx a,b < m):∀ s,Rch nx s->s < m:=fun s q=>by
 induction q with
 | z=>exact h0
 | s _ hb ih=>exact h _ ih _ hb
def nxR (rows:Rows) (s:Nat):List Nat:=(rows.getD s []).map (·.2)
def Plain (rows:Rows):Prop:=∀ s,Rch (nxR rows) s->((rows.getD s []).map (·.1)).Nodup
end Om
namespace L2
open PySem PySem.Spec PyProof.Rows
theorem qc7 {H:Hp} {a b:Addr} {o:HO} (h:upd H a o b=none):b≠a/\H b=none:=by
 by_cases e:b=a
 ·rw [e,qaa] at h;cases h
 ·rw [qab e] at h;exact ⟨e,h⟩
def Stps (H:Hp) (ps:List V) (ts:List Nat):Prop:=ps.length=ts.length/\∀ (i t:Nat),ts[i]? = some t->∃ q,ps[i]? = some (.ref q)/\H q=some (.tup [.int (i:Nat),.int (t:Nat)])
theorem Stps.mono {H H':Hp} {ps:List V} {ts:List Nat} (h:Stps H ps ts) (s:Same H H'):Stps H' ps ts:=⟨h.1,fun i t e=>let ⟨q,a,b⟩:=h.2 i t e;⟨q,a,s _ _ b⟩⟩
def nk (s:Nat):Key:=Sum.inl (s:Int)
theorem qiy {a b:Nat} (h:nk a=nk b):a=b:=by
 have:(a:Int)=(b:Int):=Sum.inl.inj h
 omega
theorem qc6 {s:Nat}:∀ {kvs:List (Key×V)} {qs:List Nat},kvs.map (·.1)=qs.map nk->(qaM kvs (nk s)).isSome=decide (s∈qs)
 | [],[],_=>by simp [qaM]
 | [],_ :: _,h=>nomatch h
 | _ :: _,[],h=>nomatch h
 | kv :: kvs,q :: qs,h=>by
  rw [List.map_cons,List.map_cons,List.cons.injEq] at h
  by_cases e:q=s
  ·subst e
   rw [qar h.1]
   simp
  ·rw [qau (fun z=>e (qiy (h.1.symm.trans z))),qc6 h.2]
   have:¬ s=q:=fun z=>e z.symm
   simp [this]
structure Tq (H0 H:Hp) (D Q:Addr) (kvs:List (Key×V)) (qs:List Nat) (c:Nat):Prop where
 s:Same H0 H
 nD:H0 D=none
 nQ:H0 Q=none
 hD:H D=some (.dK kvs)
 hQ:H Q=some (.lst (qs.map fun s=>V.int (s:Nat)))
 ks:kvs.map (·.1)=qs.map nk
 vl:∀ s∈qs,∃ t zs,qaM kvs (nk s)=some (.ref t)/\H t=some (.lst zs)/\zs.length<=c/\t≠Q
 nd:qs.Nodup
section
variable {H0 H H1:Hp} {D Q:Addr} {kvs:List (Key×V)} {qs:List Nat} {c:Nat}
theorem Tq.mono (g:Tq H0 H D Q kvs qs c) (s:Same H H1):Tq H0 H1 D Q kvs qs c:=
 ⟨g.s.trans s,g.nD,g.nQ,s _ _ g.hD,s _ _ g.hQ,g.ks,fun x hx=>let ⟨t,zs,a,b,r⟩:=g.vl x hx;⟨t,zs,a,s _ _ b,r⟩,g.nd⟩
theorem Tq.le {c':Nat} (g:Tq H0 H D Q kvs qs c) (h:c<=c'):Tq H0 H D Q kvs qs c':=
 ⟨g.s,g.nD,g.nQ,g.hD,g.hQ,g.ks,fun x hx=>let ⟨t,zs,a,b,d,e⟩:=g.vl x hx;⟨t,zs,a,b,Nat.le_trans d h,e⟩,g.nd⟩
theorem Tq.klen (g:Tq H0 H D Q kvs qs c):kvs.length=qs.length:=by
 have:=congrArg List.length g.ks
 rwa [lM_,lM_] at this
theorem Tq.has (g:Tq H0 H D Q kvs qs c) (s:Nat):(qaM kvs (nk s)).isSome=decide (s∈qs):=qc6 g.ks
theorem Tq.start {Z:Addr} (hD:H D=none) (hZ:upd H D (.dK []) Z=none) (hQ:upd (upd (upd H D (.dK [])) Z (.lst [])) D (.dK [(nk 0,.ref Z)]) Q=none) :
  Tq H (upd (upd (upd (upd H D (.dK [])) Z (.lst [])) D (.dK [(nk 0,.ref Z)])) Q (.lst [.int 0])) D Q [(nk 0,.ref Z)] [0] 0:=by
 obtain ⟨QD,q1⟩:=qc7 hQ
 obtain ⟨QZ,q2⟩:=qc7 q1
 obtain ⟨_,q3⟩:=qc7 q2
 obtain ⟨ZD,z1⟩:=qc7 hZ
 refine ⟨fun b o e=>?_,hD,q3,by rw [qab (Ne.symm QD),qaa],qaa,rfl,fun s hs=>?_,by simp⟩
 ·rw [qab (qac e q3),qab (qac e hD),qab (qac e z1),qab (qac e hD)]
  exact e
 ·have:s=0:=by simpa using hs
  subst this
  exact ⟨Z,[],qar rfl,by rw [qab (Ne.symm QZ),qab ZD,qaa],Nat.le_refl _,Ne.symm QZ⟩
theorem Tq.put_at {b u:Addr} {o:HO} {t:Nat} {ys:List V} (h:H b=some o) (bD:b≠D) (bQ:b≠Q):upd (upd H D (.dK (qba kvs (nk t) (.ref u)))) Q (.lst ys) b=some o:=by
 rw [qab bQ,qab bD];exact h
theorem Tq.put (g:Tq H0 H D Q kvs qs c) {u:Addr} {zs:List V} {t:Nat} (nt:t ∉ qs) (hu:H u=some (.lst zs)) (uQ:u≠Q) (hz:zs.length<=c) :
  Tq H0 (upd (upd H D (.dK (qba kvs (nk t) (.ref u)))) Q (.lst ((qs.map fun s=>V.int (s:Nat))++[.int (t:Nat)]))) D Q (qba kvs (nk t) (.ref u)) (qs++[t]) c:=by
 have DQ:D≠Q:=qax g.hD g.hQ (fun z=>nomatch z)
 have vn:qaM kvs (nk t)=none:=by
  have:=g.has t
  rw [decide_eq_false nt] at this
  cases e:qaM kvs (nk t) with
  | none=>rfl
  | some v=>rw [e] at this;cases this
 have lk:∀ {b:Addr} {ys:List V},H b=some (.lst ys)->b≠Q->upd (upd H D (.dK (qba kvs (nk t) (.ref u)))) Q (.lst ((qs.map fun s=>V.int (s:Nat))++[.int (t:Nat)])) b=some (.lst ys):=fun {b ys} h n=>by
  rw [qab n,qab (qax h g.hD (fun z=>nomatch z))]
  exact h
 refine ⟨fun b o e=>?_,g.nD,g.nQ,by rw [qab DQ,qaa],by rw [qaa,List.map_append];rfl,?_,fun x hx=>?_,?_⟩
 ·rw [qab (qac e g.nQ),qab (qac e g.nD)]
  exact g.s _ _ e
 ·rw [qeJ _ vn,List.map_append,List.map_append,g.ks]
  rfl
 ·by_cases e:x=t
  ·subst e
   exact ⟨u,zs,by rw [qbL,if_pos rfl],lk hu uQ,hz,uQ⟩
  ·obtain ⟨t',ys,a,b,d,f⟩:=g.vl x ((mA_ hx).resolve_right (fun z=>e (by simpa using z)))
   exact ⟨t',ys,by rw [qbL,if_neg (fun z=>e (qiy z))];exact a,lk b f,d,f⟩
 ·rw [List.nodup_append]
  refine ⟨g.nd,by simp,fun a ha b hb z=>?_⟩
  have:b=t:=by simpa using hb
  subst this
  subst z
  exact nt ha
end
end L2
end
section
namespace Om
theorem pow8 {k:Nat} (h:k<=3):2 ^ k<=8:=by
 have:k=0\/k=1\/k=2\/k=3:=by omega
 rcases this with rfl | rfl | rfl | rfl<;>decide
theorem nx_ok {k n:Nat} {rows:Rows} (ok:CodeOk k n rows) {s:Nat} (hs:s < rows.length):(nxR rows s).length<=8/\∀ t∈nxR rows s,t < rows.length:=by
 have e:rows.getD s []=rows[s]:=by rw [List.getD_eq_getElem?_getD,gE_ hs];rfl
 unfold nxR
 rw [e]
 refine ⟨by rw [lM_,ok.len _ (List.getElem_mem hs)];exact pow8 ok.k3,fun t ht=>?_⟩
 obtain ⟨r,hr,rfl⟩:=mM_ ht
 exact (ok.row _ (List.getElem_mem hs) r hr).2
theorem rch_ok {k n:Nat} {rows:Rows} (ok:CodeOk k n rows):∀ s,Rch (nxR rows) s->s < rows.length:=qkW ok.s1 fun a ha=>(nx_ok ok ha).2
theorem qdp {α β:Type} {f:α->β} (hf:∀ a b,f a=f b->a=b):∀ {l:List α},(l.map f).Nodup↔l.Nodup
 | []=>by simp
 | x :: l=>by
  rw [List.map_cons,List.nodup_cons,List.nodup_cons,qdp hf]
  refine and_congr (not_congr ⟨fun h=>?_,fun h=>List.mem_map_of_mem h⟩) Iff.rfl
  obtain ⟨y,hy,e⟩:=mM_ h
  exact hf _ _ e ▸ hy
theorem bs_nodup {st:List (List Bool×Nat)}:(st.map fun r=>L2.bs r.1).Nodup↔(st.map (·.1)).Nodup:=by
 have:=qdp (f:=L2.bs) (fun a b h=>L2.bs_inj h) (l:=st.map (·.1))
 rw [List.map_map] at this
 exact this
theorem perm_nats {qs:List Nat} {ns:List Int} (h:ns.Perm (qs.map fun s=>((s:Nat):Int))):∃ qs':List Nat,ns=qs'.map (fun s=>((s:Nat):Int))/\qs'.Perm qs:=by
 have e:ns=(ns.map Int.toNat).map fun s=>((s:Nat):Int):=by
  have all:∀ x∈ns,((x.toNat:Nat):Int)=x:=fun x hx=>by
   obtain ⟨s,_,rfl⟩:=mM_ (h.mem_iff.mp hx)
   simp
  rw [List.map_map]
  conv=>lhs;rw [<-List.map_id ns]
  exact List.map_congr_left fun x hx=>(all x hx).symm
 refine ⟨ns.map Int.toNat,e,?_⟩
 have:=h.map Int.toNat
 rw [List.map_map] at this
 have z:(Int.toNat ∘ fun s=>((s:Nat):Int))=id:=by funext s;simp
 rwa [z,List.map_id] at this
theorem lt_of_le:∀ {qs:List Nat},qs.Nodup->(qs.map fun s=>((s:Nat):Int)).Pairwise (·<=·)->qs.Pairwise (· < ·)
 | [],_,_=>.nil
 | q :: qs,nd,h=>by
  rw [List.map_cons,List.pairwise_cons] at h
  rw [List.nodup_cons] at nd
  refine .cons (fun s hs=>?_) (lt_of_le nd.2 h.2)
  have h1:=h.1 _ (List.mem_map_of_mem (f:=fun s=>((s:Nat):Int)) hs)
  have h2:q≠s:=fun z=>nd.1 (z ▸ hs)
  have h1:(q:Int)<=(s:Int):=h1
  omega
end Om
namespace L2
open PySem PySem.Spec PyProof.Rows
def qjW (e:Expr):Arguments:=match e with
 | .Lambda a _ _ _=>a
 | _=>{ posonlyargs:=[],args:=[],vararg:=none,kwonlyargs:=[],kw_defaults:=[],kwarg:=none,defaults:=[] }
def qjV (e:Expr):Expr:=match e with
 | .Lambda _ b _ _=>b
 | _=>e
def qeS (e:Expr):Scope:=match e with
 | .Lambda _ _ sc _=>sc
 | _=>{ kind:=.function,names:=[],isGenerator:=false,isCoroutine:=false }
def qap (e:Expr):Pos:=match e with
 | .Lambda _ _ _ p=>p
 | _=>⟨0,0,0,0⟩
def qkm (i:Nat) (e:Expr):Expr:=match e with
 | .Call _ as _ _=>as.getD i e
 | _=>e
def qoc (d:Expr) (s:Stmt):Expr:=match s with
 | .Return (some e) _=>e
 | _=>d
def wo1 (P:Addr) (H:Hp):Hp:=fun b=>if b=P then none else H b
theorem wo1.at {P b:Addr} {H:Hp} {o:HO} (h:H b=some o) (n:b≠P):wo1 P H b=some o:=by unfold wo1;rw [if_neg n];exact h
theorem wo1.same {P:Addr} {H H':Hp} (s:SameT P H H'):Same (wo1 P H) H':=fun b o e=>by
 unfold wo1 at e
 split at e
 ·cases e
 ·rename_i n
  exact s b o n e
mutual
theorem DV.wo1 {H:Hp} {P:Addr} {ps:Array Value} (hP:H P=some (.tbl ps)):∀ {v:V} {d:PyData},DV H v d->DV (wo1 P H) v d
 | _,_,.non=>.non
 | _,_,.bl b=>.bl b
 | _,_,.int i=>.int i
 | _,_,.str x=>.str x
 | _,_,.lst h r=>.lst (wo1.at h (qax h hP (fun z=>nomatch z))) (DVs.wo1 hP r)
 | _,_,.tup h r=>.tup (wo1.at h (qax h hP (fun z=>nomatch z))) (DVs.wo1 hP r)
 | _,_,.dic h=>.dic (wo1.at h (qax h hP (fun z=>nomatch z)))
theorem DVs.wo1 {H:Hp} {P:Addr} {ps:Array Value} (hP:H P=some (.tbl ps)):∀ {vs:List V} {ds:List PyData},DVs H vs ds->DVs (wo1 P H) vs ds
 | _,_,.nil=>.nil
 | _,_,.cons h r=>.cons (DV.wo1 hP h) (DVs.wo1 hP r)
end
theorem Tab.tbl {P:Addr} {pos:Pos} {qual:Str} {H:Hp} (t:Tab P pos qual H):∃ ps,H P=some (.tbl ps):=by
 rcases t with e | ⟨c,e,_⟩
 ·exact ⟨_,e⟩
 ·exact ⟨_,e⟩
theorem DV.monoT {H H':Hp} {P:Addr} {pos:Pos} {qual:Str} {v:V} {d:PyData} (h:DV H v d) (t:Tab P pos qual H) (s:SameT P H H'):DV H' v d:=
 let ⟨_,e⟩:=t.tbl
 (h.wo1 e).mono (wo1.same s)
theorem SameT.free {P:Addr} {H H':Hp} {l:Addr} (s:SameT P H H') (h:H' l=none) (n:l≠P):H l=none:=by
 cases q:H l with
 | none=>rfl
 | some o=>rw [s l o n q] at h;cases h
def FnC (K:PySem.W.Frag) (mg:Str->Option Value) (x:Str) (st:Stmt) (ps:List Str) (c:Addr):Prop:=∃ (f:Addr) (oc:Value) (od:Option Addr) (kV doc pm:Value) (an:Option Addr) (ct:Value) (osl:Array (Option Value)),
 K.lookup f=some ⟨oc,od,.func (PySem.W.fnOf x x (qav st) (qao st) (qad st) .none kV doc pm an (.ref c) ct),osl⟩/\PySem.W.codeIn K (.ref c) x=true/\PySem.W.keepIn K (.ref f)=true/\mg x=some (.ref f) ∧
 Binds K (PySem.W.fnOf x x (qav st) (qao st) (qad st) .none kV doc pm an (.ref c) ct) ps []
theorem qkl {P:Program} {w:World} {K:PySem.W.Frag} {mg:Str->Option Value} {base:Heap} {x:Str} {st:Stmt} {N ps:List Str} {k:Nat} {sp:Sp} {c:Addr} (D:FnC K mg x st ps c) (S:FnScope N ps (qad st)) (len:∀ vs H Q E,sp vs H Q E->vs.length=ps.length)
  (hbody:∀ (f:Addr) (A:Around) (outer:List Env) (s:Shared) (H:Hp) (vs:List V) (Q:VK) (E:XK),Room k (A.deeper (envOfC x (qad st) s.heap.objs.size f (.ref c)))->sp vs H Q E →
   ∃ t,PSs (qiL CX0 P w K mg base N x (qad st) f (.ref c) A outer s H E).nox (qao st) t/\t { nx:=fun _ H'=>Q .non H',rt:=Q } (start N vs) H):Can P w K mg base x (k+1) ps sp:=by
 obtain ⟨f,oc,od,kV,doc,pm,an,ct,osl,lk,hcd,kp,hm,hb⟩:=D
 refine ⟨f,_,ql6 lk hcd S len fun A outer s H vs Q E hr hsp=>?_,hm,kp,hb⟩
 obtain ⟨t,h,q⟩:=hbody f A outer s H vs Q E hr hsp
 exact ⟨t,h.nox,q⟩
end L2
end
section
namespace Om
end Om
namespace L2
open PySem PySem.Spec PyProof.Rows
section
variable {H0 H H':Hp} {a b:Addr} {qs:List Addr} {k n:Nat} {rows:Om.Rows}
end
end L2
end
section
namespace Om
end Om
namespace L2
open PySem PySem.Spec PyProof.Rows
theorem qjY {n i:Nat} (h:i < n):ixN n ((i:Nat):Int)=some i:=by rw [qlY (by omega) (by omega),Int.toNat_natCast]
section
variable {F:Addr->Prop} {H0 H H' G:Hp} {d P:Addr} {pos:Pos} {qual:Str}
theorem Deck.lst (h:Deck F H d) {b:Addr} (z:F b):∃ xs,H b=some (.lst xs):=by
 obtain ⟨p,qs,n,h1,h2,h3,h4,h5,h6⟩:=h.ex
 rcases (h6 b).mp z with rfl | rfl | z
 ·exact ⟨_,h1⟩
 ·exact ⟨_,h2⟩
 ·obtain ⟨c,f,m,e⟩:=h5 b z
  exact ⟨_,e⟩
theorem Tab.off (t:Tab P pos qual H) (k:Deck F H d) (o:Off F H H'):Tab P pos qual H':=by
 have nl:∀ {b:Addr} {u:HO},H b=some u->(∀ xs,u≠.lst xs)->¬ F b:=fun {b u} e n z=>by
  obtain ⟨xs,e'⟩:=k.lst z
  rw [e] at e'
  exact n xs (oI_ e')
 rcases t with e | ⟨c,e1,e2⟩
 ·exact .inl (o _ _ e (nl e fun xs z=>nomatch z))
 ·exact .inr ⟨c,o _ _ e1 (nl e1 fun xs z=>nomatch z),o _ _ e2 (nl e2 fun xs z=>nomatch z)⟩
theorem Tab.upd {b:Addr} {xs:List V} {o:HO} (t:Tab P pos qual H) (e:H b=some (.lst xs)):Tab P pos qual (upd H b o):=by
 rcases t with z | ⟨c,z1,z2⟩
 ·exact .inl (by rw [qab (qax z e (fun y=>nomatch y))];exact z)
 ·exact .inr ⟨c,by rw [qab (qax z1 e (fun y=>nomatch y))];exact z1,by rw [qab (qax z2 e (fun y=>nomatch y))];exact z2⟩
theorem Deck.sameT (k:Deck F H d) (t:Tab P pos qual H) (s:SameT P H H'):Deck F H' d:=by
 obtain ⟨ps,hP⟩:=t.tbl
 obtain ⟨p,qs,n,h1,h2,h3,h4,h5,h6⟩:=k.ex
 have lk:∀ {x:Addr} {xs:List V},H x=some (.lst xs)->H' x=some (.lst xs):=fun {x xs} e=>s _ _ (qax e hP (fun z=>nomatch z)) e
 exact ⟨p,qs,n,lk h1,lk h2,h3,h4,fun x hx=>let ⟨c,f,m,e⟩:=h5 x hx;⟨c,f,m,lk e⟩,h6⟩
end
end L2
end
section
namespace L2
open PySem PySem.Spec PyProof.Rows
theorem FnC.of {K:PySem.W.Frag} {h:Heap} {mg:Str->Option Value} {x:Str} {st:Stmt} {ps:List Str} {c P:Addr} (D:DefIn K x st) (ht:PySem.W.tabIn K x=some (c,P)) (X:K.In h) (G:h.Ns mainGlobals mg)
  (hb:∀ (kV doc pm:Value) (an:Option Addr) (cdv ct:Value) (us:List Value),us.length=ps.length->bindArgs (PySem.W.fnOf x x (qav st) (qao st) (qad st) .none kV doc pm an cdv ct) ⟨us,[]⟩=pure (ps.zip us)):FnC K mg x st ps c:=by
 obtain ⟨f,oc,od,an,osl,kV,dc,pm,cd,ct,h1,h2,h3,h4⟩:=D
 have e:cd = .ref c:=by
  unfold PySem.W.tabIn at ht
  rw [h1] at ht
  dsimp only at ht
  rw [h2] at ht
  dsimp only at ht
  split at ht
  ·rename_i c' _
   split at ht
   ·split at ht
    ·cases ht;rfl
    ·cases ht
   ·cases ht
  ·cases ht
 subst e
 exact ⟨f,oc,od,kV,dc,pm,an,ct,osl,h2,h3,h4,PySem.W.mg_of X G h1,.all (hb kV dc pm an _ ct)⟩
theorem qgz {P:Program} {w:World} {K:PySem.W.Frag} {mg mb:Str->Option Value} {CX:CXT} {k:Nat} {fa a:Addr} {fd:FuncData} {x:Str} {sp:Sp} {s₁:Shared} {vs:List Value} {ns:List Int} {tabs:List (Addr×Addr)}
  (KX:K.In s₁.heap) (hns:s₁.heap.Ns mainGlobals mg) (hb:s₁.heap.Ns builtinsNs mb) (hbb:∀ x:Str,x≠"__name__"->mb x=bootBuiltins x) (hlim:s₁.heap.NoLimit) (hg:s₁.gens = #[])
  (ha:s₁.heap.get? a=some { cls:=.type "list",data:=.seq vs.toArray }) (hi:IntsAre vs ns) (hl:ns.length<=sizeLine) (hr:Room k callerA) (hT:PySem.W.TabsAt tabs s₁.heap) (hnt:PySem.W.noTabs K=true)
  (hbm:∃ bm ob,mg "__builtins__" = some (.ref bm)/\bm≠builtinsNs/\s₁.heap.get? bm=some ob/\ob.cls = .type "module"/\ob.dict=some builtinsNs/\ob.data = .plain)
  (F:∀ base:Heap,K.In base->base.Ns mainGlobals mg->(∀ q∈tabs,Maker mg base q.1 q.2)->FnOk P w K mg base CX k fa fd [x] sp) (hbind:∀ (s:Shared) (u:Value),BindsTo s fd ⟨[u],[]⟩ [(x,u)])
  (hsp:∀ H:Hp,(∀ q∈tabs,H q.2=some (.tbl #[]))->SqL K H a (ns.map V.int)->sp [.ref a] H (fun v _=>v = .bl true) fun _ _ _=>False)
  (hCX:∀ H e s',CX [] H s₁ (fun _ _ _=>False) e s'->False) :
  codeAny (model P w) callerA (.call (.ref fa) ⟨[.ref a],[]⟩) (fun r s'=>r = .ok (.ret (.bool true))/\OldK s₁.heap s'.heap/\s'.os=s₁.os/\AllBare s'.gens) s₁:=by
 have rv:=qbV hi
 have lenV:=hi.length
 have aT:∀ q∈tabs,q.2≠a:=fun q hq z=>by
  have e:=(hT q hq).2
  rw [z,ha] at e
  cases e
 have core:∀ H:Hp,(∀ b u,H b=some u->(b=a/\u = .frz { cls:=.type "list",data:=.seq vs.toArray } (.lst (ns.map V.int))/\K.lookup a=none)\/∃ q∈tabs,b=q.2/\u = .tbl #[])->(∀ q∈tabs,H q.2=some (.tbl #[]))->SqL K H a (ns.map V.int) →
   codeAny (model P w) callerA (.call (.ref fa) ⟨[.ref a],[]⟩) (fun r s'=>r = .ok (.ret (.bool true))/\OldK s₁.heap s'.heap/\s'.os=s₁.os/\AllBare s'.gens) s₁:=by
  intro H hH hTE hS
  have hok:HOk P w H s₁.heap:=fun b u e=>by
   rcases hH b u e with ⟨rfl,rfl,_⟩ | ⟨q,hq,rfl,rfl⟩
   ·exact ⟨ha,by rw [lM_];exact hl,vs,_,rv,ha⟩
   ·exact (hT q hq).2
  have free:∀ {b:Addr} {o:Obj},s₁.heap.get? b=some o->o.cls≠.type "list"\/(∀ y,o.data≠.seq vs.toArray y)->(o.cls≠.none\/∀ ps,o.data≠.fields ps)->H b=none:=fun {b o} e n1 n2=>by
   cases q:H b with
   | none=>rfl
   | some u=>
    rcases hH b u q with ⟨rfl,_,_⟩ | ⟨t,ht,rfl,_⟩
    ·rw [ha] at e
     cases e
     rcases n1 with n1 | n1
     ·exact absurd rfl n1
     ·exact absurd rfl (n1 _)
    ·rw [(hT t ht).2] at e
     cases e
     rcases n2 with n2 | n2
     ·exact absurd rfl n2
     ·exact absurd rfl (n2 _)
  have nsK:∀ {b:Addr} {m:Str->Option Value},s₁.heap.Ns b m->(qeV s₁.heap H).Ns b m:=fun {b m} ⟨o,es,ep,e,d,r⟩=>
   ⟨o,es,ep,qbo e (free e (.inr fun y z=>by rw [d] at z;cases z) (.inr fun y z=>by rw [d] at z;cases z)),d,r⟩
  have hKb:K.In (qeV s₁.heap H):=fun b o e=>qbo (KX b o e) (by
   cases q:H b with
   | none=>rfl
   | some u=>
    rcases hH b u q with ⟨rfl,_,z⟩ | ⟨t,ht,rfl,_⟩
    ·rw [z] at e;cases e
    ·have e1:=KX _ _ e
     rw [(hT t ht).2] at e1
     have e2:=List.all_eq_true.mp hnt _ (PySem.W.mem_of_lookupK e)
     cases e1
     exact absurd (show false=true from e2) Bool.false_ne_true)
  have hM:Mod K mg (qeV s₁.heap H):=⟨hKb,nsK hns,⟨mb,nsK hb,hbb⟩,let ⟨mc,h1,h2⟩:=hlim;⟨mc,nsK h1,h2⟩⟩
  have hMk:∀ q∈tabs,Maker mg (qeV s₁.heap H) q.1 q.2:=fun q hq=>by
   refine ⟨?_,?_⟩
   ·obtain ⟨bm,ob,b1,b2,b3,b4,b5,b6⟩:=hbm
    exact ⟨bm,ob,b1,b2,qbo b3 (free b3 (.inl (by rw [b4];decide)) (.inl (by rw [b4];exact fun z=>nomatch z))),b4,b5,b6⟩
   ·obtain ⟨o,c1,c2,c3,c4,c5,c6,c7,c8,e,c9,r⟩:=(hT q hq).1
    exact ⟨o,c1,c2,c3,c4,c5,c6,c7,c8,qbo e (free e (.inl (by rw [c9];decide)) (.inl (by rw [c9];exact fun z=>nomatch z))),c9,r⟩
  have e0:Env0 P w K mg (qeV s₁.heap H) callerA [] s₁ H:=⟨rfl,hM,fun b o e=>qgq e,Nat.le_of_eq (qdw _ _),trivial,fun b hb=>absurd (show b∈([]:List Addr) from hb) (by simp),hok,.of_eq hg⟩
  refine codeAny_mono ((F _ hKb (nsK hns) hMk).run callerA [] s₁ H ⟨[.ref a],[]⟩ [.ref a] [.ref a] _ _ hr e0 (hbind s₁ (.ref a)) (.cons rfl .nil) (hsp H hTE hS)) fun r s' h=>?_
  cases r with
  | error e=>exact (hCX H e s' h).elim
  | ok fl=>
   cases fl with
   | next=>exact False.elim h
   | brk=>exact False.elim h
   | cont=>exact False.elim h
   | ret u=>
    obtain ⟨v,H',os,bare,un,hok',r',q⟩:=h
    have q':v = .bl true:=q
    subst q'
    obtain rfl:u=Value.bool true:=r'
    have kept:∀ b o,s₁.heap.get? b=some o->(∀ t∈tabs,b≠t.2)->s'.heap.get? b=some o:=fun b o e n=>by
     cases q:H b with
     | none=>exact un.keep b o e q (by intro z;exact absurd (show b∈([]:List Addr) from z) (by simp)) (by simp)
     | some u=>
      rcases hH b u q with ⟨rfl,rfl,_⟩ | ⟨t,ht,z,_⟩
      ·have z2:=un.frzs _ _ _ q
       obtain ⟨e2,_⟩:=hok' _ _ z2
       rw [ha] at e;cases e
       exact e2
      ·exact absurd z (n t ht)
    have grown:∀ t∈tabs,∃ more,s'.heap.get? t.2=some (PySem.W.tabObj (#[]++more)):=fun t ht=>by
     obtain ⟨more,z⟩:=un.tbls _ _ (hTE t ht)
     exact ⟨more,hok' _ _ z⟩
    refine ⟨rfl,⟨fun b o e=>?_,fun b o e=>?_⟩,os,bare⟩
    ·by_cases n:∀ t∈tabs,b≠t.2
     ·exact .inl (kept b o e n)
     ·obtain ⟨t,ht,z⟩ : ∃ t∈tabs,b=t.2:=by
       refine Classical.byContradiction fun z=>n fun t ht y=>z ⟨t,ht,y⟩
      subst z
      have hP:=(hT t ht).2
      rw [hP] at e
      cases e
      obtain ⟨more,g⟩:=grown t ht
      exact .inr (.inl ⟨((hT t ht).1.tab hP).isCodeTable,rfl,#[],more,rfl,g⟩)
    ·by_cases n:∀ t∈tabs,b≠t.2
     ·exact ⟨o,kept b o e n⟩
     ·obtain ⟨t,ht,z⟩ : ∃ t∈tabs,b=t.2:=by
       refine Classical.byContradiction fun z=>n fun t ht y=>z ⟨t,ht,y⟩
      subst z
      obtain ⟨more,g⟩:=grown t ht
      exact ⟨_,g⟩
 cases hk:K.lookup a with
 | some o=>
  have e:=KX a o hk
  rw [ha] at e
  cases e
  refine core (fun b=>if b∈tabs.map (·.2) then some (.tbl #[]) else none) (fun b u e=>?_) (fun q hq=>if_pos (List.mem_map_of_mem hq)) (.inr ⟨_,vs.toArray,_,hk,rfl,rfl,rfl,by rw [List.size_toArray,lenV];exact hl,by simpa using rv⟩)
  by_cases n:b∈tabs.map (·.2)
  ·obtain ⟨q,hq,rfl⟩:=mM_ n
   have z:=(if_pos n).symm.trans e
   cases z
   exact .inr ⟨q,hq,rfl,rfl⟩
  ·have z:=(if_neg n).symm.trans e
   cases z
 | none=>
  refine core (fun b=>if b=a then some (.frz { cls:=.type "list",data:=.seq vs.toArray } (.lst (ns.map V.int))) else if b∈tabs.map (·.2) then some (.tbl #[]) else none) (fun b u e=>?_) (fun q hq=>?_) (.inl (.inr ⟨{ cls:=.type "list",data:=.seq vs.toArray },if_pos rfl⟩))
  ·by_cases m:b=a
   ·have z:=(if_pos m).symm.trans e
    cases z
    exact .inl ⟨m,rfl,hk⟩
   ·have z:=(if_neg m).symm.trans e
    by_cases n:b∈tabs.map (·.2)
    ·obtain ⟨q,hq,rfl⟩:=mM_ n
     have z2:=(if_pos n).symm.trans z
     cases z2
     exact .inr ⟨q,hq,rfl,rfl⟩
    ·have z2:=(if_neg n).symm.trans z
     cases z2
  ·show (if q.2=a then _ else _)=_
   rw [if_neg (aT q hq)]
   exact if_pos (List.mem_map_of_mem hq)
theorem walk_ofT {l:PySem.W.OpenLaw} {n k:Nat} {q:Program} {loose:List Str} {XP:(Str->Option Value)->Heap->Prop} {YP:World->Heap->Prop} {d:DefRec} {K:Params->PySem.W.Frag} {CX:World->CXT} {sp:World->Sp} {x:Str} {c0 P0:Addr}
  (hn:l.most=some n) (hn2:n<=sizeLine) (hdf:d.params.defaults=[]) (hr:Room k callerA) (hY:∀ (w:World) (h:Heap),YP w h->(K w.params).In h) (hnt:∀ w:World,PySem.W.noTabs (K w.params)=true)
  (htb:∀ (w:World) (h:Heap),YP w h->h.get? P0=some (PySem.W.tabObj #[])) (hcd:∀ w:World,PySem.W.codeHdIn (K w.params) c0 P0=true)
  (F:∀ (w:World) (mg:Str->Option Value) (fa:Addr) (h:Heap),(K w.params).In h->h.Ns mainGlobals mg->mg d.name=some (.ref fa) →
   ∃ fd:FuncData,(∀ (s:Shared) (u:Value),BindsTo s fd ⟨[u],[]⟩ [(x,u)]) ∧
    ∀ base:Heap,(K w.params).In base->base.Ns mainGlobals mg->Maker mg base c0 P0->FnOk l.prog w (K w.params) mg base (CX w) k fa fd [x] (sp w))
  (hsp:∀ (w:World) (H:Hp) (a:Addr) (ns:List Int),ns.length<=n->H P0=some (.tbl #[])->SqL (K w.params) H a (ns.map V.int)->sp w [.ref a] H (fun v _=>v = .bl true) fun _ _ _=>False)
  (hCX:∀ (w:World) (H:Hp) (s:Shared) (e:Value) (s':Shared),CX w [] H s (fun _ _ _=>False) e s'->False) :
  PySem.W.WalkO q loose XP YP l.row.toRowW d [] (fun f vs=>PySem.call f vs):=by
 refine Att.attach_call hn hdf fun w s₀ s₁ mg mb fa o pm cd doc a vs ns G Y ho hd hcd' hmg hobj hints hlen hg=>?_
 have KX:=hY w _ Y
 obtain ⟨fd,hb,hF⟩:=F w mg fa _ KX G.T.g hmg
 exact qgz (tabs:=[(c0,P0)]) KX G.T.g G.T.b G.T.builtins G.T.nolimit hg hobj hints (Nat.le_trans hlen hn2) hr (fun q hq=>by rw [mS_ hq];exact ⟨PySem.W.codeHd_of_K KX (hcd w),htb w _ Y⟩) (hnt w) G.T.bmain
  (fun base kb nb m=>hF base kb nb (m (c0,P0) (List.mem_singleton.mpr rfl))) hb (fun H hO hS=>hsp w H a ns hlen (hO (c0,P0) (List.mem_singleton.mpr rfl)) hS) fun H e s'=>hCX w H s₁ e s'
end L2
end
section
namespace L2
open PySem PySem.Spec PyProof.Rows
section
variable {X:Cx} {p pos:Pos} {k v:Expr} {tk tv:TE}
end
end L2
end
section
namespace Om
section
variable {k n:Nat} {rows:Rows} {a b c:Nat} {w v:List Bool}
theorem nodup_on {α β:Type} {f:α->β}:∀ {l:List α},(∀ a∈l,∀ b∈l,f a=f b->a=b)->l.Nodup->(l.map f).Nodup
 | [],_,_=>List.nodup_nil
 | x :: l,h,nd=>by
  rw [List.nodup_cons] at nd
  rw [List.map_cons,List.nodup_cons]
  refine ⟨fun z=>?_,nodup_on (fun a ha b hb=>h a (mC_ _ ha) b (mC_ _ hb)) nd.2⟩
  obtain ⟨y,hy,e⟩:=mM_ z
  exact nd.1 (h y (mC_ _ hy) x List.mem_cons_self e ▸ hy)
end
end Om
end
section
namespace Om
abbrev Sn:=Nat->Prop
def aft (rows:Rows) (S:Sn) (w:List Bool):Sn:=fun y=>∃ x i,S x/\i < (rows.getD x []).length/\step rows x i=(w,y)
def qn1 (rows:Rows) (S:Sn) (ws:List (List Bool)):Sn:=ws.foldl (aft rows) S
end Om
namespace L2
open PySem PySem.Spec PyProof.Rows
theorem qml {w:List Bool} {i j:Int} (h0:0<=i) (h1:i<=j) (h2:j<=w.length):Txt.slice (bs w) (some i) (some j)=bs ((w.drop i.toNat).take (j - i).toNat):=by
 have e:(bs w).cps.toList=w.map sg:=by show (w.map sg).toArray.toList=_;simp
 have:=StrLaws.sliceText_plain (x:=bs w) (i:=i) (j:=j) ⟨h0,h1,by rw [e,lM_];exact h2⟩
 refine Eq.trans (show Txt.slice (bs w) (some i) (some j)=StrLaws.sliceText (bs w) (some i) (some j) from rfl) (this.trans ?_)
 rw [e]
 simp [bs,List.map_take,List.map_drop]
section
variable {ks:List Nat} {kvs:List (Key×V)} {x:Nat} {v:V}
end
end L2
end
section
namespace Om
section
variable {α:Type} [DecidableEq α] {xs:List α} {x y:α}
end
end Om
namespace L2
open PySem PySem.Spec PyProof.Rows
section
variable {κ N:Type} [DecidableEq κ] [DecidableEq N]
end
def tk (u:List Bool):Key:=Sum.inr (bs u)
section
variable {H0 H H1:Hp} {D Q:Addr} {kvs:List (List Key×V)} {xs:List (List Bool×Nat)} {bz:List Addr}
end
end L2
end
section
namespace L2
open PySem PySem.Spec PyProof.Rows
theorem qeD (z:Str) (l u:Option Int):Txt.slice z l u=StrLaws.sliceText z l u:=rfl
theorem qj5 (l:Option Int) (len:Nat) {j:Int} (h:(len:Int)<=j):Builtin.Str.strSliceIndices l (some j) 1 len=Builtin.Str.strSliceIndices l (some (len:Int)) 1 len:=by
 have a:¬ ((len:Int) < 0):=by omega
 have b:¬ (j < 0):=by omega
 have c:min j (len:Int)=(len:Int):=by omega
 simp [Builtin.Str.strSliceIndices,a,b,c]
theorem qmi {w:List Bool} {j:Int} (h0:0<=j):Txt.slice (bs w) none (some j)=bs (w.take j.toNat):=by
 have e:Txt.slice (bs w) none (some j)=Txt.slice (bs w) (some 0) (some (min j (w.length:Int))):=by
  rw [qeD,qeD]
  unfold StrLaws.sliceText
  rw [StrLaws.sliceIdx_none_lo,qaI]
  by_cases hj:j<=w.length
  ·rw [show min j (w.length:Int)=j by omega]
  ·rw [show min j (w.length:Int)=w.length by omega,qj5 _ _ (by omega)]
 rw [e,qml (by decide) (by omega) (by omega)]
 congr 1
 rw [Int.toNat_zero,List.drop_zero]
 by_cases hj:j<=w.length
 ·rw [show (min j (w.length:Int) - 0).toNat=j.toNat by omega]
 ·rw [show (min j (w.length:Int) - 0).toNat=w.length by omega,List.take_length,List.take_of_length_le (by omega)]
end L2
end
section
namespace Om
end Om
namespace L2
open PySem PySem.Spec PyProof.Rows
section
variable {H0 H H1:Hp} {D:Addr} {kvs:List (Key×V)} {us:List (List Bool)} {L:Nat} {S S':List Bool->Prop}
end
end L2
end
section
namespace Om
end Om
namespace L2
open PySem PySem.Spec PyProof.Rows
section
variable {H2 H H1:Hp} {D E Mo:Addr} {kvs:List (Key×V)} {us:List (List Bool)} {L:Nat} {S:List Bool->Prop} {ekvs:List (Key×V)} {vs:List (List Bool)} {M:Nat} {B B':List Bool->Prop} {mkvs:List (List Key×V)} {ys:List (List Bool×Nat)} {A A':List Bool×Nat->Prop}
end
end L2
end
section
namespace L2
open PySem PySem.Spec PyProof.Rows
def nw (H H':Hp):Hp:=fun b=>match H b with
 | none=>H' b
 | some _=>none
theorem nw.at {H H':Hp} {b:Addr} (h:H b=none):nw H H' b=H' b:=by unfold nw;rw [h]
theorem nw.old {H H':Hp} {b:Addr} {o:HO} (h:H b=some o):nw H H' b=none:=by unfold nw;rw [h]
theorem nw.inv {H H':Hp} {b:Addr} {o:HO} (h:nw H H' b=some o):H b=none/\H' b=some o:=by
 cases e:H b with
 | none=>rw [nw.at e] at h;exact ⟨rfl,h⟩
 | some u=>rw [nw.old e] at h;cases h
theorem nw.same {H H':Hp}:Same (nw H H') H':=fun b o e=>(nw.inv e).2
theorem nw.up {H H1 H2:Hp} (s:Same H1 H2):Same (nw H H1) (nw H H2):=fun b o e=>by rw [nw.at (nw.inv e).1];exact s _ _ (nw.inv e).2
section
variable {X:Cx} {pos:Pos} {e:Expr} {es:List Expr} {n:Nat} {d:PyData} {ds:List PyData}
end
end L2
end
section
namespace L2
open PySem PySem.Spec PyProof.Rows
theorem SqL.wo1 {K:PySem.W.Frag} {H:Hp} {a P:Addr} {xs:List V} {ps:Array Value} (h:SqL K H a xs) (hP:H P=some (.tbl ps)):SqL K (wo1 P H) a xs:=by
 rcases h with (h | ⟨o,h⟩) | h
 ·exact .inl (.inl (wo1.at h (qax h hP (fun z=>nomatch z))))
 ·exact .inl (.inr ⟨o,wo1.at h (qax h hP (fun z=>nomatch z))⟩)
 ·exact .inr h
section
variable {H H':Hp} {kvs:List (Key×V)} {ls:List Nat} {rows:Om.Rows}
end
end L2
end
section
namespace Om
def qot (rows:Rows):Sn:=fun x=>x < rows.length
def byL (rows:Rows) (S:Sn) (w:List Bool) (l:Nat):Sn:=fun y=>∃ x,S x/\l < (rows.getD x []).length/\step rows x l=(w,y)
def qoy (rows:Rows) (ws:List (List Bool)) (b l:Nat):Prop:=∃ z,qn1 rows (byL rows (qn1 rows (qot rows) (ws.take b)) (ws.getD b []) l) (ws.drop (b+1)) z
open Classical in
noncomputable def rd (rows:Rows) (k b:Nat) (ws:List (List Bool)):Option Nat:=(List.range (2 ^ k)).find? fun l=>decide (qoy rows ws b l)
end Om
namespace L2
open PySem PySem.Spec PyProof.Rows
section
variable {H0 H:Hp} {L q:Addr} {ts:List Addr} {yss:Nat->List Nat}
end
end L2
namespace L2
open PySem PySem.Spec PyProof.Rows
section
variable {X:Cx}
def qog:R2:=fun x y H Q=>rEq x y H Q\/qf7 x y H Q
theorem qlC (hu:X.A.units+64 < cLine):OpR X (compareOp .Eq) qog:=op_eq.or (qiv hu)
end
end L2
namespace Om
end Om
namespace L2
open PySem PySem.Spec PyProof.Rows
end L2
end
section
namespace Om
end Om
namespace L2
open PySem PySem.Spec PyProof.Rows
theorem qeq (xs:List V) (a h:Nat):qdR xs (some (a:Int)) (some (h:Int))=(xs.drop a).take (h - a):=by
 unfold qdR
 rw [HT.sIx_nat,HT.sIx_nat]
 by_cases h1:a<=xs.length
 ·rw [Nat.min_eq_left h1]
  by_cases h2:h<=xs.length
  ·rw [Nat.min_eq_left h2]
  ·rw [Nat.min_eq_right (by omega),List.take_of_length_le (by simp),List.take_of_length_le (by simp;omega)]
 ·rw [Nat.min_eq_right (by omega:xs.length<=a),List.drop_of_length_le (Nat.le_refl _),List.drop_of_length_le (by omega)]
  simp
end L2
namespace L2
theorem qj4 {c A B:Prop} [Decidable c] (hc:¬ c) (h:B):if c then A else B:=by rw [if_neg hc];exact h
end L2
namespace L2
end L2
end
section
namespace L2
open PySem PySem.Spec PyProof.Rows
section
variable {X:Cx} {p pos:Pos}
end
end L2
namespace Om
end Om
end
section
namespace L2
open PySem PySem.Spec PyProof.Rows
end L2
namespace L2
open PySem PySem.Spec PyProof.Rows
end L2
namespace L2
open PySem PySem.Spec PyProof.Rows
def woA (a:Addr) (H:Hp):Hp:=fun x=>if x=a then none else H x
theorem woA.same {a:Addr} {H:Hp}:Same (woA a H) H:=fun x u e=>by
 unfold woA at e
 split at e
 ·cases e
 ·exact e
theorem woA.off {a:Addr} {H:Hp}:Off (At a) H (woA a H):=fun x u e n=>by
 unfold woA
 rw [if_neg (show ¬ x=a from n)];exact e
theorem woA.at {a x:Addr} {H:Hp} {u:HO} (h:H x=some u) (n:x≠a):woA a H x=some u:=by unfold woA;rw [if_neg n];exact h
end L2
end
section
namespace L2
open PySem PySem.Spec PyProof.Rows
section
variable {X:Cx} {p pos:Pos}
end
end L2
end
section
namespace Om
end Om
end
section
namespace L2
open PySem PySem.Spec PyProof.Rows
theorem DVs.erase {G:Hp}:∀ {us:List V} {ds:List PyData} (i:Nat),DVs G us ds->DVs G (us.eraseIdx i) (ds.eraseIdx i)
 | _,_,_,.nil=>.nil
 | _,_,0,.cons _ b=>b
 | _,_,i+1,.cons a b=>.cons a (DVs.erase i b)
section
variable {G H0 H H':Hp} {a A S q:Addr} {ts:List Addr} {ps:List (Nat×Nat)} {rw:Nat->List (List Bool×Nat)}
end
end L2
namespace L2
open PySem PySem.Spec PyProof.Rows
end L2
end
section
namespace L2
open PySem PySem.Spec PyProof.Rows
def Itv (K:PySem.W.Frag) (a:Addr) (n:Nat):It:=
 ⟨fun i H=>∃ xs x,SqL K H a xs/\xs.length=n/\xs.reverse[i]? = some x,fun i H x H'=>H'=H/\∀ xs,SqL K H a xs->xs.reverse[i]? = some x,fun i H=>∃ xs,SqL K H a xs/\xs.length=n/\n<=i⟩
theorem qhm {P:Program} {w:World} {K:PySem.W.Frag} {tg:Expr} (a it:Addr) (n:Nat):Turn P w K tg (Itv K a n) [it] it (fun i h=>i<=n/\h.IsRevIter it a ((n:Int) - 1 - (i:Int))) where
 mem:=by simp
 obj:=fun i h st b hb=>by
  have e:b=it:=by simpa using hb
  subst e
  obtain ⟨_,o,e,c,d⟩:=st
  exact ⟨o,e,fun v z=>by rw [d] at z;cases z⟩
 keep:=fun i h h' st k=>⟨st.1,st.2.at fun o e=>k it (by simp) o e⟩
 item:=by
  intro X hP hw hK hc i pins s σ H E I hf st hg
  subst hP hw hK
  obtain ⟨xs,x,hq,hn,hx⟩:=hg
  obtain ⟨its,rv,p,hz⟩:=I.list hq
  have hi:i < n:=by
   have:=(gS_ hx).1
   rw [List.length_reverse] at this;omega
  have hx':xs[n - 1 - i]? = some x:=by rw [List.getElem?_reverse (by omega),hn] at hx;exact hx
  obtain ⟨u,hu,ru⟩:=rv.get hx'
  obtain ⟨f0,f1,f2,f3,f4,f5⟩:=hf it (by simp)
  have e:(n:Int) - 1 - (i:Int)=((n - 1 - i:Nat):Int):=by omega
  have hit:=st.2
  rw [e] at hit
  refine wpAny_pyNext_rev_item hit p.isList (x:=u) (by simpa using hu) fun h' st' sb=>?_
  have e2:((n - 1 - i:Nat):Int) - 1=(n:Int) - 1 - ((i+1:Nat):Int):=by omega
  rw [e2] at st'
  have I1:Inv X pins σ H { s with heap:=h' }:=I.turned (t':=s.toks) (fun b o hb e=>(sb.2 b hb).trans e) f0 f1 f3 f4 f5
  obtain ⟨o,e,c,d⟩:=id st'
  exact ⟨u,rfl,qh6 (s:={ s with heap:=h' }) e c d (by decide) ⟨x,H,I1,ru,⟨rfl,fun ys hy=>by rw [I.list_inj hy hq];exact hx⟩,⟨hi,st'⟩,fun b hb=>(hf b hb).1⟩⟩
 done:=by
  intro X hP hw hK hc i pins s σ H E I hf st hg
  subst hP hw hK
  obtain ⟨xs,hq,hn,hx⟩:=hg
  obtain ⟨f0,f1,f2,f3,f4,f5⟩:=hf it (by simp)
  have hit:=st.2
  have:i=n:=Nat.le_antisymm st.1 hx
  subst this
  rw [show (i:Int) - 1 - (i:Int) = -1 by omega] at hit
  exact wpAny_pyNext_rev_end (I.ok.hd hc) hit fun h' eb=>⟨rfl,I.turned (t':=s.toks) (fun b o hb e=>eb b o hb e) f0 f1 f3 f4 f5⟩
 self:=fun _ _ _ _ _ st h=>wpAny_pyIter_revIter st.2 h
section
variable {X:Cx} {p pos:Pos} {a tg:Expr}
def qon (K:PySem.W.Frag) (ta:TA):TI:=fun σ H R=>ta σ H fun vs H1=>match vs with
 | [.ref l]=>∃ xs,SqL K H1 l xs/\R (Itv K l xs.length) H1
 | _=>False
theorem ql0 {ta:TA} {mg':Str->Option Value} (hm:mg' "reversed" = none) (hX:X.mg=mg') (ha:PA X [a] ta) (hg:gB X "reversed" = true:=by kernel_rfl) (hs:starEach [a] X.env=[(false,eval a X.env)]:=by kernel_rfl) :
  PI X tg (.Call (.Name "reversed" p) [a] [] pos) (qon X.K ta):=by
 intro pins s σ H R I h
 refine Call_ (qa0 I (qaz hg) (by rw [hX];exact hm) boot_reversed (PyProof.Rows.callWith_type1 (thn (ha pos pins s σ H _ I h) fun us s1 ⟨vs,H1,I1,r1,q1⟩=>?_) hs rfl))
 dsimp only at q1
 split at q1
 ·rename_i l
  obtain ⟨xs,hq,q⟩:=q1
  obtain ⟨u,rfl,r⟩:=qaP r1
  cases r
  obtain ⟨its,rv,pl,hz⟩:=I1.list hq
  have rl:=rv.length
  refine call_reversed_list pl.isList ?_
  have e0:((its.toArray.size:Nat):Int) - 1=(xs.length:Int) - 1 - ((0:Nat):Int):=by simp;omega
  have st:(s1.heap.push (revObj l (((its.toArray.size:Nat):Int) - 1))).IsRevIter s1.heap.objs.size l ((xs.length:Int) - 1 - ((0:Nat):Int)):=⟨_,Heap.get?_push_size _ rfl,rfl,by rw [<-e0];rfl⟩
  refine wpAny_pyIter_revIter st ?_
  refine ⟨s1.heap.objs.size,[s1.heap.objs.size],_,_,H1,rfl,I1.kept (t':=s1.toks) fun b o e=>Heap.get?_push_of_some _ e,qhm l _ xs.length,⟨Nat.zero_le _,st⟩,fun b hb=>?_,q⟩
  have e:b=s1.heap.objs.size:=by simpa using hb
  subst e
  exact I1.fpOk (Nat.le_refl _) (I1.hok.fresh (Nat.le_refl _))
 ·exact q1.elim
end
theorem qj0 (K:PySem.W.Frag) (a:Addr) (xs:List V):ItOk (Itv K a xs.length) xs.reverse fun H=>SqL K H a xs:=
 ⟨fun H h=>⟨xs,h,rfl,by simp⟩,fun i H h hi=>⟨xs,_,h,rfl,gE_ hi⟩,fun i H x H' h hi y=>⟨y.1,y.2 xs h⟩⟩
end L2
namespace L2
open PySem PySem.Spec PyProof.Rows
theorem Vals.rev:∀ {xs:List V} {us:List Value},Vals xs us->Vals xs.reverse us.reverse
 | _,_,.nil=>.nil
 | _,_,.cons r t=>by
  rw [List.reverse_cons,List.reverse_cons]
  exact (Vals.rev t).append (.cons r .nil)
section
variable {prog:Program} {w:World} {A:Around} {E:Value->Shared->Prop} {s:Shared}
theorem qh5 {it:Addr} {Q:Bool->Shared->Prop} (hT:s.TypeIs (.ref it) "list_reverseiterator") (h:Q false s):wpAny (model prog w) A (Builtin.List.listLengthHint (.ref it)) Q E s:=by
 have n1:typeLookup (.type "list_reverseiterator") "__len__" = pure none:=by rw [typeLookup_type,builtinLookup_eq_fast];kernel_rfl
 have n2:typeLookup (.type "list_reverseiterator") "__length_hint__" = pure (some (.builtin "list_reverseiterator.__length_hint__")):=by rw [typeLookup_type,builtinLookup_eq_fast];kernel_rfl
 unfold Builtin.List.listLengthHint
 refine wpAny_bind (wpAny_specialOf hT n1 ?_)
 wp_delta
 refine wpAny_ite_split (fun hab=>absurd hab (by decide +kernel)) (fun _=>?_)
 refine wpAny_ite_split (fun hab=>absurd hab (by decide)) (fun _=>?_)
 refine wpAny_bind (wpAny_specialOf hT n2 ?_)
 generalize hid:("list_reverseiterator.__length_hint__" : String)=id0
 wp_delta
 rw [show splitId id0=some ("list_reverseiterator","__length_hint__") from by subst hid;decide +kernel]
 subst hid
 refine wpAny_bind (wpAny_isInstance (T:= "list_reverseiterator") (b:=true) hT (by rw [isSubtype_type];kernel_rfl) ?_)
 refine wpAny_ite_split (fun hab=>absurd hab (by decide)) (fun _=>?_)
 refine wpAny_ite_split (fun _=>?_) (fun hab=>absurd (by decide +kernel) hab)
 refine wpAny_ite_split (fun hab=>absurd hab (by decide +kernel)) (fun _=>?_)
 exact wpAny_pure h
theorem qfo {R:Result->Shared->Prop} {it l:Addr} {items:Array Value} (hh:A.handled=none) (hit:s.heap.IsRevIter it l ((items.size:Int) - 1 - ((0:Nat):Int))) (hl:s.heap.IsList l items) (hne:l≠it) (hlen:items.size<=sizeLine) (S:Addr) (res:Value) (c₀:Nat) (hS:s.heap.get? S=some { cls:=.type "list",data:=.seq #[] c₀ }) (hSl:S≠l)
  (hR:∀ h' tk acc' c',(∀ b o,b≠S->b≠it->s.heap.get? b=some o->h'.get? b=some o)->h'.get? S=some { cls:=.type "list",dict:=none,data:=.seq acc' c',slots:=#[] } →
   ItemsOf (fun i v=>items[items.size - 1 - i]? = some v) acc' items.size->R (.ok (.ret res)) { s with heap:=h',toks:=tk }) :
  wpAny (model prog w) A.in1 (Builtin.List.listExtendWith (.ref S) (.ref it) res)
   (fun fin s'=>match fin with | .done f=>R (.ok f) s' | .again c'=>c'.quiet=true/\codeAny (model prog w) A c' R s') (fun e s'=>R (.error e) s') s:=by
 have hT:=hit.typeIs
 have hSr:S≠it:=fun e=>by obtain ⟨o,ho,hc,_⟩:=hit;rw [<-e,hS] at ho;cases ho;exact absurd (show Value.type "list" = Value.type "list_reverseiterator" from hc) (by decide)
 have hSf:S ∉ [it,l]:=fun hm=>by simp at hm;rcases hm with h | h;exact hSr h;exact hSl h
 have W:=(Walks.listRev (prog:=prog) (w:=w) (A:=A.in1) hh it l hne items).toS
 unfold Builtin.List.listExtendWith
 refine wpAny_bind (wpAny_typeOf (T:= "list_reverseiterator") hT ?_)
 have h1:Builtin.List.listSameRef (.ref S) (.ref it)=false:=by simp [Builtin.List.listSameRef,hSr]
 have h2:(Value.type "list_reverseiterator" == Value.type "list")=false:=by decide
 have h3:(Value.type "list_reverseiterator" == Value.type "tuple")=false:=by decide
 simp only [h1,h2,h3,Bool.or_false,Bool.false_eq_true,if_false]
 refine wpAny_bind (wpAny_pyIter_revIter hit ?_)
 refine wpAny_bind (wpAny_holding (qh5 hT ?_))
 have key:∀ (h:Heap) (c₁ tk:Nat),h.IsRevIter it l ((items.size:Int) - 1 - ((0:Nat):Int))->h.IsList l items->(∀ b o,b≠S->s.heap.get? b=some o->h.get? b=some o) →
   h.get? S=some { cls:=.type "list",data:=.seq #[] c₁ }->codeAny (model prog w) A (.builtin "list.extend.loop" ⟨[.ref S,.ref it,res],[]⟩) R { s with heap:=h,toks:=tk }:=by
  intro h c₁ tk hit' hll hk hS₁
  refine codeAny_extend_loopS W hlen S hSf res items.size 0 _ #[] c₁ rfl (Nat.zero_le _) ⟨Nat.zero_le _,hit',hll⟩ hS₁ (ItemsOf.nil _) fun s' acc' c' hm hS' hacc=>?_
  rw [Moved.eq_with hm]
  refine hR s'.heap s'.toks acc' c' (fun b o hb hb2 e=>hm.heap b o (fun hmem=>?_) (hk b o hb e)) hS' hacc
  rcases List.mem_cons.mp hmem with e' | hmem
  ·exact hb e'
  ·exact hb2 (mS_ hmem)
 refine wpAny_ite_split (fun _=>?_) (fun _=>wpAny_pure ⟨plainId_quiet F.plain_extend_loop _,key _ c₀ _ hit hl (fun b o _ e=>e) hS⟩)
 refine wpAny_bind (wpAny_rule ?_)
 refine wpAny_bind ?_
 show wpAny _ _ (updateSeq S (·.push .none) >>= fun _=>updateSeq S (·.pop)) _ _ _
 refine wpAny_bind (wpAny_updateSeq hS rfl ?_)
 have hS₂:=Heap.get?_update_self (Obj.mapSeq (·.push Value.none)) hS rfl
 refine wpAny_updateSeq (hz:=by seq_fits) hS₂ rfl ?_
 have hS₃:=Heap.get?_update_self (Obj.mapSeq (·.pop)) hS₂ rfl
 refine wpAny_pure ⟨plainId_quiet F.plain_extend_loop _,key _ _ _ ?_ ?_ (fun b o hb e=>?_) hS₃⟩
 ·exact hit.at fun o e=>(Heap.get?_update_other _ _ hSr).trans ((Heap.get?_update_other _ _ hSr).trans e)
 ·exact hl.at fun o e=>(Heap.get?_update_other _ _ hSl).trans ((Heap.get?_update_other _ _ hSl).trans e)
 ·exact (Heap.get?_update_other _ _ (Ne.symm hb)).trans ((Heap.get?_update_other _ _ (Ne.symm hb)).trans e)
theorem qc0 {Q:Value->Shared->Prop} {it l:Addr} {items:Array Value} (hh:A.handled=none) (hit:s.heap.IsRevIter it l ((items.size:Int) - 1 - ((0:Nat):Int))) (hl:s.heap.IsList l items) (hne:l≠it) (hlen:items.size<=sizeLine)
  (hQ:∀ h' tk acc' c',(∀ b o,b≠it->s.heap.get? b=some o->h'.get? b=some o) →
   h'.get? s.heap.objs.size=some { cls:=.type "list",dict:=none,data:=.seq acc' c',slots:=#[] }->ItemsOf (fun i v=>items[items.size - 1 - i]? = some v) acc' items.size->Q (.ref s.heap.objs.size) { s with heap:=h',toks:=tk }) :
  wpAny (model prog w) A (call (.type "list") [.ref it]) Q E s:=by
 refine callType_codes (Q₁:=fun obj s₁=>obj = .ref s.heap.objs.size/\s₁={ s with heap:=s.heap.push { cls:=.type "list",data:=.seq #[] } }) F.called_list (F.typeCall_list_1 _) F.entry_list_init
  (code_list_new _ ⟨rfl,rfl⟩) fun obj s₁ h₁=>?_
 obtain ⟨rfl,rfl⟩:=h₁
 have hS:(s.heap.push { cls:=.type "list",data:=.seq #[] }).get? s.heap.objs.size=some { cls:=.type "list",data:=.seq #[] }:=Heap.get?_push_size _ rfl
 have itlt:it < s.heap.objs.size:=by obtain ⟨o,ho,_⟩:=hit;exact Heap.lt_size ho
 have llt:l < s.heap.objs.size:=by obtain ⟨o,ho,_⟩:=hl;exact Heap.lt_size ho
 refine ⟨⟨_,hS,rfl⟩,F.args_list_init_2 _ _,?_⟩
 show wpAny _ _ (do let old <-Builtin.List.listItems (.ref s.heap.objs.size);Builtin.List.listUpdate (.ref s.heap.objs.size) (fun _=>#[]);letGo old.toList.reverse;Builtin.List.listExtendWith (.ref s.heap.objs.size) (.ref it) .none) _ _ _
 refine wpAny_bind ?_
 unfold Builtin.List.listItems
 refine wpAny_bind (wpAny_seqItems hS rfl (wpAny_pure ?_))
 show wpAny _ _ (updateSeq s.heap.objs.size (fun _=>#[]) >>= fun _=>letGo (#[]:Array Value).toList.reverse >>= fun _=>Builtin.List.listExtendWith (.ref s.heap.objs.size) (.ref it) .none) _ _ _
 refine wpAny_bind (wpAny_updateSeq hS rfl ?_)
 have hS₂:=Heap.get?_update_self (Obj.mapSeq (fun _=>(#[]:Array Value))) hS rfl
 have oth:∀ b o,b≠s.heap.objs.size->(s.heap.push { cls:=.type "list",data:=.seq #[] }).get? b=some o->((s.heap.push { cls:=.type "list",data:=.seq #[] }).update s.heap.objs.size (Obj.mapSeq (fun _=>(#[]:Array Value)))).get? b=some o:=
  fun b o hb e=>(Heap.get?_update_other _ _ (Ne.symm hb)).trans e
 refine wpAny_bind (wpAny_letGo ?_)
 have hit2:=hit.at (h':=((s.heap.push { cls:=.type "list",data:=.seq #[] }).update s.heap.objs.size (Obj.mapSeq (fun _=>(#[]:Array Value))))) fun o e=>oth it o (Nat.ne_of_lt itlt) (Heap.get?_push_of_some _ e)
 have hl2:=hl.at (h':=((s.heap.push { cls:=.type "list",data:=.seq #[] }).update s.heap.objs.size (Obj.mapSeq (fun _=>(#[]:Array Value))))) fun o e=>oth l o (Nat.ne_of_lt llt) (Heap.get?_push_of_some _ e)
 refine qfo (A:=A.in1) hh hit2 hl2 hne hlen _ .none _ hS₂ (Nat.ne_of_gt llt) fun h' tk acc' c' hk hS' hacc=>?_
 exact ⟨rfl,hQ h' tk acc' c' (fun b o hb e=>hk b o (Nat.ne_of_lt (Heap.lt_size e)) hb (oth b o (Nat.ne_of_lt (Heap.lt_size e)) (Heap.get?_push_of_some _ e))) hS' hacc⟩
end
section
variable {X:Cx} {p p2 pos pos2:Pos} {a:Expr}
def tLR (ta:TA):TE:=fun σ H Q=>ta σ H fun vs H1=>match vs with
 | [.ref l]=>∃ xs,H1 l=some (.lst xs)/\∀ n,H1 n=none->Q (.ref n) (upd H1 n (.lst xs.reverse))
 | _=>False
theorem qgS {ta:TA} {mg':Str->Option Value} (hm1:mg' "list" = none) (hm2:mg' "reversed" = none) (hX:X.mg=mg') (ha:PA X [a] ta) (hc:X.calm=true:=by kernel_rfl) (hg1:gB X "list" = true:=by kernel_rfl) (hg2:gB X "reversed" = true:=by kernel_rfl)
  (hs:starEach [a] X.env=[(false,eval a X.env)]:=by kernel_rfl) (hs1:starEach [.Call (.Name "reversed" p2) [a] [] pos2] X.env=[(false,eval (.Call (.Name "reversed" p2) [a] [] pos2) X.env)]:=by kernel_rfl) :
  PE X (.Call (.Name "list" p) [.Call (.Name "reversed" p2) [a] [] pos2] [] pos) (tLR ta):=by
 intro pins s σ H Q I h
 refine wpAny_Call_Name_kw (qa0 I (qaz hg1) (by rw [hX];exact hm1) boot_list ?_)
 refine PyProof.Rows.callWith_type1 ?_ hs1 rfl
 rw [hs1]
 show wpAny _ _ (spliced [(false,eval (.Call (.Name "reversed" p2) [a] [] pos2) X.env)]) _ _ s
 refine Calls.spliced_cons ?_
 refine Call_ (qa0 I (qaz hg2) (by rw [hX];exact hm2) boot_reversed (PyProof.Rows.callWith_type1 (thn (ha pos2 pins s σ H _ I h) fun us s1 ⟨vs,H1,I1,r1,q1⟩=>?_) hs rfl))
 dsimp only at q1
 split at q1
 ·rename_i l
  obtain ⟨xs,hq,q⟩:=q1
  obtain ⟨u,rfl,r⟩:=qaP r1
  cases r
  obtain ⟨its,rv,pl,hz⟩:=I1.list (SqL.of (K:=X.K) hq)
  have rl:=rv.length
  refine call_reversed_list pl.isList ?_
  have ilt:l < s1.heap.objs.size:=by obtain ⟨o,ho,_⟩:=pl.isList;exact Heap.lt_size ho
  have hne:l≠s1.heap.objs.size:=Nat.ne_of_lt ilt
  have hfr:H1 s1.heap.objs.size=none:=I1.hok.fresh (Nat.le_refl _)
  have I2:Inv X pins σ H1 { s1 with heap:=s1.heap.push (revObj l (((its.toArray.size:Nat):Int) - 1)) }:=I1.kept (t':=s1.toks) fun b o e=>Heap.get?_push_of_some _ e
  have st:(s1.heap.push (revObj l (((its.toArray.size:Nat):Int) - 1))).IsRevIter s1.heap.objs.size l (((its.toArray.size:Nat):Int) - 1 - ((0:Nat):Int)):=⟨_,Heap.get?_push_size _ rfl,rfl,by rw [show ((its.toArray.size:Nat):Int) - 1 - ((0:Nat):Int)=((its.toArray.size:Nat):Int) - 1 by omega];rfl⟩
  have fp:qft X pins H1 s1.heap.objs.size:=I1.fpOk (Nat.le_refl _) hfr
  refine Calls.spliced_nil ?_
  refine qc0 (I2.ok.hd hc) st (pl.isList.at fun o e=>Heap.get?_push_of_some _ e) hne (by simp;omega) fun h' tk acc' c' kp e' itm=>?_
  have sz:s1.heap.objs.size<=(s1.heap.push (revObj l (((its.toArray.size:Nat):Int) - 1))).objs.size:=by rw [Heap.size_push];omega
  have hn:H1 (s1.heap.push (revObj l (((its.toArray.size:Nat):Int) - 1))).objs.size=none:=I1.hok.fresh sz
  refine ⟨.ref (s1.heap.push (revObj l (((its.toArray.size:Nat):Int) - 1))).objs.size,upd H1 (s1.heap.push (revObj l (((its.toArray.size:Nat):Int) - 1))).objs.size (.lst xs.reverse),?_,rfl,q _ hn⟩
  refine I2.turnLaid (t':=tk) (ch:=[s1.heap.objs.size]) (fun b hb=>?_) (fun b o hb e=>kp b o (fun z=>hb (by simp [z])) e) (Nat.le_refl _) ?_
  ·rw [mS_ hb];exact fp
  ·refine ⟨by rw [List.length_reverse];omega,acc'.toList,c',?_,by simpa using e'⟩
   have er:acc'.toList=its.reverse:=by
    apply List.ext_getElem?
    intro i
    by_cases hi:i < its.length
    ·have hi':i < acc'.size:=by rw [itm.1];simpa using hi
     have:=itm.2 i acc'[i] (by simp [hi'])
     rw [List.getElem?_reverse hi]
     have e1:acc'.toList[i]? = some acc'[i]:=by simp [hi']
     rw [e1]
     have e2:its.toArray[its.toArray.size - 1 - i]? = its[its.length - 1 - i]?:=by simp
     rw [<-e2];exact this.symm
    ·have:¬ i < acc'.size:=by rw [itm.1];simpa using hi
     rw [List.getElem?_eq_none (by simp;omega),List.getElem?_eq_none (by rw [List.length_reverse];omega)]
   rw [er]
   exact Vals.rev rv
 ·exact q1.elim
end
end L2
end
section
namespace L2
open PySem PySem.Spec PyProof.Rows
section
variable {H H':Hp} {v:V} {R R1:Om.R2n} {E:Nat->Nat->Om.Stp->Prop}
theorem noL {L:Addr} {xs ys:List V} (hL:H L=some (.lst xs)) {x:Addr} {u:HO} (h:H x=some u) (n:∀ zs,u≠.lst zs):upd H L (.lst ys) x=some u:=by
 have:x≠L:=fun z=>by subst z;rw [hL] at h;cases h;exact n _ rfl
 rw [qab this];exact h
theorem LyV.updR {L:Addr} {xs ys:List V} (h:LyV H v R) (hL:H L=some (.lst xs)):LyV (upd H L (.lst ys)) v R:=by
 obtain ⟨a,o,kvs,ks,e,h1,h2⟩:=h
 exact ⟨a,o,kvs,ks,e,noL hL h1 (fun _ z=>nomatch z),h2⟩
end
theorem qaR {kvs:List (List Key×V)} {p q:Nat×Nat} {v:V} (h:q≠p):qaM (qba kvs (kk p) v) (kk q)=qaM kvs (kk q):=by
 rw [qbL,if_neg (fun z=>h (qiA z))]
theorem qaS {kvs:List (List Key×V)} {p:Nat×Nat} {v:V}:qaM (qba kvs (kk p) v) (kk p)=some v:=by rw [qbL,if_pos rfl]
end L2
namespace L2
open PySem PySem.Spec PyProof.Rows
section
variable {H H':Hp} {v:V} {R:Om.R2n} {E:Nat->Nat->Om.Stp->Prop}
end
end L2
end
section
namespace Om
section
variable {k n:Nat} {rows:Rows} {nd lb:Nat->Nat×Nat} {j:Nat}
theorem nats_cast (ls:List Nat):nats (ls.map fun l=>((l:Nat):Int))=ls:=by
 unfold nats
 rw [List.map_map]
 conv=>rhs;rw [<-List.map_id ls]
 apply List.map_congr_left
 intro x _
 simp
end
end Om
end
section
namespace Om
def LtL (a b:Nat×Nat):Prop:=a.1 < b.1\/(a.1=b.1/\a.2 < b.2)
def LtS (s t:Stp):Prop:=LtL s.1 t.1
def LtB (s t:Stp):Prop:=LtL s.2 t.2\/(s.2=t.2/\LtL s.1 t.1)
theorem LtL.as {a b:Nat×Nat} (h:LtL a b):¬ LtL b a:=by unfold LtL at *;omega
theorem LtS.as {a b:Stp} (h:LtS a b):¬ LtS b a:=LtL.as h
theorem LtB.as {a b:Stp} (h:LtB a b):¬ LtB b a:=by
 rintro (g | ⟨g1,g2⟩)<;>rcases h with h | ⟨h1,h2⟩
 ·exact h.as g
 ·rw [h1] at g;exact g.as g
 ·rw [g1] at h;exact h.as h
 ·exact h2.as g2
theorem qdd {α:Type} {lt:α->α->Prop} (as:∀ a b,lt a b->¬ lt b a):∀ {l m:List α},l.Pairwise lt->m.Pairwise lt->(∀ x,x∈l↔x∈m)->l=m
 | [],[],_,_,_=>rfl
 | [],b :: m,_,_,h=>absurd ((h b).mpr (List.mem_cons_self ..)) (by simp)
 | a :: l,[],_,_,h=>absurd ((h a).mp (List.mem_cons_self ..)) (by simp)
 | a :: l,b :: m,hl,hm,h=>by
  obtain ⟨l1,l2⟩:=List.pairwise_cons.mp hl
  obtain ⟨m1,m2⟩:=List.pairwise_cons.mp hm
  have e:a=b:=by
   rcases List.mem_cons.mp ((h a).mp (List.mem_cons_self ..)) with e | e
   ·exact e
   ·rcases List.mem_cons.mp ((h b).mpr (List.mem_cons_self ..)) with e' | e'
    ·exact e'.symm
    ·exact absurd (l1 _ e') (as _ _ (m1 _ e))
  subst e
  rw [qdd as l2 m2 fun x=>?_]
  constructor
  ·intro hx
   rcases List.mem_cons.mp ((h x).mp (mC_ _ hx)) with rfl | e
   ·exact absurd (l1 _ hx) (as _ _ (l1 _ hx))
   ·exact e
  ·intro hx
   rcases List.mem_cons.mp ((h x).mpr (mC_ _ hx)) with rfl | e
   ·exact absurd (m1 _ hx) (as _ _ (m1 _ hx))
   ·exact e
theorem pw_app {α:Type} {lt:α->α->Prop} {l:List α} {x:α} (h:l.Pairwise lt) (g:∀ a∈l,lt a x):(l++[x]).Pairwise lt:=
 List.pairwise_append.mpr ⟨h,List.pairwise_singleton ..,fun a ha b hb=>by rw [mS_ hb];exact g a ha⟩
noncomputable def canon {α:Type} (lt:α->α->Prop) (P:α->Prop):List α:=
 open Classical in if h:∃ l:List α,l.Pairwise lt/\∀ x,x∈l↔P x then Classical.choose h else []
theorem canon_eq {α:Type} {lt:α->α->Prop} {P:α->Prop} (as:∀ a b,lt a b->¬ lt b a) {l:List α} (h1:l.Pairwise lt) (h2:∀ x,x∈l↔P x):canon lt P=l:=by
 have h:∃ l:List α,l.Pairwise lt/\∀ x,x∈l↔P x:=⟨l,h1,h2⟩
 unfold canon
 rw [dif_pos h]
 obtain ⟨c1,c2⟩:=Classical.choose_spec h
 exact qdd as c1 h1 fun x=>by rw [c2,h2]
noncomputable def keysL (rows:Rows):List (Nat×Nat):=canon LtL fun p=>AllR rows p.1 p.2
noncomputable def backL (rows:Rows) (p:Nat×Nat):List Stp:=canon LtB (BSt rows p.1 p.2)
end Om
namespace L2
open PySem PySem.Spec PyProof.Rows
def GrO (c:Nat) (lt:Om.Stp->Om.Stp->Prop) (H:Hp) (v:V) (R:Om.R2n) (E:Nat->Nat->Om.Stp->Prop):Prop:=∃ a o kvs ks,v = .ref a/\H a=some (.frz o (.dT kvs))/\KD ks kvs/\(∀ x y,(x,y)∈ks↔R x y)/\ks.Pairwise Om.LtL ∧
 ∀ p∈ks,∃ l ss,qaM kvs (kk p)=some (.ref l)/\StL H l ss/\ss.length<=c/\ss.Pairwise lt/\∀ s,s∈ss↔E p.1 p.2 s
section
variable {c:Nat} {lt:Om.Stp->Om.Stp->Prop} {H H':Hp} {v:V} {R:Om.R2n} {E:Nat->Nat->Om.Stp->Prop}
theorem GrO.mono (h:GrO c lt H v R E) (s:Same H H'):GrO c lt H' v R E:=by
 obtain ⟨a,o,kvs,ks,e,h1,h2,h3,h5,h4⟩:=h
 refine ⟨a,o,kvs,ks,e,s _ _ h1,h2,h3,h5,fun p hp=>?_⟩
 obtain ⟨l,ss,q1,q2,q3⟩:=h4 p hp
 exact ⟨l,ss,q1,q2.mono s,q3⟩
theorem GrO.gr (h:GrO c lt H v R E):GrN c H v R E:=by
 obtain ⟨a,o,kvs,ks,e,h1,h2,h3,_,h4⟩:=h
 refine ⟨a,o,kvs,ks,e,h1,h2,h3,fun p hp=>?_⟩
 obtain ⟨l,ss,q1,q2,q3,_,q5⟩:=h4 p hp
 exact ⟨l,ss,q1,q2,q3,q5⟩
end
def ValsO (G:Hp) (kvs:List (List Key×V)) (ks:List (Nat×Nat)) (E:Nat->Nat->Om.Stp->Prop):Prop:=
 ∀ p∈ks,∃ l ss,qaM kvs (kk p)=some (.ref l)/\StL G l ss/\ss.length<=64/\ss.Pairwise Om.LtS/\∀ s,s∈ss↔E p.1 p.2 s
theorem ValsO.mono {G G':Hp} {kvs:List (List Key×V)} {ks:List (Nat×Nat)} {E:Nat->Nat->Om.Stp->Prop} (h:ValsO G kvs ks E) (s:Same G G'):ValsO G' kvs ks E:=fun p hp=>by
 obtain ⟨l,ss,q1,q2,q3⟩:=h p hp
 exact ⟨l,ss,q1,q2.mono s,q3⟩
theorem ValsO.put {G:Hp} {kvs:List (List Key×V)} {ks:List (Nat×Nat)} {E:Nat->Nat->Om.Stp->Prop} {p:Nat×Nat} {l:Addr} {ss:List Om.Stp} (h:ValsO G kvs ks E) (n:p ∉ ks) (hl:StL G l ss) (h64:ss.length<=64) (ho:ss.Pairwise Om.LtS) (hs:∀ s,s∈ss↔E p.1 p.2 s) :
  ValsO G (qba kvs (kk p) (.ref l)) (ks++[p]) E:=fun q hq=>by
 rcases mA_ hq with hq | hq
 ·obtain ⟨l',ss',q1,q2⟩:=h q hq
  exact ⟨l',ss',by rw [qaR (p:=p) (q:=q) (fun z=>n (z ▸ hq))];exact q1,q2⟩
 ·have:q=p:=by simpa using hq
  subst this
  exact ⟨l,ss,qaS,hl,h64,ho,hs⟩
end L2
end
section
namespace L2
open PySem PySem.Spec PyProof.Rows
section
variable {G H0 H:Hp} {D q:Addr} {kvs:List (List Key×V)} {ks:List (Nat×Nat)} {c:Nat} {E:Nat×Nat->Om.Stp->Prop} {o:HO}
end
end L2
end
section
namespace Om
abbrev Ent:=(Nat×Nat)×((Nat×Nat)×(Nat×Nat))
def putE (q:Nat×Nat) (acc:List Ent) (s:Stp):List Ent:=if s.2∈acc.map (·.1) then acc else acc++[(s.2,(q,s.1))]
def nodeE (g:Nat×Nat->List Stp) (acc:List Ent) (q:Nat×Nat):List Ent:=(g q).foldl (putE q) acc
def behE (g:Nat×Nat->List Stp) (ks:List (Nat×Nat)):List Ent:=ks.foldl (nodeE g) []
theorem fold_take {α β:Type} (f:β->α->β) (b:β) {l:List α} {i:Nat} (h:i < l.length):(l.take (i+1)).foldl f b=f ((l.take i).foldl f b) l[i]:=by
 rw [List.take_add_one,gE_ h,List.foldl_append];rfl
theorem putE_old {q:Nat×Nat} {acc:List Ent} {s:Stp} (h:s.2∈acc.map (·.1)):putE q acc s=acc:=if_pos h
theorem putE_new {q:Nat×Nat} {acc:List Ent} {s:Stp} (h:s.2 ∉ acc.map (·.1)):putE q acc s=acc++[(s.2,(q,s.1))]:=if_neg h
theorem qhX {q:Nat×Nat} {acc:List Ent} {s:Stp} {e:Ent} (h:e∈putE q acc s):e∈acc\/e=(s.2,(q,s.1)):=by
 by_cases c:s.2∈acc.map (·.1)
 ·rw [putE_old c] at h;exact .inl h
 ·rw [putE_new c,List.mem_append,List.mem_singleton] at h;exact h
theorem qdo {q:Nat×Nat}:∀ {l:List Stp} {acc:List Ent} {e:Ent},e∈l.foldl (putE q) acc->e∈acc\/∃ s∈l,e=(s.2,(q,s.1))
 | [],_,_,h=>.inl h
 | s :: l,acc,e,h=>by
  rcases qdo (l:=l) h with h | ⟨s',h1,h2⟩
  ·rcases qhX h with h | h
   ·exact .inl h
   ·exact .inr ⟨s,List.mem_cons_self,h⟩
  ·exact .inr ⟨s',mC_ _ h1,h2⟩
theorem qgu {g:Nat×Nat->List Stp}:∀ {ks:List (Nat×Nat)} {acc:List Ent} {e:Ent},e∈ks.foldl (nodeE g) acc->e∈acc\/∃ q∈ks,∃ s∈g q,e=(s.2,(q,s.1))
 | [],_,_,h=>.inl h
 | q :: ks,acc,e,h=>by
  rcases qgu (ks:=ks) h with h | ⟨q',h1,h2⟩
  ·rcases qdo h with h | ⟨s,h1,h2⟩
   ·exact .inl h
   ·exact .inr ⟨q,List.mem_cons_self,s,h1,h2⟩
  ·exact .inr ⟨q',mC_ _ h1,h2⟩
theorem qh3 {q:Nat×Nat} {acc:List Ent} {s:Stp} {p:Nat×Nat}:p∈(putE q acc s).map (·.1)↔p∈acc.map (·.1)\/p=s.2:=by
 by_cases c:s.2∈acc.map (·.1)
 ·rw [putE_old c]
  exact ⟨.inl,fun h=>h.elim id fun e=>e ▸ c⟩
 ·rw [putE_new c,List.map_append,List.mem_append];simp
theorem qds {q p:Nat×Nat}:∀ {l:List Stp} {acc:List Ent},p∈(l.foldl (putE q) acc).map (·.1)↔p∈acc.map (·.1)\/∃ s∈l,s.2=p
 | [],acc=>by simp
 | s :: l,acc=>by
  rw [List.foldl_cons,qds,qh3]
  constructor
  ·rintro ((h | h) | ⟨s',h1,h2⟩)
   ·exact .inl h
   ·exact .inr ⟨s,List.mem_cons_self,h.symm⟩
   ·exact .inr ⟨s',mC_ _ h1,h2⟩
  ·rintro (h | ⟨s',h1,h2⟩)
   ·exact .inl (.inl h)
   ·rcases List.mem_cons.mp h1 with rfl | h1
    ·exact .inl (.inr h2.symm)
    ·exact .inr ⟨s',h1,h2⟩
theorem qgB {g:Nat×Nat->List Stp} {p:Nat×Nat}:∀ {ks:List (Nat×Nat)} {acc:List Ent},p∈(ks.foldl (nodeE g) acc).map (·.1)↔p∈acc.map (·.1)\/∃ q∈ks,∃ s∈g q,s.2=p
 | [],acc=>by simp
 | q :: ks,acc=>by
  rw [List.foldl_cons,qgB]
  unfold nodeE
  rw [qds]
  constructor
  ·rintro ((h | ⟨s,h1,h2⟩) | ⟨q',h1,h2⟩)
   ·exact .inl h
   ·exact .inr ⟨q,List.mem_cons_self,s,h1,h2⟩
   ·exact .inr ⟨q',mC_ _ h1,h2⟩
  ·rintro (h | ⟨q',h1,h2⟩)
   ·exact .inl (.inl h)
   ·rcases List.mem_cons.mp h1 with rfl | h1
    ·exact .inl (.inr h2)
    ·exact .inr ⟨q',h1,h2⟩
end Om
namespace L2
open PySem PySem.Spec PyProof.Rows
def EntAt (H:Hp) (kvs:List (List Key×V)) (e:Om.Ent):Prop:=∃ t pa la,qaM kvs (kk e.1)=some (.ref t)/\H t=some (.tup [.ref pa,.ref la])/\H pa=some (.tup ((kk e.2.1).map kV))/\H la=some (.tup [.int (e.2.2.1:Nat),.int (e.2.2.2:Nat)])
def LyK (H:Hp) (v:V) (ks:List (Nat×Nat)):Prop:=∃ a o kvs,v = .ref a/\H a=some (.frz o (.dT kvs))/\KD ks kvs
def LyX (H:Hp) (v:V) (acc:List Om.Ent):Prop:=∃ a o kvs,v = .ref a/\H a=some (.frz o (.dT kvs))/\KD (acc.map (·.1)) kvs/\∀ e∈acc,EntAt H kvs e
def GrX (c:Nat) (H:Hp) (v:V) (gks:List (Nat×Nat)) (g:Nat×Nat->List Om.Stp):Prop:=∃ a o kvs,v = .ref a/\H a=some (.frz o (.dT kvs))/\KD gks kvs/\∀ p∈gks,∃ l,qaM kvs (kk p)=some (.ref l)/\StL H l (g p)/\(g p).length<=c
section
variable {H H':Hp} {v:V} {c:Nat}
theorem EntAt.mono {kvs:List (List Key×V)} {e:Om.Ent} (h:EntAt H kvs e) (s:Same H H'):EntAt H' kvs e:=by
 obtain ⟨t,pa,la,h1,h2,h3,h4⟩:=h
 exact ⟨t,pa,la,h1,s _ _ h2,s _ _ h3,s _ _ h4⟩
theorem LyK.mono {ks:List (Nat×Nat)} (h:LyK H v ks) (s:Same H H'):LyK H' v ks:=by
 obtain ⟨a,o,kvs,e,h1,h2⟩:=h
 exact ⟨a,o,kvs,e,s _ _ h1,h2⟩
theorem LyX.mono {acc:List Om.Ent} (h:LyX H v acc) (s:Same H H'):LyX H' v acc:=by
 obtain ⟨a,o,kvs,e,h1,h2,h3⟩:=h
 exact ⟨a,o,kvs,e,s _ _ h1,h2,fun e he=>(h3 e he).mono s⟩
theorem LyX.k {acc:List Om.Ent} (h:LyX H v acc):LyK H v (acc.map (·.1)):=by
 obtain ⟨a,o,kvs,e,h1,h2,h3⟩:=h
 exact ⟨a,o,kvs,e,h1,h2⟩
theorem GrX.mono {gks:List (Nat×Nat)} {g:Nat×Nat->List Om.Stp} (h:GrX c H v gks g) (s:Same H H'):GrX c H' v gks g:=by
 obtain ⟨a,o,kvs,e,h1,h2,h3⟩:=h
 refine ⟨a,o,kvs,e,s _ _ h1,h2,fun p hp=>?_⟩
 obtain ⟨l,q1,q2,q3⟩:=h3 p hp
 exact ⟨l,q1,q2.mono s,q3⟩
theorem GrX.k {gks:List (Nat×Nat)} {g:Nat×Nat->List Om.Stp} (h:GrX c H v gks g):LyK H v gks:=by
 obtain ⟨a,o,kvs,e,h1,h2,h3⟩:=h
 exact ⟨a,o,kvs,e,h1,h2⟩
theorem GrO.x {rows:Om.Rows} (h:GrO c Om.LtB H v (Om.AllR rows) (Om.BSt rows)):GrX c H v (Om.keysL rows) (Om.backL rows)/\(∀ p,p∈Om.keysL rows↔Om.AllR rows p.1 p.2)/\∀ p∈Om.keysL rows,∀ s,s∈Om.backL rows p↔Om.BSt rows p.1 p.2 s:=by
 obtain ⟨a,o,kvs,ks,e,h1,h2,h3,h5,h4⟩:=h
 have ek:Om.keysL rows=ks:=Om.canon_eq (fun _ _=>Om.LtL.as) h5 fun p=>h3 p.1 p.2
 rw [ek]
 refine ⟨⟨a,o,kvs,e,h1,h2,fun p hp=>?_⟩,fun p=>h3 p.1 p.2,fun p hp=>?_⟩
 ·obtain ⟨l,ss,q1,q2,q3,q5,q4⟩:=h4 p hp
  have eb:Om.backL rows p=ss:=Om.canon_eq (fun _ _=>Om.LtB.as) q5 q4
  rw [eb]
  exact ⟨l,q1,q2,q3⟩
 ·obtain ⟨l,ss,q1,q2,q3,q5,q4⟩:=h4 p hp
  have eb:Om.backL rows p=ss:=Om.canon_eq (fun _ _=>Om.LtB.as) q5 q4
  rw [eb]
  exact q4
end
end L2
end
section
namespace Om
def lay (g:Nat×Nat->List Stp) (ks:List (Nat×Nat)):Nat->List Ent
 | 0=>ks.map fun p=>(p,((0,0),(0,0)))
 | i+1=>behE g ((lay g ks i).map (·.1))
def layK (g:Nat×Nat->List Stp) (ks:List (Nat×Nat)) (i:Nat):List (Nat×Nat):=(lay g ks i).map (·.1)
theorem layK_zero (g:Nat×Nat->List Stp) (ks:List (Nat×Nat)):layK g ks 0=ks:=by
 show (ks.map fun p=>(p,((0,0),(0,0)))).map (·.1)=ks
 rw [List.map_map]
 exact List.map_id _
theorem layK_succ {g:Nat×Nat->List Stp} {ks:List (Nat×Nat)} {i:Nat} {p:Nat×Nat}:p∈layK g ks (i+1)↔∃ q∈layK g ks i,∃ s∈g q,s.2=p:=by
 show p∈(behE g (layK g ks i)).map (·.1)↔_
 unfold behE
 rw [qgB]
 simp
theorem layK_in {g:Nat×Nat->List Stp} {ks gks:List (Nat×Nat)} (h:∀ p∈ks,p∈gks) (c:∀ p∈gks,∀ s∈g p,s.2∈gks):∀ i,∀ p∈layK g ks i,p∈gks
 | 0,p,hp=>by rw [layK_zero] at hp;exact h p hp
 | i+1,p,hp=>by
  obtain ⟨q,h1,s,h2,rfl⟩:=layK_succ.mp hp
  exact c q (layK_in h c i q h1) s h2
theorem lay_step {g:Nat×Nat->List Stp} {ks:List (Nat×Nat)} {i:Nat} {e:Ent} (h:e∈lay g ks (i+1)):e.2.1∈layK g ks i/\(e.2.2,e.1)∈g e.2.1:=by
 rcases qgu (show e∈((lay g ks i).map (·.1)).foldl (nodeE g) [] from h) with h | ⟨q,h1,s,h2,rfl⟩
 ·cases h
 ·exact ⟨h1,h2⟩
end Om
namespace L2
open PySem PySem.Spec PyProof.Rows
section
variable {H H':Hp} {v:V} {g:Nat×Nat->List Om.Stp} {ks:List (Nat×Nat)}
theorem LyX.updR {L:Addr} {xs ys:List V} {acc:List Om.Ent} (hL:H L=some (.lst xs)) (h:LyX H v acc):LyX (upd H L (.lst ys)) v acc:=by
 obtain ⟨a,o,kvs,e,h1,h2,h3⟩:=h
 refine ⟨a,o,kvs,e,noL hL h1 (fun _ z=>nomatch z),h2,fun e he=>?_⟩
 obtain ⟨t,pa,la,k1,k2,k3,k4⟩:=h3 e he
 exact ⟨t,pa,la,k1,noL hL k2 (fun _ z=>nomatch z),noL hL k3 (fun _ z=>nomatch z),noL hL k4 (fun _ z=>nomatch z)⟩
end
end L2
end
section
namespace Om
theorem qff {q:Nat×Nat} {acc:List Ent} {s:Stp} (h:(acc.map (·.1)).Nodup):((putE q acc s).map (·.1)).Nodup:=by
 by_cases c:s.2∈acc.map (·.1)
 ·rw [putE_old c];exact h
 ·rw [putE_new c,List.map_append,List.nodup_append]
  refine ⟨h,by simp,fun a ha b hb=>?_⟩
  have:b=s.2:=by simpa using hb
  subst this
  exact fun e=>c (e ▸ ha)
theorem qb8 {q:Nat×Nat}:∀ {l:List Stp} {acc:List Ent},(acc.map (·.1)).Nodup->((l.foldl (putE q) acc).map (·.1)).Nodup
 | [],_,h=>h
 | s :: l,acc,h=>qb8 (l:=l) (acc:=putE q acc s) (qff h)
theorem qdj {g:Nat×Nat->List Stp}:∀ {ks:List (Nat×Nat)} {acc:List Ent},(acc.map (·.1)).Nodup->((ks.foldl (nodeE g) acc).map (·.1)).Nodup
 | [],_,h=>h
 | q :: ks,acc,h=>qdj (ks:=ks) (acc:=nodeE g acc q) (qb8 h)
theorem qeZ:∀ {acc:List Ent} {e f:Ent},(acc.map (·.1)).Nodup->e∈acc->f∈acc->e.1=f.1->e=f
 | a :: l,e,f,h,he,hf,ef=>by
  rw [List.map_cons,List.nodup_cons] at h
  rcases List.mem_cons.mp he with h1 | h1
  ·rcases List.mem_cons.mp hf with h2 | h2
   ·rw [h1,h2]
   ·exact absurd (List.mem_map.mpr ⟨f,h2,by rw [<-ef,h1]⟩) h.1
  ·rcases List.mem_cons.mp hf with h2 | h2
   ·exact absurd (List.mem_map.mpr ⟨e,h1,by rw [ef,h2]⟩) h.1
   ·exact qeZ h.2 h1 h2 ef
structure Down (g:Nat×Nat->List Stp) (ks:List (Nat×Nat)) (m:Nat) (nd lb:Nat->Nat×Nat):Prop where
 top:(layK g ks m)[0]? = some (nd m)
 step:∀ i,i < m->(nd (i+1),(nd i,lb (i+1)))∈lay g ks (i+1)
theorem Down.uniq {g:Nat×Nat->List Stp} {ks:List (Nat×Nat)} {m:Nat} {nd lb nd' lb':Nat->Nat×Nat} (h:Down g ks m nd lb) (h':Down g ks m nd' lb'):∀ t,t<=m->nd (m - t)=nd' (m - t)/\(0 < t->lb (m - t+1)=lb' (m - t+1))
 | 0,_=>⟨oI_ (h.top.symm.trans h'.top),fun z=>absurd z (Nat.lt_irrefl _)⟩
 | t+1,ht=>by
  have ih:=(Down.uniq h h' t (by omega)).1
  have e1:=h.step (m - (t+1)) (by omega)
  have e2:=h'.step (m - (t+1)) (by omega)
  rw [show m - (t+1)+1=m - t by omega] at e1 e2 ⊢
  have hlay:((lay g ks (m - t)).map (·.1)).Nodup:=by
   rw [show m - t=(m - (t+1))+1 by omega]
   exact qdj (acc:=[]) (by simp)
  have:=qeZ hlay e1 e2 ih
  have h2:=(Prod.mk.inj this).2
  exact ⟨(Prod.mk.inj h2).1,fun _=>(Prod.mk.inj h2).2⟩
theorem ret_uniq {nd:Nat->Nat×Nat} {i j:Nat} (n:((List.range j).map nd).Nodup) {u v:Nat} (hu:u < v) (hv:v < j):nd u≠nd v:=fun e=>by
 have h1:((List.range j).map nd)[u]? = some (nd u):=by rw [gM_,List.getElem?_range (by omega)];rfl
 have h2:((List.range j).map nd)[v]? = some (nd u):=by rw [gM_,List.getElem?_range (by omega),e];rfl
 obtain ⟨k1,e1⟩:=gS_ h1
 obtain ⟨k2,e2⟩:=gS_ h2
 have:=(List.getElem_inj n).mp (e1.trans e2.symm)
 omega
end Om
end
section
namespace L2
open PySem PySem.StrLaws Builtin Builtin.Str
abbrev ch (c:Nat):Str:=⟨#[c]⟩
end L2
end
section
namespace L2
open PySem PySem.Spec PyProof.Rows Builtin Builtin.Str
section
variable {X:Cx} {p pos apos:Pos} {a b c e o:Expr} {es:List Expr} {t:TA} {to:TE}
end
end L2
end
section
namespace L2
open PySem PySem.Spec PyProof.Rows Builtin Builtin.Str
end L2
end
section
namespace L2
open PySem PySem.Spec PyProof.Rows
section
variable {prog:Program} {w:World} {A:Around} {E:Value->Shared->Prop} {s:Shared}
end
section
variable {X:Cx} {p pos tpos:Pos} {a b:Expr} {es:List Expr} {tk:Nat}
end
end L2
end
section
end
section
namespace L2
open PySem PySem.Spec PyProof.Rows
end L2
namespace L2
open PySem PySem.Spec PyProof.Rows
end L2
end
section
namespace L2
open PySem PySem.Spec PyProof.Rows
end L2
end
section
namespace L2
open PySem PySem.Spec PyProof.Rows
section
variable {X:Cx} {p pos apos:Pos} {a b c e o:Expr} {es:List Expr} {t:TA} {to:TE}
def qea:V->List V->Hp->VK->Prop:=fun x vs H Q=>match x,vs with
 | .str z,[.str y]=>Q (.bl (Txt.startswith z y)) H
 | _,_=>False
theorem qfg:MtM X "str.startswith" qea:=by
 intro pins s σ H x vs v us Q I rx rv h
 unfold qea at h
 split at h
 ·obtain ⟨t,rfl⟩:=rx
  obtain ⟨u,rfl,t',rfl⟩:=rv.one
  exact SC.startswith ⟨.bl _,H,I,rfl,h⟩
 ·exact h.elim
theorem qhY {cpos:Pos} (ho:PE X o to) (ha:PA X (e :: es) t)
  (hbase:attributeBase o "startswith" X.env (eval o X.env)=eval o X.env:=by kernel_rfl)
  (hfew:((backTo cpos (starEach (e :: es) X.env)).all (fun x=>!x.1) && (backToKw cpos (keywordEach [] X.env)).all (fun x=>x.1.isSome)
   && decide ((e :: es).length+([]:List Keyword).length+(if ([]:List Keyword).isEmpty then 0 else 1) < 30))=true:=by kernel_rfl)
  (hline:(apos.endLine == cpos.line)=true:=by kernel_rfl) (hs:starEach (e :: es) X.env=(false,eval e X.env) :: starEach es X.env:=by kernel_rfl) (hplain:(backTo cpos (starEach es X.env)).any (·.1)=false:=by kernel_rfl) :
  PE X (.Call (.Attribute o "startswith" apos) (e :: es) [] cpos) (tMt "str" qea to t):=qfa PySem.F.plainAttrs_str PySem.F.slot_str_startswith PySem.F.type_str_startswith qfg ho ha hbase hfew hline hs hplain
theorem qd4 {v w:List Bool} (h:v.map sg=w.map sg):v=w:=bs_inj (by unfold bs;rw [h])
theorem qfF (w u:List Bool):Txt.startswith (bs w) (bs u)=decide (u <+: w):=by
 unfold Txt.startswith
 rw [Bool.eq_iff_iff,decide_eq_true_eq,Bool.and_eq_true,decide_eq_true_eq,StrLaws.subAt_eq,beq_iff_eq]
 have e1:(bs w).cps.toList=w.map sg:=by unfold bs;simp
 have e2:(bs u).cps.toList=u.map sg:=by unfold bs;simp
 rw [e1,e2,qaI,qaI,List.drop_zero,<-List.map_take]
 constructor
 ·rintro ⟨h1,h2⟩
  have:=qd4 h2
  rw [<-this]
  exact List.take_prefix _ _
 ·rintro ⟨q,rfl⟩
  refine ⟨by rw [lA_];omega,?_⟩
  rw [List.take_left]
end
def SetI (P:Program) (w:World) (a:Addr) (n:Nat):HO:=.ext fun h=>∃ M,h.SetOf (intKind P w) a M n
theorem SetI.mk {P:Program} {w:World} {H:Hp} {h:Heap} {a:Addr} {M:Int->Bool} {n:Nat} (x:h.SetOf (intKind P w) a M n):ObjOk P w H h a (SetI P w a n):=by
 refine ⟨⟨M,x⟩,?_,fun h1 h2 ⟨M1,x1⟩ k=>⟨M1,qaT x1 k⟩⟩
 obtain ⟨o,es,ep,t,e,_⟩:=x
 exact ⟨o,e⟩
section
variable {X:Cx} {p pos:Pos} {e:Expr} {es:List Expr} {t:TA}
def qkY (P:Program) (w:World):List V->Hp->VK->Prop:=fun vs H Q=>∃ (l:Addr) (xs:List Int),vs=[.ref l]/\H l=some (.lst (xs.map V.int))/\xs.length<=1000/\∀ a,H a=none->Q (.ref a) (upd H a (SetI P w a (Om.once xs).length))
theorem qg0 (hc:X.calm=true):CallR X (.type "set") (qkY X.prog X.w):=by
 intro pins s σ H vs us Q I r h
 obtain ⟨l,xs,rfl,hl,hz,q⟩:=h
 obtain ⟨u,rfl,rx⟩:=qaP r
 cases rx
 obtain ⟨_,its,n,rv,e0⟩:=I.hok l _ hl
 have ln:=rv.length
 rw [lM_] at ln
 refine qcl (knd:=intKind X.prog X.w) (ks:=xs) (I.ok.hd hc) ⟨_,e0,rfl,n,rfl⟩ (by simpa using ln) (fun i v hv=>?_) (by simp;unfold scanBound;omega) fun h' tk x k=>?_
 ·have hv':its[i]? = some v:=by simpa using hv
  have lt:i < its.length:=(gS_ hv').1
  have lx:i < xs.length:=by omega
  obtain ⟨u,hu,ru⟩:=rv.get (i:=i) (x:=.int xs[i]) (by rw [gM_,gE_ lx];rfl)
  rw [hv'] at hu
  cases hu
  obtain ⟨tk,rfl⟩:=ru
  exact ⟨xs[i],gE_ lx,intKind_is _ _ _ _,rfl⟩
 ·exact ⟨.ref s.heap.objs.size,upd H s.heap.objs.size (SetI X.prog X.w s.heap.objs.size (Om.once xs).length),I.laid (t':=tk) k (Nat.le_refl _) (SetI.mk x),rfl,q _ (I.hok.fresh (Nat.le_refl _))⟩
def qk3 (P:Program) (w:World):List V->Hp->VK->Prop:=fun vs H Q=>(∃ (a:Addr) (n:Nat),vs=[.ref a]/\H a=some (SetI P w a n)/\Q (.int (n:Nat)) H)\/qjh vs H Q
theorem qg6:CallR X (.builtin "len") (qk3 X.prog X.w):=by
 intro pins s σ H vs us Q I r h
 rcases h with ⟨a,n,rfl,ha,q⟩ | h
 ·obtain ⟨u,rfl,rx⟩:=qaP r
  cases rx
  obtain ⟨M,o,es,ep,tb,e0,ex,ed,_,_,sb,ft,en⟩:=(I.hok a _ ha).1
  refine call_len_set e0 ex ed ft (by unfold scanBound at sb;omega) ⟨.int (n:Nat),H,I.tok _,⟨_,by rw [en]⟩,q⟩
 ·exact qbq pins s σ H vs us Q I r h
theorem qj9 {mg':Str->Option Value} (hm:mg' "set" = none) (hX:X.mg=mg') (ha:PA X (e :: es) t) (hc:X.calm=true:=by kernel_rfl) (hg:gB X "set" = true:=by kernel_rfl) (he:starEach (e :: es) X.env=(false,eval e X.env) :: starEach es X.env:=by kernel_rfl) (hpl:(backTo pos (starEach es X.env)).any (·.1)=false:=by kernel_rfl) :
  PE X (.Call (.Name "set" p) (e :: es) [] pos) (tCB (qkY X.prog X.w) t):=qaW (qg0 hc) (qaz hg) (by rw [hX];exact hm) PyProof.Rows.boot_set ha (he:=he) (hpl:=hpl)
theorem qkd {mg':Str->Option Value} (hm:mg' "len" = none) (hX:X.mg=mg') (ha:PA X (e :: es) t) (hg:gB X "len" = true:=by kernel_rfl) (he:starEach (e :: es) X.env=(false,eval e X.env) :: starEach es X.env:=by kernel_rfl) (hpl:(backTo pos (starEach es X.env)).any (·.1)=false:=by kernel_rfl) :
  PE X (.Call (.Name "len" p) (e :: es) [] pos) (tCB (qk3 X.prog X.w) t):=qaE qg6 (qaz hg) (by rw [hX];exact hm) PySem.boot_len ha (he:=he) (hpl:=hpl)
end
end L2
end
section
namespace Om
def GT (rows:Rows) (k n:Nat) (wire:List Bool) (i:Nat) (t:List Nat):Prop:=(∀ l∈t,l < 2 ^ k)/\t.length=i/\wire.take (n * i) <+: (send rows 0 t).1
def LateB (rows:Rows) (k d:Nat):Prop:=∀ t t':List Nat,(∀ l∈t,l < 2 ^ k)->(∀ l∈t',l < 2 ^ k)->t.length=t'.length->(send rows 0 t).1=(send rows 0 t').1->t.take (t.length - d)=t'.take (t.length - d)
def LCP (G:List Nat->Prop) (c:List Nat):Prop:=(∀ t,G t->c <+: t)/\∀ c',(∀ t,G t->c' <+: t)->c'.length<=c.length
abbrev Gs:=Nat×List Nat
def gbF (rows:Rows) (gl:List Gs) (word:List Bool):List Gs:=gl.flatMap fun g=>((List.range (rows.getD g.1 []).length).filter fun l=>decide (word <+: (step rows g.1 l).1)).map fun l=>((step rows g.1 l).2,g.2++[l])
def dropG (c:Nat) (gl:List Gs):List Gs:=gl.map fun g=>(g.1,g.2.drop c)
structure Shr (tl:List (List Nat)) (c:Nat):Prop where
 le:∀ t∈tl,c<=t.length
 al:∀ t∈tl,∀ u∈tl,t.take c=u.take c
 en:(∃ t∈tl,t.length=c)\/∃ t∈tl,∃ u∈tl,t.getD c 0≠u.getD c 0
structure GInv (rows:Rows) (k n:Nat) (wire:List Bool) (i:Nat) (c:List Nat) (gl:List Gs):Prop where
 ne:gl≠[]
 mem:∀ g:Gs,g∈gl↔GT rows k n wire i (c++g.2)/\(send rows 0 (c++g.2)).2=g.1
 nd:(gl.map (·.2)).Nodup
 all:∀ t,GT rows k n wire i t->c <+: t
 mx:∀ c',(∀ t,GT rows k n wire i t->c' <+: t)->c'.length<=c.length
theorem GInv.lcp {rows:Rows} {k n i:Nat} {wire:List Bool} {c:List Nat} {gl:List Gs} (h:GInv rows k n wire i c gl):LCP (GT rows k n wire i) c:=⟨h.all,h.mx⟩
theorem gt_zero (rows:Rows) (k n:Nat) (wire:List Bool):GInv rows k n wire 0 [] [(0,[])] where
 ne:=by simp
 mem:=fun g=>by
  rw [List.mem_singleton]
  constructor
  ·rintro rfl
   exact ⟨⟨by simp,rfl,by simp⟩,rfl⟩
  ·rintro ⟨⟨_,h1,_⟩,h2⟩
   rw [List.nil_append] at h1 h2
   have e:g.2=[]:=List.eq_nil_of_length_eq_zero h1
   rw [e] at h2
   have:g.1=0:=h2.symm
   exact Prod.ext this e
 nd:=by simp
 all:=fun t _=>List.nil_prefix
 mx:=fun c' h=>by
  have:=h [] ⟨by simp,rfl,by simp⟩
  rw [List.prefix_nil] at this
  rw [this]
  exact Nat.le_refl _
section
variable {rows:Rows} {k n:Nat} {wire:List Bool}
theorem qf9 {a b a' b':List Bool} (h:a.length=a'.length):a++b <+: a'++b'↔a=a'/\b <+: b':=by
 constructor
 ·rintro ⟨q,e⟩
  rw [List.append_assoc] at e
  obtain ⟨h1,h2⟩:=List.append_inj e h
  exact ⟨h1,q,h2⟩
 ·rintro ⟨rfl,q,rfl⟩
  exact ⟨q,by simp⟩
theorem qf8 {a b:List Bool} (h:a <+: b) (hl:b.length<=a.length):a=b:=by
 obtain ⟨q,rfl⟩:=h
 have:q=[]:=List.eq_nil_of_length_eq_zero (by rw [lA_] at hl;omega)
 rw [this,List.append_nil]
theorem GT.full (ok:CodeOk k n rows) {i:Nat} {t:List Nat} (h:GT rows k n wire i t) (hi:n * i<=wire.length):(send rows 0 t).1=wire.take (n * i):=by
 obtain ⟨h1,h2,h3⟩:=h
 refine (qf8 h3 ?_).symm
 rw [(send_ok ok t 0 ok.s1 h1).1,h2,List.length_take]
 omega
theorem GT.snoc (ok:CodeOk k n rows) {i:Nat} (hi:n * i<=wire.length) (t:List Nat) (l:Nat):GT rows k n wire (i+1) (t++[l])↔GT rows k n wire i t/\l < 2 ^ k/\(wire.drop (n * i)).take n <+: (step rows (send rows 0 t).2 l).1:=by
 have e1:wire.take (n * (i+1))=wire.take (n * i)++(wire.drop (n * i)).take n:=by rw [Nat.mul_add,Nat.mul_one,List.take_add]
 have e2:(send rows 0 (t++[l])).1=(send rows 0 t).1++(step rows (send rows 0 t).2 l).1:=by rw [send_app];simp [send]
 have el:t.length=i->(∀ l∈t,l < 2 ^ k)->(wire.take (n * i)).length=((send rows 0 t).1).length:=fun h1 h2=>by
  rw [(send_ok ok t 0 ok.s1 h2).1,h1,List.length_take]
  omega
 unfold GT
 rw [e1,e2]
 constructor
 ·rintro ⟨h1,h2,h3⟩
  have ht:∀ l∈t,l < 2 ^ k:=fun x hx=>h1 x (List.mem_append_left _ hx)
  have hn:t.length=i:=by rw [lA_,List.length_singleton] at h2;omega
  obtain ⟨q1,q2⟩:=(qf9 (el hn ht)).mp h3
  exact ⟨⟨ht,hn,by rw [q1];exact List.prefix_refl _⟩,h1 l (by simp),q2⟩
 ·rintro ⟨⟨ht,hn,h3⟩,hl,h4⟩
  refine ⟨fun x hx=>?_,by rw [lA_,hn];rfl,(qf9 (el hn ht)).mpr ⟨qf8 h3 (by rw [el hn ht];exact Nat.le_refl _),h4⟩⟩
  rcases mA_ hx with hx | hx
  ·exact ht x hx
  ·rw [mS_ hx];exact hl
theorem rows_len (ok:CodeOk k n rows) {s:Nat} (hs:s < rows.length):(rows.getD s []).length=2 ^ k:=by
 have e:rows.getD s []=rows[s]:=by rw [List.getD_eq_getElem?_getD,gE_ hs];rfl
 rw [e,ok.len _ (List.getElem_mem hs)]
theorem mem_gbF {gl:List Gs} {word:List Bool} {g:Gs}:g∈gbF rows gl word↔∃ p∈gl,∃ l,l < (rows.getD p.1 []).length/\word <+: (step rows p.1 l).1/\g=((step rows p.1 l).2,p.2++[l]):=by
 unfold gbF
 rw [List.mem_flatMap]
 constructor
 ·rintro ⟨p,hp,h⟩
  obtain ⟨l,hl,rfl⟩:=mM_ h
  obtain ⟨h1,h2⟩:=List.mem_filter.mp hl
  exact ⟨p,hp,l,List.mem_range.mp h1,of_decide_eq_true h2,rfl⟩
 ·rintro ⟨p,hp,l,h1,h2,rfl⟩
  exact ⟨p,hp,List.mem_map.mpr ⟨l,List.mem_filter.mpr ⟨List.mem_range.mpr h1,decide_eq_true h2⟩,rfl⟩⟩
theorem qiD (ok:CodeOk k n rows) {i:Nat} {c:List Nat} {gl:List Gs} (h:GInv rows k n wire i c gl) (hi:n * i<=wire.length) (g:Gs):g∈gbF rows gl ((wire.drop (n * i)).take n)↔c.length < i+1/\GT rows k n wire (i+1) (c++g.2)/\(send rows 0 (c++g.2)).2=g.1:=by
 rw [mem_gbF]
 constructor
 ·rintro ⟨p,hp,l,h1,h2,rfl⟩
  obtain ⟨m1,m2⟩:=(h.mem p).mp hp
  have hs:p.1 < rows.length:=by rw [<-m2];exact (send_ok ok _ 0 ok.s1 m1.1).2
  have e:c++(p.2++[l])=(c++p.2)++[l]:=by simp
  refine ⟨?_,?_,?_⟩
  ·have:=m1.2.1
   rw [lA_] at this
   omega
  ·show GT rows k n wire (i+1) (c++(p.2++[l]))
   rw [e,GT.snoc ok hi]
   exact ⟨m1,by rw [<-rows_len ok hs];exact h1,by rw [m2];exact h2⟩
  ·show (send rows 0 (c++(p.2++[l]))).2=_
   rw [e,send_snoc,m2]
 ·rintro ⟨hc,m1,m2⟩
  have hl:=m1.2.1
  rw [lA_] at hl
  have hne:g.2≠[]:=fun z=>by rw [z] at hl;simp at hl;omega
  have eg:g.2=g.2.dropLast++[g.2.getLast hne]:=(List.dropLast_concat_getLast hne).symm
  generalize g.2.getLast hne=l at eg
  generalize g.2.dropLast=tl at eg
  have e:c++g.2=(c++tl)++[l]:=by rw [eg];simp
  rw [e] at m1 m2
  obtain ⟨q1,q2,q3⟩:=(GT.snoc ok hi _ _).mp m1
  have hs:(send rows 0 (c++tl)).2 < rows.length:=(send_ok ok _ 0 ok.s1 q1.1).2
  refine ⟨((send rows 0 (c++tl)).2,tl),(h.mem _).mpr ⟨q1,rfl⟩,l,by rw [rows_len ok hs];exact q2,q3,?_⟩
  rw [send_snoc] at m2
  exact Prod.ext m2.symm eg
theorem qaN {α β:Type} {f:α->β}:∀ {l:List α},(∀ x∈l,∀ y∈l,f x=f y->x=y)->l.Nodup->(l.map f).Nodup
 | [],_,_=>by simp
 | a :: l,h,nd=>by
  rw [List.nodup_cons] at nd
  rw [List.map_cons,List.nodup_cons]
  refine ⟨fun z=>?_,qaN (fun x hx y hy=>h x (mC_ _ hx) y (mC_ _ hy)) nd.2⟩
  obtain ⟨b,hb,e⟩:=mM_ z
  exact nd.1 (h a List.mem_cons_self b (mC_ _ hb) e.symm ▸ hb)
theorem qb9 {α β:Type} {f:α->β}:∀ {l:List α},(l.map f).Nodup->l.Nodup
 | [],_=>by simp
 | a :: l,h=>by
  rw [List.map_cons,List.nodup_cons] at h
  exact List.nodup_cons.mpr ⟨fun z=>h.1 (List.mem_map_of_mem z),qb9 h.2⟩
theorem ql2:∀ {gl:List Gs} {word:List Bool},(gl.map (·.2)).Nodup->((gbF rows gl word).map (·.2)).Nodup
 | [],_,_=>by simp [gbF]
 | g :: gl,word,nd=>by
  rw [List.map_cons,List.nodup_cons] at nd
  have e:gbF rows (g :: gl) word=(((List.range (rows.getD g.1 []).length).filter fun l=>decide (word <+: (step rows g.1 l).1)).map fun l=>((step rows g.1 l).2,g.2++[l]))++gbF rows gl word:=by unfold gbF;rw [List.flatMap_cons]
  rw [e,List.map_append,List.nodup_append]
  refine ⟨?_,ql2 nd.2,?_⟩
  ·rw [List.map_map]
   refine qaN (fun x _ y _ e=>?_) (List.Pairwise.filter _ List.nodup_range)
   have:=(List.append_inj' (show g.2++[x]=g.2++[y] from e) rfl).2
   simpa using this
  ·intro a ha b hb e
   obtain ⟨x,hx,rfl⟩:=mM_ ha
   obtain ⟨l,_,rfl⟩:=mM_ hx
   obtain ⟨y,hy,e2⟩:=mM_ hb
   obtain ⟨p,hp,l',_,_,rfl⟩:=mem_gbF.mp hy
   have:=(List.append_inj' (show p.2++[l']=g.2++[l] from e2.trans e.symm) rfl).1
   exact nd.1 (this ▸ List.mem_map_of_mem hp)
theorem GInv.step (ok:CodeOk k n rows) {i:Nat} {c:List Nat} {gl:List Gs} (h:GInv rows k n wire i c gl) (hi:n * i<=wire.length) {m:Nat} {g0:Gs} (hg:(gbF rows gl ((wire.drop (n * i)).take n))[0]? = some g0) (sh:Shr ((gbF rows gl ((wire.drop (n * i)).take n)).map (·.2)) m) :
  GInv rows k n wire (i+1) (c++g0.2.take m) (dropG m (gbF rows gl ((wire.drop (n * i)).take n))):=by
 have gm:=qiD ok h hi
 have gn:=ql2 (rows:=rows) (word:=(wire.drop (n * i)).take n) h.nd
 have ci:c.length<=i:=by
  obtain ⟨p,hp⟩:=List.exists_mem_of_ne_nil _ h.ne
  have:=((h.mem p).mp hp).1.2.1
  rw [lA_] at this
  omega
 generalize gbF rows gl ((wire.drop (n * i)).take n)=gb at *
 have h0:g0∈gb:=mO_ hg
 have inT:∀ g∈gb,g.2∈gb.map (·.2):=fun g hg=>List.mem_map_of_mem hg
 have al:∀ g∈gb,g.2.take m=g0.2.take m:=fun g hg=>sh.al _ (inT g hg) _ (inT g0 h0)
 have le:∀ g∈gb,m<=g.2.length:=fun g hg=>sh.le _ (inT g hg)
 have sp:∀ g∈gb,g0.2.take m++g.2.drop m=g.2:=fun g hg=>by rw [<-al g hg,List.take_append_drop]
 have ml:(g0.2.take m).length=m:=by rw [List.length_take];have:=le g0 h0;omega
 have pre:∀ t,GT rows k n wire (i+1) t->c <+: t:=fun t ht=>by
  have hne:t≠[]:=fun z=>by rw [z] at ht;exact absurd ht.2.1 (by simp)
  have et:=(List.dropLast_concat_getLast hne).symm
  rw [et] at ht
  have:=h.all _ ((GT.snoc ok hi _ _).mp ht).1
  rw [et]
  exact this.trans (List.prefix_append _ _)
 have tog:∀ t,GT rows k n wire (i+1) t->∃ g∈gb,t=c++g.2:=fun t ht=>by
  obtain ⟨q,rfl⟩:=pre t ht
  exact ⟨((send rows 0 (c++q)).2,q),(gm _).mpr ⟨by omega,ht,rfl⟩,rfl⟩
 refine ⟨?_,fun g=>?_,?_,fun t ht=>?_,fun c' hc'=>?_⟩
 ·intro z
  unfold dropG at z
  rw [List.map_eq_nil_iff] at z
  rw [z] at h0
  cases h0
 ·constructor
  ·intro hm
   obtain ⟨p,hp,rfl⟩:=mM_ hm
   obtain ⟨_,m1,m2⟩:=(gm p).mp hp
   show GT rows k n wire (i+1) (c++g0.2.take m++p.2.drop m)/\(send rows 0 (c++g0.2.take m++p.2.drop m)).2=p.1
   rw [List.append_assoc,sp p hp]
   exact ⟨m1,m2⟩
  ·rintro ⟨m1,m2⟩
   rw [List.append_assoc] at m1 m2
   refine List.mem_map.mpr ⟨(g.1,g0.2.take m++g.2),(gm _).mpr ⟨by omega,m1,m2⟩,?_⟩
   show (g.1,(g0.2.take m++g.2).drop m)=g
   rw [List.drop_append,ml,Nat.sub_self,List.drop_zero,List.drop_of_length_le (by omega)]
   rfl
 ·unfold dropG
  rw [List.map_map]
  have nd':gb.Nodup:=qb9 gn
  refine qaN (fun x hx y hy e=>?_) nd'
  have e1:x.2=y.2:=by rw [<-sp x hx,<-sp y hy];exact congrArg _ e
  obtain ⟨_,_,x2⟩:=(gm x).mp hx
  obtain ⟨_,_,y2⟩:=(gm y).mp hy
  exact Prod.ext (by rw [<-x2,<-y2,e1]) e1
 ·obtain ⟨g,hg,rfl⟩:=tog t ht
  rw [<-sp g hg,<-List.append_assoc]
  exact List.prefix_append _ _
 ·refine Classical.byContradiction fun no=>?_
  have hlt:c.length+m < c'.length:=by rw [lA_,ml] at no;omega
  have ap:∀ g∈gb,c' <+: c++g.2:=fun g hg=>hc' _ ((gm g).mp hg).2.1
  have lg:∀ g∈gb,m < g.2.length:=fun g hg=>by
   have:=(ap g hg).length_le
   rw [lA_] at this
   omega
  have at':∀ g∈gb,g.2.getD m 0=c'.getD (c.length+m) 0:=fun g hg=>by
   obtain ⟨q,e⟩:=ap g hg
   rw [List.getD_eq_getElem?_getD,List.getD_eq_getElem?_getD]
   congr 1
   have e2:(c'++q)[c.length+m]? = c'[c.length+m]?:=List.getElem?_append_left hlt
   rw [<-e2,e,List.getElem?_append_right (by omega),show c.length+m - c.length=m by omega]
  rcases sh.en with ⟨t,ht,e⟩ | ⟨t,ht,u,hu,e⟩
  ·obtain ⟨g,hg,rfl⟩:=mM_ ht
   exact absurd e (Nat.ne_of_gt (lg g hg))
  ·obtain ⟨g,hg,rfl⟩:=mM_ ht
   obtain ⟨g',hg',rfl⟩:=mM_ hu
   exact e ((at' g hg).trans (at' g' hg').symm)
theorem GInv.some (ok:CodeOk k n rows) {i:Nat} {c:List Nat} {gl:List Gs} (h:GInv rows k n wire i c gl) (hi:n * i<=wire.length) {t:List Nat} (ht:GT rows k n wire (i+1) t):gbF rows gl ((wire.drop (n * i)).take n)≠[]:=by
 have hne:t≠[]:=fun z=>by rw [z] at ht;exact absurd ht.2.1 (by simp)
 have et:=(List.dropLast_concat_getLast hne).symm
 generalize t.getLast hne=l at et
 generalize t.dropLast=u at et
 subst et
 obtain ⟨q1,q2,q3⟩:=(GT.snoc ok hi _ _).mp ht
 obtain ⟨q,rfl⟩:=h.all _ q1
 intro z
 have:((send rows 0 (c++q++[l])).2,q++[l])∈gbF rows gl ((wire.drop (n * i)).take n):=(qiD ok h hi _).mpr ⟨by have:=q1.2.1;rw [lA_] at this;omega,by show GT rows k n wire (i+1) (c++(q++[l]));rw [<-List.append_assoc];exact ht,by show (send rows 0 (c++(q++[l]))).2=_;rw [<-List.append_assoc]⟩
 rw [z] at this
 cases this
theorem GT.take (ok:CodeOk k n rows) {m:Nat} {t:List Nat} (h1:∀ l∈t,l < 2 ^ k) (h2:t.length=m) (h3:wire <+: (send rows 0 t).1) {i:Nat} (hi:i<=m):GT rows k n wire i (t.take i):=by
 refine ⟨fun l hl=>h1 l (List.mem_of_mem_take hl),by rw [List.length_take];omega,?_⟩
 have e:(send rows 0 t).1=(send rows 0 (t.take i)).1++(send rows (send rows 0 (t.take i)).2 (t.drop i)).1:=by
  have:=send_app rows (t.take i) (t.drop i) 0
  rw [List.take_append_drop] at this
  rw [this]
 have p1:wire.take (n * i) <+: (send rows 0 t).1:=(List.take_prefix _ _).trans h3
 have p2:(send rows 0 (t.take i)).1 <+: (send rows 0 t).1:=by rw [e];exact List.prefix_append _ _
 refine List.prefix_of_prefix_length_le p1 p2 ?_
 rw [(send_ok ok (t.take i) 0 ok.s1 (fun l hl=>h1 l (List.mem_of_mem_take hl))).1,List.length_take,List.length_take,h2,Nat.min_eq_left hi]
 exact Nat.min_le_left _ _
theorem LateB.inj (ok:CodeOk k n rows) {d:Nat} (lb:LateB rows k d) {t t':List Nat} (h:∀ l∈t,l < 2 ^ k) (h':∀ l∈t',l < 2 ^ k) (hl:t.length=t'.length) (hw:(send rows 0 t).1=(send rows 0 t').1) (hs:(send rows 0 t).2=(send rows 0 t').2):t=t':=by
 have p:0 < 2 ^ k:=Nat.two_pow_pos k
 have z:∀ l∈List.replicate d 0,l < 2 ^ k:=fun l hl=>by rw [(List.mem_replicate.mp hl).2];exact p
 have:=lb (t++List.replicate d 0) (t'++List.replicate d 0) (fun l hl=>(mA_ hl).elim (h l) (z l)) (fun l hl=>(mA_ hl).elim (h' l) (z l)) (by simp [hl]) (by rw [send_app,send_app,hw,hs])
 rw [lA_,List.length_replicate,Nat.add_sub_cancel,List.take_left,hl,List.take_left] at this
 exact this
theorem GInv.le8 (ok:CodeOk k n rows) {d i:Nat} (lb:LateB rows k d) {c:List Nat} {gl:List Gs} (h:GInv rows k n wire i c gl) (hi:n * i<=wire.length):gl.length<=8:=by
 have inj:∀ x∈gl,∀ y∈gl,x.1=y.1->x=y:=fun x hx y hy e=>by
  obtain ⟨x1,x2⟩:=(h.mem x).mp hx
  obtain ⟨y1,y2⟩:=(h.mem y).mp hy
  have:=lb.inj ok x1.1 y1.1 (by rw [x1.2.1,y1.2.1]) (by rw [x1.full ok hi,y1.full ok hi]) (by rw [x2,y2,e])
  exact Prod.ext e (List.append_cancel_left this)
 have nd:=qaN (f:=fun g:Gs=>g.1) inj (qb9 h.nd)
 have:=nd.length_le_of_subset (l₂:=List.range rows.length) fun s hs=>by
  obtain ⟨g,hg,rfl⟩:=mM_ hs
  obtain ⟨g1,g2⟩:=(h.mem g).mp hg
  rw [List.mem_range,<-g2]
  exact (send_ok ok _ 0 ok.s1 g1.1).2
 rw [lM_,List.length_range] at this
 exact Nat.le_trans this ok.s8
theorem GInv.long (ok:CodeOk k n rows) {d i:Nat} (lb:LateB rows k d) {c:List Nat} {gl:List Gs} (h:GInv rows k n wire i c gl) (hi:n * i<=wire.length):i - d<=c.length:=by
 obtain ⟨p,hp⟩:=List.exists_mem_of_ne_nil _ h.ne
 have g0:=((h.mem p).mp hp).1
 generalize c++p.2=t0 at g0
 have:=h.mx (t0.take (i - d)) fun t ht=>by
  have:=lb t0 t g0.1 ht.1 (by rw [g0.2.1,ht.2.1]) (by rw [g0.full ok hi,ht.full ok hi])
  rw [g0.2.1] at this
  rw [this]
  exact List.take_prefix _ _
 rw [List.length_take,g0.2.1] at this
 omega
theorem GInv.tail {i:Nat} {c:List Nat} {gl:List Gs} (h:GInv rows k n wire i c gl):∀ g∈gl,c.length+g.2.length=i:=fun g hg=>by
 have:=((h.mem g).mp hg).1.2.1
 rw [lA_] at this
 exact this
theorem gb_len (ok:CodeOk k n rows) {gl:List Gs} {word:List Bool} (h8:gl.length<=8) (hs:∀ g∈gl,g.1 < rows.length):(gbF rows gl word).length<=64:=by
 have:∀ gl:List Gs,(∀ g∈gl,g.1 < rows.length)->(gbF rows gl word).length<=gl.length * 8:=by
  intro gl
  induction gl with
  | nil=>intro _;simp [gbF]
  | cons g gl ih=>
   intro hs
   have ih:=ih fun g hg=>hs g (mC_ _ hg)
   have e:gbF rows (g :: gl) word=(((List.range (rows.getD g.1 []).length).filter fun l=>decide (word <+: (step rows g.1 l).1)).map fun l=>((step rows g.1 l).2,g.2++[l]))++gbF rows gl word:=by unfold gbF;rw [List.flatMap_cons]
   rw [e,lA_,lM_,List.length_cons]
   have h1:=List.length_filter_le (fun l=>decide (word <+: (step rows g.1 l).1)) (List.range (rows.getD g.1 []).length)
   have h1':=Nat.le_trans h1 (Nat.le_of_eq List.length_range)
   rw [rows_len ok (hs g List.mem_cons_self)] at h1' ⊢
   have h2:2 ^ k<=8:=by
    have:=ok.k1
    have:=ok.k3
    have:k=1\/k=2\/k=3:=by omega
    rcases this with rfl | rfl | rfl<;>decide
   rw [Nat.succ_mul]
   omega
 have:=this gl hs
 omega
theorem LCP.grow (ok:CodeOk k n rows) {w2:List Bool} {i j:Nat} (hw:wire <+: w2) (hij:i<=j) (hi:wire.length<=n * i) {c c2:List Nat} (h:LCP (GT rows k n wire i) c) (h2:LCP (GT rows k n w2 j) c2) (hj:w2.length<=n * j):c.length<=c2.length:=by
 refine h2.2 c fun t ht=>?_
 have:=h.1 (t.take i) (GT.take ok ht.1 ht.2.1 ?_ hij)
 ·exact this.trans (List.take_prefix _ _)
 ·have:=ht.2.2
  rw [List.take_of_length_le hj] at this
  exact hw.trans this
end
end Om
end
section
namespace K11
open PySem L2
def top (i:Nat):Stmt:=PySem.Challenge.pw_ownbeat_k11_whole_read_as_sent.main.body.getD i (.Pass ⟨0,0,0,0⟩)
end K11
end
section
open PySem L2
local macro_rules | `(tactic| walk_at "T.n")=>`(tactic| with_reducible first | exact vn _ 0 | exact vn _ 1 | exact vn _ 2 | exact vn _ 3 | exact vn _ 4 | exact vn _ 5 | exact vn _ 6 | exact vn _ 7 | exact vn _ 8 | exact vn _ 9 | exact vn _ 10 | exact vn _ 11 | exact vn _ 12 | exact vn _ 13 | exact vn _ 14 | exact vn _ 15 | exact vn _ 16 | exact vn _ 17 | exact vn _ 18 | exact vn _ 19)
local macro_rules | `(tactic| walk_at "T.a")=>`(tactic| first | (with_reducible exact qlw) | ((with_reducible refine' qmr ?a1 ?a2);(case a1=>walk_at "T.e");(case a2=>walk_at "T.a")))
local macro_rules | `(tactic| walk_at "T.o")=>`(tactic| first | (with_reducible exact qjt) | ((with_reducible refine' qhy ?a1);(case a1=>walk_at "T.e")))
local macro_rules | `(tactic| walk_at "T.cmp")=>`(tactic| first | (with_reducible exact op_inL) | (with_reducible exact qgh) | (with_reducible exact qlA) | (with_reducible exact qgi) | (with_reducible exact op_lt.n0) | (with_reducible exact op_le.n0) | (with_reducible exact op_gt.n0) | (with_reducible exact op_ge.n0) | ((with_reducible refine' qiv ?a1);(case a1=>exact Room.units (by assumption))) | ((with_reducible refine' qly ?a1);(case a1=>exact Room.units (by assumption))))
local macro_rules | `(tactic| walk_at "T.op")=>`(tactic| first | (with_reducible exact qjJ) | (with_reducible exact op_sub.n0) | (with_reducible exact qjI) | (with_reducible exact op_mod.n) | (with_reducible exact op_fdiv.n) | (with_reducible exact op_pow.n) | (with_reducible exact op_shl.n) | (with_reducible exact op_shr.n) | (with_reducible exact op_and.n0) | (with_reducible exact op_xor.n0) | (with_reducible exact op_or.n0))
local macro_rules | `(tactic| walk_at "T.ty")=>`(tactic| first | ((with_reducible refine' qkF ?a1 ?a9);(case a1=>with_reducible assumption);(case a9=>rfl)) | ((with_reducible refine' qiO ?a1 ?a9);(case a1=>with_reducible assumption);(case a9=>rfl)) | ((with_reducible refine' qiN ?a1 ?a9);(case a1=>with_reducible assumption);(case a9=>rfl)) | ((with_reducible refine' qhk ?a1 ?a9);(case a1=>with_reducible assumption);(case a9=>rfl)) | ((with_reducible refine' qkE ?a1 ?a9);(case a1=>with_reducible assumption);(case a9=>rfl)))
local macro_rules | `(tactic| walk_at "T.f")=>`(tactic| ((with_reducible refine' qmb _ ?a0 ?a9 ?a1 ?a2);(case a0=>with_reducible assumption);(case a9=>exact ⟨rfl,rfl,rfl,rfl,rfl⟩);(case a1=>exact Room.mono (by assumption) (by first | decide | exact Nat.le_refl _));(case a2=>walk_at "T.a")))
local macro_rules | `(tactic| walk_at "T.b")=>`(tactic| first | walk_at "T.f" | ((with_reducible refine' ql9 ?a0 ?a9 ?a1);(case a0=>with_reducible assumption);(case a9=>rfl);(case a1=>walk_at "T.a")) | ((with_reducible refine' qgO ?a0 ?a9 ?a1);(case a0=>with_reducible assumption);(case a9=>rfl);(case a1=>walk_at "T.a")) | ((with_reducible refine' qmc ?a0 ?a9 ?a1);(case a0=>with_reducible assumption);(case a9=>rfl);(case a1=>walk_at "T.a")) | ((with_reducible refine' ql8 ?a0 ?a9 ?a1);(case a0=>with_reducible assumption);(case a9=>rfl);(case a1=>walk_at "T.a")) | ((with_reducible refine' ql7 ?a0 ?a9 ?a1);(case a0=>with_reducible assumption);(case a9=>rfl);(case a1=>walk_at "T.a")) | ((with_reducible refine' qma ?a0 ?a9 ?a1);(case a0=>with_reducible assumption);(case a9=>rfl);(case a1=>walk_at "T.a")) | ((with_reducible refine' qka ?a0 ?a9 ?a1);(case a0=>with_reducible assumption);(case a9=>rfl);(case a1=>walk_at "T.a")) )
local macro_rules | `(tactic| walk_at "T.m")=>`(tactic| first | ((with_reducible refine' qeQ ?a1 ?a2);(case a1=>walk_at "T.e");(case a2=>walk_at "T.a")) | ((with_reducible refine' qh0 ?a1 ?a2);(case a1=>walk_at "T.e");(case a2=>walk_at "T.a")) | ((with_reducible refine' qnk ?a1 ?a2);(case a1=>walk_at "T.e");(case a2=>walk_at "T.a")) | ((with_reducible refine' qlN ?a1 ?a2);(case a1=>walk_at "T.e");(case a2=>walk_at "T.a")) | ((with_reducible refine' qlO ?a1);(case a1=>walk_at "T.e")))
local macro_rules | `(tactic| walk_at "T.c")=>`(tactic| fail "no comprehension's names")
local macro_rules | `(tactic| walk_at "T.e")=>`(tactic| first | (with_reducible exact qis) | (with_reducible exact qlk) | (with_reducible exact qnc) | (with_reducible exact qlm) | walk_at "T.n" | walk_at "T.ty" | ((with_reducible refine' qnb ?a1 ?a2 ?a3);(case a1=>walk_at "T.op");(case a2=>walk_at "T.e");(case a3=>walk_at "T.e")) | ((with_reducible refine' qny ?a1 ?a2 ?a3);(case a1=>walk_at "T.cmp");(case a2=>walk_at "T.e");(case a3=>walk_at "T.e")) | ((with_reducible refine' qke ?a1 ?a2 ?a3 ?a4 ?a5);(case a1=>walk_at "T.cmp");(case a2=>walk_at "T.cmp");(case a3=>walk_at "T.e");(case a4=>walk_at "T.e");(case a5=>walk_at "T.e")) | ((with_reducible refine' qhA slU ?a1 ?a2 ?a3);(case a1=>walk_at "T.e");(case a2=>walk_at "T.o");(case a3=>walk_at "T.o")) | ((with_reducible refine' qnm ?a1 ?a2);(case a1=>walk_at "T.e");(case a2=>walk_at "T.e")) | ((with_reducible refine' qlj ?a1);(case a1=>walk_at "T.a")) | ((with_reducible refine' qlq ?a1);(case a1=>walk_at "T.a")) | ((with_reducible refine' qjG ?a1 ?a2);(case a1=>walk_at "T.e");(case a2=>walk_at "T.e")) | ((with_reducible refine' qll ?a1);(case a1=>walk_at "T.e")) | ((with_reducible refine' qjx ?a1);(case a1=>walk_at "T.e")) | ((with_reducible refine' qnx ?a1);(case a1=>walk_at "T.e")) | walk_at "T.b" | walk_at "T.m" | ((with_reducible refine' e_fmt ?a1);(case a1=>walk_at "T.e")) | ((with_reducible refine' e_fstr ?a1);(case a1=>walk_at "T.j")) | walk_at "T.c")
local macro_rules | `(tactic| walk_at "T.j")=>`(tactic| first | (with_reducible exact pj_nil) )
local macro_rules | `(tactic| walk_at "T.t")=>`(tactic| first | ((with_reducible refine' qiR ?a1 ?a2 ?a3 ?a4 ?a5);(case a1=>walk_at "T.cmp");(case a2=>walk_at "T.cmp");(case a3=>walk_at "T.e");(case a4=>walk_at "T.e");(case a5=>walk_at "T.e")) | ((with_reducible refine' qmI ?a1 ?a2 ?a3);(case a1=>walk_at "T.cmp");(case a2=>walk_at "T.e");(case a3=>walk_at "T.e")) | ((with_reducible refine' qlb ?a1);(case a1=>walk_at "T.t")) | ((with_reducible refine' PW.pt ?a1);(case a1=>walk_at "T.w")) | ((with_reducible refine' qmH ?a1);(case a1=>walk_at "T.e")))
local macro_rules | `(tactic| walk_at "T.w")=>`(tactic| first | ((with_reducible refine' qla ?a1 ?a2);(case a1=>walk_at "T.t");(case a2=>walk_at "T.w")) | ((with_reducible refine' qm5 ?a1 ?a2);(case a1=>walk_at "T.t");(case a2=>walk_at "T.w")) | ((with_reducible refine' qjo ?a1);(case a1=>walk_at "T.t")) | ((with_reducible refine' qk9 ?a1);(case a1=>walk_at "T.t")))
local macro_rules | `(tactic| walk_at "T.i")=>`(tactic| first | ((with_reducible refine' qnp ?a0 ?a9 ?a1);(case a0=>with_reducible assumption);(case a9=>rfl);(case a1=>walk_at "T.a")) | ((with_reducible refine' qno ?a0 ?a9 ?a1);(case a0=>with_reducible assumption);(case a9=>rfl);(case a1=>walk_at "T.a")) | ((with_reducible refine' qnn ?a0 ?a9 ?a1);(case a0=>with_reducible assumption);(case a9=>rfl);(case a1=>walk_at "T.a")) | ((with_reducible refine' qj2 ?a0 ?a9 ?a1);(case a0=>with_reducible assumption);(case a9=>rfl);(case a1=>walk_at "T.a")) | ((with_reducible refine' qlZ ?a0 ?a9 ?a1);(case a0=>with_reducible assumption);(case a9=>rfl);(case a1=>walk_at "T.a")) | ((with_reducible refine' qlf ?a1);(case a1=>walk_at "T.e")))
local macro_rules | `(tactic| walk_at "T.gn")=>`(tactic| with_reducible first | exact gn _ 0 (by with_unfolding_all assumption) | exact gn _ 1 (by with_unfolding_all assumption) | exact gn _ 2 (by with_unfolding_all assumption) | exact gn _ 3 (by with_unfolding_all assumption) | exact gn _ 4 (by with_unfolding_all assumption) | exact gn _ 5 (by with_unfolding_all assumption) | exact gn _ 6 (by with_unfolding_all assumption) | exact gn _ 7 (by with_unfolding_all assumption) | exact gn _ 8 (by with_unfolding_all assumption) | exact gn _ 9 (by with_unfolding_all assumption) | exact gn _ 10 (by with_unfolding_all assumption) | exact gn _ 11 (by with_unfolding_all assumption) | exact gn _ 12 (by with_unfolding_all assumption) | exact gn _ 13 (by with_unfolding_all assumption) | exact gn _ 14 (by with_unfolding_all assumption) | exact gn _ 15 (by with_unfolding_all assumption) | exact gn _ 16 (by with_unfolding_all assumption) | exact gn _ 17 (by with_unfolding_all assumption) | exact gn _ 18 (by with_unfolding_all assumption) | exact gn _ 19 (by with_unfolding_all assumption))
local macro_rules | `(tactic| walk_at "T.g")=>`(tactic| first | walk_at "T.gn" | ((with_reducible refine' qns ?a1 ?a2);(case a1=>walk_at "T.e");(case a2=>walk_at "T.e")) | ((with_reducible refine' qiE ?a1);(case a1=>walk_at "T.gs")) | ((with_reducible refine' ql3 ?a1);(case a1=>walk_at "T.gs")))
local macro_rules | `(tactic| walk_at "T.gs")=>`(tactic| first | (with_reducible exact qjv) | ((with_reducible refine' qj6 ?a1 ?a2);(case a1=>walk_at "T.g");(case a2=>walk_at "T.gs")))
local macro_rules | `(tactic| walk_at "T.sc")=>`(tactic| fail "no comprehension's names")
local macro_rules | `(tactic| walk_at "T.st")=>`(tactic| first | ((with_reducible refine' qiq ?a1);(case a1=>walk_at "T.e")) | walk_at "T.sc" | ((with_reducible refine' qmV ?a1 ?a2);(case a1=>walk_at "T.e");(case a2=>walk_at "T.g")) | ((with_reducible refine' qkS ?a1);(case a1=>walk_at "T.e")) | ((with_reducible refine' qm6 ?a1 ?a2 ?a3);(case a1=>walk_at "T.t");(case a2=>walk_at "T.s");(case a3=>walk_at "T.s")) | ((with_reducible refine' qmU ?a1 ?a2 ?a3);(case a1=>walk_at "T.i");(case a2=>walk_at "T.g");(case a3=>walk_at "T.s")) | ((with_reducible refine' qi4 ?a1 ?a2);(case a1=>walk_at "T.t");(case a2=>walk_at "T.s")) | (with_reducible exact qi5))
local macro_rules | `(tactic| walk_at "T.s")=>`(tactic| first | (with_reducible exact qjq) | ((with_reducible refine' qed ?a1);(case a1=>walk_at "T.st")) | ((with_reducible refine' qeK ?a1 ?a2);(case a1=>walk_at "T.st");(case a2=>walk_at "T.s")))
local macro_rules | `(tactic| walk_at "T.pf")=>`(tactic| first | (with_reducible exact qlh) )
local macro_rules | `(tactic| walk_at "T.top1")=>`(tactic| ((refine' qed ?a1);(case a1=>walk_at "T.st")))
local macro_rules | `(tactic| walk_at "T.top")=>`(tactic| ((refine' qeK ?a1 ?a2);(case a1=>walk_at "T.st");(case a2=>walk_at "T.s")))
section
namespace K11
open PySem L2
section
variable {P:Program} {w:World} {K:PySem.W.Frag} {mg:Str->Option Value} {base:Heap}
abbrev qeF:Stmt:=top 10
def qdV (f:Addr) (spF:Sp):Sp:=fun vs H Q _=>match vs with
 | [.int s0,.ref f']=>s0=0/\f'=f/\∃ (nx:Nat->List Nat) (m:Nat) (W:Hp->Prop),(∀ H H',W H->Same H H'->W H')/\W H/\0 < m/\m<=8/\(∀ s,s < m->(nx s).length<=8/\∀ t∈nx s,t < m) ∧
   (∀ (s:Nat) H Q,s < m->W H->(∀ l ps H',Same H H'->H l=none->H' l=some (.lst ps)->Stps H' ps (nx s)->Q (.ref l) H')->spF [.int (s:Nat)] H Q E0) ∧
   ∀ d o (kvs:List (Key×V)) (qs:List Nat) H',Same H H'->H d=none->H' d=some (.frz o (.dK kvs))->kvs.map (·.1)=qs.map nk->qs.Nodup->(∀ s,s∈qs↔Om.Rch nx s)->qs.length<=8->Q (.ref d) H'
 | _=>False
theorem scTexts:FnScope ["start","steps","texts","queue","place","node","letter","to"] ["start","steps"] (qad qeF):=⟨rfl,rfl,rfl,by decide +kernel,rfl,by decide +kernel,by decide +kernel⟩
local macro_rules | `(tactic| walk_at "T.ps")=>`(tactic| first | (with_reducible exact qjs) | ((with_reducible refine' qhx ?a1 ?a2 ?a3);(case a1=>walk_at "T.e");(case a2=>walk_at "T.e");(case a3=>walk_at "T.ps")))
local macro_rules | `(tactic| walk_at "T.e")=>`(tactic| first | ((with_reducible refine' qjA ?a1 ?a2 ?a3 ?a4 ?a5);(case a1=>walk_at "T.ps");(case a2=>kernel_rfl);(case a3=>kernel_rfl);(case a4=>exact fun z=>nomatch z);(case a5=>decide)) | ((with_reducible refine' qeU ?a0 ?a1 ?a2);(case a0=>exact Room.units (by assumption));(case a1=>walk_at "T.e");(case a2=>walk_at "T.e")))
local macro_rules | `(tactic| walk_at "T.cmp")=>`(tactic| ((with_reducible refine' qaY ?a0);(case a0=>exact Room.units (by assumption))))
local macro_rules | `(tactic| walk_at "T.b")=>`(tactic| ((with_reducible refine' qkf "steps" 1 ?a0 ?a9 ?a1 ?a2);(case a0=>with_reducible assumption);(case a9=>exact ⟨rfl,rfl,rfl,rfl,rfl⟩);(case a1=>exact Room.mono (by assumption) (Nat.le_refl _));(case a2=>walk_at "T.a")))
local macro_rules | `(tactic| walk_at "T.g")=>`(tactic| ((with_reducible refine' qdx ?a0 ?a1 ?a2);(case a0=>exact Room.units (by assumption));(case a1=>walk_at "T.e");(case a2=>walk_at "T.e")))
local macro_rules | `(tactic| walk_at "T.st")=>`(tactic| first | ((with_reducible refine' qeE ?a1);(case a1=>walk_at "T.e")) | ((with_reducible refine' qkT "place" 4 ?b0 ?a1);(case b0=>with_unfolding_all assumption);(case a1=>walk_at "T.e")))
theorem qhG {f:Addr} {k:Nat} {p:Str} {spF:Sp} (D:FnX K mg "texts_from" qeF ["start","steps"]) (g1:mg "len" = none) (c1:qmG P w K mg base f k p spF):Can P w K mg base "texts_from" (k+1) ["start","steps"] (qdV f spF):=by
 refine qag (k:=k) D scTexts (fun vs H Q E h=>?_) (fun f0 cdv A outer s H vs Q E hr h=>?_)
 all_goals
  unfold qdV at h
  split at h
 ·rfl
 ·exact h.elim
 ·rename_i s0 f'
  obtain ⟨rfl,rfl,nx,m,W,Wm,hW,m0,m8,hn,hF,q⟩:=h
  have nd:=scTexts.nd
  refine ⟨_,(by walk_at "T.top"),?_⟩
  refine fun D hD=>⟨Nat.zero_le _,fun Z hZ=>⟨by rw [qab (Ne.symm (qc7 hZ).1)];exact qaa,[(nk 0,.ref Z)],rfl,Nat.le_of_ble_eq_true rfl,?_⟩⟩
  refine ⟨lZ_ rfl,fun Qa hQ=>?_⟩
  have G0:=Tq.start hD hZ hQ
  refine ⟨fun mm σ H2=>∃ (v5 v6 v7:Option V) (kvs:List (Key×V)) (qs:List Nat) (c:Nat),σ=[some (.int 0),some (.ref f'),some (.ref D),some (.ref Qa),some (.int (c:Nat)),v5,v6,v7]/\mm+c=m/\Tq H H2 D Qa kvs qs qs.length/\(∀ s∈qs,s < m)/\0∈qs/\(∀ s∈qs,Om.Rch nx s)/\c<=qs.length/\∀ (i s:Nat),i < c->qs[i]? = some s->∀ t∈nx s,t∈qs,
   ⟨m,none,none,none,_,[0],0,rfl,rfl,G0.le (Nat.zero_le _),by simpa using m0,by simp,(fun s hs=>by rw [mS_ hs];exact .z),Nat.zero_le _,fun i s h=>absurd h (Nat.not_lt_zero _)⟩,?_⟩
  rintro mm σ H2 ⟨v5,v6,v7,kvs,qs,c,rfl,hmm,G,hlt,h0,hrc,cl,hdone⟩
  have ql:=Om.nodup_len m qs G.nd hlt
  refine ⟨_,qbE G.hQ,?_⟩
  dsimp only [rN0]
  rw [lM_]
  refine qbr (fun lt=>?_) (fun ge=>?_)
  ·have lt:c < qs.length:=by simpa using lt
   obtain ⟨s,hs⟩ : ∃ s,qs[c]? = some s:=⟨_,gE_ lt⟩
   have sm:=mO_ hs
   have slt:=hlt s sm
   obtain ⟨n8,nlt⟩:=hn s slt
   refine ⟨fun σ' H'=>∃ (v6 v7:Option V) (kvs:List (Key×V)) (more:List Nat),σ'=[some (.int 0),some (.ref f'),some (.ref D),some (.ref Qa),some (.int ((c:Nat)+1)),some (.int (s:Nat)),v6,v7]/\Tq H H' D Qa kvs (qs++more) (qs++more).length/\(∀ s∈more,s < m/\Om.Rch nx s)/\∀ t∈nx s,t∈qs++more,?_,?_⟩
   ·rintro σ' H' ⟨v6,v7,kvs,more,rfl,G',hm',hd'⟩
    refine ⟨mm - 1,by omega,_,v6,v7,kvs,qs++more,c+1,rfl,by omega,G',fun x hx=>?_,List.mem_append_left _ h0,fun x hx=>?_,by rw [lA_];omega,fun i x hi hx t ht=>?_⟩
    ·exact (mA_ hx).elim (hlt x) fun z=>(hm' x z).1
    ·exact (mA_ hx).elim (hrc x) fun z=>(hm' x z).2
    ·rw [List.getElem?_append_left (by omega)] at hx
     by_cases e:i=c
     ·subst e
      rw [hs] at hx
      cases hx
      exact hd' t ht
     ·exact List.mem_append_left _ (hdone i x (by omega) hx t ht)
   ·refine .inl ⟨_,gl G.hQ (by omega) (by rw [gM_,show ((c:Nat):Int).toNat=c by omega,hs];rfl),?_⟩
    refine ⟨rfl,hF s _ _ slt (Wm _ _ hW G.s) fun l ps H3 s3 nl hl st=>?_⟩
    have lD:l≠D:=Ne.symm (qac G.hD nl)
    have lQ:l≠Qa:=Ne.symm (qac G.hQ nl)
    refine ⟨⟨_,SqL.of hl⟩,qaD (qaj _ l ps) (fun i σ H4=>∃ (v6 v7:Option V) (kvs:List (Key×V)) (more:List Nat),σ=[some (.int 0),some (.ref f'),some (.ref D),some (.ref Qa),some (.int ((c:Nat)+1)),some (.int (s:Nat)),v6,v7]/\Tq H H4 D Qa kvs (qs++more) (qs++more).length/\(∀ s∈more,s < m/\Om.Rch nx s)/\H4 l=some (.lst ps)/\Stps H4 ps (nx s)/\∀ (j t:Nat),j < i->(nx s)[j]? = some t->t∈qs++more)
     ⟨v6,v7,kvs,[],rfl,by rw [List.append_nil];exact G.mono s3,by simp,hl,st,fun j t h=>absurd h (Nat.not_lt_zero _)⟩ (fun i σ H4 _ ⟨_,_,_,_,_,_,_,h,_⟩=>SqL.of h) ?_ ?_⟩
    ·rintro i x σ H4 hi hx ⟨v6,v7,kvs,more,rfl,G4,hm4,hl4,st4,hd4⟩
     have hi':i < (nx s).length:=by rw [<-st4.1];exact hi
     obtain ⟨qa,e1,e2⟩:=st4.2 i (nx s)[i] (gE_ hi')
     rw [e1] at hx
     cases hx
     have tm:(nx s)[i]∈nx s:=List.getElem_mem hi'
     have tlt:=nlt _ tm
     generalize et:(nx s)[i]=t at e2 tm tlt
     have ei:(nx s)[i]? = some t:=by rw [gE_ hi',et]
     refine ⟨_,.inl e2,rfl,rfl,?_⟩
     refine ⟨D,_,rfl,DGet.k (k:=nk t) G4.hD,?_⟩
     rw [G4.has t]
     have l4:(qs++more).length<=m:=Om.nodup_len m _ G4.nd fun x hx=>(mA_ hx).elim (hlt x) fun z=>(hm4 x z).1
     refine qbr (fun c1=>?_) (fun c1=>?_)
     ·have nt:t ∉ qs++more:=by simpa using c1
      obtain ⟨t0,zs,w1,w2,w3,w4⟩:=G4.vl s (List.mem_append_left _ sm)
      refine .inr ⟨D,.ref t0,rfl,w1 ▸ DGet.k (k:=nk s) G4.hD,?_⟩
      refine ⟨lZ_ rfl,fun B hB=>?_⟩
      have s5:Same H4 (upd H4 B (.lst [.int (i:Nat)])):=Same.upd hB
      refine ⟨zs,[.int (i:Nat)],s5 _ _ w2,qaa,qae (by simp;omega),fun U hU=>?_⟩
      have s6:=s5.trans (Same.upd (o:=.lst (zs++[.int (i:Nat)])) hU)
      have G6:=G4.mono s6
      have UQ:U≠Qa:=Ne.symm (qac (s5 _ _ G4.hQ) hU)
      have kl:=G6.klen
      refine .inr ⟨D,_,rfl,DPut.k (k:=nk t) G6.hD (lt_line (by omega)),?_⟩
      have DQ:D≠Qa:=qax G6.hD G6.hQ (fun z=>nomatch z)
      refine ⟨⟨_,rfl,by rw [qab (Ne.symm DQ)];exact G6.hQ⟩,_,by rw [qab (Ne.symm DQ)];exact G6.hQ,lt_line (by rw [lM_];omega),?_⟩
      have G7:=(G6.le (Nat.le_succ _)).put (u:=U) (zs:=zs++[.int (i:Nat)]) nt qaa UQ (by rw [lA_];exact Nat.add_le_add_right w3 1)
      rw [show (qs++more).length.succ=(qs++more++[t]).length from (lA_ (as:=qs++more) (bs:=[t])).symm,List.append_assoc] at G7
      refine ⟨_,_,_,more++[t],rfl,G7,fun x hx=>?_,Tq.put_at (s6 _ _ hl4) lD lQ,⟨st4.1,fun j t' hj=>?_⟩,fun j t' hj ht'=>?_⟩
      ·rcases mA_ hx with z | z
       ·exact hm4 x z
       ·have:x=t:=by simpa using z
        subst this
        exact ⟨tlt,.s (hrc s sm) tm⟩
      ·obtain ⟨qb,a1,a2⟩:=st4.2 j t' hj
       exact ⟨qb,a1,Tq.put_at (s6 _ _ a2) (qax (s6 _ _ a2) G6.hD (fun z=>nomatch z)) (qax (s6 _ _ a2) G6.hQ (fun z=>nomatch z))⟩
      ·rw [<-List.append_assoc]
       by_cases e:j=i
       ·subst e
        rw [ei] at ht'
        cases ht'
        exact List.mem_append_right _ (by simp)
       ·exact List.mem_append_left _ (hd4 j t' (by omega) ht')
     ·have nt:t∈qs++more:=by
       by_cases z:t∈qs++more
       ·exact z
       ·exact absurd (by simpa using z) c1
      refine ⟨_,_,kvs,more,rfl,G4,hm4,hl4,st4,fun j t' hj ht'=>?_⟩
      by_cases e:j=i
      ·subst e
       rw [ei] at ht'
       cases ht'
       exact nt
      ·exact hd4 j t' (by omega) ht'
    ·rintro σ H4 ⟨v6,v7,kvs,more,rfl,G4,hm4,hl4,st4,hd4⟩
     refine ⟨v6,v7,kvs,more,rfl,G4,hm4,fun t ht=>?_⟩
     obtain ⟨j,hj⟩:=mG_ ht
     have lj:=(gS_ hj).1
     exact hd4 j t (by rw [st4.1];exact lj) hj
  ·have ge:qs.length<=c:=by
    by_cases z:c < qs.length
    ·exact absurd (by simpa using z) ge
    ·omega
   refine .inl ⟨_,G.hD,trivial,fun o=>?_⟩
   refine q D o kvs qs _ (fun b u e=>?_) hD qaa G.ks G.nd (fun s=>⟨hrc s,Om.rch_in h0 (fun a ha b hb=>?_) s⟩) (by omega)
   ·rw [qab (qac e hD)]
    exact G.s _ _ e
   ·obtain ⟨i,hi⟩:=mG_ ha
    have li:=(gS_ hi).1
    exact hdone i a (by omega) hi b hb
 ·exact h.elim
end
end K11
end
section
namespace K11
open PySem L2
section
variable {P:Program} {w:World} {K:PySem.W.Frag} {mg:Str->Option Value} {base:Heap}
abbrev qkU:Stmt:=top 11
abbrev qay:Expr:=qkm 1 (qoc (.Name "" ⟨0,0,0,0⟩) ((qao qkU).getD 0 (.Pass ⟨0,0,0,0⟩)))
abbrev qSt:Str:=("state_texts"++".<locals>." : Str)++"<lambda>"
def qcF (c:Addr) (fvs:List V):Sp:=fun vs H Q _=>match vs with
 | [.int s0]=>∃ (k n:Nat) (rows:Om.Rows) (cv:V) (s:Nat),s0=(s:Nat)/\fvs=[cv]/\DV H cv (qaA k n rows)/\Om.CodeOk k n rows/\s < rows.length/\H c=some (CodeO c qSt) ∧
   ∀ l ps H',Same H H'->H l=none->H' l=some (.lst ps)->Stps H' ps (Om.nxR rows s)->Q (.ref l) H'
 | _=>False
local macro_rules | `(tactic| walk_at "T.c")=>`(tactic| (have ndc:(["letter","row"]:List Str).Nodup:=(by decide +kernel));((with_reducible refine' qaH ["letter","row"] [] ?b1 ?b2 (fun cl C s H fp=>?b3) (fun cl C s H fp=>?b4) (fun cl C s H fp=>?b5));(case b1=>exact ndc);(case b2=>walk_at "T.i");(case b3=>walk_at "T.g");(case b4=>walk_at "T.pf");(case b5=>walk_at "T.e")))
theorem qlP {f c:Addr} {fvs:List V} (L:qii base f (qjW qay) (qjV qay) (qeS qay) qSt c ["code"] fvs) (hl:["code"].length=fvs.length) (g1:mg "enumerate" = none):qmG P w K mg base f 1 "state" (qcF c fvs):=by
 refine qlQ (k:=0) L ⟨rfl,rfl,rfl,rfl,by decide +kernel,by decide +kernel⟩ hl (fun _ _ _ _=>rfl) (fun vs H Q E h=>?_) (fun clos A outer s H v Q E hr h=>?_)
 ·unfold qcF at h
  split at h
  ·rfl
  ·exact h.elim
 ·unfold qcF at h
  split at h
  ·rename_i s0 hv
   cases hv
   obtain ⟨k,n,rows,cv,st,rfl,rfl,hc,ok,hs,hcd,q⟩:=h
   refine ⟨hcd,?_⟩
   have ndc:(["letter","row"]:List Str).Nodup:=by decide +kernel
   refine ⟨_,(by (refine' qaH ["letter","row"] [] ?b1 ?b2 (fun cl C s H fp=>?b3) (fun cl C s H fp=>?b4) (fun cl C s H fp=>?b5));(case b1=>exact ndc);(case b2=>walk_at "T.i");(case b3=>walk_at "T.g");(case b4=>walk_at "T.pf");(case b5=>walk_at "T.e")),?_⟩
   obtain ⟨a,b,ss,rfl,ha,hb,hss⟩:=qas hc
   obtain ⟨qx,rx,e1,e2,e3⟩:=qaJ hss (s:=st) (st:=rows[st]) (gE_ hs)
   have lx:rows[st].length=2 ^ k:=ok.len _ (List.getElem_mem hs)
   have rxl:rx.length=rows[st].length:=by rw [e3.length,lM_]
   have p8:rx.length<=8:=by rw [rxl,lx];exact Om.pow8 ok.k3
   have gx:Om.nxR rows st=rows[st].map (·.2):=by unfold Om.nxR;rw [List.getD_eq_getElem?_getD,gE_ hs];rfl
   refine ⟨_,gt ha (by decide) rfl,.ref qx,gl hb (by omega) (by simpa using e1),⟨_,SqL.of e2⟩,fun R hR=>?_⟩
   refine qkk (qaU _ qx rx) (fun i τ H2 ys=>(∃ v1 v2,τ=[v1,v2])/\Same H H2/\H2 R=some (.lst ys)/\Stps H2 ys ((Om.nxR rows st).take i)) (qae (by omega)) ⟨⟨none,none,rfl⟩,Same.upd hR,qaa,rfl,fun i t h=>by simp at h⟩ ?_ ?_ ?_
   ·rintro i τ H2 ys hi ⟨_,s2,hR2,st2⟩
    exact ⟨s2 _ _ e2,hR2,by rw [st2.1,List.length_take];exact Nat.min_le_left _ _⟩
   ·rintro i t τ H2 ys hi ⟨⟨v1,v2,rfl⟩,s2,hR2,st2⟩ ht
    have hi':i < rows[st].length:=by omega
    obtain ⟨r,r1,r2⟩:=qa9 e3 (l:=i) (r:=rows[st][i]) (gE_ hi')
    have er:rx.getD i .non = .ref r:=by rw [List.getD_eq_getElem?_getD,r1];rfl
    rw [er]
    have s3:Same H2 (upd H2 t (.tup [.int (i:Nat),.ref r])):=Same.upd ht
    refine ⟨_,.inl qaa,rfl,rfl,?_⟩
    refine ⟨_,gt (s3 _ _ (s2 _ _ r2)) (by decide) rfl,lZ_ rfl,fun p hp=>?_⟩
    have s4:=s3.trans (Same.upd (o:=.tup [.int (i:Nat),.int (rows[st][i].2:Nat)]) hp)
    refine ⟨s4 _ _ hR2,⟨_,_,rfl⟩,(s2.trans s4).own hR,qaa,?_,fun j t' hj=>?_⟩
    ·rw [lA_,st2.1,List.length_take,List.length_take,gx,lM_]
     simp
     omega
    ·have il:ys.length=i:=by rw [st2.1,List.length_take,gx,lM_];omega
     have jl:j < i+1:=by
      have:=(gS_ hj).1
      rw [List.length_take] at this
      omega
     rw [List.getElem?_take_of_lt jl] at hj
     by_cases e:j=i
     ·subst e
      have et:t'=rows[st][j].2:=by
       rw [gx,gM_,gE_ hi'] at hj
       exact (oI_ hj).symm
      subst et
      refine ⟨p,by rw [List.getElem?_append_right (by omega),il];simp,?_⟩
      rw [qab (qax (u:=.lst ys) qaa (s4 _ _ hR2) (fun z=>nomatch z))]
      exact qaa
     ·obtain ⟨q',a1,a2⟩:=st2.2 j t' (by rw [List.getElem?_take_of_lt (by omega)];exact hj)
      refine ⟨q',by rw [List.getElem?_append_left (by omega)];exact a1,?_⟩
      rw [qab (qax a2 hR2 (fun z=>nomatch z))]
      exact s4 _ _ a2
   ·rintro τ H2 ys ⟨_,s2,hR2,st2⟩
    rw [List.take_of_length_le (by rw [gx,lM_];omega)] at st2
    exact q R ys _ s2 hR hR2 st2
  ·rename_i hv
   exact h.elim
end
section
variable {P:Program} {w:World} {K:PySem.W.Frag} {mg:Str->Option Value} {base:Heap}
def qiY (P0:Addr):Sp:=fun vs H Q _=>match vs with
 | [cv]=>∃ (k n:Nat) (rows:Om.Rows),DV H cv (qaA k n rows)/\Om.CodeOk k n rows/\Tab P0 (qap qay) qSt H ∧
   ∀ d o (kvs:List (Key×V)) (qs:List Nat) H',SameT P0 H H'->Tab P0 (qap qay) qSt H'->H d=none->H' d=some (.frz o (.dK kvs))->kvs.map (·.1)=qs.map nk->qs.Nodup->(∀ s,s∈qs↔Om.Rch (Om.nxR rows) s)->qs.length<=8->Q (.ref d) H'
 | _=>False
theorem qmT:FnScope ["code"] ["code"] (qad qkU):=⟨rfl,rfl,rfl,by decide +kernel,rfl,by decide +kernel,by decide +kernel⟩
theorem qlG {c P0:Addr} (D:FnC K mg "state_texts" qkU ["code"] c) (D2:FnX K mg "texts_from" qeF ["start","steps"]) (g1:mg "len" = none) (g2:mg "enumerate" = none) (M:Maker mg base c P0):Can P w K mg base "state_texts" 3 ["code"] (qiY P0):=by
 refine qkl (k:=2) D qmT (fun vs H Q E h=>?_) (fun f A outer s H vs Q E hr h=>?_)
 all_goals
  unfold qiY at h
  split at h
 ·rfl
 ·exact h.elim
 ·rename_i cv
  obtain ⟨k,n,rows,hc,ok,tb,q⟩:=h
  have hm:∃ f,mg "texts_from" = some (.ref f)/\PySem.W.keepIn K (.ref f)=true:=by
   obtain ⟨f,fd,F,hm,_⟩:=D2
   exact ⟨f,hm,F.kp⟩
  have hf0:∀ y∈(qeS qay).names,y.2 = .free->(qad qkU).names.lookup y.1=some .cell:=by decide +kernel
  refine ⟨_,(by
   refine' qed ?a1
   case a1=>
    refine' qiq ?a2
    case a2=>
     refine' qgT "texts_from" (F:=["code"]) (js:=[0]) (k:=2) (ps:=["start","steps"]) (sp:=fun f c fvs=>qdV f (qcF c fvs)) hm M rfl ?hF rfl ?hFs (fun _=>rfl) ?hfree ?hC hr ?ha ?hg rfl rfl ?he
     case hF=>
      intro i y h
      cases i with
      | zero=>cases h;exact ⟨0,rfl,rfl,by kernel_rfl⟩
      | succ i=>simp at h
     case hFs=>decide +kernel
     case hfree=>exact hf0
     case hC=>exact fun B f c' fvs m0 kb hl L=>qhG D2 g1 (qlP L hl g2)
     case ha=>exact qis
     case hg=>kernel_rfl
     case he=>kernel_rfl),?_⟩
  refine ⟨tb,[cv],rfl,fun f' c' H2 sm e1 e2 nf=>?_⟩
  have rl:∀ s,s < rows.length->Om.nxR rows s=(rows.getD s []).map (·.2):=fun _ _=>rfl
  refine ⟨rfl,rfl,Om.nxR rows,rows.length,fun H=>DV H cv (qaA k n rows)/\H c'=some (CodeO c' qSt),fun H H' ⟨a,b⟩ s=>⟨a.mono s,s _ _ b⟩,⟨hc.monoT tb sm,e2⟩,ok.s1,ok.s8,fun s hs=>?_,fun s H Q hs ⟨a,b⟩ h=>⟨k,n,rows,cv,s,rfl,rfl,a,ok,hs,b,h⟩,
   fun d o kvs qs H' s' nd hd ks ndq hrr hl=>q d o kvs qs H' (sm.trans s'.t) (.inr ⟨c',s' _ _ e1,s' _ _ e2⟩) (sm.free nd fun z=>by rw [z,e1] at nd;cases nd) hd ks ndq hrr hl⟩
  exact Om.nx_ok ok hs
 ·exact h.elim
end
end K11
end
section
namespace K11
open PySem L2
section
variable {P:Program} {w:World} {K:PySem.W.Frag} {mg:Str->Option Value} {base:Heap}
abbrev qcN:Stmt:=top 12
def qaK (P0:Addr):Sp:=fun vs H Q _=>match vs with
 | [cv]=>∃ (k n:Nat) (rows:Om.Rows),DV H cv (qaA k n rows)/\Om.CodeOk k n rows/\Tab P0 (qap qay) qSt H ∧
   ∀ l (qs:List Nat) H',SameT P0 H H'->Tab P0 (qap qay) qSt H'->H l=none->H' l=some (.lst (qs.map fun s=>V.int (s:Nat)))->qs.Pairwise (· < ·)->(∀ s,s∈qs↔Om.Rch (Om.nxR rows) s)->qs.length<=8->Q (.ref l) H'
 | _=>False
theorem scReached:FnScope ["code"] ["code"] (qad qcN):=⟨rfl,rfl,rfl,by decide +kernel,rfl,by decide +kernel,by decide +kernel⟩
local macro_rules | `(tactic| walk_at "T.b")=>`(tactic| ((with_reducible refine' qfm ?a0 ?a9 ?a1);(case a0=>with_reducible assumption);(case a9=>rfl);(case a1=>walk_at "T.a")))
theorem qfc {P0:Addr} (D:FnX K mg "reached" qcN ["code"]) (g1:mg "sorted" = none) (c1:Can P w K mg base "state_texts" 3 ["code"] (qiY P0)):Can P w K mg base "reached" 4 ["code"] (qaK P0):=by
 refine qag (k:=3) D scReached (fun vs H Q E h=>?_) (fun f cdv A outer s H vs Q E hr h=>?_)
 all_goals
  unfold qaK at h
  split at h
 ·rfl
 ·exact h.elim
 ·rename_i cv
  obtain ⟨k,n,rows,hc,ok,tb,q⟩:=h
  have nd:=scReached.nd
  refine ⟨_,(by walk_at "T.top1"),?_⟩
  refine ⟨k,n,rows,hc,ok,tb,fun d o kvs qs H' s1 t1 nd1 hd ks ndq hr8 l8=>?_⟩
  refine .inl ⟨d,kvs,qs.map fun s=>((s:Nat):Int),rfl,.inr ⟨o,hd⟩,by rw [ks,List.map_map];rfl,by rw [lM_];omega,fun l ns hl pm srt=>?_⟩
  obtain ⟨qs',rfl,pm'⟩:=Om.perm_nats pm
  refine q l qs' _ (s1.trans (Same.upd hl).t) (t1.mono (Same.upd hl)) (s1.free hl fun z=>by obtain ⟨ps,e⟩:=t1.tbl;rw [z,e] at hl;cases hl) ?_ ?_ (fun s=>?_) (by rw [pm'.length_eq];exact l8)
  ·rw [qaa,List.map_map];rfl
  ·exact Om.lt_of_le (pm'.nodup_iff.mpr ndq) srt
  ·rw [pm'.mem_iff];exact hr8 s
 ·exact h.elim
end
section
variable {P:Program} {w:World} {K:PySem.W.Frag} {mg:Str->Option Value} {base:Heap}
end
end K11
end
section
namespace K11
open PySem L2
section
variable {P:Program} {w:World} {K:PySem.W.Frag} {mg:Str->Option Value} {base:Heap}
abbrev qd7:Stmt:=top 14
def qbN:Sp:=fun vs H Q _=>match vs with
 | [cv,.int x0,.int y0]=>∃ (k n:Nat) (rows:Om.Rows) (x y:Nat),x0=(x:Nat)/\y0=(y:Nat)/\DV H cv (qaA k n rows)/\Om.CodeOk k n rows/\x < rows.length/\y < rows.length ∧
   ∀ l (ss:List Om.Stp) H',Same H H'->H l=none->StL H' l ss->ss.length<=64->ss.Pairwise Om.LtS->(∀ s,s∈ss↔Om.St rows x y s)->Q (.ref l) H'
 | _=>False
theorem scPSteps:FnScope ["code","one","other","steps","letter","row","another","beside"] ["code","one","other"] (qad qd7):=⟨rfl,rfl,rfl,by decide +kernel,rfl,by decide +kernel,by decide +kernel⟩
theorem qgm (D:FnX K mg "pair_steps" qd7 ["code","one","other"]) (g1:mg "enumerate" = none):Can P w K mg base "pair_steps" 1 ["code","one","other"] qbN:=by
 refine qag (k:=0) D scPSteps (fun vs H Q E h=>?_) (fun f cdv A outer s H vs Q E hr h=>?_)
 all_goals
  unfold qbN at h
  split at h
 ·rfl
 ·exact h.elim
 ·rename_i cv x0 y0
  obtain ⟨k,n,rows,x,y,rfl,rfl,hc,ok,hx,hy,q⟩:=h
  have nd:=scPSteps.nd
  obtain ⟨a,b,st,rfl,ha,hb,hst⟩:=qas hc
  obtain ⟨qx,rx,e1,e2,e3⟩:=qaJ hst (s:=x) (st:=rows[x]) (gE_ hx)
  obtain ⟨qy,ry,f1,f2,f3⟩:=qaJ hst (s:=y) (st:=rows[y]) (gE_ hy)
  have lx:rows[x].length=2 ^ k:=ok.len _ (List.getElem_mem hx)
  have ly:rows[y].length=2 ^ k:=ok.len _ (List.getElem_mem hy)
  have p8:2 ^ k<=8:=by
   have:=ok.k3
   have:k=0\/k=1\/k=2\/k=3:=by omega
   rcases this with rfl | rfl | rfl | rfl<;>decide
  have gx:rows.getD x []=rows[x]:=by simp [List.getD_eq_getElem?_getD,hx]
  have gy:rows.getD y []=rows[y]:=by simp [List.getD_eq_getElem?_getD,hy]
  have stx:∀ i (hi:i < rows[x].length),Om.step rows x i=rows[x][i]:=fun i hi=>by unfold Om.step;rw [gx];simp [List.getD_eq_getElem?_getD,hi]
  have sty:∀ i (hi:i < rows[y].length),Om.step rows y i=rows[y][i]:=fun i hi=>by unfold Om.step;rw [gy];simp [List.getD_eq_getElem?_getD,hi]
  have rxl:rx.length=2 ^ k:=by rw [e3.length,lM_,lx]
  have ryl:ry.length=2 ^ k:=by rw [f3.length,lM_,ly]
  refine ⟨_,(by walk_at "T.top"),?_⟩
  refine ⟨Nat.zero_le _,fun L hL=>?_⟩
  have R0:=Gr.start hL
  refine ⟨_,gt (R0.all _ _ ha) (by decide) rfl,.ref qx,gl (R0.all _ _ hb) (by omega) (by simpa using e1),⟨_,SqL.of (R0.all _ _ e2)⟩,?_⟩
  refine qci (qaU _ qx rx) (fun i σ H2=>∃ (v4 v5 v6 v7:Option V) (G:Hp) (vs:List V) (ss:List Om.Stp),σ=[some (.ref a),some (.int (x:Nat)),some (.int (y:Nat)),some (.ref L),v4,v5,v6,v7]/\Gr G H H2 L vs/\DVs G vs (ss.map sD)/\ss.length<=i * 8/\ss.Pairwise Om.LtS/\∀ s,s∈ss↔s.1.1 < i/\Om.St rows x y s)
   ⟨none,none,none,none,_,[],[],rfl,R0,.nil,by simp,List.Pairwise.nil,by simp⟩ (fun i σ H2 _ ⟨_,_,_,_,_,_,_,_,R,_⟩=>R.all _ _ e2) ?_ ?_
  ·rintro i t σ H2 hi ⟨v4,v5,v6,v7,G,vs,ss,rfl,R,hd,hl,ho,hb1⟩ ht
   have hi':i < rows[x].length:=by omega
   obtain ⟨r,r1,r2⟩:=qa9 e3 (l:=i) (r:=rows[x][i]) (gE_ hi')
   have er:rx.getD i .non = .ref r:=by rw [List.getD_eq_getElem?_getD,r1];rfl
   have R1:=R.new (o:=.tup [.int (i:Nat),.ref r]) ht
   dsimp only
   rw [er]
   refine ⟨_,.inl qaa,rfl,rfl,?_⟩
   refine ⟨_,gt (R1.all _ _ ha) (by decide) rfl,.ref qy,gl (R1.all _ _ hb) (by omega) (by simpa using f1),⟨_,SqL.of (R1.all _ _ f2)⟩,?_⟩
   refine qci (qaU _ qy ry) (fun j σ H2=>∃ (v6 v7:Option V) (G:Hp) (vs:List V) (ss:List Om.Stp),σ=[some (.ref a),some (.int (x:Nat)),some (.int (y:Nat)),some (.ref L),some (.int (i:Nat)),some (.ref r),v6,v7]/\Gr G H H2 L vs/\DVs G vs (ss.map sD)/\ss.length<=i * 8+j/\ss.Pairwise Om.LtS/\∀ s,s∈ss↔(s.1.1 < i\/(s.1.1=i/\s.1.2 < j))/\Om.St rows x y s)
    ⟨v6,v7,G,vs,ss,rfl,R1,hd,by omega,ho,fun s=>by rw [hb1];constructor<;>rintro ⟨h1,h2⟩<;>exact ⟨by omega,h2⟩⟩ (fun i σ H2 _ ⟨_,_,_,_,_,_,R,_⟩=>R.all _ _ f2) ?_ ?_
   ·rintro j t2 σ H3 hj ⟨v6,v7,G,vs,ss,rfl,R2,hd,hl,ho,hb1⟩ ht2
    have hj':j < rows[y].length:=by omega
    obtain ⟨r',s1,s2⟩:=qa9 f3 (l:=j) (r:=rows[y][j]) (gE_ hj')
    have er':ry.getD j .non = .ref r':=by rw [List.getD_eq_getElem?_getD,s1];rfl
    have R3:=R2.new (o:=.tup [.int (j:Nat),.ref r']) ht2
    dsimp only
    rw [er']
    refine ⟨_,.inl qaa,rfl,rfl,?_⟩
    refine ⟨_,gt (R3.all _ _ r2) (by decide) rfl,_,gt (R3.all _ _ s2) (by decide) rfl,?_⟩
    have key:∀ s:Om.Stp,s.1.1=i->s.1.2=j->(Om.St rows x y s↔rows[x][i].1=rows[y][j].1/\s=((i,j),(rows[x][i].2,rows[y][j].2))):=by
     rintro ⟨⟨a1,a2⟩,a3⟩ h1 h2
     dsimp only at h1 h2
     subst h1 h2
     unfold Om.St
     dsimp only
     rw [gx,gy,stx _ hi',sty _ hj']
     constructor
     ·rintro ⟨_,_,h3,h4⟩;exact ⟨h3,by rw [h4]⟩
     ·rintro ⟨h3,h4⟩
      exact ⟨hi',hj',h3,(Prod.mk.inj h4).2⟩
    refine qbr (fun h1=>?_) (fun h1=>⟨_,_,G,vs,ss,rfl,R3,hd,by omega,ho,fun s=>?_⟩)
    ·have h1':=bs_inj (of_decide_eq_true h1)
     refine ⟨⟨_,rfl,R3.hL⟩,?_⟩
     refine ⟨lZ_ rfl,fun z hz=>?_⟩
     have R4:=R3.put (o:=.tup [.int (i:Nat),.int (j:Nat)]) hz
     have U4:=R3.up (o:=.tup [.int (i:Nat),.int (j:Nat)]) hz
     refine ⟨_,gt (R4.all _ _ r2) (by decide) rfl,_,gt (R4.all _ _ s2) (by decide) rfl,?_⟩
     refine ⟨lZ_ rfl,fun z1 hz1=>?_⟩
     have R5:=R4.put (o:=.tup [.int (rows[x][i].2:Nat),.int (rows[y][j].2:Nat)]) hz1
     have U5:=R4.up (o:=.tup [.int (rows[x][i].2:Nat),.int (rows[y][j].2:Nat)]) hz1
     refine ⟨lZ_ rfl,fun z2 hz2=>?_⟩
     have R6:=R5.put (o:=.tup [.ref z,.ref z1]) hz2
     have U6:=R5.up (o:=.tup [.ref z,.ref z1]) hz2
     have vl:vs.length=ss.length:=by rw [hd.length,lM_]
     refine ⟨_,R6.hL,by rw [vl];exact lt_line (by omega),?_⟩
     refine ⟨_,_,_,vs++[.ref z2],ss++[((i,j),(rows[x][i].2,rows[y][j].2))],rfl,R6.set,?_,by simp;omega,Om.pw_app ho (fun a ha=>by have:=((hb1 a).mp ha).1;show a.1.1 < i\/(a.1.1=i/\a.1.2 < j);exact this),fun u=>?_⟩
     ·rw [List.map_append]
      refine (hd.mono ((U4.trans U5).trans U6)).app (.cons (.tup qaa (.cons ?_ (.cons ?_ .nil))) .nil)
      ·exact (qb7 (x:=(i,j)) qaa).mono (U5.trans U6)
      ·exact (qb7 (x:=(rows[x][i].2,rows[y][j].2)) qaa).mono U6
     ·rw [List.mem_append,hb1,List.mem_singleton]
      constructor
      ·rintro (⟨g1,g2⟩ | g)
       ·exact ⟨by omega,g2⟩
       ·subst g
        exact ⟨.inr ⟨rfl,Nat.lt_succ_self _⟩,(key _ rfl rfl).mpr ⟨h1',rfl⟩⟩
      ·rintro ⟨g1,g2⟩
       by_cases c:u.1.1=i/\u.1.2=j
       ·exact .inr ((key _ c.1 c.2).mp g2).2
       ·exact .inl ⟨by omega,g2⟩
    ·have h1':¬ rows[x][i].1=rows[y][j].1:=fun z=>by rw [z] at h1;simp at h1
     rw [hb1]
     constructor
     ·rintro ⟨g1,g2⟩;exact ⟨by omega,g2⟩
     ·rintro ⟨g1,g2⟩
      by_cases c:s.1.1=i/\s.1.2=j
      ·exact absurd ((key _ c.1 c.2).mp g2).1 h1'
      ·exact ⟨by omega,g2⟩
   ·rintro σ H3 ⟨v6,v7,G,vs,ss,rfl,R2,hd,hl,ho,hb1⟩
    refine ⟨_,_,_,_,G,vs,ss,rfl,R2,hd,by omega,ho,fun s=>?_⟩
    rw [hb1]
    constructor
    ·rintro ⟨g1,g2⟩;exact ⟨by omega,g2⟩
    ·rintro ⟨g1,g2⟩
     refine ⟨?_,g2⟩
     have:=g2.2.1
     rw [gy] at this
     omega
  ·rintro σ H2 ⟨v4,v5,v6,v7,G,vs,ss,rfl,R,hd,hl,ho,hb1⟩
   refine q L ss _ R.all hL (.lst R.hL (hd.mono R.s)) (by omega) ho fun s=>?_
   rw [hb1]
   constructor
   ·exact fun h=>h.2
   ·intro h
    refine ⟨?_,h⟩
    have:=h.1
    rw [gx] at this
    omega
 ·exact h.elim
end
end K11
end
section
namespace K11
open PySem L2
section
variable {P:Program} {w:World} {K:PySem.W.Frag} {mg:Str->Option Value} {base:Heap}
abbrev qfW:Stmt:=top 13
def qcG:Sp:=fun vs H Q _=>match vs with
 | [cv,.ref sl]=>∃ (k n:Nat) (rows:Om.Rows) (qs:List Nat),DV H cv (qaA k n rows)/\Om.CodeOk k n rows/\H sl=some (.lst (qs.map fun i=>V.int (i:Nat)))/\qs.Pairwise (· < ·)/\(∀ s∈qs,s < rows.length)/\∀ v H',Same H H'->GrO 64 Om.LtS H' v (fun x y=>x∈qs/\y∈qs) (Om.St rows)->Q v H'
 | _=>False
theorem scGraph:FnScope ["code","states","graph","one","other"] ["code","states"] (qad qfW):=⟨rfl,rfl,rfl,by decide +kernel,rfl,by decide +kernel,by decide +kernel⟩
local macro_rules | `(tactic| walk_at "T.e")=>`(tactic| (with_reducible exact qbP))
local macro_rules | `(tactic| walk_at "T.g")=>`(tactic| ((with_reducible refine' qdx ?a0 ?a1 ?a2);(case a0=>exact Room.units (by assumption));(case a1=>walk_at "T.e");(case a2=>walk_at "T.e")))
local macro_rules | `(tactic| walk_at "T.st")=>`(tactic| ((with_reducible refine' qeE ?a1);(case a1=>walk_at "T.e")))
theorem qk8 {qs:List Nat} {i:Nat} {z:V} (h:(qs.map fun i=>V.int (i:Nat))[i]? = some z):∃ s,qs[i]? = some s/\z = .int (s:Nat):=by
 rw [gM_] at h
 obtain ⟨j,h1,rfl⟩:=Option.map_eq_some_iff.mp h
 exact ⟨j,h1,rfl⟩
theorem qbM {qs:List Nat} (h:qs.Pairwise (· < ·)) {i s x:Nat} (hi:qs[i]? = some s) (hx:x∈qs.take i):x < s:=by
 obtain ⟨il,rfl⟩:=gS_ hi
 obtain ⟨j,hj⟩:=mG_ hx
 rw [List.getElem?_take] at hj
 split at hj
 ·rename_i ji
  have:=List.pairwise_iff_getElem.mp h j i (by omega) il ji
  rw [gE_ (by omega)] at hj
  have:=oI_ hj
  omega
 ·cases hj
theorem qdn {qs:List Nat} {i s x:Nat} (hi:qs[i]? = some s):x∈qs.take (i+1)↔x∈qs.take i\/x=s:=by
 rw [List.take_add_one,hi,List.mem_append]
 simp
theorem qhP (D:FnX K mg "pair_graph" qfW ["code","states"]) (c1:Can P w K mg base "pair_steps" 1 ["code","one","other"] qbN):Can P w K mg base "pair_graph" 2 ["code","states"] qcG:=by
 refine qag (k:=1) D scGraph (fun vs H Q E h=>?_) (fun f cdv A outer s H vs Q E hr h=>?_)
 all_goals
  unfold qcG at h
  split at h
 ·rfl
 ·exact h.elim
 ·rename_i cv sl
  obtain ⟨k,n,rows,qs,hc,ok,hsl,pw,lt,q⟩:=h
  have nd:=scGraph.nd
  have s8:=ok.s8
  refine ⟨_,(by walk_at "T.top"),?_⟩
  intro D hD
  have M0:=Gd.start hD
  refine ⟨⟨_,SqL.of (M0.all _ _ hsl)⟩,?_⟩
  refine qaD (qaj _ sl _) (fun i σ H2=>∃ (v3 v4:Option V) (G:Hp) (kvs:List (List Key×V)) (ks:List (Nat×Nat)),σ=[some cv,some (.ref sl),some (.ref D),v3,v4]/\Gd G H H2 D kvs/\KD ks kvs/\ValsO G kvs ks (Om.St rows) ∧
    ks.Pairwise Om.LtL/\∀ x y,(x,y)∈ks↔x∈qs.take i/\y∈qs)
   ⟨none,none,_,[],[],rfl,M0,KD.nil,(fun p hp=>nomatch hp),List.Pairwise.nil,fun x' y'=>by simp⟩ (fun i σ H2 _ ⟨_,_,_,_,_,_,M,_⟩=>SqL.of (M.all _ _ hsl)) ?_ ?_
  ·rintro i z σ H2 hi hz ⟨v3,v4,G,kvs,ks,rfl,M,kd,hv,ho,hm⟩
   obtain ⟨si,hsi,rfl⟩:=qk8 hz
   have lti:=lt _ (mO_ hsi)
   refine ⟨⟨_,SqL.of (M.all _ _ hsl)⟩,?_⟩
   refine qaD (qaj _ sl _) (fun j σ H2=>∃ (v4:Option V) (G:Hp) (kvs:List (List Key×V)) (ks:List (Nat×Nat)),σ=[some cv,some (.ref sl),some (.ref D),some (.int (si:Nat)),v4]/\Gd G H H2 D kvs/\KD ks kvs/\ValsO G kvs ks (Om.St rows) ∧
     ks.Pairwise Om.LtL/\∀ x y,(x,y)∈ks↔(x∈qs.take i/\y∈qs)\/(x=si/\y∈qs.take j))
    ⟨v4,G,kvs,ks,rfl,M,kd,hv,ho,fun x' y'=>by rw [hm];simp⟩ (fun i σ H2 _ ⟨_,_,_,_,_,M,_⟩=>SqL.of (M.all _ _ hsl)) ?_ ?_
   ·rintro j z σ H3 hj hz ⟨v4,G,kvs,ks,rfl,M,kd,hv,ho,hm⟩
    obtain ⟨sj,hsj,rfl⟩:=qk8 hz
    have ltj:=lt _ (mO_ hsj)
    refine ⟨k,n,rows,si,sj,rfl,rfl,hc.mono M.all,ok,lti,ltj,fun l ss H4 s4 hl4 hst h64 hso hmem=>?_⟩
    obtain ⟨G1,M1,gg,he⟩:=M.call s4
    have st1:StL G1 l ss:=DV.lt (Lt.but M1.hD he) hst
    have hv1:=hv.mono gg
    refine ⟨lZ_ rfl,fun t ht=>?_⟩
    have M2:=M1.put (o:=.tup [.int (si:Nat),.int (sj:Nat)]) ht
    have U2:=M1.up (o:=.tup [.int (si:Nat),.int (sj:Nat)]) ht
    have nin:(si,sj) ∉ ks:=fun z=>by
     rcases (hm _ _).mp z with ⟨h1,_⟩ | ⟨_,h1⟩
     ·exact absurd (qbM pw hsi h1) (Nat.lt_irrefl _)
     ·exact absurd (qbM pw hsj h1) (Nat.lt_irrefl _)
    refine .inr ⟨_,_,rfl,.inr ⟨kvs,kk (si,sj),t,M2.hD,rfl,qaa,kd.lt_line,rfl⟩,?_⟩
    refine ⟨_,_,_,_,rfl,M2.set,kd.put (v:=.ref l) nin (by show si < 8;omega) (by show sj < 8;omega),(hv1.mono U2).put nin (st1.mono U2) h64 hso hmem,Om.pw_app ho (fun a ha=>by
     rcases (hm a.1 a.2).mp ha with ⟨h1,_⟩ | ⟨h1,h2⟩
     ·exact .inl (qbM pw hsi h1)
     ·exact .inr ⟨h1,qbM pw hsj h2⟩),fun x' y'=>?_⟩
    rw [List.mem_append,hm,List.mem_singleton,Prod.mk.injEq,qdn hsj]
    constructor
    ·rintro ((h | h) | h)
     ·exact .inl h
     ·exact .inr ⟨h.1,.inl h.2⟩
     ·exact .inr ⟨h.1,.inr h.2⟩
    ·rintro (h | ⟨h,h2 | h2⟩)
     ·exact .inl (.inl h)
     ·exact .inl (.inr ⟨h,h2⟩)
     ·exact .inr ⟨h,h2⟩
   ·rintro σ H3 ⟨v4,G,kvs,ks,rfl,M,kd,hv,ho,hm⟩
    refine ⟨_,_,G,kvs,ks,rfl,M,kd,hv,ho,fun x' y'=>?_⟩
    rw [hm,lM_,List.take_length,qdn hsi]
    constructor
    ·rintro (h | h)
     ·exact ⟨.inl h.1,h.2⟩
     ·exact ⟨.inr h.1,h.2⟩
    ·rintro ⟨h | h,h2⟩
     ·exact .inl ⟨h,h2⟩
     ·exact .inr ⟨h,h2⟩
  ·rintro σ H2 ⟨v3,v4,G,kvs,ks,rfl,M,kd,hv,ho,hm⟩
   refine .inl ⟨_,M.hD,trivial,fun o=>?_⟩
   refine q _ _ (M.s0.trans M.frz) ⟨D,o,kvs,ks,rfl,qaa,kd,fun x' y'=>?_,ho,hv.mono M.frz⟩
   rw [hm,lM_,List.take_length]
 ·exact h.elim
end
end K11
end
section
namespace K11
open PySem L2
def RchL (rows:Om.Rows) (qs:List Nat):Prop:=qs.Pairwise (· < ·)/\(∀ s,s∈qs↔Om.Rch (Om.nxR rows) s)/\qs.length<=8
theorem qeP:∀ {l m:List Nat},l.Pairwise (· < ·)->m.Pairwise (· < ·)->(∀ x,x∈l↔x∈m)->l=m
 | [],[],_,_,_=>rfl
 | [],b :: m,_,_,h=>absurd ((h b).mpr (List.mem_cons_self ..)) (by simp)
 | a :: l,[],_,_,h=>absurd ((h a).mp (List.mem_cons_self ..)) (by simp)
 | a :: l,b :: m,hl,hm,h=>by
  rw [List.pairwise_cons] at hl hm
  have e:a=b:=by
   rcases List.mem_cons.mp ((h a).mp List.mem_cons_self) with z | z
   ·exact z
   ·rcases List.mem_cons.mp ((h b).mpr List.mem_cons_self) with y | y
    ·exact y.symm
    ·have:=hm.1 a z
     have:=hl.1 b y
     omega
  subst e
  rw [qeP hl.2 hm.2 fun x=>⟨fun z=>?_,fun z=>?_⟩]
  ·rcases List.mem_cons.mp ((h x).mp (mC_ _ z)) with y | y
   ·have:=hl.1 x z
    omega
   ·exact y
  ·rcases List.mem_cons.mp ((h x).mpr (mC_ _ z)) with y | y
   ·have:=hm.1 x z
    omega
   ·exact y
theorem RchL.uniq {rows:Om.Rows} {qs qs':List Nat} (h:RchL rows qs) (h':RchL rows qs'):qs=qs':=qeP h.1 h'.1 fun s=>(h.2.1 s).trans (h'.2.1 s).symm
end K11
end
section
namespace K11
open PySem L2
abbrev qbj:=(Nat×Nat)×(Nat×(Nat×Nat))
noncomputable def gS (rows:Om.Rows) (p:Nat×Nat):List Om.Stp:=Om.canon Om.LtS (Om.St rows p.1 p.2)
noncomputable def gK (qs:List Nat):List (Nat×Nat):=Om.canon Om.LtL fun p=>p.1∈qs/\p.2∈qs
def qco (s:Nat) (acc:List qbj) (t:Om.Stp):List qbj:=if t.1.1=t.1.2\/t.2∈acc.map (·.1) then acc else acc++[(t.2,(s,t.1))]
noncomputable def stF (rows:Om.Rows) (acc:List qbj) (s:Nat):List qbj:=(gS rows (s,s)).foldl (qco s) acc
noncomputable def fpF (rows:Om.Rows) (qs:List Nat):List qbj:=qs.foldl (stF rows) []
theorem qhu {s:Nat} {acc:List qbj} {t:Om.Stp} {e:qbj} (h:e∈qco s acc t):e∈acc\/(e=(t.2,(s,t.1))/\t.1.1≠t.1.2):=by
 unfold qco at h
 by_cases c:t.1.1=t.1.2\/t.2∈acc.map (·.1)
 ·rw [if_pos c] at h;exact .inl h
 ·rw [if_neg c,List.mem_append,List.mem_singleton] at h
  exact h.imp id fun e=>⟨e,fun z=>c (.inl z)⟩
theorem qdz {s:Nat}:∀ {l:List Om.Stp} {acc:List qbj} {e:qbj},e∈l.foldl (qco s) acc->e∈acc\/∃ t∈l,e=(t.2,(s,t.1))/\t.1.1≠t.1.2
 | [],_,_,h=>.inl h
 | t :: l,acc,e,h=>by
  rcases qdz (l:=l) h with h | ⟨t',h1,h2⟩
  ·rcases qhu h with h | h
   ·exact .inl h
   ·exact .inr ⟨t,List.mem_cons_self,h⟩
  ·exact .inr ⟨t',mC_ _ h1,h2⟩
theorem qgK {rows:Om.Rows}:∀ {qs:List Nat} {acc:List qbj} {e:qbj},e∈qs.foldl (stF rows) acc->e∈acc\/∃ s∈qs,∃ t∈gS rows (s,s),e=(t.2,(s,t.1))/\t.1.1≠t.1.2
 | [],_,_,h=>.inl h
 | s :: qs,acc,e,h=>by
  rcases qgK (qs:=qs) h with h | ⟨s',h1,h2⟩
  ·rcases qdz h with h | ⟨t,h1,h2⟩
   ·exact .inl h
   ·exact .inr ⟨s,List.mem_cons_self,t,h1,h2⟩
  ·exact .inr ⟨s',mC_ _ h1,h2⟩
theorem qgL {rows:Om.Rows} {qs:List Nat} {e:qbj} (h:e∈fpF rows qs):∃ s∈qs,∃ t∈gS rows (s,s),e=(t.2,(s,t.1))/\t.1.1≠t.1.2:=(qgK h).resolve_left (fun z=>nomatch z)
theorem qeX {s:Nat}:∀ {l:List Om.Stp} {acc:List qbj},(acc.map (·.1)).Nodup->((l.foldl (qco s) acc).map (·.1)).Nodup
 | [],_,h=>h
 | t :: l,acc,h=>by
  refine qeX (l:=l) (acc:=qco s acc t) ?_
  unfold qco
  by_cases c:t.1.1=t.1.2\/t.2∈acc.map (·.1)
  ·rw [if_pos c];exact h
  ·rw [if_neg c,List.map_append,List.nodup_append]
   refine ⟨h,by simp,fun a ha b hb=>?_⟩
   have:b=t.2:=by simpa using hb
   subst this
   exact fun e=>c (.inr (e ▸ ha))
theorem qiG {rows:Om.Rows}:∀ {qs:List Nat} {acc:List qbj},(acc.map (·.1)).Nodup->((qs.foldl (stF rows) acc).map (·.1)).Nodup
 | [],_,h=>h
 | s :: qs,acc,h=>qiG (qs:=qs) (acc:=stF rows acc s) (qeX h)
theorem qnv (rows:Om.Rows) (qs:List Nat):((fpF rows qs).map (·.1)).Nodup:=qiG (acc:=[]) (by simp)
theorem qdB:∀ {acc:List qbj} {e f:qbj},(acc.map (·.1)).Nodup->e∈acc->f∈acc->e.1=f.1->e=f
 | a :: l,e,f,h,he,hf,ef=>by
  rw [List.map_cons,List.nodup_cons] at h
  rcases List.mem_cons.mp he with h1 | h1
  ·rcases List.mem_cons.mp hf with h2 | h2
   ·rw [h1,h2]
   ·exact absurd (List.mem_map.mpr ⟨f,h2,by rw [<-ef,h1]⟩) h.1
  ·rcases List.mem_cons.mp hf with h2 | h2
   ·exact absurd (List.mem_map.mpr ⟨e,h1,by rw [ef,h2]⟩) h.1
   ·exact qdB h.2 h1 h2 ef
def FAt (H:Hp) (kvs:List (List Key×V)) (e:qbj):Prop:=∃ t la,qaM kvs (kk e.1)=some (.ref t)/\H t=some (.tup [.int (e.2.1:Nat),.ref la])/\H la=some (.tup [.int (e.2.2.1:Nat),.int (e.2.2.2:Nat)])
def LyF (H:Hp) (v:V) (fs:List qbj):Prop:=∃ a o kvs,v = .ref a/\H a=some (.frz o (.dT kvs))/\KD (fs.map (·.1)) kvs/\∀ e∈fs,FAt H kvs e
theorem FAt.keep {H H':Hp} {kvs:List (List Key×V)} {e:qbj} (h:FAt H kvs e) (k:∀ b ys,H b=some (.tup ys)->H' b=some (.tup ys)):FAt H' kvs e:=by
 obtain ⟨t,la,h1,h2,h3⟩:=h
 exact ⟨t,la,h1,k _ _ h2,k _ _ h3⟩
theorem LyF.mono {H H':Hp} {v:V} {fs:List qbj} (h:LyF H v fs) (s:Same H H'):LyF H' v fs:=by
 obtain ⟨a,o,kvs,e,h1,h2,h3⟩:=h
 exact ⟨a,o,kvs,e,s _ _ h1,h2,fun e he=>(h3 e he).keep fun _ _ x=>s _ _ x⟩
theorem Tab.offD {P0 D:Addr} {c:Pos} {q:Str} {H H':Hp} {kv:List (List Key×V)} (t:Tab P0 c q H) (n:P0≠D) (hD:H D=some (.dT kv)) (s:SameT D H H'):Tab P0 c q H':=by
 rcases t with e | ⟨d,e1,e2⟩
 ·exact .inl (s _ _ n e)
 ·exact .inr ⟨d,s _ _ n e1,s _ _ (fun z=>by rw [z,hD] at e2;cases e2) e2⟩
section
variable {P:Program} {w:World} {K:PySem.W.Frag} {mg:Str->Option Value} {base:Heap}
abbrev sFP:Stmt:=top 28
def qmw (P0:Addr):Sp:=fun vs H Q _=>match vs with
 | [cv]=>∃ (k n:Nat) (rows:Om.Rows),DV H cv (qaA k n rows)/\Om.CodeOk k n rows/\Tab P0 (qap qay) qSt H ∧
   ∀ v (qs:List Nat) H',SameT P0 H H'->Tab P0 (qap qay) qSt H'->RchL rows qs->LyF H' v (fpF rows qs)->Q v H'
 | _=>False
theorem scFP:FnScope ["code","pairs","state","label","pair"] ["code"] (qad sFP):=⟨rfl,rfl,rfl,by decide +kernel,rfl,by decide +kernel,by decide +kernel⟩
local macro_rules | `(tactic| walk_at "T.e")=>`(tactic| (with_reducible exact qbP))
local macro_rules | `(tactic| walk_at "T.cmp")=>`(tactic| ((with_reducible refine' qaY ?a1);(case a1=>exact Room.units (by assumption))))
local macro_rules | `(tactic| walk_at "T.g")=>`(tactic| ((with_reducible refine' qdx ?a0 ?a1 ?a2);(case a0=>exact Room.units (by assumption));(case a1=>walk_at "T.e");(case a2=>walk_at "T.e")))
local macro_rules | `(tactic| walk_at "T.st")=>`(tactic| ((with_reducible refine' qeE ?a1);(case a1=>walk_at "T.e")))
theorem qng {P0:Addr} (D:FnX K mg "first_pairs" sFP ["code"]) (c1:Can P w K mg base "reached" 4 ["code"] (qaK P0)) (c2:Can P w K mg base "pair_steps" 1 ["code","one","other"] qbN):Can P w K mg base "first_pairs" 5 ["code"] (qmw P0):=by
 refine qag (k:=4) D scFP (fun vs H Q E h=>?_) (fun f cdv A outer s H vs Q E hr h=>?_)
 all_goals
  unfold qmw at h
  split at h
 ·rfl
 ·exact h.elim
 ·rename_i cv
  obtain ⟨k,n,rows,hc,ok,tb,q⟩:=h
  have nd:=scFP.nd
  have s8:=ok.s8
  refine ⟨_,(by walk_at "T.top"),?_⟩
  intro D hD
  have u1:=Same.upd (o:=.dT []) hD
  have hD1:upd H D (.dT []) D=some (.dT []):=qaa
  have tb1:=tb.mono u1
  generalize upd H D (.dT [])=H1 at u1 hD1 tb1
  refine ⟨k,n,rows,hc.mono u1,ok,tb1,fun sl qs H2 s2 t2 nsl hsl pw mem q8=>?_⟩
  have rc:RchL rows qs:=⟨pw,mem,q8⟩
  have DP:D≠P0:=fun z=>by obtain ⟨ps,e⟩:=tb1.tbl;rw [<-z,hD1] at e;cases e
  have hD2:=s2 _ _ DP hD1
  have slD:sl≠D:=fun z=>by rw [z,hD1] at nsl;cases nsl
  have hc2:=(hc.mono u1).monoT tb1 s2
  have lt:∀ s∈qs,s < rows.length:=fun s hs=>Om.rch_ok ok _ ((mem s).mp hs)
  refine ⟨⟨_,SqL.of hsl⟩,?_⟩
  have SH:∀ {Hx:Hp},SameT D H2 Hx->SameT P0 H Hx:=fun {Hx} s3 b o nb e=>s3 _ _ (qac e hD) (s2 _ _ nb (u1 _ _ e))
  refine qaD (qaj _ sl (qs.map fun s=>V.int (s:Nat))) (fun i σ H3=>∃ (v2 v3 v4:Option V) (kvs:List (List Key×V)) (acc:List qbj),σ=[some cv,some (.ref D),v2,v3,v4]/\SameT D H2 H3/\H3 D=some (.dT kvs)/\KD (acc.map (·.1)) kvs/\(∀ e∈acc,FAt H3 kvs e)/\acc=(qs.take i).foldl (stF rows) [])
   ⟨none,none,none,[],[],rfl,SameT.refl _ _,hD2,KD.nil,(fun e he=>nomatch he),rfl⟩ (fun i σ H3 _ ⟨_,_,_,_,_,_,s3,_⟩=>SqL.of (s3 _ _ slD hsl)) ?_ ?_
  ·rintro i v σ H3 hi hv ⟨v2,v3,v4,kvs,acc0,rfl,s3,hD3,kd,fa,ea⟩
   rw [lM_] at hi
   rw [gM_,gE_ hi] at hv
   cases hv
   have lti:=lt _ (List.getElem_mem hi)
   have hstep0:=Om.fold_take (stF rows) [] hi
   rw [<-ea] at hstep0
   generalize qs[i]=st at lti hstep0
   have hc3:DV H3 cv (qaA k n rows):=hc.monoT tb (SH s3)
   dsimp only [qai]
   refine ⟨k,n,rows,st,st,rfl,rfl,hc3,ok,lti,lti,fun l ss H4 s4 nl hst h64 hso hmem=>?_⟩
   have egs:gS rows (st,st)=ss:=Om.canon_eq (fun _ _=>Om.LtS.as) hso hmem
   obtain ⟨l',xs,e,hl,hxs⟩:=(show DV H4 (.ref l) (.list (ss.map sD)) from hst).lst_inv
   cases e
   have xl:xs.length=ss.length:=by rw [hxs.length,lM_]
   have hD4:=s4 _ _ hD3
   have lD:l≠D:=fun z=>by rw [z,hD3] at nl;cases nl
   refine ⟨⟨_,SqL.of hl⟩,?_⟩
   refine qaD (qaj _ l xs) (fun j σ H5=>∃ (v3 v4:Option V) (kvs:List (List Key×V)) (acc:List qbj),σ=[some cv,some (.ref D),some (.int (st:Nat)),v3,v4]/\SameT D H4 H5/\H5 D=some (.dT kvs)/\KD (acc.map (·.1)) kvs/\(∀ e∈acc,FAt H5 kvs e)/\acc=(ss.take j).foldl (qco st) acc0)
    ⟨v3,v4,kvs,acc0,rfl,SameT.refl _ _,hD4,kd,(fun e he=>(fa e he).keep fun _ _ x=>s4 _ _ x),rfl⟩ (fun i σ H5 _ ⟨_,_,_,_,_,s5,_⟩=>SqL.of (s5 _ _ lD hl)) ?_ ?_
   ·clear kd fa
    rintro j z σ H5 hj hz ⟨v3,v4,kvs,acc,rfl,s5,hD5,kd,fa,ej⟩
    have hj':j < ss.length:=by rw [<-xl];exact hj
    have es:ss[j]? = some ss[j]:=gE_ hj'
    have hstep:=Om.fold_take (qco st) acc0 hj'
    rw [<-ej] at hstep
    have sE:ss[j]∈ss:=List.getElem_mem hj'
    generalize ss[j]=sj at *
    obtain ⟨z',hz',dz⟩:=hxs.get (i:=j) (d:=sD sj) (by rw [gM_,es];rfl)
    rw [hz] at hz'
    cases hz'
    obtain ⟨p,a,c,rfl,h1,h2,h3⟩:=qio dz
    have tD:∀ {b:Addr} {ys:List V},H4 b=some (.tup ys)->H5 b=some (.tup ys):=fun {b ys} e=>s5 _ _ (qax e hD4 (fun z=>nomatch z)) e
    have ha5:=tD h2
    have hc5:H5 c=some (.tup ((kk sj.2).map kV)):=tD h3
    refine ⟨_,.inl (tD h1),rfl,rfl,?_⟩
    refine ⟨_,gt ha5 (by decide) rfl,_,gt ha5 (by decide) rfl,?_⟩
    refine qbr (fun c1=>?_) (fun c1=>?_)
    ·have ne:sj.1.1≠sj.1.2:=fun z=>by rw [z] at c1;simp [qjg,qf7] at c1
     refine ⟨_,_,rfl,.inr ⟨kvs,kk sj.2,c,.inl hD5,rfl,hc5,rfl⟩,?_⟩
     refine qbr (fun c2=>?_) (fun c2=>?_)
     ·have nin:sj.2 ∉ acc.map (·.1):=fun z=>by
       have:=kd.mem.mpr z
       rw [this] at c2;cases c2
      have hb:sj.2.1 < 8/\sj.2.2 < 8:=by
       obtain ⟨g1,g2,_,g4⟩:=(hmem sj).mp sE
       rw [g4]
       exact ⟨Nat.lt_of_lt_of_le (ok.stp g1).2.2 s8,Nat.lt_of_lt_of_le (ok.stp g2).2.2 s8⟩
      refine ⟨lZ_ rfl,fun t ht=>?_⟩
      have u6:=Same.upd (o:=.tup [.int (st:Nat),.ref a]) ht
      have ht6:upd H5 t (.tup [.int (st:Nat),.ref a]) t=some (.tup [.int (st:Nat),.ref a]):=qaa
      have hD6:=u6 _ _ hD5
      generalize upd H5 t (.tup [.int (st:Nat),.ref a])=H6 at u6 ht6 hD6
      refine .inr ⟨_,_,rfl,.inr ⟨kvs,kk sj.2,c,hD6,rfl,u6 _ _ hc5,kd.lt_line,rfl⟩,?_⟩
      have kt:∀ {b:Addr} {ys:List V},H6 b=some (.tup ys)->upd H6 D (.dT (qba kvs (kk sj.2) (.ref t))) b=some (.tup ys):=fun {b ys} e=>by rw [qab (qax e hD6 (fun z=>nomatch z))];exact e
      refine ⟨_,_,_,acc++[(sj.2,(st,sj.1))],rfl,fun b o nb e=>by rw [qab nb];exact u6 _ _ (s5 _ _ nb e),qaa,?_,fun e he=>?_,?_⟩
      ·rw [List.map_append]
       exact kd.put (v:=.ref t) nin hb.1 hb.2
      ·rcases mA_ he with he | he
       ·obtain ⟨t',la,k1,k2,k3⟩:=fa e he
        have nee:e.1≠sj.2:=fun z=>nin (z ▸ List.mem_map_of_mem he)
        exact ⟨t',la,by rw [qaR nee];exact k1,kt (u6 _ _ k2),kt (u6 _ _ k3)⟩
       ·have:e=(sj.2,(st,sj.1)):=by simpa using he
        subst this
        exact ⟨t,a,qaS,kt ht6,kt (u6 _ _ ha5)⟩
      ·rw [hstep]
       unfold qco
       rw [if_neg (fun z=>z.elim ne nin)]
     ·have isin:sj.2∈acc.map (·.1):=kd.mem.mp (by
       cases hq:(qaM kvs (kk sj.2)).isSome with
       | true=>rfl
       | false=>rw [hq] at c2;exact absurd rfl c2)
      exact ⟨_,_,kvs,acc,rfl,s5,hD5,kd,fa,by rw [hstep];unfold qco;rw [if_pos (.inr isin)]⟩
    ·have eq:sj.1.1=sj.1.2:=by
      by_cases e:sj.1.1=sj.1.2
      ·exact e
      ·exact absurd (by show (!decide (((sj.1.1:Nat):Int)=((sj.1.2:Nat):Int)))=true;rw [decide_eq_false (fun z=>e (by omega))];rfl) c1
     exact ⟨_,_,kvs,acc,rfl,s5,hD5,kd,fa,by rw [hstep];unfold qco;rw [if_pos (.inl eq)]⟩
   ·rintro σ H5 ⟨v3,v4,kvs,acc,rfl,s5,hD5,kd,fa,ej⟩
    refine ⟨_,_,_,kvs,acc,rfl,fun b o nb e=>s5 _ _ nb (s4 _ _ (s3 _ _ nb e)),hD5,kd,fa,?_⟩
    rw [xl,List.take_length] at ej
    rw [hstep0,ej]
    show _=(gS rows (st,st)).foldl (qco st) acc0
    rw [egs]
  ·rintro σ H3 ⟨v2,v3,v4,kvs,acc,rfl,s3,hD3,kd,fa,ea⟩
   rw [lM_,List.take_length] at ea
   refine .inl ⟨_,hD3,trivial,fun o=>?_⟩
   have kf:∀ b ys,H3 b=some (.tup ys)->upd H3 D (.frz o (.dT kvs)) b=some (.tup ys):=fun b ys e=>by rw [qab (qax e hD3 (fun z=>nomatch z))];exact e
   have s4:SameT D H2 (upd H3 D (.frz o (.dT kvs))):=fun b u nb e=>by rw [qab nb];exact s3 _ _ nb e
   refine q _ qs _ (SH s4) (Tab.offD t2 (Ne.symm DP) hD2 s4) rc ⟨D,o,kvs,rfl,qaa,by unfold fpF;rw [<-ea];exact kd,fun e he=>(fa e (by rw [ea];exact he)).keep kf⟩
 ·exact h.elim
end
end K11
end
section
namespace K11
open PySem L2
section
variable {P:Program} {w:World} {K:PySem.W.Frag} {mg:Str->Option Value} {base:Heap}
abbrev qfS:Stmt:=top 17
def qdY:Sp:=fun vs H Q _=>match vs with
 | [lv,gv]=>∃ (c:Nat) (lks gks:List (Nat×Nat)) (g:Nat×Nat->List Om.Stp),LyK H lv lks/\GrX c H gv gks g/\(∀ p∈lks,p∈gks)/\(∀ p∈gks,∀ s∈g p,s.2∈gks)/\∀ v H',Same H H'->LyX H' v (Om.behE g lks)->Q v H'
 | _=>False
theorem scLayer:FnScope ["layer","graph","behind","node","label","to"] ["layer","graph"] (qad qfS):=⟨rfl,rfl,rfl,by decide +kernel,rfl,by decide +kernel,by decide +kernel⟩
local macro_rules | `(tactic| walk_at "T.e")=>`(tactic| first | (with_reducible exact qbP) | ((with_reducible refine' qeU ?a0 ?a1 ?a2);(case a0=>exact Room.units (by assumption));(case a1=>walk_at "T.e");(case a2=>walk_at "T.e")))
local macro_rules | `(tactic| walk_at "T.i")=>`(tactic| ((with_reducible refine' qju ?a1);(case a1=>walk_at "T.e")))
local macro_rules | `(tactic| walk_at "T.cmp")=>`(tactic| ((with_reducible refine' qaY ?a1);(case a1=>exact Room.units (by assumption))))
local macro_rules | `(tactic| walk_at "T.g")=>`(tactic| ((with_reducible refine' qdx ?a0 ?a1 ?a2);(case a0=>exact Room.units (by assumption));(case a1=>walk_at "T.e");(case a2=>walk_at "T.e")))
local macro_rules | `(tactic| walk_at "T.st")=>`(tactic| ((with_reducible refine' qeE ?a1);(case a1=>walk_at "T.e")))
theorem qhM (D:FnX K mg "layer_behind" qfS ["layer","graph"]):Can P w K mg base "layer_behind" 1 ["layer","graph"] qdY:=by
 refine qag (k:=0) D scLayer (fun vs H Q E h=>?_) (fun f cdv A outer s H vs Q E hr h=>?_)
 all_goals
  unfold qdY at h
  split at h
 ·rfl
 ·exact h.elim
 ·rename_i lv gv
  obtain ⟨cN,lks,gks,g,hly,hgr,hsub,hcl,q⟩:=h
  have nd:=scLayer.nd
  obtain ⟨la,lo,lkvs,rfl,hla,lkd⟩:=hly
  obtain ⟨ga,go,gkvs,rfl,hga,gkd,gst⟩:=hgr
  refine ⟨_,(by walk_at "T.top"),?_⟩
  intro D hD
  have M0:=Gd.start hD
  refine .inr (.inl ⟨lo,lkvs,M0.all _ _ hla,fun bs hbs=>?_⟩)
  have hbl:=lkd.blen hbs
  have hbsH:qbe H lkvs bs:=Paired.mapP hbs fun x b e=>by
   have:b≠D:=fun z=>by subst z;rw [qaa] at e;cases e
   rw [qab this] at e;exact e
  have le:lks.length<=64:=lkd.le
  refine qaD (qj1 la lo (bs.map V.ref)) (fun i σ H2=>∃ (v3 v4 v5:Option V) (G:Hp) (kvs:List (List Key×V)) (acc:List Om.Ent),σ=[some (.ref la),some (.ref ga),some (.ref D),v3,v4,v5]/\Gd G H H2 D kvs/\qbe H2 lkvs bs/\KD (acc.map (·.1)) kvs/\(∀ e∈acc,EntAt G kvs e)/\acc=(lks.take i).foldl (Om.nodeE g) [])
   ⟨none,none,none,_,[],[],rfl,M0,hbs,KD.nil,(fun p hp=>nomatch hp),rfl⟩ (fun i σ H2 _ ⟨_,_,_,_,_,_,_,M,_⟩=>⟨_,M.all _ _ hla⟩) ?_ ?_
  ·rintro i z σ H2 hi hz ⟨v3,v4,v5,G,kvs,acc0,rfl,M,hb2,kd,hst,hm0⟩
   have hi':i < lks.length:=by rw [<-hbl];exact hi
   obtain ⟨b,rfl,hb⟩:=lkd.key hb2 hi' hz
   have hbH:H b=some (.tup ((kk lks[i]).map kV)):=by
    obtain ⟨b',e,h⟩:=lkd.key hbsH hi' hz
    cases e;exact h
   have pg:lks[i]∈gks:=hsub _ (List.getElem_mem hi')
   obtain ⟨l,g1,g2,g3⟩:=gst lks[i] pg
   obtain ⟨l',xs,e,hl,hxs⟩:=g2.lst_inv
   cases e
   have hgb:DGet H2 ga (.ref b) (some (.ref l)):=.inr ⟨gkvs,kk lks[i],b,.inr ⟨go,M.all _ _ hga⟩,rfl,hb,g1.symm⟩
   refine .inr ⟨_,_,rfl,hgb,?_⟩
   refine .inl ⟨⟨_,SqL.of (M.all _ _ hl)⟩,?_⟩
   have xl:xs.length=(g lks[i]).length:=by rw [hxs.length,lM_]
   refine qaD (qaj _ l xs) (fun j σ H3=>∃ (v4 v5:Option V) (G:Hp) (kvs:List (List Key×V)) (acc:List Om.Ent),σ=[some (.ref la),some (.ref ga),some (.ref D),some (.ref b),v4,v5]/\Gd G H H3 D kvs/\qbe H3 lkvs bs/\KD (acc.map (·.1)) kvs/\(∀ e∈acc,EntAt G kvs e)/\H3 b=some (.tup ((kk lks[i]).map kV))/\acc=((g lks[i]).take j).foldl (Om.putE lks[i]) acc0)
    ⟨v4,v5,G,kvs,acc0,rfl,M,hb2,kd,hst,hb,rfl⟩ (fun i σ H2 _ ⟨_,_,_,_,_,_,M,_⟩=>SqL.of (M.all _ _ hl)) ?_ ?_
   ·rintro j z σ H3 hj hz ⟨v4,v5,G,kvs,acc,rfl,M,hb2,kd,hst,hb,hm⟩
    have hj':j < (g lks[i]).length:=by rw [<-xl];exact hj
    have es:(g lks[i])[j]? = some (g lks[i])[j]:=gE_ hj'
    have hstep:=Om.fold_take (Om.putE lks[i]) acc0 hj'
    rw [<-hm] at hstep
    have sE:(g lks[i])[j]∈g lks[i]:=List.getElem_mem hj'
    generalize (g lks[i])[j]=sj at *
    obtain ⟨z',hz',dz⟩:=hxs.get (i:=j) (d:=sD sj) (by rw [gM_,es];rfl)
    rw [hz] at hz'
    cases hz'
    obtain ⟨p,a,c,rfl,h1,h2,h3⟩:=qio dz
    refine ⟨_,.inl (M.all _ _ h1),rfl,rfl,?_⟩
    have hc3:H3 c=some (.tup ((kk sj.2).map kV)):=M.all _ _ h3
    refine ⟨_,_,rfl,.inr ⟨kvs,kk sj.2,c,.inl M.hD,rfl,hc3,rfl⟩,?_⟩
    refine qbr (fun c1=>?_) (fun c1=>?_)
    ·have nin:sj.2 ∉ acc.map (·.1):=fun z=>by
      have:=kd.mem.mpr z
      rw [this] at c1;cases c1
     rw [Om.putE_new nin] at hstep
     refine ⟨lZ_ rfl,fun t ht=>?_⟩
     have M1:=M.put (o:=.tup [.ref b,.ref a]) ht
     have tD:D≠t:=qac M.hD ht
     have b8:=gkd.lt _ (hcl _ pg _ sE)
     refine .inr ⟨_,_,rfl,.inr ⟨kvs,kk sj.2,c,M1.hD,rfl,Same.upd ht _ _ hc3,kd.lt_line,rfl⟩,?_⟩
     have sm:Same H3 (upd H3 t (.tup [.ref b,.ref a])):=Same.upd ht
     refine ⟨_,_,_,_,acc++[(sj.2,(lks[i],sj.1))],rfl,M1.set,?_,?_,?_,?_,hstep.symm⟩
     ·refine Paired.mapP hb2 fun p b' h=>?_
      have:b'≠D:=qax h M.hD (fun z=>nomatch z)
      rw [qab this];exact sm _ _ h
     ·rw [List.map_append]
      exact kd.put (v:=.ref t) nin b8.1 b8.2
     ·intro e he
      have U1:=M.up (o:=.tup [.ref b,.ref a]) ht
      rcases mA_ he with he | he
      ·obtain ⟨t',pa,la',k1,k2,k3,k4⟩:=hst e he
       have ne:e.1≠sj.2:=fun z=>nin (z ▸ List.mem_map_of_mem he)
       exact ⟨t',pa,la',by rw [qaR ne];exact k1,U1 _ _ k2,U1 _ _ k3,U1 _ _ k4⟩
      ·have:e=(sj.2,(lks[i],sj.1)):=by simpa using he
       subst this
       exact ⟨t,b,a,qaS,qaa,U1 _ _ (M.s0 _ _ hbH),U1 _ _ (M.s0 _ _ h2)⟩
     ·have:b≠D:=qax hb M.hD (fun z=>nomatch z)
      rw [qab this];exact sm _ _ hb
    ·have isin:sj.2∈acc.map (·.1):=kd.mem.mp (by
      cases hq:(qaM kvs (kk sj.2)).isSome with
      | true=>rfl
      | false=>rw [hq] at c1;exact absurd rfl c1)
     rw [Om.putE_old isin] at hstep
     exact ⟨_,_,G,kvs,acc,rfl,M,hb2,kd,hst,hb,hstep.symm⟩
   ·rintro σ H3 ⟨v4,v5,G,kvs,acc,rfl,M,hb2,kd,hst,hb,hm⟩
    refine ⟨_,_,_,G,kvs,acc,rfl,M,hb2,kd,hst,?_⟩
    rw [xl,List.take_length] at hm
    rw [Om.fold_take _ _ hi',<-hm0]
    exact hm
  ·rintro σ H2 ⟨v3,v4,v5,G,kvs,acc,rfl,M,hb2,kd,hst,hm⟩
   rw [hbl,List.take_length] at hm
   refine .inl ⟨_,M.hD,trivial,fun o=>?_⟩
   refine q _ _ (M.s0.trans M.frz) ?_
   show LyX _ _ (lks.foldl (Om.nodeE g) [])
   rw [<-hm]
   exact ⟨D,o,kvs,rfl,qaa,kd,fun e he=>(hst e he).mono M.frz⟩
 ·exact h.elim
end
end K11
end
section
namespace K11
open PySem L2
def LyT8 (H:Hp) (v:V) (g:Nat×Nat->List Om.Stp) (fs:List qbj):Nat->Prop
 | 0=>LyF H v fs
 | i+1=>LyX H v (Om.lay g (fs.map (·.1)) (i+1))
section
variable {H H':Hp} {v:V} {g:Nat×Nat->List Om.Stp} {fs:List qbj}
theorem LyT8.mono (s:Same H H'):∀ {i:Nat},LyT8 H v g fs i->LyT8 H' v g fs i
 | 0,h=>LyF.mono h s
 | _+1,h=>LyX.mono h s
theorem LyT8.k:∀ {i:Nat},LyT8 H v g fs i->LyK H v (Om.layK g (fs.map (·.1)) i)
 | 0,h=>by
  obtain ⟨a,o,kvs,e,h1,h2,h3⟩:=(show LyF H v fs from h)
  rw [Om.layK_zero]
  exact ⟨a,o,kvs,e,h1,h2⟩
 | _+1,h=>LyX.k h
theorem LyF.updR {L:Addr} {xs ys:List V} (hL:H L=some (.lst xs)) (h:LyF H v fs):LyF (upd H L (.lst ys)) v fs:=by
 obtain ⟨a,o,kvs,e,h1,h2,h3⟩:=h
 exact ⟨a,o,kvs,e,noL hL h1 (fun _ z=>nomatch z),h2,fun e he=>(h3 e he).keep fun b ws x=>noL hL x (fun _ z=>nomatch z)⟩
theorem LyT8.updR {L:Addr} {xs ys:List V} (hL:H L=some (.lst xs)):∀ {i:Nat},LyT8 H v g fs i->LyT8 (upd H L (.lst ys)) v g fs i
 | 0,h=>LyF.updR hL h
 | _+1,h=>LyX.updR hL h
end
section
variable {P:Program} {w:World} {K:PySem.W.Frag} {mg:Str->Option Value} {base:Heap}
abbrev qd9:Stmt:=top 16
def qbO:Sp:=fun vs H Q _=>match vs with
 | [fv,.ref ga]=>∃ (c:Nat) (fs:List qbj) (gks:List (Nat×Nat)) (g:Nat×Nat->List Om.Stp),LyF H fv fs/\GrX c H (.ref ga) gks g/\(∀ p∈fs.map (·.1),p∈gks)/\(∀ p∈gks,∀ s∈g p,s.2∈gks) ∧
   ∀ l (vs:List V) H',Same H H'->H l=none->H' l=some (.lst vs)->(∀ i v,vs[i]? = some v->LyT8 H' v g fs i)->(∀ i,i < vs.length->Om.layK g (fs.map (·.1)) i≠[])->vs.length<=gks.length+1->(vs.length=gks.length+1\/Om.layK g (fs.map (·.1)) vs.length=[])->Q (.ref l) H'
 | _=>False
theorem scLayers:FnScope ["first","graph","layers","layer"] ["first","graph"] (qad qd9):=⟨rfl,rfl,rfl,by decide +kernel,rfl,by decide +kernel,by decide +kernel⟩
local macro_rules | `(tactic| walk_at "T.t")=>`(tactic| ((with_reducible refine' qkH ?a1);(case a1=>walk_at "T.n")))
local macro_rules | `(tactic| walk_at "T.b")=>`(tactic| ((with_reducible refine' qgN ?a0 ?a9 ?a1);(case a0=>with_reducible assumption);(case a9=>rfl);(case a1=>walk_at "T.a")))
theorem qgo (D:FnX K mg "layers_of" qd9 ["first","graph"]) (g1:mg "len" = none) (c1:Can P w K mg base "layer_behind" 1 ["layer","graph"] qdY):Can P w K mg base "layers_of" 2 ["first","graph"] qbO:=by
 refine qag (k:=1) D scLayers (fun vs H Q E h=>?_) (fun f cdv A outer s H vs Q E hr h=>?_)
 all_goals
  unfold qbO at h
  split at h
 ·rfl
 ·exact h.elim
 ·rename_i fv ga
  obtain ⟨c,fs,gks,g,hly,hgr,hsub,hcl,q⟩:=h
  obtain ⟨gkvs,rdg,gsz,s64⟩ : ∃ kvs,Rd H ga (.dT kvs)/\kvs.length=gks.length/\gks.length<=64:=by
   obtain ⟨a,o,kvs,e,h1,h2,_⟩:=hgr
   cases e
   exact ⟨kvs,.inr ⟨o,h1⟩,h2.len,h2.le⟩
  have nd:=scLayers.nd
  refine ⟨_,(by walk_at "T.top"),?_⟩
  refine ⟨Nat.zero_le _,fun L hL=>?_⟩
  have iR0:=Om.layK_in hsub hcl
  refine ⟨fun m σ H2=>∃ (v:V) (vs:List V),σ=[some fv,some (.ref ga),some (.ref L),some v]/\m+vs.length=gks.length+1/\Same H H2/\H2 L=some (.lst vs)/\LyT8 H2 v g fs vs.length/\(∀ i v,vs[i]? = some v->LyT8 H2 v g fs i)/\∀ i,i < vs.length->Om.layK g (fs.map (·.1)) i≠[],
   ⟨gks.length+1,fv,[],rfl,rfl,Same.upd hL,qaa,hly.mono (Same.upd hL),(fun i v h=>by simp at h),(fun i h=>absurd h (Nat.not_lt_zero _))⟩,?_⟩
  rintro m σ H2 ⟨v,vs,rfl,hm,s2,h2,l2,hv2,hne⟩
  have l2':=l2
  obtain ⟨va,vo,vkvs,rfl,hva,vkd⟩:=l2.k
  have rd2:Rd H2 ga (.dT gkvs):=by
   rcases rdg with h | ⟨o,h⟩
   ·exact .inl (s2 _ _ h)
   ·exact .inr ⟨o,s2 _ _ h⟩
  have key:Om.layK g (fs.map (·.1)) vs.length≠[]↔vkvs≠[]:=by
   have ln:=vkd.len
   constructor
   ·intro h z
    rw [z] at ln
    exact h (List.length_eq_zero_iff.mp (by simpa using ln.symm))
   ·intro h z
    rw [z] at ln
    exact h (List.length_eq_zero_iff.mp (by simpa using ln))
  refine .inr (.inr ⟨vkvs,.inr ⟨vo,hva⟩,?_⟩)
  cases hvk:vkvs with
  | nil=>
   refine qdu (qdu ?_)
   refine q L vs _ s2 hL h2 hv2 hne (by omega) (.inr ?_)
   by_cases z:Om.layK g (fs.map (·.1)) vs.length=[]
   ·exact z
   ·exact absurd hvk (key.mp z)
  | cons kv0 kvr=>
   refine qem rfl ?_
   have ne:Om.layK g (fs.map (·.1)) vs.length≠[]:=key.mpr (by rw [hvk];exact fun z=>nomatch z)
   refine .inr ⟨_,qbE h2,?_⟩
   refine .inl ⟨ga,gkvs,rfl,rd2,by omega,?_⟩
   rw [gsz]
   dsimp only [rN0]
   by_cases le:vs.length<=gks.length
   ·rw [decide_eq_true (by omega)]
    refine qem rfl ?_
    refine ⟨fun σ' H'=>∃ (v:V),σ'=[some fv,some (.ref ga),some (.ref L),some v]/\Same H H'/\H' L=some (.lst (vs++[.ref va]))/\LyT8 H' v g fs (vs.length+1)/\(∀ i v,(vs++[.ref va])[i]? = some v->LyT8 H' v g fs i),?_,?_⟩
    ·rintro σ' H' ⟨v',rfl,s',h',l',hv'⟩
     refine ⟨m - 1,by omega,v',vs++[.ref va],rfl,by rw [lA_];simp;omega,s',h',by rw [lA_];exact l',hv',fun i hi=>?_⟩
     rw [lA_] at hi
     by_cases e:i=vs.length
     ·subst e;exact ne
     ·exact hne i (by simp at hi;omega)
    ·refine ⟨⟨_,rfl,h2⟩,_,h2,lt_line (by omega),?_⟩
     have s3:Same H (upd H2 L (.lst (vs++[.ref va]))):=s2.own hL
     refine ⟨c,_,gks,g,(LyT8.updR h2 l2').k,hgr.mono s3,iR0 _,hcl,fun v' H4 s4 l4=>?_⟩
     refine ⟨v',rfl,s3.trans s4,s4 _ _ qaa,l4,fun i u hu=>?_⟩
     by_cases e:i < vs.length
     ·rw [List.getElem?_append_left e] at hu
      exact LyT8.mono s4 (LyT8.updR h2 (hv2 i u hu))
     ·rw [List.getElem?_append_right (by omega)] at hu
      have e2:i - vs.length=0:=by
       cases h:i - vs.length with
       | zero=>rfl
       | succ _=>rw [h] at hu;simp at hu
      rw [e2] at hu
      have:u = .ref va:=by simpa using hu.symm
      subst this
      have:i=vs.length:=by omega
      subst this
      exact LyT8.mono s4 (LyT8.updR h2 l2')
   ·rw [decide_eq_false (by omega)]
    refine qdu ?_
    exact q L vs _ s2 hL h2 hv2 hne (by omega) (.inl (by omega))
 ·exact h.elim
end
section
variable {P:Program} {w:World} {K:PySem.W.Frag} {mg:Str->Option Value} {base:Heap}
abbrev qfZ:Stmt:=top 18
def qcI:Sp:=fun vs H Q _=>match vs with
 | [.ref l,.ref ga]=>∃ (xs:List V) (kvs:List (List Key×V)),H l=some (.lst xs)/\Rd H ga (.dT kvs)/\kvs.length<=64/\Q (.bl (decide (kvs.length < xs.length))) H
 | _=>False
theorem scComes:FnScope ["layers","graph"] ["layers","graph"] (qad qfZ):=⟨rfl,rfl,rfl,by decide +kernel,rfl,by decide +kernel,by decide +kernel⟩
local macro_rules | `(tactic| walk_at "T.b")=>`(tactic| ((with_reducible refine' qgN ?a0 ?a9 ?a1);(case a0=>with_reducible assumption);(case a9=>rfl);(case a1=>walk_at "T.a")))
theorem qhS (D:FnX K mg "comes_back" qfZ ["layers","graph"]) (g1:mg "len" = none):Can P w K mg base "comes_back" 1 ["layers","graph"] qcI:=by
 refine qag (k:=0) D scComes (fun vs H Q E h=>?_) (fun f cdv A outer s H vs Q E hr h=>?_)
 all_goals
  unfold qcI at h
  split at h
 ·rfl
 ·exact h.elim
 ·rename_i l ga
  obtain ⟨xs,kvs,hl,rd,k64,q⟩:=h
  have nd:=scComes.nd
  refine ⟨_,(by walk_at "T.top1"),?_⟩
  refine .inr ⟨_,qbE hl,?_⟩
  refine .inl ⟨ga,kvs,rfl,rd,by omega,?_⟩
  dsimp only [rN0]
  have e:decide (((xs.length:Nat):Int) > ((kvs.length:Nat):Int))=decide (kvs.length < xs.length):=by
   rw [Bool.eq_iff_iff,decide_eq_true_eq,decide_eq_true_eq];omega
  rw [e]
  exact q
 ·exact h.elim
end
end K11
end
section
namespace K11
open PySem L2
section
variable {P:Program} {w:World} {K:PySem.W.Frag} {mg:Str->Option Value} {base:Heap}
abbrev qi6:Stmt:=top 19
def StepW (H:Hp) (x l:Nat×Nat) (st i:Nat) (v:V):Prop:=∃ (a:Addr) (p:V) (la n:Addr),v = .ref a/\H a=some (.tup [p,.ref la,.ref n])/\H n=some (.tup ((kk x).map kV))/\H la=some (.tup [.int (l.1:Nat),.int (l.2:Nat)])/\(i=0->p = .int (st:Nat))
theorem StepW.mono {H H':Hp} {x l:Nat×Nat} {st i:Nat} {v:V} (h:StepW H x l st i v) (s:Same H H'):StepW H' x l st i v:=by
 obtain ⟨a,p,la,n,e,h1,h2,h3,h4⟩:=h
 exact ⟨a,p,la,n,e,s _ _ h1,s _ _ h2,s _ _ h3,h4⟩
def qfG:Sp:=fun vs H Q _=>match vs with
 | [.ref L]=>∃ (ls:List V) (g:Nat×Nat->List Om.Stp) (fs:List qbj) (m:Nat),H L=some (.lst ls)/\ls.length=m+1/\m<=100/\(∀ i v,ls[i]? = some v->LyT8 H v g fs i)/\Om.layK g (fs.map (·.1)) m≠[] ∧
   ∀ W (ws:List V) (nd lb:Nat->Nat×Nat) (st:Nat) H',Same H H'->H' W=some (.lst ws)->ws.length=m+1->(∀ i v,ws[i]? = some v->StepW H' (nd i) (lb i) st i v)->(nd 0,(st,lb 0))∈fs->(Om.layK g (fs.map (·.1)) m)[0]? = some (nd m)->(∀ i,i<=m->nd i∈Om.layK g (fs.map (·.1)) i)->(∀ i,i < m->(nd (i+1),(nd i,lb (i+1)))∈Om.lay g (fs.map (·.1)) (i+1))->Q (.ref W) H'
 | _=>False
theorem scWalk:FnScope ["layers","node","walk","layer","ahead"] ["layers"] (qad qi6):=⟨rfl,rfl,rfl,by decide +kernel,rfl,by decide +kernel,by decide +kernel⟩
local macro_rules | `(tactic| walk_at "T.e")=>`(tactic| first | ((with_reducible refine' qgS ?a0 ?a8 ?a9 ?a1);(case a0=>with_reducible assumption);(case a8=>with_reducible assumption);(case a9=>rfl);(case a1=>walk_at "T.a")) | ((with_reducible refine' qeU ?a0 ?a1 ?a2);(case a0=>exact Room.units (by assumption));(case a1=>walk_at "T.e");(case a2=>walk_at "T.e")) | fail "no")
local macro_rules | `(tactic| walk_at "T.i")=>`(tactic| ((with_reducible refine' ql0 ?a0 ?a9 ?a1);(case a0=>with_reducible assumption);(case a9=>rfl);(case a1=>walk_at "T.a")))
local macro_rules | `(tactic| walk_at "T.b")=>`(tactic| ((with_reducible refine' qh9 ?a0 ?a9 ?a1);(case a0=>with_reducible assumption);(case a9=>rfl);(case a1=>walk_at "T.a")))
theorem qjL (D:FnX K mg "longest_walk" qi6 ["layers"]) (g1:mg "list" = none) (g2:mg "reversed" = none):Can P w K mg base "longest_walk" 1 ["layers"] qfG:=by
 refine qag (k:=0) D scWalk (fun vs H Q E h=>?_) (fun f cdv A outer s H vs Q E hr h=>?_)
 all_goals
  unfold qfG at h
  split at h
 ·rfl
 ·exact h.elim
 ·rename_i L
  obtain ⟨ls,g,fs,m,hL,ll,m100,hly,hne,q⟩:=h
  have nd:=scWalk.nd
  refine ⟨_,(by walk_at "T.top"),?_⟩
  have hm:m < ls.length:=by omega
  have els:ls=ls.take m++[ls[m]]:=by
   conv=>lhs;rw [<-List.take_append_drop m ls]
   rw [List.drop_eq_getElem_cons hm,List.drop_of_length_le (by omega)]
  have lym:=hly m ls[m] (gE_ hm)
  obtain ⟨a,o,kvs,ea,ha,kd⟩:=lym.k
  obtain ⟨ks,hks⟩ : ∃ ks,ks=Om.layK g (fs.map (·.1)) m:=⟨_,rfl⟩
  rw [<-hks] at kd hne q
  refine .inl ⟨.ref a,(by rw [qcV hL,els,ea];exact qe1 _ _),?_⟩
  refine .inr (.inl ⟨o,kvs,ha,fun bs l0 hkb hl0=>?_⟩)
  have kpos:0 < ks.length:=List.length_pos_iff.mpr hne
  have bl:=kd.blen hkb
  obtain ⟨b0,hb0⟩ : ∃ b,bs[0]? = some b:=⟨bs[0]'(by simp at bl;omega),gE_ _⟩
  obtain ⟨b0',eb,hb⟩:=kd.key hkb (i:=0) (x:=.ref b0) kpos (by rw [gM_,hb0];rfl)
  cases eb
  have u1:=Same.upd (o:=.lst (bs.map V.ref)) hl0
  refine .inl ⟨.ref b0,gl qaa (by decide) (by rw [gM_];simp [hb0]),?_⟩
  have hx0:ks[0]∈Om.layK g (fs.map (·.1)) m:=by rw [<-hks];exact List.getElem_mem kpos
  have hx1:ks[0]? = some ks[0]:=gE_ kpos
  generalize upd H l0 (.lst (bs.map V.ref))=H1 at *
  refine ⟨Nat.zero_le _,fun W0 hW0=>?_⟩
  refine ⟨ls,SqL.of (Same.upd hW0 _ _ (u1 _ _ hL)),?_⟩
  refine qaD (qj0 _ L ls) (fun j σ H2=>∃ (nv:V) (v3 v4:Option V) (ws:List V) (G:Hp) (nd lb:Nat->Nat×Nat) (st:Nat),σ=[some (.ref L),some nv,some (.ref W0),v3,v4]/\Gr G H1 H2 W0 ws/\ws.length=j/\(j<=m->∃ n,nv = .ref n/\G n=some (.tup ((kk (nd (m - j))).map kV)))/\(∀ t v,ws[t]? = some v->StepW G (nd (m - t)) (lb (m - t)) st (m - t) v)/\(m < j->(nd 0,(st,lb 0))∈fs)/\nd m=ks[0]/\(∀ i,m - j<=i->i<=m->nd i∈Om.layK g (fs.map (·.1)) i)/\(∀ i,m - j<=i->i < m->(nd (i+1),(nd i,lb (i+1)))∈Om.lay g (fs.map (·.1)) (i+1)))
   ⟨.ref b0,none,none,[],_,fun _=>ks[0],fun _=>(0,0),0,rfl,Gr.start hW0,rfl,fun _=>⟨b0,rfl,u1 _ _ hb⟩,(fun t v h=>by simp at h),(fun z=>absurd z (Nat.not_lt_zero _)),rfl,(fun i h1 h2=>(show i=m by omega) ▸ hx0),(fun i h1 h2=>by omega)⟩ (fun j σ H2 _ ⟨_,_,_,_,_,_,_,_,_,M,_⟩=>SqL.of (M.all _ _ (u1 _ _ hL))) ?_ ?_
  ·rintro j x σ H2 hj hx ⟨nv,v3,v4,ws,G,nd',lb,st0,rfl,M,wl,hnode,hws,_,hnm,hit,hst⟩
   have hj':j<=m:=by rw [List.length_reverse] at hj;omega
   have hx':ls[m - j]? = some x:=by
    rw [List.getElem?_reverse (by rw [List.length_reverse] at hj;exact hj),ll] at hx
    exact hx
   obtain ⟨n,rfl,hn⟩:=hnode hj'
   have lyx:=hly (m - j) x hx'
   have cur:=hit (m - j) (Nat.le_refl _) (by omega)
   have sA:=u1.trans M.all
   obtain ⟨xa,xo,xkvs,t,p0,la,lab,rfl,hxa,hval,ht,hla,hnext,hzero⟩ : ∃ (xa:Addr) (xo:Obj) (xkvs:List (List Key×V)) (t:Addr) (p0:V) (la:Addr) (lab:Nat×Nat),x = .ref xa/\H xa=some (.frz xo (.dT xkvs))/\qaM xkvs (kk (nd' (m - j)))=some (.ref t)/\H t=some (.tup [p0,.ref la])/\H la=some (.tup [.int (lab.1:Nat),.int (lab.2:Nat)]) ∧
     (0 < m - j->∃ (pa:Addr) (q:Nat×Nat),p0 = .ref pa/\H pa=some (.tup ((kk q).map kV))/\q∈Om.layK g (fs.map (·.1)) (m - j - 1)/\(nd' (m - j),(q,lab))∈Om.lay g (fs.map (·.1)) (m - j))/\(m - j=0->∃ st:Nat,p0 = .int (st:Nat)/\(nd' 0,(st,lab))∈fs):=by
    cases hi:m - j with
    | zero=>
     rw [hi] at lyx cur
     obtain ⟨xa,xo,xkvs,e,h1,h2,h4⟩:=lyx
     rw [Om.layK_zero] at cur
     obtain ⟨en,he,een⟩:=mM_ cur
     obtain ⟨t,la,k1,k2,k3⟩:=h4 _ he
     rw [<-een]
     exact ⟨xa,xo,xkvs,t,_,la,en.2.2,e,h1,k1,k2,k3,fun z=>absurd z (Nat.lt_irrefl _),fun _=>⟨en.2.1,rfl,he⟩⟩
    | succ i=>
     rw [hi] at lyx cur
     obtain ⟨xa,xo,xkvs,e,h1,h2,h4⟩:=lyx
     obtain ⟨en,he,een⟩:=mM_ cur
     have ls':=Om.lay_step he
     obtain ⟨t,pa,la,k1,k2,k3,k4⟩:=h4 _ he
     rw [<-een]
     exact ⟨xa,xo,xkvs,t,_,la,en.2.2,e,h1,k1,k2,k4,fun _=>⟨pa,en.2.1,rfl,k3,ls'.1,he⟩,fun z=>absurd z (Nat.succ_ne_zero _)⟩
   dsimp only [qai]
   refine .inr ⟨_,_,rfl,.inr ⟨xkvs,kk (nd' (m - j)),n,.inr ⟨xo,sA _ _ hxa⟩,rfl,M.s _ _ hn,hval.symm⟩,?_⟩
   refine ⟨⟨_,rfl,M.hL⟩,?_⟩
   refine .inl ⟨_,gt (sA _ _ ht) (by decide) rfl,.inl ⟨_,gt (sA _ _ ht) (by decide) rfl,?_⟩⟩
   refine ⟨lZ_ rfl,fun e he=>?_⟩
   have M1:=M.put (o:=.tup [p0,.ref la,.ref n]) he
   have U1:=M.up (o:=.tup [p0,.ref la,.ref n]) he
   have hG1:upd G e (.tup [p0,.ref la,.ref n]) e=some (.tup [p0,.ref la,.ref n]):=qaa
   refine ⟨_,M1.hL,lt_line (by omega),?_⟩
   have M2:=M1.set (ws:=ws++[.ref e])
   have sG:Same H (upd G e (.tup [p0,.ref la,.ref n])):=(u1.trans M.s0).trans U1
   generalize upd (upd H2 e (.tup [p0,.ref la,.ref n])) W0 (.lst (ws++[.ref e]))=H3 at *
   generalize upd G e (.tup [p0,.ref la,.ref n])=G1 at *
   have s0:=u1.trans M2.all
   refine .inl ⟨_,gt (s0 _ _ ht) (by decide) rfl,?_⟩
   have old:∀ {nd2:Nat->Nat×Nat} {st2:Nat},(∀ i,m - j<=i->nd2 i=nd' i)->(m - j=0->p0 = .int (st2:Nat))->∀ t v,(ws++[.ref e])[t]? = some v->StepW G1 (nd2 (m - t)) (if m - t=m - j then lab else lb (m - t)) st2 (m - t) v:=by
    intro nd2 st2 e1 h3 t' v hv
    by_cases ht':t' < ws.length
    ·rw [List.getElem?_append_left ht'] at hv
     rw [e1 _ (by omega),if_neg (by omega)]
     obtain ⟨a1,p1',la1,n1,z1,z2,z3,z4,z5⟩:=hws t' v hv
     exact ⟨a1,p1',la1,n1,z1,U1 _ _ z2,U1 _ _ z3,U1 _ _ z4,fun z=>by omega⟩
    ·rw [List.getElem?_append_right (by omega)] at hv
     have e4:t' - ws.length=0:=by
      cases h:t' - ws.length with
      | zero=>rfl
      | succ _=>rw [h] at hv;simp at hv
     rw [e4] at hv
     have:v = .ref e:=by simpa using hv.symm
     subst this
     have:t'=j:=by omega
     subst this
     rw [if_pos rfl]
     refine ⟨e,p0,la,n,rfl,hG1,?_,sG _ _ hla,h3⟩
     rw [e1 _ (Nat.le_refl _)];exact U1 _ _ hn
   by_cases h0:0 < m - j
   ·obtain ⟨pa,q',rfl,k3,k5,k6⟩:=hnext h0
    refine ⟨.ref pa,_,_,ws++[.ref e],G1,fun i=>if i=m - j - 1 then q' else nd' i,fun i=>if i=m - j then lab else lb i,st0,rfl,M2,by rw [lA_,wl];rfl,fun hj1=>⟨pa,rfl,?_⟩,old (nd2:=fun i=>if i=m - j - 1 then q' else nd' i) (fun i hi=>by show (if i=m - j - 1 then q' else nd' i)=nd' i;rw [if_neg (by omega)]) (fun z=>by omega),(fun z=>by omega),(by show (if m=m - j - 1 then q' else nd' m)=ks[0];rw [if_neg (by omega)];exact hnm),fun i h1 h2=>?_,fun i h1 h2=>?_⟩
    ·show G1 pa=some (.tup ((kk (if m - (j+1)=m - j - 1 then q' else nd' (m - (j+1)))).map kV))
     rw [if_pos (by omega)];exact sG _ _ k3
    ·show (if i=m - j - 1 then q' else nd' i)∈Om.layK g (fs.map (·.1)) i
     by_cases c:i=m - j - 1
     ·rw [if_pos c,c];exact k5
     ·rw [if_neg c];exact hit i (by omega) h2
    ·show ((if i+1=m - j - 1 then q' else nd' (i+1)),((if i=m - j - 1 then q' else nd' i),(if i+1=m - j then lab else lb (i+1))))∈Om.lay g (fs.map (·.1)) (i+1)
     by_cases c:i=m - j - 1
     ·rw [if_neg (by omega:¬ i+1=m - j - 1),if_pos c,if_pos (by omega:i+1=m - j),show i+1=m - j by omega];exact k6
     ·rw [if_neg (by omega:¬ i+1=m - j - 1),if_neg c,if_neg (by omega:¬ i+1=m - j)];exact hst i (by omega) h2
   ·obtain ⟨st,rfl,z2⟩:=hzero (by omega)
    refine ⟨.int (st:Nat),_,_,ws++[.ref e],G1,nd',fun i=>if i=m - j then lab else lb i,st,rfl,M2,by rw [lA_,wl];rfl,fun hj1=>by omega,old (fun _ _=>rfl) (fun _=>rfl),(fun _=>by show (nd' 0,(st,if 0=m - j then lab else lb 0))∈fs;rw [if_pos (by omega)];exact z2),hnm,fun i h1 h2=>hit i (by omega) h2,fun i h1 h2=>?_⟩
    show (nd' (i+1),(nd' i,if i+1=m - j then lab else lb (i+1)))∈Om.lay g (fs.map (·.1)) (i+1)
    rw [if_neg (by omega)]
    exact hst i (by omega) h2
  ·rintro σ H2 ⟨nv,v3,v4,ws,G,nd',lb,st0,rfl,M,wl,hnode,hws,hfz,hnm,hit,hst⟩
   rw [List.length_reverse,ll] at wl
   refine ⟨ws,M.hL,fun n hn=>?_⟩
   have u2:=Same.upd (o:=.lst ws.reverse) hn
   refine q n ws.reverse nd' lb st0 _ ((u1.trans M.all).trans u2) qaa (by rw [List.length_reverse,wl]) (fun i v hv=>?_) (hfz (by rw [List.length_reverse];omega)) (by rw [hx1,hnm]) (fun i hi=>hit i (by rw [List.length_reverse];omega) hi) (fun i hi=>hst i (by rw [List.length_reverse];omega) hi)
   have hi:i < ws.length:=by have:=(gS_ hv).1;rw [List.length_reverse] at this;exact this
   rw [List.getElem?_reverse hi,wl] at hv
   have:=hws _ v hv
   rw [show m - (m+1 - 1 - i)=i by omega] at this
   exact (this.mono M.s).mono u2
 ·exact h.elim
end
end K11
end
section
namespace K11
open PySem L2
section
variable {P:Program} {w:World} {K:PySem.W.Frag} {mg:Str->Option Value} {base:Heap}
abbrev qfY:Stmt:=top 20
def qd2:Sp:=fun vs H Q _=>match vs with
 | [.ref W]=>∃ (ws:List V) (nd lb:Nat->Nat×Nat) (st m:Nat),H W=some (.lst ws)/\ws.length=m+1/\m<=100/\(∀ i v,ws[i]? = some v->StepW H (nd i) (lb i) st i v)/\(∀ i,i<=m->(nd i).1 < 8/\(nd i).2 < 8)/\(∃ i j,i < j/\j<=m/\nd i=nd j) ∧
   ∀ t (i j:Nat) H',Same H H'->i < j->j<=m->nd i=nd j->((List.range j).map nd).Nodup->H' t=some (.tup [.int (i:Nat),.int (j:Nat)])->Q (.ref t) H'
 | _=>False
theorem scFirst:FnScope ["walk","places","place","step"] ["walk"] (qad qfY):=⟨rfl,rfl,rfl,by decide +kernel,rfl,by decide +kernel,by decide +kernel⟩
local macro_rules | `(tactic| walk_at "T.e")=>`(tactic| first | (with_reducible exact qbP) | ((with_reducible refine' qeU ?a0 ?a1 ?a2);(case a0=>exact Room.units (by assumption));(case a1=>walk_at "T.e");(case a2=>walk_at "T.e")) | fail "no")
local macro_rules | `(tactic| walk_at "T.cmp")=>`(tactic| ((with_reducible refine' qgj ?a1);(case a1=>exact Room.units (by assumption))))
local macro_rules | `(tactic| walk_at "T.g")=>`(tactic| ((with_reducible refine' qdx ?a0 ?a1 ?a2);(case a0=>exact Room.units (by assumption));(case a1=>walk_at "T.e");(case a2=>walk_at "T.e")))
theorem qhR (D:FnX K mg "first_return" qfY ["walk"]) (g1:mg "enumerate" = none):Can P w K mg base "first_return" 1 ["walk"] qd2:=by
 refine qag (k:=0) D scFirst (fun vs H Q E h=>?_) (fun f cdv A outer s H vs Q E hr h=>?_)
 all_goals
  unfold qd2 at h
  split at h
 ·rfl
 ·exact h.elim
 ·rename_i W
  obtain ⟨ws,nd',lb,st,m,hW,wl,m100,hst,n8,⟨i0,j0,ij,jm,eij⟩,q⟩:=h
  have nd:=scFirst.nd
  refine ⟨_,(by walk_at "T.top"),?_⟩
  intro D hD
  have M0:=Gd.start hD
  refine ⟨⟨_,SqL.of (M0.all _ _ hW)⟩,?_⟩
  refine qci (qaU _ W ws) (fun i σ H2=>∃ (v2 v3:Option V) (G:Hp) (kvs:List (List Key×V)),σ=[some (.ref W),some (.ref D),v2,v3]/\Gd G H H2 D kvs/\KD ((List.range i).map nd') kvs/\∀ j,j < i->qaM kvs (kk (nd' j))=some (.int (j:Nat)))
   ⟨none,none,_,[],rfl,M0,KD.nil,(fun j hj=>absurd hj (Nat.not_lt_zero _))⟩ (fun i σ H2 _ ⟨_,_,_,_,_,M,_⟩=>M.all _ _ hW) ?_ ?_
  ·rintro i t σ H2 hi ⟨v2,v3,G,kvs,rfl,M,kd,hv⟩ ht
   obtain ⟨a,p0,la,n,ea,ha,hn,_⟩:=hst i ws[i] (gE_ hi)
   have er:ws.getD i .non = .ref a:=by rw [List.getD_eq_getElem?_getD,gE_ hi,ea];rfl
   dsimp only
   rw [er]
   refine ⟨_,.inl qaa,rfl,rfl,?_⟩
   have M1:=M.put (o:=.tup [.int (i:Nat),.ref a]) ht
   generalize upd H2 t (.tup [.int (i:Nat),.ref a])=H3 at *
   generalize upd G t (.tup [.int (i:Nat),.ref a])=G3 at *
   have s3:=M1.all
   have im:i<=m:=by omega
   refine .inl ⟨.ref n,gt (s3 _ _ ha) (by decide) rfl,?_⟩
   have hn3:H3 n=some (.tup ((kk (nd' i)).map kV)):=s3 _ _ hn
   refine ⟨_,_,rfl,.inr ⟨kvs,kk (nd' i),n,.inl M1.hD,rfl,hn3,rfl⟩,?_⟩
   refine qbr (fun c1=>?_) (fun c1=>?_)
   ·have isin:nd' i∈(List.range i).map nd':=kd.mem.mp c1
    obtain ⟨j,hj,ej⟩:=mM_ isin
    have hj':=List.mem_range.mp hj
    refine .inl ⟨.ref n,gt (s3 _ _ ha) (by decide) rfl,?_⟩
    refine .inr ⟨_,_,rfl,.inr ⟨kvs,kk (nd' i),n,.inl M1.hD,rfl,hn3,(by rw [<-ej];exact (hv j hj').symm)⟩,?_⟩
    refine ⟨lZ_ rfl,fun t' ht'=>?_⟩
    exact q t' j i _ (s3.trans (Same.upd ht')) hj' im ej kd.nd qaa
   ·have nin:nd' i ∉ (List.range i).map nd':=fun z=>c1 (kd.mem.mpr z)
    refine .inl ⟨.ref n,gt (s3 _ _ ha) (by decide) rfl,?_⟩
    refine .inr ⟨_,_,rfl,.inr ⟨kvs,kk (nd' i),n,M1.hD,rfl,hn3,kd.lt_line,rfl⟩,?_⟩
    have b8:=n8 i im
    refine ⟨_,_,_,_,rfl,M1.set,?_,fun j hj=>?_⟩
    ·rw [List.range_succ,List.map_append]
     exact kd.put nin b8.1 b8.2
    ·by_cases e:j=i
     ·subst e;exact qaS
     ·have ne:nd' j≠nd' i:=fun z=>nin (z ▸ List.mem_map.mpr ⟨j,List.mem_range.mpr (by omega),rfl⟩)
      rw [qaR ne];exact hv j (by omega)
  ·rintro σ H2 ⟨v2,v3,G,kvs,rfl,M,kd,hv⟩
   have nd2:=kd.nd
   rw [wl] at nd2
   have h1:((List.range (m+1)).map nd')[i0]? = some (nd' i0):=by rw [gM_,List.getElem?_range (by omega)];rfl
   have h2:((List.range (m+1)).map nd')[j0]? = some (nd' i0):=by rw [gM_,List.getElem?_range (by omega),eij];rfl
   obtain ⟨k1,e1⟩:=gS_ h1
   obtain ⟨k2,e2⟩:=gS_ h2
   have:=(List.getElem_inj nd2).mp (e1.trans e2.symm)
   omega
 ·exact h.elim
end
end K11
end
section
namespace K11
open PySem L2
theorem qak {c A B:Prop} [Decidable c] (hc:¬ c) (h:B):if c then A else B:=by rw [if_neg hc];exact h
def Kp (H H':Hp):Prop:=∀ b o,(∀ ps,o≠.tbl ps)->H b=some o->H' b=some o
theorem Same.kp {H H':Hp} (s:Same H H'):Kp H H':=fun b o _ e=>s _ _ e
theorem SameT.kp {P0:Addr} {c:Pos} {q:Str} {H H':Hp} (tb:Tab P0 c q H) (s:SameT P0 H H'):Kp H H':=fun b o n e=>s _ _ (fun z=>by obtain ⟨ps,e'⟩:=tb.tbl;rw [z,e'] at e;exact n ps (oI_ e).symm) e
theorem Kp.trans {H H1 H2:Hp} (a:Kp H H1) (b:Kp H1 H2):Kp H H2:=fun c o n h=>b c o n (a c o n h)
theorem Kp.lst {H H':Hp} (s:Kp H H') {b:Addr} {xs:List V} (h:H b=some (.lst xs)):H' b=some (.lst xs):=s _ _ (fun ps z=>nomatch z) h
theorem Kp.tup {H H':Hp} (s:Kp H H') {b:Addr} {xs:List V} (h:H b=some (.tup xs)):H' b=some (.tup xs):=s _ _ (fun ps z=>nomatch z) h
mutual
theorem DV.kp {H H':Hp} (s:Kp H H'):∀ {v:V} {d:PyData},DV H v d->DV H' v d
 | _,_,.non=>.non
 | _,_,.bl b=>.bl b
 | _,_,.int i=>.int i
 | _,_,.str x=>.str x
 | _,_,.lst h r=>.lst (s.lst h) (DVs.kp s r)
 | _,_,.tup h r=>.tup (s.tup h) (DVs.kp s r)
 | _,_,.dic h=>.dic (s _ _ (fun ps z=>nomatch z) h)
theorem DVs.kp {H H':Hp} (s:Kp H H'):∀ {vs:List V} {ds:List PyData},DVs H vs ds->DVs H' vs ds
 | _,_,.nil=>.nil
 | _,_,.cons h r=>.cons (DV.kp s h) (DVs.kp s r)
end
theorem GrO.xg {c:Nat} {H:Hp} {v:V} {qs:List Nat} {rows:Om.Rows} (h:GrO c Om.LtS H v (fun x y=>x∈qs/\y∈qs) (Om.St rows)):GrX c H v (gK qs) (gS rows)/\(∀ p,p∈gK qs↔p.1∈qs/\p.2∈qs)/\∀ p∈gK qs,∀ s,s∈gS rows p↔Om.St rows p.1 p.2 s:=by
 obtain ⟨a,o,kvs,ks,e,h1,h2,h3,h5,h4⟩:=h
 have ek:gK qs=ks:=Om.canon_eq (fun _ _=>Om.LtL.as) h5 fun p=>h3 p.1 p.2
 rw [ek]
 refine ⟨⟨a,o,kvs,e,h1,h2,fun p hp=>?_⟩,fun p=>h3 p.1 p.2,fun p hp=>?_⟩
 ·obtain ⟨l,ss,q1,q2,q3,q5,q4⟩:=h4 p hp
  have eb:gS rows p=ss:=Om.canon_eq (fun _ _=>Om.LtS.as) q5 q4
  rw [eb]
  exact ⟨l,q1,q2,q3⟩
 ·obtain ⟨l,ss,q1,q2,q3,q5,q4⟩:=h4 p hp
  have eb:gS rows p=ss:=Om.canon_eq (fun _ _=>Om.LtS.as) q5 q4
  rw [eb]
  exact q4
theorem GrX.kp {c:Nat} {H H':Hp} {v:V} {gks:List (Nat×Nat)} {g:Nat×Nat->List Om.Stp} (h:GrX c H v gks g) (s:Kp H H'):GrX c H' v gks g:=by
 obtain ⟨a,o,kvs,e,h1,h2,h3⟩:=h
 refine ⟨a,o,kvs,e,s _ _ (fun ps z=>nomatch z) h1,h2,fun p hp=>?_⟩
 obtain ⟨l,q1,q2,q3⟩:=h3 p hp
 exact ⟨l,q1,DV.kp s q2,q3⟩
noncomputable def lyN (rows:Om.Rows) (qs:List Nat) (i:Nat):List (Nat×Nat):=Om.layK (gS rows) ((fpF rows qs).map (·.1)) i
def qcm (rows:Om.Rows) (qs:List Nat):Prop:=lyN rows qs (gK qs).length≠[]
def DL (rows:Om.Rows) (qs:List Nat) (d:Nat):Prop:=(∀ i,i < d->lyN rows qs i≠[])/\lyN rows qs d=[]
theorem qca {rows:Om.Rows} {qs:List Nat} {i:Nat} (h:lyN rows qs i=[]):∀ j,lyN rows qs (i+j)=[]
 | 0=>h
 | j+1=>by
  have ih:=qca h j
  refine List.eq_nil_iff_forall_not_mem.mpr fun p hp=>?_
  obtain ⟨q,h1,_⟩:=Om.layK_succ.mp (show p∈Om.layK _ _ (i+j+1) from hp)
  have h1:q∈lyN rows qs (i+j):=h1
  rw [ih] at h1
  cases h1
section
variable {P:Program} {w:World} {K:PySem.W.Frag} {mg:Str->Option Value} {base:Heap}
theorem qbR {k n:Nat} {rows:Om.Rows} (ok:Om.CodeOk k n rows) {qs:List Nat} (rc:RchL rows qs) (gm:∀ p,p∈gK qs↔p.1∈qs/\p.2∈qs) (gst:∀ p∈gK qs,∀ s,s∈gS rows p↔Om.St rows p.1 p.2 s) :
  (∀ p∈gK qs,∀ s∈gS rows p,s.2∈gK qs)/\∀ p∈(fpF rows qs).map (·.1),p∈gK qs:=by
 have cl:∀ p∈gK qs,∀ s∈gS rows p,s.2∈gK qs:=fun p hp s hs=>by
  obtain ⟨g1,g2,_,g4⟩:=(gst p hp s).mp hs
  have st:∀ {x l:Nat},x∈qs->l < (rows.getD x []).length->(Om.step rows x l).2∈qs:=fun {x l} hx hl=>by
   refine (rc.2.1 _).mpr (.s ((rc.2.1 _).mp hx) (List.mem_map.mpr ⟨Om.step rows x l,?_,rfl⟩))
   unfold Om.step
   rw [List.getD_eq_getElem?_getD (l:=rows.getD x []),gE_ hl]
   exact List.getElem_mem hl
  obtain ⟨m1,m2⟩:=(gm p).mp hp
  rw [gm,g4]
  exact ⟨st m1 g1,st m2 g2⟩
 refine ⟨cl,fun p hp=>?_⟩
 obtain ⟨e,he,rfl⟩:=mM_ hp
 obtain ⟨s,hs,t,ht,rfl,_⟩:=qgL he
 exact cl (s,s) ((gm _).mpr ⟨hs,hs⟩) t ht
def GOn (rows:Om.Rows) (qs:List Nat):Prop:=(∀ p,p∈gK qs↔p.1∈qs/\p.2∈qs)/\∀ p∈gK qs,∀ s,s∈gS rows p↔Om.St rows p.1 p.2 s
abbrev qi9:Stmt:=top 26
def qeC (P0:Addr):Sp:=fun vs H Q _=>match vs with
 | [cv]=>∃ (k n:Nat) (rows:Om.Rows),DV H cv (qaA k n rows)/\Om.CodeOk k n rows/\Tab P0 (qap qay) qSt H ∧
   (∀ (qs:List Nat) H',SameT P0 H H'->Tab P0 (qap qay) qSt H'->RchL rows qs->GOn rows qs->qcm rows qs->Q .non H') ∧
   ∀ (d:Nat) (qs:List Nat) H',SameT P0 H H'->Tab P0 (qap qay) qSt H'->RchL rows qs->GOn rows qs->¬ qcm rows qs->DL rows qs d->d<=64->Q (.int (d:Nat)) H'
 | _=>False
theorem scLate:FnScope ["code","graph","layers"] ["code"] (qad qi9):=⟨rfl,rfl,rfl,by decide +kernel,rfl,by decide +kernel,by decide +kernel⟩
local macro_rules | `(tactic| walk_at "T.e")=>`(tactic| ((with_reducible refine' qhC ?a1 ?a2 ?a3);(case a1=>walk_at "T.t");(case a2=>walk_at "T.e");(case a3=>walk_at "T.e")))
theorem qjN {P0:Addr} (D:FnX K mg "late" qi9 ["code"]) (g1:mg "len" = none) (c1:Can P w K mg base "pair_graph" 2 ["code","states"] qcG) (c2:Can P w K mg base "reached" 4 ["code"] (qaK P0)) (c3:Can P w K mg base "layers_of" 2 ["first","graph"] qbO) (c4:Can P w K mg base "first_pairs" 5 ["code"] (qmw P0)) (c5:Can P w K mg base "comes_back" 1 ["layers","graph"] qcI):Can P w K mg base "late" 6 ["code"] (qeC P0):=by
 refine qag (k:=5) D scLate (fun vs H Q E h=>?_) (fun f cdv A outer s H vs Q E hr h=>?_)
 all_goals
  unfold qeC at h
  split at h
 ·rfl
 ·exact h.elim
 ·rename_i cv
  obtain ⟨k,n,rows,hc,ok,tb,qn,qt⟩:=h
  have nd:=scLate.nd
  refine ⟨_,(by walk_at "T.top"),?_⟩
  refine ⟨k,n,rows,hc,ok,tb,fun sl qs H1 s1 t1 nsl hsl pw mem q8=>?_⟩
  have rc:RchL rows qs:=⟨pw,mem,q8⟩
  refine ⟨k,n,rows,qs,hc.monoT tb s1,ok,hsl,pw,fun s hs=>Om.rch_ok ok _ ((mem s).mp hs),fun gv H2 s2 g0=>?_⟩
  obtain ⟨gx,gm,gst⟩:=GrO.xg g0
  have t2:=t1.mono s2
  have S2:SameT P0 H H2:=s1.trans s2.t
  dsimp only [qai]
  refine ⟨k,n,rows,hc.monoT tb S2,ok,t2,fun fv qs' H3 s3 t3 rc' lf=>?_⟩
  have qe:=rc'.uniq rc
  subst qe
  have gx3:=GrX.kp gx (SameT.kp t2 s3)
  obtain ⟨cl,hsub⟩:=qbR ok rc gm gst
  obtain ⟨ga,go,gkvs,rfl,hga,gkd,_⟩:=id gx3
  have gl64:gkvs.length<=64:=by rw [gkd.len];exact gkd.le
  refine ⟨64,_,_,_,lf,gx3,hsub,cl,fun l vs H4 s4 nl h4 hv hne hle hend=>?_⟩
  have S4:SameT P0 H H4:=(S2.trans s3).trans s4.t
  have t4:=t3.mono s4
  refine ⟨vs,gkvs,h4,.inr ⟨go,s4 _ _ hga⟩,gl64,?_⟩
  rw [gkd.len]
  by_cases e:(gK qs').length < vs.length
  ·rw [decide_eq_true e]
   refine qem rfl ?_
   exact qn qs' _ S4 t4 rc ⟨gm,gst⟩ (hne _ e)
  ·rw [decide_eq_false e]
   refine qdu ?_
   have e0:lyN rows qs' vs.length=[]:=hend.resolve_left (by omega)
   refine ⟨_,qbE h4,?_⟩
   refine qt vs.length qs' _ S4 t4 rc ⟨gm,gst⟩ (fun z=>z ?_) ⟨hne,e0⟩ (by rw [gkd.len] at gl64;omega)
   have:=qca e0 ((gK qs').length - vs.length)
   rwa [show vs.length+((gK qs').length - vs.length)=(gK qs').length by omega] at this
 ·exact h.elim
end
end K11
end
section
namespace K11
open PySem L2
def nl (ls:List Nat):List V:=ls.map fun l:Nat=>V.int (l:Nat)
def ToldN (rows:Om.Rows) (qs:List Nat) (st b:Nat) (xs ys:List Nat):Prop:=∃ (nd lb:Nat->Nat×Nat) (i j:Nat),Om.Down (gS rows) ((fpF rows qs).map (·.1)) (gK qs).length nd lb/\(nd 0,(st,lb 0))∈fpF rows qs/\i < j/\j<=(gK qs).length/\nd i=nd j/\((List.range j).map nd).Nodup/\b=i+1/\xs=(List.range (j+1)).map (fun t=>(lb t).1)/\ys=(List.range (j+1)).map (fun t=>(lb t).2)
theorem ToldN.uniq {rows:Om.Rows} {qs:List Nat} {st b st' b':Nat} {xs ys xs' ys':List Nat} (h:ToldN rows qs st b xs ys) (h':ToldN rows qs st' b' xs' ys'):st=st'/\b=b'/\xs=xs'/\ys=ys':=by
 obtain ⟨nd,lb,i,j,d,f0,ij,jm,eij,no,h1,h2,h3⟩:=h
 obtain ⟨nd',lb',i',j',d',f0',ij',jm',eij',no',k1,k2,k3⟩:=h'
 generalize (gK qs).length=m at *
 have en:∀ i,i<=m->nd i=nd' i:=fun i hi=>by
  have:=(d.uniq d' (m - i) (by omega)).1
  rwa [show m - (m - i)=i by omega] at this
 have e0:=qdB (qnv rows qs) f0 f0' (en 0 (Nat.zero_le _))
 have e1:(st,lb 0)=(st',lb' 0):=(Prod.mk.inj e0).2
 have el:∀ i,i<=m->lb i=lb' i:=fun i hi=>by
  cases i with
  | zero=>exact (Prod.mk.inj e1).2
  | succ i=>
   have:=(d.uniq d' (m - i) (by omega)).2 (by omega)
   rwa [show m - (m - i)+1=i+1 by omega] at this
 have ej:j=j':=by
  rcases Nat.lt_trichotomy j j' with c | c | c
  ·rw [en i (by omega),en j (by omega)] at eij
   exact absurd eij (Om.ret_uniq (i:=i) no' ij c)
  ·exact c
  ·rw [<-en i' (by omega),<-en j' (by omega)] at eij'
   exact absurd eij' (Om.ret_uniq (i:=i') no ij' c)
 subst ej
 have ei:i=i':=by
  have e2:nd i=nd i':=by rw [eij,en j jm,<-eij',en i' (by omega)]
  rcases Nat.lt_trichotomy i i' with c | c | c
  ·exact absurd e2 (Om.ret_uniq (i:=i) no c ij')
  ·exact c
  ·exact absurd e2.symm (Om.ret_uniq (i:=i) no c ij)
 subst ei
 refine ⟨(Prod.mk.inj e1).1,by rw [h1,k1],?_,?_⟩
 ·rw [h2,k2]
  exact List.map_congr_left fun t ht=>by rw [el t (by have:=List.mem_range.mp ht;omega)]
 ·rw [h3,k3]
  exact List.map_congr_left fun t ht=>by rw [el t (by have:=List.mem_range.mp ht;omega)]
theorem qgw {qs:List Nat} (nd:qs.Nodup) {ks:List (Nat×Nat)} (kn:ks.Nodup) (h:∀ p,p∈ks↔p.1∈qs/\p.2∈qs) (m:Nat) (hm:ks.length<=m) {f:Nat->Nat×Nat} (hf:∀ i,i<=m->f i∈ks):∃ i j,i < j/\j<=m/\f i=f j:=by
 refine Classical.byContradiction fun no=>?_
 have nd2:((List.range (m+1)).map f).Nodup:=by
  refine Om.nodup_on (fun x hx y hy e=>?_) List.nodup_range
  have hx:=List.mem_range.mp hx
  have hy:=List.mem_range.mp hy
  rcases Nat.lt_trichotomy x y with c | c | c
  ·exact absurd ⟨x,y,c,by omega,e⟩ no
  ·exact c
  ·exact absurd ⟨y,x,c,by omega,e.symm⟩ no
 have:=nd2.length_le_of_subset (l₂:=ks) fun p hp=>by
  obtain ⟨i,hi,rfl⟩:=mM_ hp
  exact hf i (by have:=List.mem_range.mp hi;omega)
 rw [lM_,List.length_range] at this
 omega
def ShN (k:Nat) (rows:Om.Rows) (st b:Int) (xs ys:List Int):Prop:=xs.length=ys.length/\(0<=b/\b < (xs.length:Nat))/\(0<=st/\Om.Rch (Om.nxR rows) st.toNat)/\Om.InR k xs/\Om.InR k ys/\xs[0]?≠ys[0]? ∧
 (∀ j,j < xs.length->Om.Alike rows st.toNat st.toNat (Om.nats xs) (Om.nats ys) j)/\Om.pst rows st.toNat st.toNat (Om.nats xs) (Om.nats ys) b.toNat=Om.pst rows st.toNat st.toNat (Om.nats xs) (Om.nats ys) xs.length
theorem qni (ls:List Nat):(ni ls).map V.int=nl ls:=by unfold ni nl;rw [List.map_map];rfl
theorem qbb (ls:List Nat):(ni ls).length=ls.length:=by unfold ni;rw [lM_]
theorem qeW {k n:Nat} {rows:Om.Rows} (ok:Om.CodeOk k n rows) (s:Nat):(rows.getD s []).length<=2 ^ k:=by
 by_cases h:s < rows.length
 ·have e:rows.getD s []=rows[s]:=by rw [List.getD_eq_getElem?_getD,gE_ h];rfl
  rw [e,ok.len _ (List.getElem_mem h)]
  exact Nat.le_refl _
 ·have e:rows.getD s []=[]:=by rw [List.getD_eq_getElem?_getD,List.getElem?_eq_none (by omega)];rfl
  rw [e]
  exact Nat.zero_le _
theorem qiP {k n:Nat} {rows:Om.Rows} (ok:Om.CodeOk k n rows) {qs:List Nat} (rc:RchL rows qs) (gm:∀ p,p∈gK qs↔p.1∈qs/\p.2∈qs) (gst:∀ p∈gK qs,∀ s,s∈gS rows p↔Om.St rows p.1 p.2 s) {st b:Nat} {xs ys:List Nat} (h:ToldN rows qs st b xs ys):ShN k rows (st:Nat) (b:Nat) (ni xs) (ni ys):=by
 obtain ⟨nd,lb,i,j,d,f0,ij,jm,eij,no,rfl,rfl,rfl⟩:=h
 obtain ⟨cl,hsub⟩:=qbR ok rc gm gst
 obtain ⟨s0,hs0,t0,ht0,e0,ne⟩:=qgL f0
 obtain ⟨e1,e2⟩:=Prod.mk.inj e0
 obtain ⟨rfl,e4⟩:=Prod.mk.inj e2
 have hk0:(st,st)∈gK qs:=(gm _).mpr ⟨hs0,hs0⟩
 have pr:∃ pr:Nat->Nat×Nat,pr 0=(st,st)/\∀ t,pr (t+1)=nd t:=⟨fun t=>match t with | 0=>(st,st) | t+1=>nd t,rfl,fun _=>rfl⟩
 obtain ⟨pr,pr0,prs⟩:=pr
 have stp:∀ t,t<=j->Om.St rows (pr t).1 (pr t).2 (lb t,pr (t+1)):=fun t ht=>by
  cases t with
  | zero=>
   rw [prs,pr0,e1,e4]
   exact (gst _ hk0 _).mp ht0
  | succ t=>
   obtain ⟨k1,k2⟩:=Om.lay_step (d.step t (by omega))
   rw [prs,prs]
   exact (gst _ (Om.layK_in hsub cl t _ k1) _).mp k2
 generalize hxs:(List.range (j+1)).map (fun t=>(lb t).1)=xs
 generalize hys:(List.range (j+1)).map (fun t=>(lb t).2)=ys
 have xl:xs.length=j+1:=by rw [<-hxs,lM_,List.length_range]
 have yl:ys.length=j+1:=by rw [<-hys,lM_,List.length_range]
 have xg:∀ t,t<=j->xs[t]? = some (lb t).1:=fun t ht=>by rw [<-hxs,gM_,List.getElem?_range (by omega)];rfl
 have yg:∀ t,t<=j->ys[t]? = some (lb t).2:=fun t ht=>by rw [<-hys,gM_,List.getElem?_range (by omega)];rfl
 have xd:∀ t,t<=j->xs.getD t 0=(lb t).1:=fun t ht=>by rw [List.getD_eq_getElem?_getD,xg t ht];rfl
 have yd:∀ t,t<=j->ys.getD t 0=(lb t).2:=fun t ht=>by rw [List.getD_eq_getElem?_getD,yg t ht];rfl
 have go:∀ t,t<=j+1->Om.pst rows st st xs ys t=pr t:=by
  intro t
  induction t with
  | zero=>intro _;rw [pr0];rfl
  | succ t ih=>
   intro ht
   have ih:=ih (by omega)
   obtain ⟨_,_,_,g4⟩:=stp t (by omega)
   rw [Om.pst_succ (by omega) (by omega),ih,xd t (by omega),yd t (by omega)]
   exact g4.symm
 have nx:Om.nats (ni xs)=xs:=Om.nats_cast xs
 have ny:Om.nats (ni ys)=ys:=Om.nats_cast ys
 have inr:∀ {zs:List Nat},(∀ z∈zs,z < 2 ^ k)->Om.InR k (ni zs):=fun {zs} hz l hl=>by
  unfold ni at hl
  obtain ⟨z,hz',rfl⟩:=mM_ hl
  exact ⟨by omega,by exact_mod_cast hz z hz'⟩
 refine ⟨by rw [qbb,qbb,xl,yl],⟨by omega,by rw [qbb,xl];omega⟩,⟨by omega,by rw [Int.toNat_natCast];exact (rc.2.1 _).mp hs0⟩,inr fun z hz=>?_,inr fun z hz=>?_,?_,?_,?_⟩
 ·rw [<-hxs] at hz
  obtain ⟨t,ht,rfl⟩:=mM_ hz
  exact Nat.lt_of_lt_of_le (stp t (by have:=List.mem_range.mp ht;omega)).1 (qeW ok _)
 ·rw [<-hys] at hz
  obtain ⟨t,ht,rfl⟩:=mM_ hz
  exact Nat.lt_of_lt_of_le (stp t (by have:=List.mem_range.mp ht;omega)).2.1 (qeW ok _)
 ·unfold ni
  rw [gM_,gM_,xg 0 (Nat.zero_le _),yg 0 (Nat.zero_le _)]
  intro z
  have z:(((lb 0).1:Nat):Int)=(((lb 0).2:Nat):Int):=oI_ z
  rw [e4] at z
  exact ne (by omega)
 ·rw [nx,ny,Int.toNat_natCast,qbb,xl]
  intro t ht
  obtain ⟨_,_,g3,_⟩:=stp t (by omega)
  unfold Om.Alike
  rw [go t (by omega),xd t (by omega),yd t (by omega)]
  exact g3
 ·rw [nx,ny,Int.toNat_natCast,Int.toNat_natCast,qbb,xl,go _ (by omega),go _ (by omega),prs,prs]
  exact eij
section
variable {P:Program} {w:World} {K:PySem.W.Frag} {mg:Str->Option Value} {base:Heap}
abbrev qfQ:Stmt:=top 27
def qcD (P0:Addr):Sp:=fun vs H Q _=>match vs with
 | [cv]=>∃ (k n:Nat) (rows:Om.Rows),DV H cv (qaA k n rows)/\Om.CodeOk k n rows/\Tab P0 (qap qay) qSt H ∧
   (∀ (qs:List Nat) H',SameT P0 H H'->Tab P0 (qap qay) qSt H'->RchL rows qs->¬ qcm rows qs->Q .non H') ∧
   ∀ (an T U:Addr) (st b:Nat) (xs ys:List Nat) (qs:List Nat) H',SameT P0 H H'->Tab P0 (qap qay) qSt H'->RchL rows qs->qcm rows qs->H T=none->H U=none->T≠U->H' an=some (.tup [.int (st:Nat),.ref T,.ref U,.int (b:Nat)])->H' T=some (.lst (nl xs))->H' U=some (.lst (nl ys))->xs.length<=65->ys.length=xs.length->ToldN rows qs st b xs ys->ShN k rows (st:Nat) (b:Nat) (ni xs) (ni ys)->Q (.ref an) H'
 | _=>False
theorem scNever:FnScope ["code","graph","layers","walk","places","labels","one","other"] ["code"] (qad qfQ):=⟨rfl,rfl,rfl,by decide +kernel,rfl,by decide +kernel,by decide +kernel⟩
local macro_rules | `(tactic| walk_at "T.sc")=>`(tactic| (have ndc:(["step"]:List Str).Nodup:=(by decide +kernel));((with_reducible refine' qdg "labels" 5 ["step"] [] ?b1 ?b0 ?b2 (fun cl C s H fp=>?b3) (fun cl C s H fp=>?b4) (fun cl C s H fp=>?b5));(case b1=>exact ndc);(case b0=>assumption);(case b2=>walk_at "T.i");(case b3=>walk_at "T.g");(case b4=>walk_at "T.pf");(case b5=>walk_at "T.e")))
local macro_rules | `(tactic| walk_at "T.sc")=>`(tactic| (have ndc:(["label"]:List Str).Nodup:=(by decide +kernel));((with_reducible refine' qdg "one" 6 ["label"] [] ?b1 ?b0 ?b2 (fun cl C s H fp=>?b3) (fun cl C s H fp=>?b4) (fun cl C s H fp=>?b5));(case b1=>exact ndc);(case b0=>assumption);(case b2=>walk_at "T.i");(case b3=>walk_at "T.g");(case b4=>walk_at "T.pf");(case b5=>walk_at "T.e")))
local macro_rules | `(tactic| walk_at "T.sc")=>`(tactic| (have ndc:(["label"]:List Str).Nodup:=(by decide +kernel));((with_reducible refine' qdg "other" 7 ["label"] [] ?b1 ?b0 ?b2 (fun cl C s H fp=>?b3) (fun cl C s H fp=>?b4) (fun cl C s H fp=>?b5));(case b1=>exact ndc);(case b0=>assumption);(case b2=>walk_at "T.i");(case b3=>walk_at "T.g");(case b4=>walk_at "T.pf");(case b5=>walk_at "T.e")))
theorem qhJ {P0:Addr} (D:FnX K mg "never" qfQ ["code"]) (c1:Can P w K mg base "pair_graph" 2 ["code","states"] qcG) (c2:Can P w K mg base "reached" 4 ["code"] (qaK P0)) (c3:Can P w K mg base "layers_of" 2 ["first","graph"] qbO) (c4:Can P w K mg base "first_pairs" 5 ["code"] (qmw P0)) (c5:Can P w K mg base "comes_back" 1 ["layers","graph"] qcI) (c6:Can P w K mg base "longest_walk" 1 ["layers"] qfG) (c7:Can P w K mg base "first_return" 1 ["walk"] qd2):Can P w K mg base "never" 6 ["code"] (qcD P0):=by
 refine qag (k:=5) D scNever (fun vs H Q E h=>?_) (fun f cdv A outer s H vs Q E hr h=>?_)
 all_goals
  unfold qcD at h
  split at h
 ·rfl
 ·exact h.elim
 ·rename_i cv
  obtain ⟨k,n,rows,hc,ok,tb,qn,qt⟩:=h
  have nd:=scNever.nd
  refine ⟨_,(by walk_at "T.top"),?_⟩
  refine ⟨k,n,rows,hc,ok,tb,fun sl qs H1 s1 t1 nsl hsl pw mem q8=>?_⟩
  have rc:RchL rows qs:=⟨pw,mem,q8⟩
  refine ⟨k,n,rows,qs,hc.monoT tb s1,ok,hsl,pw,fun s hs=>Om.rch_ok ok _ ((mem s).mp hs),fun gv H2 s2 g0=>?_⟩
  obtain ⟨gx,gm,gst⟩:=GrO.xg g0
  have t2:=t1.mono s2
  have S2:SameT P0 H H2:=s1.trans s2.t
  dsimp only [qai]
  refine ⟨k,n,rows,hc.monoT tb S2,ok,t2,fun fv qs' H3 s3 t3 rc' lf=>?_⟩
  have qe:=rc'.uniq rc
  subst qe
  have gx3:=GrX.kp gx (SameT.kp t2 s3)
  obtain ⟨cl,hsub⟩:=qbR ok rc gm gst
  obtain ⟨ga,go,gkvs,rfl,hga,gkd,_⟩:=id gx3
  have gl64:gkvs.length<=64:=by rw [gkd.len];exact gkd.le
  refine ⟨64,_,_,_,lf,gx3,hsub,cl,fun l vs H4 s4 nl' h4 hv hne hle hend=>?_⟩
  have S4:SameT P0 H H4:=(S2.trans s3).trans s4.t
  have t4:=t3.mono s4
  refine ⟨vs,gkvs,h4,.inr ⟨go,s4 _ _ hga⟩,gl64,?_⟩
  rw [gkd.len]
  rw [gkd.len] at gl64
  have glt:=gkd.lt
  have gnd:=gkd.nd
  by_cases e:(gK qs').length < vs.length
  rotate_left
  ·rw [decide_eq_false e]
   refine qem rfl ?_
   have e0:lyN rows qs' vs.length=[]:=hend.resolve_left (by omega)
   refine qn qs' _ S4 t4 rc (fun z=>z ?_)
   have:=qca e0 ((gK qs').length - vs.length)
   rwa [show vs.length+((gK qs').length - vs.length)=(gK qs').length by omega] at this
  rw [decide_eq_true e]
  refine qdu ?_
  have vl:vs.length=(gK qs').length+1:=by omega
  have back:qcm rows qs':=hne _ e
  dsimp only [qaG]
  refine ⟨vs,_,_,(gK qs').length,h4,vl,by omega,hv,hne _ e,fun W ws nd' lb st H5 s5 hW wl hws hf0 htop hit' hst'=>?_⟩
  have inK:∀ i,i<=(gK qs').length->nd' i∈gK qs':=fun i hi=>Om.layK_in hsub cl i _ (hit' i hi)
  have pig:=qgw (rc.1.imp fun h=>Nat.ne_of_lt h) gnd gm (gK qs').length (Nat.le_refl _) inK
  refine ⟨ws,nd',lb,st,(gK qs').length,hW,wl,by omega,hws,fun i hi=>glt _ (inK i hi),pig,fun pt i0 j H6 s6 ij jm eij ndj hpt=>?_⟩
  have S6:SameT P0 H H6:=S4.trans (s5.trans s6).t
  have t6:=t4.mono (s5.trans s6)
  have hW6:=s6 _ _ hW
  have hws6:∀ i v,ws[i]? = some v->StepW H6 (nd' i) (lb i) st i v:=fun i v h=>(hws i v h).mono s6
  dsimp only [qai]
  refine ⟨_,gt hpt (by decide) rfl,_,hW6,fun S hS=>?_⟩
  have ec:qdR ws none (some (((j:Nat):Int)+1))=ws.take (j+1):=by
   have:=qeq ws 0 (j+1)
   unfold qdR at this ⊢
   rw [show HT.sIx ws.length 0 none=HT.sIx ws.length 0 (some ((0:Nat):Int)) by rw [HT.sIx_none,HT.sIx_nat];omega]
   rw [show ((j+1:Nat):Int)=((j:Nat):Int)+1 by omega] at this
   rw [this,List.drop_zero,Nat.sub_zero]
  rw [ec]
  have sl':(ws.take (j+1)).length=j+1:=by rw [List.length_take];omega
  have u7:=Same.upd (o:=.lst (ws.take (j+1))) hS
  have hS7:upd H6 S (.lst (ws.take (j+1))) S=some (.lst (ws.take (j+1))):=qaa
  generalize upd H6 S (.lst (ws.take (j+1)))=H7 at *
  refine ⟨⟨_,SqL.of hS7⟩,fun C hC=>?_⟩
  refine qaq (qaj _ S (ws.take (j+1))) (fun t τ H8 ys=>(∃ v,τ=[v])/\H8=upd H7 C (.lst ys)/\ys.length=t/\∀ u,u < t->∃ la,ys[u]? = some (.ref la)/\H6 la=some (.tup [.int ((lb u).1:Nat),.int ((lb u).2:Nat)])) (by rw [sl'];exact qae (by omega))
   ⟨⟨none,rfl⟩,rfl,rfl,(fun u hu=>absurd hu (Nat.not_lt_zero _))⟩ ?_ ?_ ?_
  ·rintro t τ H8 ys ht ⟨_,rfl,yl,_⟩
   exact ⟨SqL.of (Same.upd hC _ _ hS7),qaa,by omega⟩
  ·rintro t x τ H8 ys ht hx ⟨⟨v,rfl⟩,rfl,yl,hys⟩
   rw [sl'] at ht
   rw [List.getElem?_take_of_lt ht] at hx
   obtain ⟨a',q0,la,n2,rfl,ha',_,hla,_⟩:=hws6 _ x hx
   refine ⟨_,gt (Same.upd hC _ _ (u7 _ _ ha')) (by decide) rfl,?_⟩
   refine ⟨qaa,⟨_,rfl⟩,qbf,by rw [lA_,yl];rfl,fun u hu=>?_⟩
   by_cases c:u=t
   ·subst c
    exact ⟨la,by rw [List.getElem?_append_right (by omega),yl,Nat.sub_self];rfl,hla⟩
   ·obtain ⟨la',k1,k2⟩:=hys u (by omega)
    exact ⟨la',by rw [List.getElem?_append_left (by omega)];exact k1,k2⟩
  rintro τ H8 ys ⟨_,rfl,yl,hys⟩
  rw [sl'] at yl hys
  have u8:=u7.trans (Same.upd (o:=.lst ys) hC)
  have hC8:upd H7 C (.lst ys) C=some (.lst ys):=qaa
  generalize upd H7 C (.lst ys)=H8 at *
  dsimp only [qai]
  have part:∀ (pr:Nat×Nat->Nat) {t:Nat},t < j+1->nl ((List.range t).map fun u=>pr (lb u))++[V.int (pr (lb t):Nat)]=nl ((List.range (t+1)).map fun u=>pr (lb u)):=fun pr t _=>by
   unfold nl
   rw [List.range_succ,List.map_append,List.map_append]
   rfl
  refine ⟨⟨_,SqL.of hC8⟩,fun T hT=>?_⟩
  refine qaq (qaj _ C ys) (fun t τ H9 zs=>(∃ v,τ=[v])/\H9=upd H8 T (.lst zs)/\zs=nl ((List.range t).map fun u=>(lb u).1)) (by rw [yl];exact qae (by omega)) ⟨⟨none,rfl⟩,rfl,rfl⟩ ?_ ?_ ?_
  ·rintro t τ H9 zs ht ⟨_,rfl,rfl⟩
   exact ⟨SqL.of (Same.upd hT _ _ hC8),qaa,by unfold nl;rw [lM_,lM_,List.length_range];omega⟩
  ·rintro t x τ H9 zs ht hx ⟨⟨v,rfl⟩,rfl,rfl⟩
   rw [yl] at ht
   obtain ⟨la,k1,k2⟩:=hys t ht
   rw [hx] at k1
   cases k1
   refine ⟨_,gt (Same.upd hT _ _ (u8 _ _ k2)) (by decide) rfl,?_⟩
   exact ⟨qaa,⟨_,rfl⟩,qbf,part (·.1) ht⟩
  rintro τ H9 zs ⟨_,rfl,rfl⟩
  rw [yl]
  have u9:=u8.trans (Same.upd (o:=.lst (nl ((List.range (j+1)).map fun u=>(lb u).1))) hT)
  have hT9:upd H8 T (.lst (nl ((List.range (j+1)).map fun u=>(lb u).1))) T=some (.lst (nl ((List.range (j+1)).map fun u=>(lb u).1))):=qaa
  have hC9:=Same.upd (o:=.lst (nl ((List.range (j+1)).map fun u=>(lb u).1))) hT _ _ hC8
  have free:∀ {x:Addr} {Hx:Hp},Same H6 Hx->Hx x=none->H x=none:=fun {x Hx} sx hx=>S6.free (sx.free hx) (fun z=>by obtain ⟨ps,e⟩:=t6.tbl;have:=sx _ _ e;rw [<-z,hx] at this;cases this)
  have nT:H T=none:=free u8 hT
  generalize upd H8 T (.lst (nl ((List.range (j+1)).map fun u=>(lb u).1)))=H9 at *
  dsimp only [qai]
  refine ⟨⟨_,SqL.of hC9⟩,fun U hU=>?_⟩
  refine qaq (qaj _ C ys) (fun t τ H10 zs=>(∃ v,τ=[v])/\H10=upd H9 U (.lst zs)/\zs=nl ((List.range t).map fun u=>(lb u).2)) (by rw [yl];exact qae (by omega)) ⟨⟨none,rfl⟩,rfl,rfl⟩ ?_ ?_ ?_
  ·rintro t τ H10 zs ht ⟨_,rfl,rfl⟩
   exact ⟨SqL.of (Same.upd hU _ _ hC9),qaa,by unfold nl;rw [lM_,lM_,List.length_range];omega⟩
  ·rintro t x τ H10 zs ht hx ⟨⟨v,rfl⟩,rfl,rfl⟩
   rw [yl] at ht
   obtain ⟨la,k1,k2⟩:=hys t ht
   rw [hx] at k1
   cases k1
   refine ⟨_,gt (Same.upd hU _ _ (u9 _ _ k2)) (by decide) rfl,?_⟩
   exact ⟨qaa,⟨_,rfl⟩,qbf,part (·.2) ht⟩
  rintro τ H10 zs ⟨_,rfl,rfl⟩
  rw [yl]
  have u10:=u9.trans (Same.upd (o:=.lst (nl ((List.range (j+1)).map fun u=>(lb u).2))) hU)
  have hU10:upd H9 U (.lst (nl ((List.range (j+1)).map fun u=>(lb u).2))) U=some (.lst (nl ((List.range (j+1)).map fun u=>(lb u).2))):=qaa
  have hT10:=Same.upd (o:=.lst (nl ((List.range (j+1)).map fun u=>(lb u).2))) hU _ _ hT9
  have nU:H U=none:=free u9 hU
  have TU:T≠U:=qac hT9 hU
  generalize upd H9 U (.lst (nl ((List.range (j+1)).map fun u=>(lb u).2)))=H10 at *
  dsimp only [qai]
  have w0:0 < ws.length:=by omega
  obtain ⟨a,p0,la,n',ea,ha,hn,hla,hp0⟩:=hws6 0 ws[0] (gE_ w0)
  rw [hp0 rfl] at ha
  refine ⟨.ref a,gl (u10 _ _ hW6) (by decide) (by rw [<-ea];exact gE_ w0),?_⟩
  refine ⟨_,gt (u10 _ _ ha) (by decide) rfl,_,gt (u10 _ _ hpt) (by decide) rfl,lZ_ rfl,fun an han=>?_⟩
  have uA:=Same.upd (o:=.tup [.int (st:Nat),.ref T,.ref U,.int (((i0:Nat):Int)+1)]) han
  have told:ToldN rows qs' st (i0+1) ((List.range (j+1)).map fun u=>(lb u).1) ((List.range (j+1)).map fun u=>(lb u).2):=⟨nd',lb,i0,j,⟨htop,hst'⟩,hf0,ij,jm,eij,ndj,rfl,rfl,rfl⟩
  refine qt an T U st (i0+1) _ _ qs' _ (S6.trans (u10.trans uA).t) (t6.mono (u10.trans uA)) rc back nT nU TU qaa (uA _ _ hT10) (uA _ _ hU10) (by rw [lM_,List.length_range];omega) (by rw [lM_,lM_]) told (qiP ok rc gm gst told)
 ·exact h.elim
end
end K11
end
section
namespace K11
open PySem L2
section
variable {P:Program} {w:World} {K:PySem.W.Frag} {mg:Str->Option Value} {base:Heap}
abbrev qfN:Stmt:=top 6
def qbY:Sp:=fun vs H Q _=>match vs with
 | [.int _]=>Q (.bl true) H
 | _=>False
theorem scWhole:FnScope ["thing"] ["thing"] (qad qfN):=⟨rfl,rfl,rfl,by decide +kernel,rfl,by decide +kernel,by decide +kernel⟩
theorem qhF (D:FnX K mg "is_whole" qfN ["thing"]) (g1:mg "isinstance" = none) (g2:mg "int" = none) (g3:mg "bool" = none):Can P w K mg base "is_whole" 1 ["thing"] qbY:=by
 refine qag (k:=0) D scWhole (fun vs H Q E h=>?_) (fun f cdv A outer s H vs Q E hr h=>?_)
 all_goals
  unfold qbY at h
  split at h
 ·rfl
 ·exact h.elim
 ·have nd:=scWhole.nd
  refine ⟨_,(by walk_at "T.top1"),?_⟩
  refine ⟨"int",rfl,by decide,?_⟩
  refine qem (by decide) ?_
  refine ⟨"int",rfl,by decide,?_⟩
  exact h
 ·exact h.elim
abbrev qd8:Stmt:=top 7
def qcE:Sp:=fun vs H Q _=>match vs with
 | [.int k,.int i]=>∃ j:Nat,k=(j:Int)/\Q (.bl (ltr j i)) H
 | _=>False
theorem scLetter:FnScope ["k","thing"] ["k","thing"] (qad qd8):=⟨rfl,rfl,rfl,by decide +kernel,rfl,by decide +kernel,by decide +kernel⟩
theorem qgn (D:FnX K mg "is_letter" qd8 ["k","thing"]) (c1:Can P w K mg base "is_whole" 1 ["thing"] qbY):Can P w K mg base "is_letter" 2 ["k","thing"] qcE:=by
 refine qag (k:=1) D scLetter (fun vs H Q E h=>?_) (fun f cdv A outer s H vs Q E hr h=>?_)
 all_goals
  unfold qcE at h
  split at h
 ·rfl
 ·exact h.elim
 ·rename_i k i
  obtain ⟨j,rfl,q⟩:=h
  have nd:=scLetter.nd
  refine ⟨_,(by walk_at "T.top1"),?_⟩
  refine qbr (fun h1=>?_) (fun h1=>?_)
  ·have h0:0<=i:=of_decide_eq_true h1
   refine ⟨rfl,?_⟩
   show Q (.bl (decide (((Builtin.Int.intBits i:Nat):Int)<=(j:Int)))) H
   have e:ltr j i=decide (((Builtin.Int.intBits i:Nat):Int)<=(j:Int)):=by
    unfold ltr
    rw [decide_eq_true h0,Bool.true_and]
    exact decide_eq_decide.mpr (qig h0).symm
   rw [<-e]
   exact q
  ·have h0:¬ 0<=i:=fun z=>h1 (decide_eq_true z)
   have e:ltr j i=false:=by unfold ltr;rw [decide_eq_false h0];rfl
   rw [e] at q
   exact q
 ·exact h.elim
abbrev qcP:Stmt:=top 8
def qbl:Sp:=fun vs H Q _=>match vs with
 | [.int k,.ref t]=>∃ (j:Nat) (ns:List Int),k=(j:Int)/\H t=some (.lst (ns.map V.int))/\ns.length<=5000/\∀ c H',(c=true↔Om.InR j ns)->Same H H'->Q (.bl c) H'
 | _=>False
theorem scLetterL:FnScope ["k","thing"] ["k","thing"] (qad qcP):=⟨rfl,rfl,rfl,by decide +kernel,rfl,by decide +kernel,by decide +kernel⟩
local macro_rules | `(tactic| walk_at "T.c")=>`(tactic| (have ndc:(["one","k"]:List Str).Nodup:=(by decide +kernel));((with_reducible refine' qaH ["one","k"] [0] ?b1 ?b2 (fun cl C s H fp=>?b3) (fun cl C s H fp=>?b4) (fun cl C s H fp=>?b5));(case b1=>exact ndc);(case b2=>walk_at "T.i");(case b3=>walk_at "T.g");(case b4=>walk_at "T.pf");(case b5=>walk_at "T.e")))
theorem qfe (D:FnX K mg "is_letter_list" qcP ["k","thing"]) (g1:mg "isinstance" = none) (g2:mg "list" = none) (g3:mg "all" = none) (c1:Can P w K mg base "is_letter" 2 ["k","thing"] qcE):Can P w K mg base "is_letter_list" 3 ["k","thing"] qbl:=by
 refine qag (k:=2) D scLetterL (fun vs H Q E h=>?_) (fun f cdv A outer s H vs Q E hr h=>?_)
 all_goals
  unfold qbl at h
  split at h
 ·rfl
 ·exact h.elim
 ·rename_i k t
  obtain ⟨j,ns,rfl,ht,hl,q⟩:=h
  have nd:=scLetterL.nd
  refine ⟨_,(by walk_at "T.top1"),?_⟩
  refine ⟨"list",(by simp [tyN,ht]),by decide,?_⟩
  refine qem (by decide) ?_
  refine ⟨⟨_,SqL.of ht⟩,fun D hD=>?_⟩
  refine qbp (qaj _ t (ns.map V.int)) (fun v=>match v with | .int i=>.bl (ltr j i) | _=>.non) (by rw [lM_];exact qaO (by omega)) (fun o=>SqL.upd ht hD) (fun i x ys hx C c=>?_) ?_
  ·rw [gM_] at hx
   obtain ⟨n,hn,rfl⟩:=Option.map_eq_some_iff.mp hx
   exact ⟨j,rfl,c⟩
  ·refine ⟨ns.map (ltr j),by rw [qaa,List.map_map,List.map_map];rfl,?_⟩
   refine q _ _ ?_ (Same.upd hD)
   rw [List.all_map,<-qjT]
   exact Iff.rfl
 ·exact h.elim
end
end K11
end
section
namespace K11
open PySem L2
section
variable {P:Program} {w:World} {K:PySem.W.Frag} {mg:Str->Option Value} {base:Heap}
abbrev qmW:Stmt:=top 15
def qiX:Sp:=fun vs H Q _=>match vs with
 | [cv,.ref p,.ref T,.ref U]=>∃ (k n:Nat) (rows:Om.Rows) (x y:Nat) (xs ys:List Int),DV H cv (qaA k n rows)/\Om.CodeOk k n rows/\H p=some (.tup [.int (x:Nat),.int (y:Nat)])/\x < rows.length/\y < rows.length ∧
   H T=some (.lst (xs.map V.int))/\H U=some (.lst (ys.map V.int))/\xs.length=ys.length/\xs.length<=5000/\Om.InR k xs/\Om.InR k ys ∧
   (∀ H',Same H H'->(¬ ∀ j,j < xs.length->Om.Alike rows x y (Om.nats xs) (Om.nats ys) j)->Q .non H') ∧
   (∀ L vs H',Same H H'->(∀ j,j < xs.length->Om.Alike rows x y (Om.nats xs) (Om.nats ys) j)->H' L=some (.lst vs)->DVs H' vs (qhh rows x y xs ys (xs.length+1))->Q (.ref L) H')
 | _=>False
theorem scWay:FnScope ["code","pair","one","other","pairs","letter","another","row","beside"] ["code","pair","one","other"] (qad qmW):=⟨rfl,rfl,rfl,by decide +kernel,rfl,by decide +kernel,by decide +kernel⟩
theorem qlF (D:FnX K mg "pairs_on_the_way" qmW ["code","pair","one","other"]) (g1:mg "zip" = none):Can P w K mg base "pairs_on_the_way" 1 ["code","pair","one","other"] qiX:=by
 refine qag (k:=0) D scWay (fun vs H Q E h=>?_) (fun f cdv A outer s H vs Q E hr h=>?_)
 all_goals
  unfold qiX at h
  split at h
 ·rfl
 ·exact h.elim
 ·rename_i cv p T U
  obtain ⟨k,n,rows,x,y,xs,ys,hc,ok,hp,hx,hy,hT,hU,hl,hl1,rx,ry,q1,q2⟩:=h
  have nd:=scWay.nd
  obtain ⟨a,b,st,rfl,ha,hb,hst⟩:=qas hc
  have bnd:=Om.pst_lt ok hx hy (Om.nats_lt rx) (Om.nats_lt ry)
  refine ⟨_,(by walk_at "T.top"),?_⟩
  refine ⟨lZ_ rfl,fun L hL=>?_⟩
  have R0:Gr H H (upd H L (.lst [.ref p])) L [.ref p]:=⟨Same.upd hL,Same.refl _,hL,qaa⟩
  refine ⟨⟨_,SqL.of (R0.all _ _ hT)⟩,⟨_,SqL.of (R0.all _ _ hU)⟩,?_⟩
  refine qci (qjZ _ T U (xs.map V.int) (ys.map V.int) (by simp [hl])) (fun i σ H2=>∃ (pp:Addr) (v5 v6 v7 v8:Option V) (G:Hp) (vs:List V),σ=[some (.ref a),some (.ref pp),some (.ref T),some (.ref U),some (.ref L),v5,v6,v7,v8]/\Gr G H H2 L vs/\DVs G vs (qhh rows x y xs ys (i+1))/\DV G (.ref pp) (qaX (Om.pst rows x y (Om.nats xs) (Om.nats ys) i))/\∀ j,j < i->Om.Alike rows x y (Om.nats xs) (Om.nats ys) j)
   ⟨p,none,none,none,none,H,[.ref p],rfl,R0,.cons (qb7 (x:=(x,y)) hp) .nil,qb7 (x:=(x,y)) hp,fun j hj=>absurd hj (Nat.not_lt_zero _)⟩ (fun i σ H2 _ ⟨_,_,_,_,_,_,_,_,R,_⟩=>⟨R.all _ _ hT,R.all _ _ hU⟩) ?_ ?_
  ·rintro i t σ H2 hi ⟨pp,v5,v6,v7,v8,G,vs,rfl,R,dv,dp,al⟩ ht
   rw [lM_] at hi
   have hi2:i < ys.length:=by omega
   have e1:(xs.map V.int).getD i .non = .int xs[i]:=by rw [List.getD_eq_getElem?_getD,gM_,gE_ hi];rfl
   have e2:(ys.map V.int).getD i .non = .int ys[i]:=by rw [List.getD_eq_getElem?_getD,gM_,gE_ hi2];rfl
   dsimp only
   rw [e1,e2]
   have R1:=R.new (o:=.tup [.int xs[i],.int ys[i]]) ht
   refine ⟨_,.inl qaa,rfl,rfl,?_⟩
   obtain ⟨pp',e,hpp⟩:=qbQ dp
   cases e
   obtain ⟨b1,b2⟩:=bnd i
   have gx:=Om.nats_get (gE_ hi)
   have gy:=Om.nats_get (gE_ hi2)
   have lx:(Om.nats xs).getD i 0 < 2 ^ k:=by rw [gx];exact Om.nats_lt rx _ (List.mem_map_of_mem (List.getElem_mem hi))
   have ly:(Om.nats ys).getD i 0 < 2 ^ k:=by rw [gy];exact Om.nats_lt ry _ (List.mem_map_of_mem (List.getElem_mem hi2))
   obtain ⟨sx,s1,s2,s3,s4⟩:=Om.step_get ok b1 lx
   obtain ⟨sy,t1,t2,t3,t4⟩:=Om.step_get ok b2 ly
   obtain ⟨qx,rsx,f1,f2,f3⟩:=qaJ hst s1
   obtain ⟨qy,rsy,h1,h2,h3⟩:=qaJ hst t1
   obtain ⟨px,f4,f5⟩:=qa9 f3 s2
   obtain ⟨py,h4,h5⟩:=qa9 h3 t2
   rw [gx] at f4
   rw [gy] at h4
   have x0:=(rx _ (List.getElem_mem hi)).1
   have y0:=(ry _ (List.getElem_mem hi2)).1
   have A1:=R1.all
   refine ⟨_,gt (A1 _ _ ha) (by decide) rfl,_,gt (R1.s _ _ hpp) (by decide) rfl,.ref qx,gl (A1 _ _ hb) (by omega) (by simpa using f1),.ref px,gl (A1 _ _ f2) x0 f4,?_⟩
   refine ⟨_,gt (A1 _ _ ha) (by decide) rfl,_,gt (R1.s _ _ hpp) (by decide) rfl,.ref qy,gl (A1 _ _ hb) (by omega) (by simpa using h1),.ref py,gl (A1 _ _ h2) y0 h4,?_⟩
   refine ⟨_,gt (A1 _ _ f5) (by decide) rfl,_,gt (A1 _ _ h5) (by decide) rfl,qbr (fun c=>?_) (fun c=>?_)⟩
   ·refine q1 _ A1 fun z=>?_
    have z':=z i hi
    unfold Om.Alike at z'
    rw [z'] at c
    simp at c
   ·have al':Om.Alike rows x y (Om.nats xs) (Om.nats ys) i:=by
     unfold Om.Alike
     have c':decide (bs (Om.step rows (Om.pst rows x y (Om.nats xs) (Om.nats ys) i).1 ((Om.nats xs).getD i 0)).1=bs (Om.step rows (Om.pst rows x y (Om.nats xs) (Om.nats ys) i).2 ((Om.nats ys).getD i 0)).1)=true:=by
      simpa using c
     exact bs_inj (of_decide_eq_true c')
    refine ⟨_,gt (A1 _ _ f5) (by decide) rfl,_,gt (A1 _ _ h5) (by decide) rfl,lZ_ rfl,fun z hz=>?_⟩
    have R2:=R1.put (o:=.tup [.int ((Om.step rows (Om.pst rows x y (Om.nats xs) (Om.nats ys) i).1 ((Om.nats xs).getD i 0)).2:Nat),.int ((Om.step rows (Om.pst rows x y (Om.nats xs) (Om.nats ys) i).2 ((Om.nats ys).getD i 0)).2:Nat)]) hz
    have U2:=R1.up (o:=.tup [.int ((Om.step rows (Om.pst rows x y (Om.nats xs) (Om.nats ys) i).1 ((Om.nats xs).getD i 0)).2:Nat),.int ((Om.step rows (Om.pst rows x y (Om.nats xs) (Om.nats ys) i).2 ((Om.nats ys).getD i 0)).2:Nat)]) hz
    have vl:=qfu dv
    refine ⟨⟨_,rfl,R2.hL⟩,_,R2.hL,by rw [vl];exact qeR (by omega),?_⟩
    have es:=Om.pst_succ (rows:=rows) (x:=x) (y:=y) (ls:=Om.nats xs) (ms:=Om.nats ys) (i:=i) (by rw [Om.nats_len];exact hi) (by rw [Om.nats_len];exact hi2)
    have dz:DV (upd G z (.tup [.int ((Om.step rows (Om.pst rows x y (Om.nats xs) (Om.nats ys) i).1 ((Om.nats xs).getD i 0)).2:Nat),.int ((Om.step rows (Om.pst rows x y (Om.nats xs) (Om.nats ys) i).2 ((Om.nats ys).getD i 0)).2:Nat)])) (.ref z) (qaX (Om.pst rows x y (Om.nats xs) (Om.nats ys) (i+1))):=by
     rw [es]
     exact qb7 qaa
    refine ⟨z,_,_,_,_,_,vs++[.ref z],rfl,R2.set,?_,dz,fun j hj=>?_⟩
    ·rw [qhg]
     exact (dv.mono U2).app (.cons dz .nil)
    ·by_cases hji:j=i
     ·rw [hji];exact al'
     ·exact al j (by omega)
  ·rintro σ H2 ⟨pp,v5,v6,v7,v8,G,vs,rfl,R,dv,dp,al⟩
   rw [lM_] at dv al
   exact q2 L vs _ R.all al R.hL (dv.mono R.s)
 ·exact h.elim
end
end K11
end
section
namespace K11
open PySem L2
section
variable {P:Program} {w:World} {K:PySem.W.Frag} {mg:Str->Option Value} {base:Heap}
structure Ans (H:Hp) (an T U:Addr) (st b:Int) (xs ys:List Int):Prop where
 an:H an=some (.tup [.int st,.ref T,.ref U,.int b])
 hT:H T=some (.lst (xs.map V.int))
 hU:H U=some (.lst (ys.map V.int))
theorem Ans.same {H H':Hp} {an T U:Addr} {st b:Int} {xs ys:List Int} (h:Ans H an T U st b xs ys) (s:Same H H'):Ans H' an T U st b xs ys:=⟨s _ _ h.an,s _ _ h.hT,s _ _ h.hU⟩
theorem Ans.kp {H H':Hp} {an T U:Addr} {st b:Int} {xs ys:List Int} (h:Ans H an T U st b xs ys) (s:Kp H H'):Ans H' an T U st b xs ys:=⟨s.tup h.an,s.lst h.hT,s.lst h.hU⟩
abbrev qfO:Stmt:=top 30
def qdW:Sp:=fun vs H Q _=>match vs with
 | [cv,.ref an]=>∃ (k n:Nat) (rows:Om.Rows) (T U:Addr) (st b:Int) (xs ys:List Int),DV H cv (qaA k n rows)/\Ans H an T U st b xs ys/\xs.length<=5000/\ys.length<=5000 ∧
   ∀ c H',(c=true↔Om.InR k xs/\Om.InR k ys)->Same H H'->Q (.bl c) H'
 | _=>False
theorem scShape:FnScope ["code","answer"] ["code","answer"] (qad qfO):=⟨rfl,rfl,rfl,by decide +kernel,rfl,by decide +kernel,by decide +kernel⟩
theorem qhH (D:FnX K mg "has_never_shape" qfO ["code","answer"]) (g1:mg "isinstance" = none) (g2:mg "tuple" = none) (g4:mg "len" = none)
  (c1:Can P w K mg base "is_whole" 1 ["thing"] qbY) (c2:Can P w K mg base "is_letter_list" 3 ["k","thing"] qbl):Can P w K mg base "has_never_shape" 4 ["code","answer"] qdW:=by
 refine qag (k:=3) D scShape (fun vs H Q E h=>?_) (fun f cdv A outer s H vs Q E hr h=>?_)
 all_goals
  unfold qdW at h
  split at h
 ·rfl
 ·exact h.elim
 ·rename_i cv an
  obtain ⟨k,n,rows,T,U,st,b,xs,ys,hc,hA,lx,ly,q⟩:=h
  have nd:=scShape.nd
  obtain ⟨a,bb,ss,rfl,ha,hb,hss⟩:=qas hc
  refine ⟨_,(by walk_at "T.top"),?_⟩
  dsimp only [qfr,qfs,qaG]
  refine qeB (c1:=false) (c2:=false) (fun Q q=>⟨"tuple",(by simp [tyN,hA.an]),by decide,q⟩) (fun _ Q q=>⟨_,qoj hA.an,q⟩) ?_
  refine qdu ?_
  refine qeB (c1:=false) (c2:=false) (fun Q q=>⟨.int st,gt hA.an (by decide) rfl,q⟩) (fun _ Q q=>⟨.int b,gt hA.an (by decide) rfl,q⟩) ?_
  refine qdu ?_
  refine ⟨_,gt ha (by decide) rfl,.ref T,gt hA.an (by decide) rfl,k,xs,rfl,hA.hT,by omega,fun c1 H3 i1 s3=>?_⟩
  refine qbr (fun h1=>?_) (fun h1=>?_)
  ·have A3:=hA.same s3
   refine ⟨_,gt (s3 _ _ ha) (by decide) rfl,.ref U,gt A3.an (by decide) rfl,k,ys,rfl,A3.hU,by omega,fun c2 H4 i2 s4=>?_⟩
   exact q c2 _ ⟨fun z=>⟨i1.mp h1,i2.mp z⟩,fun z=>i2.mpr z.2⟩ (s3.trans s4)
  ·exact q false _ ⟨fun z=>(by cases z),fun z=>absurd (i1.mpr z.1) h1⟩ s3
 ·exact h.elim
theorem qiC {qs:List Nat} {rows:Om.Rows} (mem:∀ s,s∈qs↔Om.Rch (Om.nxR rows) s) (st:Int):st∈qs.map (fun s=>((s:Nat):Int))↔0<=st/\Om.Rch (Om.nxR rows) st.toNat:=by
 rw [List.mem_map]
 constructor
 ·rintro ⟨s,hs,rfl⟩
  exact ⟨by omega,by rw [Int.toNat_natCast];exact (mem s).mp hs⟩
 ·rintro ⟨h0,h1⟩
  exact ⟨st.toNat,(mem _).mpr h1,by omega⟩
abbrev qmY:Stmt:=top 29
def qi0 (P0:Addr):Sp:=fun vs H Q _=>match vs with
 | [cv,.ref an]=>∃ (k n:Nat) (rows:Om.Rows) (T U:Addr) (st b:Int) (xs ys:List Int),DV H cv (qaA k n rows)/\Om.CodeOk k n rows/\Tab P0 (qap qay) qSt H/\Ans H an T U st b xs ys/\xs.length<=5000/\ys.length<=5000 ∧
   ∀ c H',(c=true↔ShN k rows st b xs ys)->SameT P0 H H'->Tab P0 (qap qay) qSt H'->Q (.bl c) H'
 | _=>False
theorem scNSh:FnScope ["code","answer","state","one","other","pairs"] ["code","answer"] (qad qmY):=⟨rfl,rfl,rfl,by decide +kernel,rfl,by decide +kernel,by decide +kernel⟩
theorem qlI {P0:Addr} (D:FnX K mg "never_shows" qmY ["code","answer"]) (g4:mg "len" = none)
  (c1:Can P w K mg base "has_never_shape" 4 ["code","answer"] qdW) (c2:Can P w K mg base "reached" 4 ["code"] (qaK P0)) (c3:Can P w K mg base "pairs_on_the_way" 1 ["code","pair","one","other"] qiX):Can P w K mg base "never_shows" 5 ["code","answer"] (qi0 P0):=by
 refine qag (k:=4) D scNSh (fun vs H Q E h=>?_) (fun f cdv A outer s H vs Q E hr h=>?_)
 all_goals
  unfold qi0 at h
  split at h
 ·rfl
 ·exact h.elim
 ·rename_i cv an
  obtain ⟨k,n,rows,T,U,st,b,xs,ys,hc,ok,tb,hA,lx,ly,q⟩:=h
  have nd:=scNSh.nd
  have no:∀ H',(¬ ShN k rows st b xs ys)->SameT P0 H H'->Tab P0 (qap qay) qSt H'->Q (.bl false) H':=fun H' n s t=>q false H' ⟨fun z=>(by cases z),fun z=>absurd z n⟩ s t
  refine ⟨_,(by walk_at "T.top"),?_⟩
  refine ⟨k,n,rows,T,U,st,b,xs,ys,hc,hA,lx,ly,fun c H1 i1 s1=>?_⟩
  have hc1:=hc.mono s1
  have A1:=hA.same s1
  have t1:=tb.mono s1
  refine qbr (fun h1=>?_) (fun h1=>?_)
  ·refine no _ (fun z=>?_) s1.t t1
   have:=i1.mpr ⟨z.2.2.2.1,z.2.2.2.2.1⟩
   rw [this] at h1
   cases h1
  ·have hct:c=true:=by cases c<;>simp at h1 ⊢
   obtain ⟨rx,ry⟩:=i1.mp hct
   dsimp only [qfr,qfs,qaG,qai]
   refine ⟨.int st,gt A1.an (by decide) rfl,.ref T,gt A1.an (by decide) rfl,.ref U,gt A1.an (by decide) rfl,?_⟩
   dsimp only [qfr,qfs,qaG,qai]
   refine ⟨k,n,rows,hc1,ok,t1,fun sl qs H2 s2 t2 nsl hsl pw mem q8=>?_⟩
   have k2:=SameT.kp t1 s2
   have S2:SameT P0 H H2:=s1.t.trans s2
   have A2:=Ans.kp A1 k2
   have hsl':H2 sl=some (.lst ((qs.map fun s=>((s:Nat):Int)).map V.int)):=by rw [hsl,List.map_map];rfl
   refine ⟨_,hsl',?_⟩
   refine qbr (fun c1=>?_) (fun c1=>?_)
   ·refine no _ (fun z=>?_) S2 t2
    rw [decide_eq_true ((qiC mem st).mpr z.2.2.1)] at c1
    cases c1
   have hin:0<=st/\Om.Rch (Om.nxR rows) st.toNat:=by
    refine (qiC mem st).mp ?_
    by_cases z:st∈qs.map fun s=>((s:Nat):Int)
    ·exact z
    ·rw [decide_eq_false z] at c1;exact absurd rfl c1
   refine ⟨_,qbE A2.hT,_,qbE A2.hU,?_⟩
   rw [lM_,lM_]
   refine qbr (fun c2=>?_) (fun c2=>?_)
   ·refine no _ (fun z=>?_) S2 t2
    rw [z.1] at c2
    simp [qjg,qf7] at c2
   have hl:xs.length=ys.length:=by
    by_cases z:xs.length=ys.length
    ·exact z
    ·exact absurd (by show (!decide (((xs.length:Nat):Int)=((ys.length:Nat):Int)))=true;rw [decide_eq_false (fun y=>z (by omega))];rfl) c2
   have g0:∀ {zs:List Int} {V0:Addr},H2 V0=some (.lst (zs.map V.int))->0 < zs.length->∃ z0,zs[0]? = some z0/\qen H2 (.ref V0) 0=some (.int z0):=fun {zs V0} hz lz=>⟨zs[0],gE_ lz,gl hz (by decide) (by rw [gM_];show Option.map V.int zs[0]? = _;rw [gE_ lz];rfl)⟩
   refine qeB (c1:=!(decide (0<=b) && decide (b < ((xs.length:Nat):Int)))) (c2:=decide (xs[0]? = ys[0]?)) (fun Q q=>?_) (fun hf Q q=>?_) ?_
   ·refine ⟨.int b,gt A2.an (by decide) rfl,?_⟩
    cases hb:decide (0<=b) with
    | true=>
     rw [hb] at q
     refine qem hb ⟨_,qbE A2.hT,?_⟩
     rw [lM_]
     exact q
    | false=>
     rw [hb] at q
     exact qak (by rw [hb];exact Bool.false_ne_true) q
   ·have hb:0<=b/\b < ((xs.length:Nat):Int):=by simpa using hf
    obtain ⟨x0,ex,gx⟩:=g0 A2.hT (by omega)
    obtain ⟨y0,ey,gy⟩:=g0 A2.hU (by omega)
    refine ⟨_,gx,_,gy,?_⟩
    rw [ex,ey] at q
    have e:decide (some x0=some y0)=decide (x0=y0):=by
     by_cases z:x0=y0
     ·rw [z,decide_eq_true rfl,decide_eq_true rfl]
     ·rw [decide_eq_false z,decide_eq_false fun y=>z (oI_ y)]
    rw [e] at q
    exact q
   refine qbr (fun h2=>?_) (fun h2=>?_)
   ·refine no _ (fun z=>?_) S2 t2
    obtain ⟨_,⟨z2,z3⟩,_,_,_,z6,_⟩:=z
    rw [decide_eq_true z2,decide_eq_true z3,decide_eq_false z6] at h2
    cases h2
   have hh:(0<=b/\b < ((xs.length:Nat):Int))/\xs[0]?≠ys[0]?:=by
    simp only [Bool.or_eq_true,Bool.not_eq_true',not_or,Bool.not_eq_false,Bool.and_eq_true,decide_eq_true_eq] at h2
    exact h2
   obtain ⟨⟨b0,b1⟩,ne0⟩:=hh
   have slt:st.toNat < rows.length:=Om.rch_ok ok _ hin.2
   have est:st=((st.toNat:Nat):Int):=by omega
   refine ⟨lZ_ rfl,fun pp hpp=>?_⟩
   have u3:=Same.upd (o:=.tup [.int st,.int st]) hpp
   have A3:=A2.same u3
   have hc3:DV (upd H2 pp (.tup [.int st,.int st])) cv (qaA k n rows):=(hc.monoT tb S2).mono u3
   have S3:=S2.trans u3.t
   have t3:=t2.mono u3
   refine ⟨k,n,rows,st.toNat,st.toNat,xs,ys,hc3,ok,by rw [qaa,<-est],slt,slt,A3.hT,A3.hU,hl,lx,rx,ry,fun H4 s4 na=>?_,fun L vs H4 s4 al hL dv=>?_⟩
   ·dsimp only [qai,qmM,qiW,tBU,tOp,tV,tC,qbv]
    refine qak (by simp) ?_
    exact no _ (fun z=>na z.2.2.2.2.2.2.1) (S3.trans s4.t) (t3.mono s4)
   ·have A4:=A3.same s4
    have vl:=qfu dv
    obtain ⟨pe,g1',g2'⟩:=qfv dv (i:=xs.length) (by omega)
    have last:qen H4 (.ref L) (-1)=some (.ref pe):=by
     rw [qcV hL]
     have hv:vs=vs.take xs.length++[.ref pe]:=by
      have h1:vs=vs.take xs.length++vs.drop xs.length:=(List.take_append_drop _ _).symm
      have h2:vs.drop xs.length=[.ref pe]:=by
       have h3:xs.length < vs.length:=by omega
       rw [List.drop_eq_getElem_cons h3,List.drop_of_length_le (by omega)]
       rw [gE_ h3] at g1'
       rw [oI_ g1']
      rw [h2] at h1
      exact h1
     rw [hv]
     exact qe1 _ _
    obtain ⟨pb,b2,b3⟩:=qfv dv (i:=b.toNat) (by omega)
    dsimp only [qai,qmM,qiW,tBU,tOp,tV,tC,qbv]
    refine qem (by simp) ?_
    refine ⟨.int b,gt A4.an (by decide) rfl,.ref pb,gl hL b0 b2,.ref pe,last,_,_,b3,g2',qbD _,qbD _,?_⟩
    rw [qgQ]
    exact q _ _ ⟨fun z=>⟨hl,⟨b0,b1⟩,hin,rx,ry,ne0,al,of_decide_eq_true z⟩,fun z=>decide_eq_true z.2.2.2.2.2.2.2⟩ (S3.trans s4.t) (t3.mono s4)
 ·exact h.elim
end
end K11
end
section
namespace K11
open PySem L2
abbrev qja:Stmt:=top 41
section
variable {P:Program} {w:World} {K:PySem.W.Frag} {mg:Str->Option Value} {base:Heap}
theorem scDraw:FnScope ["deck","many","pool","found","number"] ["deck","many"] (qad qja):=⟨rfl,rfl,rfl,by decide +kernel,rfl,by decide +kernel,by decide +kernel⟩
theorem qjO (D:FnX K mg "_law_draw" qja ["deck","many"]) (hlen:mg "len" = none):Can P w K mg base "_law_draw" 1 ["deck","many"] qa8:=by
 refine qag (k:=0) D scDraw (fun vs H Q E h=>?_) (fun f cdv A outer s H vs Q E hr h=>?_)
 ·unfold qa8 at h
  split at h
  ·rfl
  ·exact h.elim
 ·unfold qa8 at h
  split at h
  ·rename_i a many
   obtain ⟨F,hD,h0,h1,k⟩:=h
   obtain ⟨p,qs,n,ha,hp,hq0,hq63,hqs,hF⟩:=hD.ex
   have nd:=scDraw.nd
   refine ⟨_,(by walk_at "T.top"),?_⟩
   have hl:((qs.map V.ref).length:Int)=(qs.length:Int):=by simp
   have hm0:0<=n % ((qs.map V.ref).length:Int):=Int.emod_nonneg _ (by omega)
   have hm1:n % ((qs.map V.ref).length:Int) < ((qs.map V.ref).length:Int):=Int.emod_lt_of_pos _ (by omega)
   have hi:(n % ((qs.map V.ref).length:Int)).toNat < qs.length:=by omega
   obtain ⟨q,hq⟩ : ∃ q,qs[(n % ((qs.map V.ref).length:Int)).toNat]? = some q:=⟨_,gE_ hi⟩
   have hqm:q∈qs:=mO_ hq
   obtain ⟨c,fl,m,hqv⟩:=hqs q hqm
   refine ⟨.ref p,gl ha (by decide) rfl,.int n,gl ha (by decide) rfl,.ref p,gl ha (by decide) rfl,_,qbE hp,(by omega:(0:Int) < ((qs.map V.ref).length:Int)),.ref q,gl hp hm0 (by rw [gM_,hq];rfl),?_⟩
   refine ⟨.int n,gl ha (by decide) rfl,_,1,ha,rfl,?_⟩
   have qa:q≠a:=qax hqv ha qch
   have h1q:∀ o,upd H a o q=some (.lst [.int c,.int fl,.int m]):=fun o=>by rw [qab qa];exact hqv
   dsimp only [qfr,qfs]
   refine qiV (c1:=decide (fl=1)) (c2:=decide (0 < c)) (fun Q q=>⟨.int fl,gl (h1q _) (by decide) rfl,q⟩) (fun _ Q q=>⟨.int c,gl (h1q _) (by decide) rfl,q⟩) ?_
   refine qbr (fun h2=>?_) (fun h2=>?_)
   ·refine ⟨.int c,gl (h1q _) (by decide) rfl,h0,?_⟩
    refine ⟨.int c,gl (h1q _) (by decide) rfl,⟨h0,h1⟩,_,0,h1q _,rfl,?_⟩
    obtain ⟨d1,d2⟩:=qdE (n':=n+1) (c':=c / many) (f':=fl) (m':=m) ha hp hq0 hq63 hqs hF hqm
    exact k _ _ (Int.emod_nonneg _ (by omega)) (Int.emod_lt_of_pos _ h0) d1 d2
   ·refine ⟨.int m,gl (h1q _) (by decide) rfl,_,2,h1q _,rfl,?_⟩
    have h2q:∀ H':Hp,upd H' q (.lst ([V.int c,V.int fl,V.int m].set 2 (V.int (m+1)))) q=some (.lst [.int c,.int fl,.int (m+1)]):=fun H'=>qaa
    refine ⟨.int c,gl (h2q _) (by decide) rfl,(by decide:(0:Int) < 99999999977),.int (m+1),gl (h2q _) (by decide) rfl,.inl ⟨by decide,by decide⟩,(by decide:(0:Int) < 99999999947),?_⟩
    have b1:=Int.emod_nonneg (c % 99999999977+700001 * (m+1)) (show (99999999947:Int)≠0 by decide)
    have b2:=Int.emod_lt_of_pos (c % 99999999977+700001 * (m+1)) (show (0:Int) < 99999999947 by decide)
    generalize (c % 99999999977+700001 * (m+1)) % 99999999947=x1 at b1 b2 ⊢
    refine ⟨.inl ⟨by omega,by omega⟩,(by decide:(0:Int) < 99999999821),?_⟩
    have b3:=Int.emod_nonneg (x1 * x1) (show (99999999821:Int)≠0 by decide)
    have b4:=Int.emod_lt_of_pos (x1 * x1) (show (0:Int) < 99999999821 by decide)
    generalize (x1 * x1) % 99999999821=x2 at b3 b4 ⊢
    refine ⟨.inl ⟨by omega,by omega⟩,(by decide:(0:Int) < 9999999967),?_⟩
    refine ⟨⟨by decide,by decide⟩,h0,?_⟩
    obtain ⟨d1,d2⟩:=qdE (n':=n+1) (c':=c) (f':=fl) (m':=m+1) ha hp hq0 hq63 hqs hF hqm
    exact k _ _ (Int.emod_nonneg _ (by omega)) (Int.emod_lt_of_pos _ h0) d1 d2
  ·exact h.elim
end
end K11
end
section
namespace K11
open PySem L2
section
variable {P:Program} {w:World} {K:PySem.W.Frag} {mg:Str->Option Value} {base:Heap}
abbrev qjb:Stmt:=top 40
def qfI (K:PySem.W.Frag):Sp:=fun vs H Q _=>match vs with
 | [.ref a]=>∃ ns:List Int,SqL K H a (ns.map V.int)/\ns.length<=63/\∀ d F H',Same H H'->Deck F H' d->(∀ b,F b->H b=none)->Q (.ref d) H'
 | _=>False
theorem scDeck:FnScope ["script","pools","k","cell"] ["script"] (qad qjb):=⟨rfl,rfl,rfl,by decide +kernel,rfl,by decide +kernel,by decide +kernel⟩
local macro_rules | `(tactic| walk_at "T.b")=>`(tactic| ((with_reducible refine' qkc ?a0 ?a9 ?a1);(case a0=>with_reducible assumption);(case a9=>rfl);(case a1=>walk_at "T.a")))
local macro_rules | `(tactic| walk_at "T.ty")=>`(tactic| ((with_reducible refine' qlX ?a1 ?a2);(case a1=>walk_at "T.e");(case a2=>walk_at "T.e")))
theorem qjP (D:FnX K mg "_law_deck" qjb ["script"]) (g1:mg "len" = none) (g2:mg "max" = none) (g3:mg "min" = none) (g4:mg "range" = none) (g5:mg "int" = none):Can P w K mg base "_law_deck" 1 ["script"] (qfI K):=by
 refine qag (k:=0) D scDeck (fun vs H Q E h=>?_) (fun f cdv A outer s H vs Q E hr h=>?_)
 all_goals
  unfold qfI at h
  split at h
 ·rfl
 ·exact h.elim
 ·rename_i a
  obtain ⟨ns,hS,hl,q⟩:=h
  have nd:=scDeck.nd
  refine ⟨_,(by walk_at "T.top"),?_⟩
  refine ⟨Nat.zero_le _,fun pl hpl=>?_⟩
  have S1:SqL K (upd H pl (.lst [])) a (ns.map V.int):=hS.same (Same.upd hpl)
  refine ⟨_,S1,?_⟩
  have hl':(((ns.map V.int).length:Nat):Int)=(ns.length:Int):=by simp
  refine ⟨?_,?_,qaD (qaC 0 _) (fun i σ H2=>∃ v2 v3 qs,σ=[some (.ref a),some (.ref pl),v2,v3]/\Same H H2/\H2 pl=some (.lst (qs.map V.ref))/\qs.length=i/\(∀ q∈qs,H q=none/\∃ c f m,H2 q=some (.lst [.int c,.int f,.int m])))
   ⟨none,none,[],rfl,Same.upd hpl,qaa,rfl,by simp⟩ (fun _ _ _ _ _=>trivial) ?_ ?_⟩
  ·split<;>split<;>omega
  ·split<;>split<;>omega
  ·rintro i x σ H2 hi hx ⟨v2,v3,qs,rfl,s2,h2,hqi,hq⟩
   have hi':i<=62:=by
    rw [lM_,List.length_range] at hi
    split at hi<;>split at hi<;>omega
   have ex:x = .int (0+(i:Nat)):=by
    rw [lM_,List.length_range] at hi
    rw [gM_,List.getElem?_range hi] at hx
    exact (oI_ hx).symm
   subst ex
   refine ⟨_,s2.seq hS,qbr (fun h1=>?_) (fun h1=>?_)⟩
   ·have h1':i < ns.length:=by
     have:(0:Int)+(i:Nat) < (((ns.map V.int).length:Nat):Int):=of_decide_eq_true h1
     rw [hl'] at this
     omega
    refine ⟨_,.int ns[i],s2.seq hS,qc1 (by omega) (by rw [gM_,show ((0:Int)+(i:Nat)).toNat=i by omega,gE_ h1'];rfl),?_⟩
    refine ⟨⟨_,rfl,h2⟩,⟨by decide,by decide,by decide⟩,.inl ⟨by decide,by decide⟩,lZ_ rfl,fun p hp=>?_⟩
    have dl:pl≠p:=qac h2 hp
    have hp0:H p=none:=s2.free hp
    refine ⟨_,(qab dl).trans h2,by rw [lM_];exact lt_line (by omega),some _,some _,qs++[p],rfl,fun y o e=>?_,by rw [qaa,List.map_append];rfl,by simp [hqi],fun y hy=>?_⟩
    ·rw [qab (qac e hpl)]
     exact Same.upd hp _ _ (s2 _ _ e)
    ·rcases mA_ hy with hy | hy
     ·obtain ⟨e0,c,f',m,e⟩:=hq y hy
      have ny:y≠pl:=qax e h2 (qa3 qs)
      exact ⟨e0,c,f',m,by rw [qab ny];exact Same.upd hp _ _ e⟩
     ·have:y=p:=by simpa using hy
      subst this
      exact ⟨hp0,_,_,_,by rw [qab dl.symm,qaa]⟩
   ·refine ⟨⟨_,rfl,h2⟩,⟨by decide,by decide,by decide⟩,.inl ⟨by decide,by decide⟩,lZ_ rfl,fun p hp=>?_⟩
    have dl:pl≠p:=qac h2 hp
    have hp0:H p=none:=s2.free hp
    refine ⟨_,(qab dl).trans h2,by rw [lM_];exact lt_line (by omega),some _,some _,qs++[p],rfl,fun y o e=>?_,by rw [qaa,List.map_append];rfl,by simp [hqi],fun y hy=>?_⟩
    ·rw [qab (qac e hpl)]
     exact Same.upd hp _ _ (s2 _ _ e)
    ·rcases mA_ hy with hy | hy
     ·obtain ⟨e0,c,f',m,e⟩:=hq y hy
      have ny:y≠pl:=qax e h2 (qa3 qs)
      exact ⟨e0,c,f',m,by rw [qab ny];exact Same.upd hp _ _ e⟩
     ·have:y=p:=by simpa using hy
      subst this
      exact ⟨hp0,_,_,_,by rw [qab dl.symm,qaa]⟩
  ·rintro σ H2 ⟨v2,v3,qs,rfl,s2,h2,hqi,hq⟩
   rw [lM_,List.length_range] at hqi
   have hn:0 < qs.length/\qs.length<=63:=by
    rw [hqi]
    split<;>split<;>omega
   refine ⟨lZ_ rfl,fun d hd=>?_⟩
   have hd0:H d=none:=s2.free hd
   refine q d (fun b=>b=d\/b=pl\/b∈qs) _ (s2.trans (Same.upd hd)) ⟨pl,qs,0,qaa,Same.upd hd _ _ h2,hn.1,hn.2,fun y hy=>?_,fun b=>Iff.rfl⟩ fun b hb=>?_
   ·obtain ⟨_,c,f',m,e⟩:=hq y hy
    exact ⟨c,f',m,Same.upd hd _ _ e⟩
   ·rcases hb with rfl | rfl | hb
    ·exact hd0
    ·exact hpl
    ·exact (hq b hb).1
 ·exact h.elim
end
end K11
end
section
namespace K11
open PySem L2
section
variable {P:Program} {w:World} {K:PySem.W.Frag} {mg:Str->Option Value} {base:Heap}
abbrev qm0:Stmt:=top 42
def qi2:Sp:=fun vs H Q _=>match vs with
 | [.ref a,.int n]=>∃ (F:Addr->Prop) (m:Nat),n=(m:Int)/\1<=m/\m<=6/\Deck F H a/\∀ p (ws:List (List Bool)) H',Deck F H' a->Off F H H'->H p=none->H' p=some (.lst (ws.map fun w=>V.str (bs w)))->1<=ws.length->ws.length<=10->(∀ w∈ws,w.length=m)->Q (.ref p) H'
 | _=>False
theorem scFew:FnScope ["deck","n","word","found","k","at"] ["deck","n"] (qad qm0):=⟨rfl,rfl,rfl,by decide +kernel,rfl,by decide +kernel,by decide +kernel⟩
local macro_rules | `(tactic| walk_at "T.c")=>`(tactic| (have ndc:(["k","deck"]:List Str).Nodup:=(by decide +kernel));((with_reducible refine' qaH ["k","deck"] [0] ?b1 ?b2 (fun cl C s H fp=>?b3) (fun cl C s H fp=>?b4) (fun cl C s H fp=>?b5));(case b1=>exact ndc);(case b2=>walk_at "T.i");(case b3=>walk_at "T.g");(case b4=>walk_at "T.pf");(case b5=>walk_at "T.e")))
theorem qlL (D:FnX K mg "_law_few" qm0 ["deck","n"]) (g4:mg "range" = none) (g5:mg "int" = none) (c1:Can P w K mg base "_law_draw" 1 ["deck","many"] qa8):Can P w K mg base "_law_few" 2 ["deck","n"] qi2:=by
 refine qag (k:=1) D scFew (fun vs H Q E h=>?_) (fun f cdv A outer s H vs Q E hr h=>?_)
 all_goals
  unfold qi2 at h
  split at h
 ·rfl
 ·exact h.elim
 ·rename_i a n
  obtain ⟨F,m,rfl,m1,m6,hD,q⟩:=h
  have nd:=scFew.nd
  refine ⟨_,(by walk_at "T.top"),?_⟩
  refine ⟨rfl,⟨by omega,by omega,fun D1 hD1=>?_⟩⟩
  have nF:¬ F D1:=hD.new hD1
  refine qaq (qaC 0 _) (fun i τ H2 ys=>(∃ v,τ=[v,some (.ref a)])/\Deck F H2 a/\Off F H H2/\H2 D1=some (.lst ys)/\∃ w:List Bool,w.length=i/\ys=w.map fun b=>V.str (bs [b])) (by simp;exact qae (by omega)) ⟨⟨none,rfl⟩,hD.same (Same.upd hD1),(Same.upd hD1).off,qaa,[],rfl,rfl⟩ ?_ ?_ ?_
  ·rintro i τ H2 ys hi ⟨_,_,_,h2,w',hw,rfl⟩
   exact ⟨trivial,h2,by simp [hw]⟩
  ·rintro i x τ H2 ys hi hx ⟨⟨v,rfl⟩,d2,o2,h2,w',hw,rfl⟩
   refine ⟨F,d2,by decide,by decide,fun r H3 r0 r1 d3 o3=>?_⟩
   refine ⟨_,g01 r0 r1,o3 _ _ h2 nF,⟨_,rfl⟩,d3.own nF,(o2.trans o3).upd_own hD1,qaa,w'++[decide (r=1)],by simp [hw],by simp⟩
  ·rintro τ H2 ys ⟨_,d2,o2,h2,w',hw,rfl⟩
   have hw':w'.length=m:=by rw [hw];simp
   refine ⟨w'.map fun b=>bs [b],by rw [h2,List.map_map];rfl,?_,?_⟩
   ·have h3:(("" : Str)).length=0:=by decide +kernel
    have h4:((w'.map fun b=>bs [b]).map (·.length)).sum=w'.length:=by
     rw [List.map_map]
     have:(List.map ((fun x:Str=>x.length) ∘ fun b=>bs [b]) w')=List.replicate w'.length 1:=by
      rw [List.eq_replicate_iff]
      refine ⟨by simp,fun b hb=>?_⟩
      obtain ⟨c,_,rfl⟩:=mM_ hb
      exact qaI [c]
     rw [this]
     simp
    rw [h4,h3]
    simp
    omega
   rw [qkn]
   refine ⟨lZ_ rfl,fun fl hfl=>?_⟩
   have nfl:H fl=none:=by
    cases e:H fl with
    | none=>rfl
    | some o=>
     by_cases hf:F fl
     ·obtain ⟨o',e'⟩:=d2.there hf
      rw [hfl] at e';cases e'
     ·rw [o2 _ _ e hf] at hfl;cases hfl
   have nFl:¬ F fl:=hD.new nfl
   refine ⟨F,d2.own nFl,by decide,by decide,fun r H3 r0 r1 d3 o3=>?_⟩
   refine ⟨by omega,by omega,qaD (qaC 0 _) (fun i σ H4=>∃ v4 v5 ws,σ=[some (.ref a),some (.int m),some (.str (bs w')),some (.ref fl),v4,v5]/\Deck F H4 a/\Off F H H4/\H4 fl=some (.lst (ws.map fun w=>V.str (bs w)))/\ws.length=i+1/\∀ w∈ws,w.length=m)
    ⟨none,none,[w'],rfl,d3,(o2.upd_own nfl).trans o3,o3 _ _ qaa nFl,rfl,by simpa using hw'⟩ (fun _ _ _ _ _=>trivial) ?_ ?_⟩
   ·rintro i x σ H4 hi hx ⟨v4,v5,ws,rfl,d4,o4,h4,hl4,hw4⟩
    have hi':i < (1+r).toNat:=by simpa using hi
    refine ⟨F,d4,by omega,by omega,fun r2 H5 r20 r21 d5 o5=>?_⟩
    have hr2:r2.toNat < w'.length:=by omega
    obtain ⟨b,hb⟩ : ∃ b,w'[r2.toNat]? = some b:=⟨_,gE_ hr2⟩
    have h5:=o5 _ _ h4 nFl
    have wl:w'.length<=sizeLine:=qae (by omega)
    have e1:Txt.slice (bs w') none (some r2)=bs (w'.take r2.toNat):=qnA r20 (by omega)
    have e2:Txt.slice (bs w') (some (r2+1)) none=bs (w'.drop (r2+1).toNat):=qko (by omega) (by omega)
    refine ⟨⟨_,rfl,h5⟩,by rw [qaI];exact wl,_,gs wl r20 hb,b,rfl,_,g10 b,?_,by rw [qaI];exact wl,?_,_,h5,?_,?_⟩
    ·rw [e1,qaI,qaI];exact qae (by simp;omega)
    ·rw [e1,e2,qdM,qaI,qaI];exact qae (by simp;omega)
    ·rw [lM_,hl4];exact lt_line (by omega)
    rw [e1,e2,qdM,qdM]
    refine ⟨_,_,ws++[w'.take r2.toNat++[!b]++w'.drop (r2+1).toNat],rfl,d5.own nFl,(o4.trans o5).upd_own nfl,by rw [qaa,List.map_append];rfl,by simp [hl4],fun y hy=>?_⟩
    rcases mA_ hy with hy | hy
    ·exact hw4 y hy
    ·have:y=w'.take r2.toNat++[!b]++w'.drop (r2+1).toNat:=by simpa using hy
     rw [this]
     simp
     omega
   ·rintro σ H4 ⟨v4,v5,ws,rfl,d4,o4,h4,hl4,hw4⟩
    have hn:((List.range (1+r).toNat).map fun i:Nat=>V.int (0+(i:Nat))).length=(1+r).toNat:=by simp
    rw [hn] at hl4
    exact q fl ws H4 d4 o4 nfl h4 (by omega) (by omega) hw4
 ·exact h.elim
end
end K11
end
section
namespace K11
open PySem L2
structure WM (F:Addr->Prop) (H:Hp) (a few ev fd:Addr) (fws evs:List (List Bool)) (m i:Nat) (H2:Hp) (lf:Addr):Prop where
 d0:Deck F H a
 d:Deck F H2 a
 o:Off F H H2
 hfew:H few=some (WS fws)
 nfew:¬ F few
 hev:H2 ev=some (WS evs)
 hfd:∃ fw,H2 fd=some (WS fw)/\fw.length=i/\∀ w∈fw,w.length=m
 hlf:∃ lw,H2 lf=some (WS lw)/\lw.length<=64/\∀ w∈lw,w.length=m
 nev:H ev=none
 nfd:H fd=none
 nlf:H lf=none
 ef:ev≠fd
 el:ev≠lf
 fl:fd≠lf
section
variable {F:Addr->Prop} {H H2 H3:Hp} {a few ev fd lf:Addr} {fws evs:List (List Bool)} {m i:Nat}
theorem WM.draw (M:WM F H a few ev fd fws evs m i H2 lf) (d:Deck F H3 a) (o:Off F H2 H3):WM F H a few ev fd fws evs m i H3 lf:=by
 obtain ⟨d0,d2,o2,f1,f2,e1,⟨fw,e2,e3⟩,⟨lw,e4,e5⟩,n1,n2,n3,x1,x2,x3⟩:=M
 exact ⟨d0,d,o2.trans o,f1,f2,o _ _ e1 (d0.new n1),⟨fw,o _ _ e2 (d0.new n2),e3⟩,⟨lw,o _ _ e4 (d0.new n3),e5⟩,n1,n2,n3,x1,x2,x3⟩
theorem WM.new (M:WM F H a few ev fd fws evs m i H2 lf) {p:Addr} {ob:HO} (hp:H2 p=none):WM F H a few ev fd fws evs m i (upd H2 p ob) lf:=M.draw (M.d.same (Same.upd hp)) (Same.upd hp).off
end
section
variable {P:Program} {w:World} {K:PySem.W.Frag} {mg:Str->Option Value} {base:Heap}
abbrev qfM:Stmt:=top 43
def qdU:Sp:=fun vs H Q _=>match vs with
 | [.ref a,.int n,.int lt,.int style,.ref few]=>∃ (F:Addr->Prop) (m L:Nat) (fws:List (List Bool)),n=(m:Int)/\1<=m/\m<=6/\lt=(L:Int)/\L<=8/\Deck F H a/\H few=some (WS fws)/\¬ F few/\1<=fws.length/\fws.length<=10/\(∀ w∈fws,w.length=m) ∧
   ∀ p (ws:List (List Bool)) H',Deck F H' a->Off F H H'->H p=none->H' p=some (WS ws)->ws.length=L->(∀ w∈ws,w.length=m)->Q (.ref p) H'
 | _=>False
theorem scWords:FnScope ["deck","n","letters_there","style","few","every","k","found","left","word"] ["deck","n","letters_there","style","few"] (qad qfM):=⟨rfl,rfl,rfl,by decide +kernel,rfl,by decide +kernel,by decide +kernel⟩
local macro_rules | `(tactic| walk_at "T.c")=>`(tactic| (have ndc:(["word"]:List Str).Nodup:=(by decide +kernel));((with_reducible refine' qaH ["word"] [] ?b1 ?b2 (fun cl C s H fp=>?b3) (fun cl C s H fp=>?b4) (fun cl C s H fp=>?b5));(case b1=>exact ndc);(case b2=>walk_at "T.i");(case b3=>walk_at "T.g");(case b4=>walk_at "T.pf");(case b5=>walk_at "T.e")))
theorem qhE (D:FnX K mg "_law_words" qfM ["deck","n","letters_there","style","few"]) (g4:mg "range" = none) (g5:mg "len" = none) (g6:mg "list" = none) (c1:Can P w K mg base "_law_draw" 1 ["deck","many"] qa8):Can P w K mg base "_law_words" 2 ["deck","n","letters_there","style","few"] qdU:=by
 refine qag (k:=1) D scWords (fun vs H Q E h=>?_) (fun f cdv A outer s H vs Q E hr h=>?_)
 all_goals
  unfold qdU at h
  split at h
 ·rfl
 ·exact h.elim
 ·rename_i a n lt style few
  obtain ⟨F,m,L,fws,rfl,m1,m6,rfl,L8,hD,hfew,nfew,fw1,fw10,fwl,q⟩:=h
  have nd:=scWords.nd
  refine ⟨_,(by walk_at "T.top"),?_⟩
  refine ⟨lZ_ rfl,fun ev0 hev0=>?_⟩
  try dsimp only [qai,qaG]
  refine qdf (fun σ H2=>∃ v6 ev evs,σ=[some (.ref a),some (.int m),some (.int L),some (.int style),some (.ref few),some (.ref ev),v6,none,none,none]/\Same H H2/\H ev=none/\H2 ev=some (WS evs)/\evs.length=2 ^ m/\∀ w∈evs,w.length=m) ?_ (fun fin=>?_)
  ·rintro σ H2 ⟨v6,ev,evs,rfl,s2,nev,hev,evl,evw⟩
   have p64:evs.length<=64:=by
    rw [evl]
    calc 2 ^ m<=2 ^ 6:=Nat.pow_le_pow_right (by decide) m6
     _<=64:=by decide
   have p1:1<=evs.length:=by rw [evl];exact Nat.one_le_two_pow
   refine ⟨Nat.zero_le _,fun fd hfd=>⟨Nat.zero_le _,fun lf0 hlf0=>?_⟩⟩
   have nfd:H fd=none:=s2.free hfd
   have nlf0:H lf0=none:=s2.free ((Same.upd hfd).free hlf0)
   have M0:WM F H a few ev fd fws evs m 0 (upd (upd H2 fd (.lst [])) lf0 (.lst [])) lf0:=by
    have sx:Same H2 (upd (upd H2 fd (.lst [])) lf0 (.lst [])):=(Same.upd hfd).trans (Same.upd hlf0)
    have xfd:fd≠lf0:=fun z=>by rw [z] at hlf0;rw [qaa] at hlf0;cases hlf0
    exact ⟨hD,hD.same (s2.trans sx),(s2.trans sx).off,hfew,nfew,sx _ _ hev,⟨[],by rw [qab xfd,qaa];rfl,rfl,by simp⟩,⟨[],qaa,by simp,by simp⟩,nev,nfd,nlf0,qac hev hfd,qac (Same.upd hfd _ _ hev) hlf0,xfd⟩
   refine ⟨by omega,by omega,qaD (qaC 0 _) (fun i σ H3=>∃ v6 v9 lf,σ=[some (.ref a),some (.int m),some (.int L),some (.int style),some (.ref few),some (.ref ev),v6,some (.ref fd),some (.ref lf),v9]/\WM F H a few ev fd fws evs m i H3 lf)
    ⟨v6,none,lf0,rfl,M0⟩ (fun _ _ _ _ _=>trivial) ?_ ?_⟩
   ·rintro i x σ H3 hi hx ⟨v6',v9,lf,rfl,M⟩
    have hi':i < L:=by simpa using hi
    try dsimp only [qai,qaG]
    refine qdf (fun σ H4=>∃ lf lw,σ=[some (.ref a),some (.int m),some (.int L),some (.int style),some (.ref few),some (.ref ev),some x,some (.ref fd),some (.ref lf),v9]/\WM F H a few ev fd fws evs m i H4 lf/\H4 lf=some (WS lw)/\1<=lw.length) ?_ (fun fin=>?_)
    ·rintro σ H4 ⟨lf,lw,rfl,M,hlw,lw1⟩
     obtain ⟨lw',hlw',lw64,lww⟩:=M.hlf
     obtain rfl:lw=lw':=qms (oI_ (hlw.symm.trans hlw'))
     refine ⟨_,qbE M.hev,F,M.d,(by rw [qaB];omega),(by rw [qaB];omega),fun r H5 r0 r1 d5 o5=>?_⟩
     have M5:=M.draw d5 o5
     rw [qaB] at r1
     obtain ⟨w0,hw0⟩ : ∃ w0,evs[r.toNat]? = some w0:=⟨_,gE_ (by omega)⟩
     refine ⟨_,gl M5.hev r0 (qeu hw0),?_⟩
     have h5lf:H5 lf=some (WS lw):=o5 _ _ hlw (M.d0.new M.nlf)
     try dsimp only [qai,qaG]
     refine qdf (fun σ H6=>∃ lf w1,σ=[some (.ref a),some (.int m),some (.int L),some (.int style),some (.ref few),some (.ref ev),some x,some (.ref fd),some (.ref lf),some (.str (bs w1))]/\WM F H a few ev fd fws evs m i H6 lf/\w1.length=m) ?_ (fun fin=>?_)
     ·rintro σ H6 ⟨lf,w1,rfl,M6,hw1⟩
      try dsimp only [qai,qaG]
      refine qdf (fun σ H7=>∃ lf w1,σ=[some (.ref a),some (.int m),some (.int L),some (.int style),some (.ref few),some (.ref ev),some x,some (.ref fd),some (.ref lf),some (.str (bs w1))]/\WM F H a few ev fd fws evs m i H7 lf/\w1.length=m) ?_ (fun fin=>?_)
      ·rintro σ H7 ⟨lf,w1,rfl,M7,hw1⟩
       try dsimp only [qai,qaG]
       refine qdf (fun σ H7=>∃ lf w1,σ=[some (.ref a),some (.int m),some (.int L),some (.int style),some (.ref few),some (.ref ev),some x,some (.ref fd),some (.ref lf),some (.str (bs w1))]/\WM F H a few ev fd fws evs m i H7 lf/\w1.length=m) ?_ (fun fin=>?_)
       ·rintro σ H8 ⟨lf,w1,rfl,M8,hw1⟩
        obtain ⟨fw,hfw,fwi,fww⟩:=M8.hfd
        refine ⟨⟨_,rfl,hfw⟩,_,hfw,by rw [qaB];exact lt_line (by omega),some x,_,lf,rfl,?_⟩
        obtain ⟨d0,d2,o2,f1,f2,e1,_,⟨lw,e4,e5⟩,n1,n2,n3,x1,x2,x3⟩:=M8
        refine ⟨d0,d2.own (d0.new n2),o2.upd_own n2,f1,f2,by rw [qab x1];exact e1,⟨fw++[w1],by rw [qaa];unfold WS;rw [List.map_append];rfl,by simp [fwi],fun y hy=>?_⟩,⟨lw,by rw [qab x3.symm];exact e4,e5⟩,n1,n2,n3,x1,x2,x3⟩
        rcases mA_ hy with hy | hy
        ·exact fww y hy
        ·have:y=w1:=by simpa using hy
         rw [this];exact hw1
       ·refine qbr (fun h3=>?_) (fun h3=>fin _ _ ⟨lf,w1,rfl,M7,hw1⟩)
        refine ⟨_,qbE (M7.o _ _ M7.hfew M7.nfew),F,M7.d,(by rw [qaB];omega),(by rw [qaB];omega),fun r H8 r0 r1 d8 o8=>?_⟩
        rw [qaB] at r1
        obtain ⟨w2,hw2⟩ : ∃ w2,fws[r.toNat]? = some w2:=⟨_,gE_ (by omega)⟩
        exact ⟨_,gl (o8 _ _ (M7.o _ _ M7.hfew M7.nfew) M7.nfew) r0 (qeu hw2),fin _ _ ⟨lf,w2,rfl,M7.draw d8 o8,fwl _ (mO_ hw2)⟩⟩
      ·dsimp only [qfs,qaG,qky]
       refine qbr (fun h3=>?_) (fun h3=>qdu (fin _ _ ⟨lf,w1,rfl,M6,hw1⟩))
       refine ⟨Nat.zero_le _,fun p hp=>?_⟩
       have M7:=M6.new (ob:=.lst []) hp
       obtain ⟨fw,hfw,fwi,fww⟩:=M7.hfd
       refine ⟨_,.list [],qkC hfw,.lst qaa .nil,qc2 _,qcs,?_⟩
       rw [qgR]
       refine qbr (fun h4=>?_) (fun h4=>qdu (fin _ _ ⟨lf,w1,rfl,M7,hw1⟩))
       have fw1':1<=fw.length:=by
        cases fw with
        | nil=>simp at h4
        | cons y r=>simp
       refine ⟨F,M7.d,by decide,by decide,fun r H8 r0 r1 d8 o8=>?_⟩
       have M8:=M7.draw d8 o8
       have hfw8:H8 fd=some (WS fw):=o8 _ _ hfw (M7.d0.new M7.nfd)
       refine qbr (fun h5=>?_) (fun h5=>fin _ _ ⟨lf,w1,rfl,M8,hw1⟩)
       refine ⟨_,qbE hfw8,F,M8.d,(by rw [qaB];omega),(by rw [qaB];omega),fun r H9 r0 r1 d9 o9=>?_⟩
       rw [qaB] at r1
       obtain ⟨w2,hw2⟩ : ∃ w2,fw[r.toNat]? = some w2:=⟨_,gE_ (by omega)⟩
       exact ⟨_,gl (o9 _ _ hfw8 (M7.d0.new M7.nfd)) r0 (qeu hw2),fin _ _ ⟨lf,w2,rfl,M8.draw d9 o9,fww _ (mO_ hw2)⟩⟩
     ·refine qbr (fun h3=>?_) (fun h3=>fin _ _ ⟨lf,w0,rfl,M5,evw _ (mO_ hw0)⟩)
      refine ⟨⟨_,rfl,h5lf⟩,_,qbE h5lf,F,M5.d,(by rw [qaB];omega),(by rw [qaB];omega),fun r H6 r0 r1 d6 o6=>?_⟩
      rw [qaB] at r1
      have h6lf:H6 lf=some (WS lw):=o6 _ _ h5lf (M.d0.new M.nlf)
      obtain ⟨w2,hw2⟩ : ∃ w2,lw[r.toNat]? = some w2:=⟨_,gE_ (by omega)⟩
      have lwl:lw.length<=64/\∀ w∈lw,w.length=m:=⟨lw64,lww⟩
      refine ⟨_,_,h6lf,r0,(by omega),qeu hw2,fin _ _ ⟨lf,w2,rfl,?_,lwl.2 _ (mO_ hw2)⟩⟩
      obtain ⟨d0,d2,o2,f1,f2,e1,⟨fw,e2,e3⟩,_,n1,n2,n3,x1,x2,x3⟩:=M5.draw d6 o6
      refine ⟨d0,d2.own (d0.new n3),o2.upd_own n3,f1,f2,by rw [qab x2];exact e1,⟨fw,by rw [qab x3];exact e2,e3⟩,⟨lw.eraseIdx r.toNat,by rw [qaa];unfold WS;rw [qdq],?_,fun y hy=>lwl.2 y (List.mem_of_mem_eraseIdx hy)⟩,n1,n2,n3,x1,x2,x3⟩
      exact Nat.le_trans (qcd _ _) lwl.1
    ·obtain ⟨lw,hlw,lw64,lww⟩:=M.hlf
     refine ⟨Nat.zero_le _,fun p hp=>?_⟩
     have M4:=M.new (ob:=.lst []) hp
     have hlw4:upd H3 p (.lst []) lf=some (WS lw):=Same.upd hp _ _ hlw
     refine ⟨_,.list [],qkC hlw4,.lst qaa .nil,qc2 _,qcs,?_⟩
     rw [qgR]
     refine qbr (fun h1=>?_) (fun h1=>fin _ _ ⟨lf,lw,rfl,M4,hlw4,?_⟩)
     ·refine ⟨_,.inl M4.hev,fun lf2 hlf2=>fin _ _ ⟨lf2,evs,rfl,?_,qaa,p1⟩⟩
      have M5:=M4.new (ob:=WS evs) hlf2
      obtain ⟨d0,d2,o2,f1,f2,e1,⟨fw,e2,e3⟩,_,n1,n2,n3,x1,x2,x3⟩:=M5
      obtain ⟨fw',e2',_⟩:=M4.hfd
      have nl2:H lf2=none:=by
       cases e:H lf2 with
       | none=>rfl
       | some o=>
        by_cases hf:F lf2
        ·obtain ⟨o',e'⟩:=M4.d.there hf
         rw [hlf2] at e';cases e'
        ·rw [M4.o _ _ e hf] at hlf2;cases hlf2
      exact ⟨d0,d2,o2,f1,f2,e1,⟨fw,e2,e3⟩,⟨evs,qaa,p64,evw⟩,n1,n2,nl2,x1,qac M4.hev hlf2,qac e2' hlf2⟩
     ·cases lw with
      | nil=>simp at h1
      | cons y r=>simp
   ·rintro σ H3 ⟨v6',v9,lf,rfl,M⟩
    obtain ⟨fw,hfw,fwi,fww⟩:=M.hfd
    have hn:((List.range ((L:Int)).toNat).map fun i:Nat=>V.int (0+(i:Nat))).length=L:=by simp
    rw [hn] at fwi
    exact q fd fw H3 M.d M.o M.nfd hfw fwi fww
  ·refine ⟨by omega,by omega,qaD (qaC 0 _) (fun i σ H2=>∃ v6 ev evs,σ=[some (.ref a),some (.int m),some (.int L),some (.int style),some (.ref few),some (.ref ev),v6,none,none,none]/\Same H H2/\H ev=none/\H2 ev=some (WS evs)/\evs.length=2 ^ i/\(∀ w∈evs,w.length=i)/\i<=m)
    ⟨none,ev0,[[]],rfl,Same.upd hev0,hev0,by rw [qaa,qmk];rfl,rfl,by simp,Nat.zero_le _⟩ (fun _ _ _ _ _=>trivial) ?_ ?_⟩
   ·rintro i x σ H2 hi hx ⟨v6,ev,evs,rfl,s2,nev,hev,evl,evw,him⟩
    have hi':i < m:=by simpa using hi
    have p64:evs.length<=64:=by
     rw [evl]
     calc 2 ^ i<=2 ^ 6:=Nat.pow_le_pow_right (by decide) (by omega)
      _<=64:=by decide
    have step:∀ (b:Bool) (sgn:Str),sgn=bs [b]->∀ (H3:Hp) (D1:Addr) (ys:List V) (i':Nat) (x:V),(evs.map fun w=>V.str (bs w))[i']? = some x->∀ C:VK,C ((fun x=>match x with | V.str z=>V.str (z++sgn) | _=>x) x) (upd H3 D1 (.lst ys))->qjn x (.str sgn) (upd H3 D1 (.lst ys)) C:=by
     intro b sgn hb H3 D1 ys i' x hx C c
     rw [gM_] at hx
     obtain ⟨w0,hw0,rfl⟩:=Option.map_eq_some_iff.mp hx
     refine ⟨?_,c⟩
     rw [hb,qaI,qaI,evw _ (mO_ hw0)]
     exact qae (by simp;omega)
    have outl:∀ (b:Bool) (sgn:Str),sgn=bs [b]->(evs.map fun w=>V.str (bs w)).map (fun x=>match x with | V.str z=>V.str (z++sgn) | _=>x)=(evs.map fun w=>w++[b]).map fun w=>V.str (bs w):=by
     intro b sgn hb
     rw [List.map_map,List.map_map]
     apply List.map_congr_left
     intro w0 _
     show V.str (bs w0++sgn)=V.str (bs (w0++[b]))
     rw [hb,qdM]
    refine ⟨⟨_,SqL.of hev⟩,fun D1 hD1=>?_⟩
    refine qbp (qaj _ ev (evs.map fun w=>V.str (bs w))) (fun x=>match x with | V.str z=>V.str (z++("0" : Str)) | _=>x) (by rw [qaB];exact qae (by omega)) (fun o=>SqL.upd hev hD1) (fun i' x ys hx C c=>step false _ qmE _ _ _ _ _ hx C c) ?_
    have hev1:∀ o,upd H2 D1 o ev=some (WS evs):=fun o=>Same.upd hD1 _ _ hev
    refine ⟨⟨_,SqL.of (hev1 _)⟩,fun D2 hD2=>?_⟩
    refine qbp (qaj _ ev (evs.map fun w=>V.str (bs w))) (fun x=>match x with | V.str z=>V.str (z++("1" : Str)) | _=>x) (by rw [qaB];exact qae (by omega)) (fun o=>SqL.upd (hev1 _) hD2) (fun i' x ys hx C c=>step true _ qn0 _ _ _ _ _ hx C c) ?_
    rw [outl false _ qmE,outl true _ qn0]
    have xD:D1≠D2:=qac (H:=upd H2 D1 (HO.lst ((evs.map fun w=>w++[false]).map fun w=>V.str (bs w)))) qaa (by rw [outl false _ qmE] at hD2;exact hD2)
    refine ⟨_,_,by rw [qab xD,qaa],qaa,?_,fun ev2 hev2=>?_⟩
    ·rw [qaB,qaB,lM_,lM_];exact qae (by omega)
    ·rw [outl false _ qmE] at hD2
     have sx:Same H (upd (upd H2 D1 (HO.lst ((evs.map fun w=>w++[false]).map fun w=>V.str (bs w)))) D2 (HO.lst ((evs.map fun w=>w++[true]).map fun w=>V.str (bs w)))):=s2.trans ((Same.upd hD1).trans (Same.upd hD2))
     refine ⟨some x,ev2,(evs.map fun w=>w++[false])++(evs.map fun w=>w++[true]),rfl,sx.trans (Same.upd hev2),sx.free hev2,by rw [qaa];unfold WS;rw [List.map_append],?_,fun y hy=>?_,hi'⟩
     ·rw [lA_,lM_,lM_,evl,Nat.pow_succ];omega
     ·rcases mA_ hy with hy | hy
      ·obtain ⟨w0,h0,rfl⟩:=mM_ hy
       simp [evw _ h0]
      ·obtain ⟨w0,h0,rfl⟩:=mM_ hy
       simp [evw _ h0]
   ·rintro σ H2 ⟨v6,ev,evs,rfl,s2,nev,hev,evl,evw,him⟩
    have hn:((List.range ((m:Int)).toNat).map fun i:Nat=>V.int (0+(i:Nat))).length=m:=by simp
    rw [hn] at evl evw
    exact fin _ _ ⟨v6,ev,evs,rfl,s2,nev,hev,evl,evw⟩
 ·exact h.elim
end
end K11
end
section
namespace K11
open PySem L2
section
variable {P:Program} {w:World} {K:PySem.W.Frag} {mg:Str->Option Value} {base:Heap}
abbrev qfU:Stmt:=top 44
def qd0:Sp:=fun vs H Q _=>match vs with
 | [.ref a,.int b1,.int b2,.int b3]=>b1=3/\b2=6/\b3=8/\∃ F,Deck F H a/\∀ v (k n:Nat) (rows:Om.Rows) G H',Deck F H' a->Off F H H'->Same G H'->(∀ b,F b->G b=none)->(∀ b u,H b=some u->G b=none)->DV G v (qaA k n rows)->Om.CodeOk k n rows->Q v H'
 | _=>False
theorem scLCode:FnScope ["deck","most_bits","most_signs","most_states","k","n","many","style","few","states","at","words"] ["deck","most_bits","most_signs","most_states"] (qad qfU):=⟨rfl,rfl,rfl,by decide +kernel,rfl,by decide +kernel,by decide +kernel⟩
local macro_rules | `(tactic| walk_at "T.c")=>`(tactic| (have ndc:(["word","deck","many"]:List Str).Nodup:=(by decide +kernel));((with_reducible refine' qaH ["word","deck","many"] [0,6] ?b1 ?b2 (fun cl C s H fp=>?b3) (fun cl C s H fp=>?b4) (fun cl C s H fp=>?b5));(case b1=>exact ndc);(case b2=>walk_at "T.i");(case b3=>walk_at "T.g");(case b4=>walk_at "T.pf");(case b5=>walk_at "T.e")))
theorem qbS {F:Addr->Prop} {H H':Hp} {b p:Addr} {u:HO} (o:Off F H H') (hb:H b=some u) (np:H' p=none) (nF:¬ F p):b≠p:=fun z=>by
 subst z
 rw [o _ _ hb nF] at np
 cases np
theorem qhL (D:FnX K mg "_law_code" qfU ["deck","most_bits","most_signs","most_states"]) (g4:mg "range" = none) (c1:Can P w K mg base "_law_draw" 1 ["deck","many"] qa8) (c2:Can P w K mg base "_law_few" 2 ["deck","n"] qi2)
  (c3:Can P w K mg base "_law_words" 2 ["deck","n","letters_there","style","few"] qdU):Can P w K mg base "_law_code" 3 ["deck","most_bits","most_signs","most_states"] qd0:=by
 refine qag (k:=2) D scLCode (fun vs H Q E h=>?_) (fun f cdv A outer s H vs Q E hr h=>?_)
 all_goals
  unfold qd0 at h
  split at h
 ·rfl
 ·exact h.elim
 ·rename_i a b1 b2 b3
  obtain ⟨rfl,rfl,rfl,F,hD,q⟩:=h
  have nd:=scLCode.nd
  refine ⟨_,(by walk_at "T.top"),?_⟩
  refine ⟨F,hD,by decide,by decide,fun r1 H1 r10 r11 d1 o1=>?_⟩
  refine ⟨F,d1,by decide,by decide,fun r2 H2 r20 r21 d2 o2=>?_⟩
  refine ⟨F,d2,by decide,by decide,fun r3 H3 r30 r31 d3 o3=>?_⟩
  refine ⟨F,d3,by decide,by decide,fun r4 H4 r40 r41 d4 o4=>?_⟩
  obtain ⟨k,hk⟩ : ∃ k:Nat,1+r1=(k:Int):=⟨(1+r1).toNat,by omega⟩
  obtain ⟨n,hn⟩ : ∃ n:Nat,1+r2=(n:Int):=⟨(1+r2).toNat,by omega⟩
  obtain ⟨m,hm⟩ : ∃ m:Nat,1+r3=(m:Int):=⟨(1+r3).toNat,by omega⟩
  try dsimp only [qai,qaG]
  rw [hk,hn,hm]
  have k3:1<=k/\k<=3:=by omega
  have n6:1<=n/\n<=6:=by omega
  have m8:1<=m/\m<=8:=by omega
  refine ⟨F,n,rfl,n6.1,n6.2,d4,fun few fws H5 d5 o5 nfew hfew f1 f10 fl=>?_⟩
  have oo5:Off F H H5:=(((o1.trans o2).trans o3).trans o4).trans o5
  have nFew:¬ F few:=d4.new nfew
  refine ⟨Nat.zero_le _,fun st hst=>?_⟩
  have nst:H5 st=none:=hst
  have nFst:¬ F st:=d5.new hst
  refine ⟨by omega,by omega,qaD (qaC 0 _) (fun i σ H6=>∃ v10 v11 G xs rows,σ=[some (.ref a),some (.int 3),some (.int 6),some (.int 8),some (.int k),some (.int n),some (.int m),some (.int r4),some (.ref few),some (.ref st),v10,v11]/\Deck F H6 a/\Off F H5 H6/\H6 st=some (.lst xs)/\Sub F st G H6/\DVs G xs (rows.map qaF)/\rows.length=i/\(∀ s∈rows,s.length=2 ^ k)/\(∀ s∈rows,∀ r∈s,r.1.length=n/\r.2 < m)/\∀ b u,H b=some u->G b=none)
   ⟨none,none,fun _=>none,[],[],rfl,d5.same (Same.upd hst),(Same.upd hst).off,qaa,⟨fun b o e=>(nomatch e),rfl,fun _ _=>rfl⟩,.nil,rfl,by simp,by simp,fun _ _ _=>rfl⟩ (fun _ _ _ _ _=>trivial) ?_ ?_⟩
  ·rintro i x σ H6 hi hx ⟨v10,v11,G,xs,rows,rfl,d6,o6,h6,sub,dv,rl,rk,rr,nw⟩
   have hi':i < m:=by simpa using hi
   refine ⟨lZ_ rfl,fun p0 hp0=>?_⟩
   have hpk:qen (upd H6 p0 (.lst [V.int 2,V.int 4,V.int 8])) (.ref p0) ((k:Int) - 1)=some (.int ((2 ^ k:Nat):Int)):=by
    refine gl qaa (by omega) ?_
    have:k=1\/k=2\/k=3:=by omega
    rcases this with rfl | rfl | rfl<;>rfl
   refine ⟨_,hpk,F,n,2 ^ k,fws,rfl,n6.1,n6.2,rfl,?_,d6.same (Same.upd hp0),Same.upd hp0 _ _ (o6 _ _ hfew nFew),nFew,f1,f10,fl,fun wp ws H7 d7 o7 nwp hwp wl wn=>?_⟩
   ·have:k=1\/k=2\/k=3:=by omega
    rcases this with rfl | rfl | rfl<;>decide
   have o67:Off F H6 H7:=((Same.upd hp0).off).trans o7
   have h7:H7 st=some (.lst xs):=o67 _ _ h6 nFst
   have sub7:=sub.off o67
   refine ⟨⟨_,rfl,h7⟩,⟨_,SqL.of hwp⟩,fun D1 hD1=>?_⟩
   have nF1:¬ F D1:=d7.new hD1
   have s1:st≠D1:=qac h7 hD1
   have w1:wp≠D1:=qac hwp hD1
   have nFw:¬ F wp:=(d6.same (Same.upd (o:=.lst [V.int 2,V.int 4,V.int 8]) hp0)).new nwp
   have ws8:ws.length<=8:=by
    rw [wl]
    have:k=1\/k=2\/k=3:=by omega
    rcases this with rfl | rfl | rfl<;>decide
   refine qaq (qaj _ wp (ws.map fun w=>V.str (bs w))) (fun j τ H8 ys=>(∃ v,τ=[v,some (.ref a),some (.int m)])/\Deck F H8 a/\Off F H7 H8/\H8 D1=some (.lst ys)/\∃ G2 rs,Sub F st G2 H8/\G2 D1=none/\Same G G2/\DVs G2 ys (rs.map qhe)/\rs.length=j/\(∀ r∈rs,r.1.length=n/\r.2 < m)/\∀ b u,H b=some u->G2 b=none) (by rw [qaB];exact qae (by omega))
    ⟨⟨none,rfl⟩,d7.same (Same.upd hD1),(Same.upd hD1).off,qaa,G,[],sub7.more hD1,sub7.free hD1,Same.refl _,.nil,rfl,by simp,nw⟩ ?_ ?_ ?_
   ·rintro j τ H8 ys hj ⟨_,_,o8,h8,G2,rs,_,_,_,dv2,rl2,_,_⟩
    refine ⟨SqL.of (o8 _ _ hwp nFw),h8,?_⟩
    rw [dv2.length,lM_,rl2]
    exact Nat.le_refl _
   ·rintro j x2 τ H8 ys hj hx2 ⟨⟨v,rfl⟩,d8,o8,h8,G2,rs,sub8,gd,sg2,dv2,rl2,rr2,nw2⟩
    rw [gM_] at hx2
    obtain ⟨w0,hw0,rfl⟩:=Option.map_eq_some_iff.mp hx2
    refine ⟨F,d8,by omega,by omega,fun r H9 r0 r1' d9 o9=>?_⟩
    refine ⟨lZ_ rfl,fun p hp=>?_⟩
    have h9:H9 D1=some (.lst ys):=o9 _ _ h8 nF1
    have dp:D1≠p:=qac h9 hp
    have h9st:H9 st=some (.lst xs):=o9 _ _ (o8 _ _ h7 nFst) nFst
    have nFp:¬ F p:=d9.new hp
    have sub9:=(sub8.off o9)
    have subn:=sub9.new (o:=.tup [.str (bs w0),.int r]) hp (qac h9st hp) nFp
    obtain ⟨t,ht⟩ : ∃ t:Nat,r=(t:Int):=⟨r.toNat,by omega⟩
    subst ht
    refine ⟨by rw [qab dp];exact h9,⟨_,rfl⟩,(d9.same (Same.upd hp)).own nF1,((o8.trans o9).upd_new hp).upd_own hD1,qaa,upd G2 p (.tup [.str (bs w0),.int (t:Int)]),rs++[(w0,t)],?_,by rw [qab dp];exact gd,sg2.trans (sub9.grow hp),?_,by simp [rl2],fun y hy=>?_,fun b u e=>by rw [qab (qbS (oo5.trans (o6.trans (o67.trans (o8.trans o9)))) e hp nFp)];exact nw2 b u e⟩
    ·refine ⟨fun b o e=>?_,subn.n,subn.f⟩
     have:b≠D1:=fun z=>by rw [z,qab dp,gd] at e;cases e
     rw [qab this]
     exact subn.s b o e
    ·rw [List.map_append]
     exact (dv2.mono (sub9.grow hp)).app (.cons (.tup qaa (.cons (.str _) (.cons (.int _) .nil))) .nil)
    ·rcases mA_ hy with hy | hy
     ·exact rr2 y hy
     ·have:y=(w0,t):=by simpa using hy
      subst this
      exact ⟨wn _ (mO_ hw0),by omega⟩
   ·rintro τ H8 ys ⟨_,d8,o8,h8,G2,rs,sub8,gd,sg2,dv2,rl2,rr2,nw2⟩
    rw [qaB] at rl2
    have h8st:H8 st=some (.lst xs):=o8 _ _ h7 nFst
    have xl:xs.length=i:=by rw [dv.length,lM_,rl]
    have dvn:DVs (upd G2 D1 (.lst ys)) (xs++[.ref D1]) ((rows++[rs]).map qaF):=by
     have gr:Same G2 (upd G2 D1 (.lst ys)):=Same.upd gd
     rw [List.map_append]
     exact (dv.mono (sg2.trans gr)).app (.cons (.lst qaa (dv2.mono gr)) .nil)
    refine ⟨_,h8st,by rw [xl];exact lt_line (by omega),some x,some (.ref wp),upd G2 D1 (.lst ys),xs++[.ref D1],rows++[rs],rfl,d8.own nFst,?_,qaa,?_,dvn,by simp [rl],fun y hy=>?_,fun y hy=>?_,fun b u e=>by rw [qab (qbS (oo5.trans (o6.trans o67)) e hD1 nF1)];exact nw2 b u e⟩
    ·exact (o6.trans (o67.trans o8)).upd_own nst
    ·refine ⟨fun b o e=>?_,by rw [qab s1];exact sub8.n,fun b hb=>by rw [qab (qmD hb nF1)];exact sub8.f b hb⟩
     have nb:b≠st:=fun z=>by rw [z,qab s1,sub8.n] at e;cases e
     rw [qab nb]
     by_cases hb:b=D1
     ·subst hb;rw [qaa] at e;rw [h8];exact e
     ·rw [qab hb] at e;exact sub8.s b o e
    ·rcases mA_ hy with hy | hy
     ·exact rk y hy
     ·have:y=rs:=by simpa using hy
      subst this
      rw [rl2,wl]
    ·rcases mA_ hy with hy | hy
     ·exact rr y hy
     ·have:y=rs:=by simpa using hy
      subst this
      exact rr2
  ·rintro σ H6 ⟨v10,v11,G,xs,rows,rfl,d6,o6,h6,sub,dv,rl,rk,rr,nw⟩
   have hn':((List.range ((m:Int)).toNat).map fun i:Nat=>V.int (0+(i:Nat))).length=m:=by simp
   rw [hn'] at rl
   refine ⟨lZ_ rfl,fun p hp=>?_⟩
   have nFp:¬ F p:=d6.new hp
   have sp1:st≠p:=qac h6 hp
   have gs1:Same G (upd G st (.lst xs)):=Same.upd sub.n
   have gp:upd G st (.lst xs) p=none:=by rw [qab sp1.symm];exact sub.free hp
   have gs2:Same (upd G st (.lst xs)) (upd (upd G st (.lst xs)) p (.tup [.int k,.int n,.ref st])):=Same.upd gp
   refine q _ k n rows (upd (upd G st (.lst xs)) p (.tup [.int k,.int n,.ref st])) _ (d6.same (Same.upd hp)) ((oo5.trans o6).upd_new hp) (fun b o e=>?_) (fun b hb=>?_) (fun b u e=>by rw [qab (qbS (oo5.trans o6) e hp nFp),qab (qbS oo5 e nst nFst)];exact nw b u e) ?_ ⟨k3.1,k3.2,n6.1,n6.2,by rw [rl];exact m8.1,by rw [rl];exact m8.2,rk,fun s hs r hr=>by rw [rl];exact rr s hs r hr⟩
   ·by_cases hb:b=p
    ·subst hb;rw [qaa] at e ⊢;exact e
    ·rw [qab hb] at e ⊢
     by_cases hb2:b=st
     ·subst hb2;rw [qaa] at e;rw [h6];exact e
     ·rw [qab hb2] at e;exact sub.s b o e
   ·rw [qab (qmD hb nFp),qab (qmD hb nFst)];exact sub.f b hb
   ·exact .tup qaa (.cons (.int _) (.cons (.int _) (.cons (.lst (gs2 _ _ qaa) (dv.mono (gs1.trans gs2))) .nil)))
 ·exact h.elim
end
end K11
end
section
namespace K11
open PySem L2
section
variable {P:Program} {w:World} {K:PySem.W.Frag} {mg:Str->Option Value} {base:Heap}
abbrev qmZ:Stmt:=top 23
def qi1:Sp:=fun vs H Q _=>match vs with
 | [.ref q]=>∃ (rs:List V) (st:List (List Bool×Nat)),H q=some (.lst rs)/\DVs H rs (st.map qhe)/\st.length<=8/\∀ H',Same H H'->Q (.bl (decide ((st.map (·.1)).Nodup))) H'
 | _=>False
theorem scHas:FnScope ["rows"] ["rows"] (qad qmZ):=⟨rfl,rfl,rfl,by decide +kernel,rfl,by decide +kernel,by decide +kernel⟩
local macro_rules | `(tactic| walk_at "T.c")=>`(tactic| (have ndc:(["row"]:List Str).Nodup:=(by decide +kernel));((with_reducible refine' qaH ["row"] [] ?b1 ?b2 (fun cl C s H fp=>?b3) (fun cl C s H fp=>?b4) (fun cl C s H fp=>?b5));(case b1=>exact ndc);(case b2=>walk_at "T.i");(case b3=>walk_at "T.g");(case b4=>walk_at "T.pf");(case b5=>walk_at "T.e")))
local macro_rules | `(tactic| walk_at "T.b")=>`(tactic| first | ((with_reducible refine' qkb ?a0 ?a9 ?a1);(case a0=>with_reducible assumption);(case a9=>rfl);(case a1=>walk_at "T.a")) | ((with_reducible refine' qj8 ?a0 ?a9 ?a1);(case a0=>with_reducible assumption);(case a9=>rfl);(case a1=>walk_at "T.a")))
theorem qlK (D:FnX K mg "has_unlike_words" qmZ ["rows"]) (g1:mg "len" = none) (g2:mg "set" = none):Can P w K mg base "has_unlike_words" 1 ["rows"] qi1:=by
 refine qag (k:=0) D scHas (fun vs H Q E h=>?_) (fun f cdv A outer s H vs Q E hr h=>?_)
 all_goals
  unfold qi1 at h
  split at h
 ·rfl
 ·exact h.elim
 ·rename_i qa
  obtain ⟨rs,st,hq,dv,s8,q⟩:=h
  have nd:=scHas.nd
  have rl:rs.length=st.length:=by rw [dv.length,lM_]
  refine ⟨_,(by walk_at "T.top1"),?_⟩
  refine ⟨⟨_,SqL.of hq⟩,fun L hL=>?_⟩
  refine qaq (qaj _ qa rs) (fun i τ H2 ys=>(∃ v,τ=[v])/\Same H H2/\H2 L=some (.lst ys)/\ys=(st.take i).map fun r=>V.str (bs r.1)) (qae (by omega)) ⟨⟨none,rfl⟩,Same.upd hL,qaa,rfl⟩ ?_ ?_ ?_
  ·rintro i τ H2 ys hi ⟨_,s2,h2,rfl⟩
   exact ⟨SqL.of (s2 _ _ hq),h2,by rw [lM_,List.length_take];exact Nat.min_le_left _ _⟩
  ·rintro i x τ H2 ys hi hx ⟨⟨v,rfl⟩,s2,h2,rfl⟩
   have hi':i < st.length:=by omega
   obtain ⟨r,r1,r2⟩:=qa9 dv (l:=i) (r:=st[i]) (gE_ hi')
   rw [hx] at r1
   cases r1
   refine ⟨_,gt (s2 _ _ r2) (by decide) rfl,h2,⟨_,rfl⟩,s2.own hL,qaa,?_⟩
   rw [List.take_add_one,gE_ hi',List.map_append]
   rfl
  ·rintro τ H2 ys ⟨_,s2,h2,rfl⟩
   rw [List.take_of_length_le (by omega)] at h2
   refine ⟨L,st.map fun r=>bs r.1,rfl,by rw [List.map_map];exact h2,by rw [lM_];omega,fun a ha=>?_⟩
   refine .inl ⟨a,_,rfl,qaa,?_⟩
   have s3:=s2.trans (Same.upd (o:=SetS P w a (Om.once (st.map fun r=>bs r.1)).length) ha)
   refine .inr ⟨_,qbE (s3 _ _ hq),?_⟩
   have key:decide (((Om.once (st.map fun r=>bs r.1)).length:Int)=(rs.length:Int))=decide ((st.map (·.1)).Nodup):=by
    rw [Bool.eq_iff_iff,decide_eq_true_eq,decide_eq_true_eq,rl,<-Om.bs_nodup,<-Om.once_len,lM_]
    constructor
    ·intro z
     omega
    ·intro z
     rw [z]
   have q':=q _ s3
   rw [<-key] at q'
   exact q'
 ·exact h.elim
end
section
variable {P:Program} {w:World} {K:PySem.W.Frag} {mg:Str->Option Value} {base:Heap}
abbrev qfP:Stmt:=top 22
def qcC (P0:Addr):Sp:=fun vs H Q _=>match vs with
 | [cv]=>∃ (k n:Nat) (rows:Om.Rows),DV H cv (qaA k n rows)/\Om.CodeOk k n rows/\Tab P0 (qap qay) qSt H ∧
   ∀ (b:Bool) H',SameT P0 H H'->Tab P0 (qap qay) qSt H'->(b=true↔Om.Plain rows)->Q (.bl b) H'
 | _=>False
theorem scPlain:FnScope ["code"] ["code"] (qad qfP):=⟨rfl,rfl,rfl,by decide +kernel,rfl,by decide +kernel,by decide +kernel⟩
local macro_rules | `(tactic| walk_at "T.c")=>`(tactic| (have ndc:(["state","code"]:List Str).Nodup:=(by decide +kernel));((with_reducible refine' qaH ["state","code"] [0] ?b1 ?b2 (fun cl C s H fp=>?b3) (fun cl C s H fp=>?b4) (fun cl C s H fp=>?b5));(case b1=>exact ndc);(case b2=>walk_at "T.i");(case b3=>walk_at "T.g");(case b4=>walk_at "T.pf");(case b5=>walk_at "T.e")))
theorem qhI {P0:Addr} (D:FnX K mg "is_plain" qfP ["code"]) (g1:mg "all" = none) (c1:Can P w K mg base "reached" 4 ["code"] (qaK P0)) (c2:Can P w K mg base "has_unlike_words" 1 ["rows"] qi1):Can P w K mg base "is_plain" 5 ["code"] (qcC P0):=by
 refine qag (k:=4) D scPlain (fun vs H Q E h=>?_) (fun f cdv A outer s H vs Q E hr h=>?_)
 all_goals
  unfold qcC at h
  split at h
 ·rfl
 ·exact h.elim
 ·rename_i cv
  obtain ⟨k,n,rows,hc,ok,tb,q⟩:=h
  have nd:=scPlain.nd
  refine ⟨_,(by walk_at "T.top1"),?_⟩
  refine ⟨k,n,rows,hc,ok,tb,fun l qs H1 s1 t1 nl hl srt hq l8=>?_⟩
  have hc1:=hc.monoT tb s1
  obtain ⟨a,b,ss,rfl,ha,hb,hss⟩:=qas hc1
  refine ⟨⟨_,SqL.of hl⟩,fun L hL=>?_⟩
  refine qaq (qaj _ l (qs.map fun s=>V.int (s:Nat))) (fun i τ H2 ys=>(∃ v,τ=[v,some (.ref a)])/\Same H1 H2/\H2 L=some (.lst ys)/\ys=((qs.take i).map fun s=>decide (((rows.getD s []).map (·.1)).Nodup)).map V.bl) (by rw [lM_];exact qae (by omega)) ⟨⟨none,rfl⟩,Same.upd hL,qaa,rfl⟩ ?_ ?_ ?_
  ·rintro i τ H2 ys hi ⟨_,s2,h2,rfl⟩
   exact ⟨SqL.of (s2 _ _ hl),h2,by rw [lM_,lM_,List.length_take];exact Nat.min_le_left _ _⟩
  ·rintro i x τ H2 ys hi hx ⟨⟨v,rfl⟩,s2,h2,rfl⟩
   rw [lM_] at hi
   rw [gM_,gE_ hi] at hx
   cases hx
   have sr:qs[i] < rows.length:=Om.rch_ok ok _ ((hq _).mp (List.getElem_mem hi))
   obtain ⟨qa,rs,e1,e2,e3⟩:=qaJ hss (s:=qs[i]) (st:=rows[qs[i]]) (gE_ sr)
   have eg:rows.getD qs[i] []=rows[qs[i]]:=by rw [List.getD_eq_getElem?_getD,gE_ sr];rfl
   refine ⟨_,gt (s2 _ _ ha) (by decide) rfl,.ref qa,gl (s2 _ _ hb) (by omega) (by simpa using e1),rs,rows[qs[i]],s2 _ _ e2,e3.mono s2,by rw [ok.len _ (List.getElem_mem sr)];exact Om.pow8 ok.k3,fun H3 s3=>?_⟩
   refine ⟨s3 _ _ h2,⟨_,rfl⟩,(s2.trans s3).own hL,qaa,?_⟩
   rw [List.take_add_one,gE_ hi,List.map_append,List.map_append,<-eg]
   rfl
  ·rintro τ H2 ys ⟨_,s2,h2,rfl⟩
   rw [lM_,List.take_length] at h2
   refine ⟨_,h2,q _ _ (s1.trans s2.t) (t1.mono s2) ?_⟩
   rw [List.all_eq_true]
   unfold Om.Plain
   constructor
   ·intro h s hs
    have:=h _ (List.mem_map_of_mem (f:=fun s=>decide (((rows.getD s []).map (·.1)).Nodup)) ((hq s).mpr hs))
    simpa using this
   ·intro h x hx
    obtain ⟨s,hs,rfl⟩:=mM_ hx
    simpa using h s ((hq s).mp hs)
 ·exact h.elim
end
end K11
end
section
namespace K11
open PySem L2
theorem qcQ {k n:Nat} {rows:Om.Rows} (ok:Om.CodeOk k n rows):∀ {t:List Nat} {s:Nat},Om.Rch (Om.nxR rows) s->(∀ l∈t,l < 2 ^ k)->Om.Rch (Om.nxR rows) (Om.send rows s t).2
 | [],s,h,_=>h
 | l :: t,s,h,ht=>by
  have hs:=Om.rch_ok ok s h
  obtain ⟨st,e1,e2,_,_⟩:=Om.step_get ok hs (ht l List.mem_cons_self)
  refine qcQ ok (t:=t) (s:=(Om.step rows s l).2) (.s h ?_) fun x hx=>ht x (mC_ _ hx)
  unfold Om.nxR
  rw [List.getD_eq_getElem?_getD,e1]
  exact List.mem_map.mpr ⟨Om.step rows s l,mO_ e2,rfl⟩
end K11
end
section
namespace L2
open PySem PySem.Spec PyProof.Rows PySem.W
section
variable {M:Model} {A:Around} {E:Value->Shared->Prop} {s:Shared} {base:Heap} {env:Env} {outer:List Env} {L e:Addr} {a0:Value} {Q:Unit->Shared->Prop}
end
end L2
end
section
namespace PySem.W
open PySem PySem.Spec PySem.Calls PyProof.Rows Builtin Builtin.ObjectAttr Builtin.Getset_descriptor
section
variable {prog:Program} {w:World} {A:Around} {E:Value->Shared->Prop} {h:Heap} {g:Array GenState} {dr:Drawn} {t:Nat} {os:OsState} {K:Frag}
variable {nm q:Str} {C N B x:Addr} {bs:List Value} {sn:List Str} {sub:List Value} {ab:Bool} {col:Option Bool} {dd:Option Addr} {k0 k1 k2 k3 k5:Option Value} {name:Str} {v:Value} {o:Obj}
end
end PySem.W
end
section
namespace L2
open PySem PySem.Spec PyProof.Rows PySem.W
theorem HOk.has {P:Program} {w:World} {H:Hp} {h:Heap} (x:HOk P w H h) {a:Addr} {u:HO} (e:H a=some u):∃ o,h.get? a=some o:=by
 have lt:=x.lt e
 cases q:h.get? a with
 | some o=>exact ⟨o,rfl⟩
 | none=>
  exfalso
  have y:=x a u e
  cases u with
  | lst xs=>obtain ⟨_,_,_,_,z⟩:=y;rw [q] at z;cases z
  | tup xs=>obtain ⟨_,_,_,ob,z,_⟩:=y;rw [q] at z;cases z
  | dK kvs=>obtain ⟨_,_,_,_,o,_,_,z,_⟩:=y;rw [q] at z;cases z
  | dT kvs=>obtain ⟨_,_,_,_,o,_,_,z,_⟩:=y;rw [q] at z;cases z
  | set S n=>obtain ⟨o,_,_,_,z,_⟩:=y;rw [q] at z;cases z
  | ins C dx fs=>obtain ⟨_,_,_,z,_⟩:=y;rw [q] at z;cases z
  | own y'=>obtain ⟨_,z⟩:=y;rw [q] at z;cases z
  | xd fs=>obtain ⟨_,⟨_,_,_,z,_⟩,_⟩:=y;rw [q] at z;cases z
  | rng lo hi=>obtain ⟨_,_,_,z⟩:=y;rw [q] at z;cases z
  | frz ob u=>obtain ⟨z,_⟩:=y;rw [q] at z;cases z
  | tbl ps=>have z:h.get? a=some _:=y;rw [q] at z;cases z
  | met f y'=>have z:h.get? a=some _:=y;rw [q] at z;cases z
  | ext φ=>obtain ⟨_,⟨_,z⟩,_⟩:=y;rw [q] at z;cases z
section
variable {P:Program} {w:World} {K:PySem.W.Frag} {mg:Str->Option Value} {base:Heap} {N:List Str} {qual:Str} {scope:Scope} {f:Addr} {cd:Value} {A:Around} {outer:List Env} {s:Shared} {H:Hp} {E:XK}
end
end L2
end
section
namespace L2
open PySem PySem.Spec PyProof.Rows PySem.W
section
variable {P:Program} {w:World} {K:PySem.W.Frag} {mg:Str->Option Value} {base:Heap} {N:List Str} {qual:Str} {scope:Scope} {f:Addr} {cd:Value} {A:Around} {outer:List Env} {s:Shared} {H:Hp} {E:XK}
end
section
variable {X:Cx} {x:Str} {p pos epos:Pos} {e:Expr} {es:List Expr} {t:TA} {k:Nat} {ps:List Str} {sp:Sp}
end
end L2
end
section
namespace L2
open PySem PySem.Spec PyProof.Rows PySem.W
section
variable {X:Cx} {pins:List (Addr×Obj)} {σ:St} {H H':Hp} {s s':Shared}
end
section
variable {X:Cx} {np hpos pos:Pos} {body suite:List Stmt} {b₀:Stmt} {tb:XK->TS} {ts:TS}
end
end L2
end
section
namespace PySem.W
open PySem PySem.Spec PySem.Calls PyProof.Rows Builtin Builtin.ObjectAttr Builtin.Getset_descriptor
section
variable {prog:Program} {w:World} {A:Around} {E:Value->Shared->Prop} {s:Shared} {K:Frag} {x C:Addr}
end
end PySem.W
namespace L2
open PySem PySem.Spec PyProof.Rows PySem.W
section
variable {X:Cx} {p pos:Pos} {e:Expr} {es:List Expr} {t:TA}
end
end L2
end
section
namespace L2
open PySem PySem.Spec PyProof.Rows PySem.W
section
variable {P:Program} {w:World} {K:PySem.W.Frag} {mg:Str->Option Value} {base:Heap} {N:List Str} {qual:Str} {scope:Scope} {f:Addr} {cd:Value} {A:Around} {outer:List Env} {s:Shared} {H:Hp} {E:XK}
end
end L2
end
section
namespace L2
open PySem PySem.Spec PyProof.Rows PySem.W
section
variable {X:Cx} {pins:List (Addr×Obj)} {σ:St} {H:Hp} {s:Shared} {C fI:Addr} {fd:FuncData} {k:Nat}
end
section
variable {P:Program} {w:World} {K:PySem.W.Frag} {mg:Str->Option Value} {base:Heap} {N:List Str} {qual:Str} {scope:Scope} {f:Addr} {cd:Value} {A:Around} {outer:List Env} {s:Shared} {H:Hp} {E:XK}
end
end L2
end
section
namespace L2
open PySem PySem.Spec PyProof.Rows PySem.W
section
variable {X:Cx} {p pos apos epos:Pos} {b:Str} {B C fI:Addr} {e:Expr} {es:List Expr} {t:TA} {mg':Str->Option Value}
end
section
variable {X:Cx} {pos pos':Pos} {C fI:Addr} {o value:Expr} {ta tv:TE}
end
end L2
end
section
namespace L2
open PySem PySem.Spec PyProof.Rows PySem.W
section
variable {X:Cx} {p pos:Pos} {e:Expr} {es:List Expr} {t:TA} {ta:TE}
end
section
variable {P:Program} {w:World} {K:PySem.W.Frag} {mg:Str->Option Value} {base:Heap} {N:List Str} {qual:Str} {scope:Scope} {f:Addr} {cd:Value} {A:Around} {outer:List Env} {s:Shared} {H:Hp} {E:XK}
end
end L2
end
section
namespace L2
open PySem PySem.Spec PyProof.Rows PySem.W
section
variable {X:Cx} {x:Str} {p pos epos:Pos} {e:Expr} {es:List Expr} {t:TA} {k:Nat} {ps:List Str} {sp:Sp}
end
section
variable {X:Cx} {pins:List (Addr×Obj)} {σ:St} {H H':Hp} {s s':Shared}
end
section
variable {X:Cx} {np hpos pos:Pos} {body suite:List Stmt} {b₀:Stmt} {tb:XK->TS} {ts:TS}
end
end L2
end
section
namespace L2
open PySem PySem.Spec PyProof.Rows PySem.W
section
variable {P:Program} {w:World} {K:PySem.W.Frag} {mg:Str->Option Value} {base:Heap}
end
section
variable {X:Cx} {y:Addr} {p pos:Pos} {e:Expr} {es:List Expr} {t:TA} {k:Nat} {ps:List Str} {sp:Sp}
end
end L2
end
section
namespace L2
open PySem PySem.Spec PyProof.Rows PySem.W
section
variable {X:Cx} {p pos:Pos} {e:Expr} {es:List Expr} {t:TA} {k:Nat} {ps:List Str} {sp:Sp}
end
end L2
namespace L2
open PySem PySem.Spec PyProof.Rows
end L2
end
section
namespace L2
open PySem PySem.Spec PyProof.Rows PySem.W
open PySem.Builtin PySem.Builtin.Str in
def PE1 (X:Cx) (e:Expr) (t:TE):Prop:=
 ∀ (pins:List (Addr×Obj)) (s:Shared) (σ:St) (H:Hp) (Q:VK),s.toks≠0->Inv X pins σ H s->t σ H Q->wpAny (model X.prog X.w) X.A (eval e X.env) (fun u s'=>EP X pins σ Q u s'/\s'.toks≠0) X.xe s
section
variable {X:Cx} {p pos apos cpos p1 p2:Pos} {e o:Expr} {es:List Expr} {t:TA} {to:TE} {y z:Str} {j1 j2:Nat}
theorem qn2 {i:Nat} {x:Str} (hN:X.N[i]? = some x) (hv:Vis X.env.scope x) (hd:(x == ("__debug__" : Str))=false) (hcd:(x == ("__classdict__" : Str))=false) {pins:List (Addr×Obj)} {s:Shared} {σ:St} {H:Hp} {Q:VK} (I:Inv X pins σ H s) (h:qmJ i σ H Q) :
  wpAny (model X.prog X.w) X.A (eval (.Name x pos) X.env) (fun u s'=>EP X pins σ Q u s'/\s'=s) X.xe s:=by
 obtain ⟨v,e,h⟩:=h
 obtain ⟨m,hn,hl⟩:=I.loc
 obtain ⟨u,r,l⟩:=hl i x v hN e hv
 have fin:EP X pins σ Q u s/\s=s:=⟨⟨v,H,I,r,h⟩,rfl⟩
 rcases l with ⟨hk,hm⟩ | ⟨hk,c,hc,hcell⟩
 ·exact wpAny_Name (wpAny_loadName_local I.ok.kind hk hn hm fin) hd
 ·rcases hk with hk | hk
  ·exact wpAny_Name (wpAny_loadName_cell I.ok.kind hk hc hcell fin) hd
  ·exact wpAny_Name (wpAny_loadName_free I.ok.kind hk hc hcell fin hcd) hd
theorem n1 (x:Str) (i:Nat) (hN:X.N[i]? = some x:=by with_unfolding_all rfl) (hv:qkx X.env.scope x=true:=by kernel_rfl):PE1 X (.Name x pos) (qmJ i):=by
 intro pins s σ H Q h0 I h
 exact thn (qn2 hN (qcp hv).1 (qcp hv).2.1 (qcp hv).2.2 I h) fun u s' ⟨e1,e2⟩=>⟨e1,by rw [e2];exact h0⟩
end
end L2
end
section
namespace L2
open PySem PySem.Spec PyProof.Rows
def mkS (l:List Nat):Str:=⟨l.toArray⟩
theorem qgt (l:List Nat):(mkS l).length=l.length:=by show l.toArray.size=_;simp
theorem qcR (l:List Nat):(mkS l).cps.toList=l:=by show l.toArray.toList=l;simp
theorem qiM (w:List Bool):bs w=mkS (w.map sg):=rfl
theorem qfJ (xs:List Nat) {a n:Nat} (ha:a<=xs.length):Txt.slice (mkS xs) (some (a:Int)) (some ((a:Int)+(n:Int)))=mkS ((xs.drop a).take n):=by
 refine Eq.trans (show Txt.slice (mkS xs) (some (a:Int)) (some ((a:Int)+(n:Int)))=StrLaws.sliceText (mkS xs) (some (a:Int)) (some ((a:Int)+(n:Int))) from rfl) ?_
 have hl:=qgt xs
 by_cases h:a+n<=xs.length
 ·have:=StrLaws.sliceText_plain (x:=mkS xs) (i:=(a:Int)) (j:=(a:Int)+(n:Int)) ⟨by omega,by omega,by rw [qcR];omega⟩
  rw [this,qcR,Int.toNat_natCast,show ((a:Int)+(n:Int) - (a:Int)).toNat=n by omega]
  rfl
 ·have e:StrLaws.sliceText (mkS xs) (some (a:Int)) (some ((a:Int)+(n:Int)))=StrLaws.sliceText (mkS xs) (some (a:Int)) (some (xs.length:Int)):=by
   unfold StrLaws.sliceText
   have:Builtin.Str.strSliceIndices (some (a:Int)) (some ((a:Int)+(n:Int))) 1 (mkS xs).length=Builtin.Str.strSliceIndices (some (a:Int)) (some (xs.length:Int)) 1 (mkS xs).length:=by
    rw [hl]
    have h1:¬ ((a:Int)+(n:Int) < 0):=by omega
    have h2:¬ ((xs.length:Int) < 0):=by omega
    have h3:min ((a:Int)+(n:Int)) (xs.length:Int)=xs.length:=by omega
    simp [Builtin.Str.strSliceIndices,h1,h2,h3]
   rw [this]
  rw [e]
  have:=StrLaws.sliceText_plain (x:=mkS xs) (i:=(a:Int)) (j:=(xs.length:Int)) ⟨by omega,by omega,by rw [qcR];omega⟩
  rw [this,qcR,Int.toNat_natCast]
  unfold mkS
  rw [List.take_of_length_le (by rw [List.length_drop];omega),List.take_of_length_le (by rw [List.length_drop];omega)]
def pce (n:Nat) (xs:List Nat) (i:Nat):List Nat:=(xs.drop (i * n)).take n
def pcs (n:Nat) (xs:List Nat):Nat:=(xs.length+n - 1) / n
theorem qit {n:Nat} {xs:List Nat} {i:Nat} (hn:1<=n) (h:i < pcs n xs):i * n < xs.length:=by
 unfold pcs at h
 have h1:=(Nat.le_div_iff_mul_le (by omega)).mp h
 rw [Nat.succ_mul] at h1
 omega
theorem qiu {n:Nat} {xs:List Nat} (hn:1<=n):pcs n xs<=xs.length:=by
 unfold pcs
 rcases Nat.eq_zero_or_pos xs.length with e | e
 ·rw [e,Nat.zero_add]
  exact Nat.le_of_eq (Nat.div_eq_of_lt (by omega))
 ·refine Nat.le_of_lt_succ ((Nat.div_lt_iff_lt_mul (by omega)).mpr ?_)
  have:=Nat.mul_le_mul_left xs.length hn
  rw [Nat.succ_mul]
  omega
theorem qjc {n:Nat} (xs:List Nat) (h1:1<=n) (h6:n<=6):(Builtin.Range.rangeSize 0 ((xs.length:Nat):Int) (n:Int)).toNat=pcs n xs:=by
 unfold Builtin.Range.rangeSize pcs
 generalize xs.length=L
 rw [if_pos (by omega)]
 by_cases h:(0:Int) < ((L:Nat):Int)
 ·rw [if_pos h]
  have:n=1\/n=2\/n=3\/n=4\/n=5\/n=6:=by omega
  rcases this with rfl | rfl | rfl | rfl | rfl | rfl<;>omega
 ·rw [if_neg h]
  have:L=0:=by omega
  subst this
  rw [Nat.zero_add,Nat.div_eq_of_lt (by omega)]
  rfl
end L2
end
section
namespace K11
open PySem L2
section
variable {P:Program} {w:World} {K:PySem.W.Frag} {mg:Str->Option Value} {base:Heap}
def WP (H:Hp) (v:V) (n:Nat) (xs:List Nat):Prop:=∃ l,v = .ref l/\H l=some (.lst ((List.range (pcs n xs)).map fun i=>V.str (mkS (pce n xs i))))
abbrev qcM:Stmt:=top 9
def qbX:Sp:=fun vs H Q _=>match vs with
 | [.str z,.int n0]=>∃ (xs:List Nat) (n:Nat),z=mkS xs/\n0=(n:Nat)/\1<=n/\n<=6/\xs.length<=2000/\∀ v H',Same H H'->WP H' v n xs->Q v H'
 | _=>False
theorem scWordsOf:FnScope ["wire","n"] ["wire","n"] (qad qcM):=⟨rfl,rfl,rfl,by decide +kernel,rfl,by decide +kernel,by decide +kernel⟩
local macro_rules | `(tactic| walk_at "T.c")=>`(tactic| (have ndc:(["place","wire","n"]:List Str).Nodup:=(by decide +kernel));((with_reducible refine' qaH ["place","wire","n"] [0,1] ?b1 ?b2 (fun cl C s H fp=>?b3) (fun cl C s H fp=>?b4) (fun cl C s H fp=>?b5));(case b1=>exact ndc);(case b2=>walk_at "T.i");(case b3=>walk_at "T.g");(case b4=>walk_at "T.pf");(case b5=>walk_at "T.e")))
theorem qfb (D:FnX K mg "words_of" qcM ["wire","n"]) (g1:mg "range" = none) (g2:mg "len" = none):Can P w K mg base "words_of" 1 ["wire","n"] qbX:=by
 refine qag (k:=0) D scWordsOf (fun vs H Q E h=>?_) (fun f cdv A outer s H vs Q E hr h=>?_)
 all_goals
  unfold qbX at h
  split at h
 ·rfl
 ·exact h.elim
 ·rename_i z n0
  obtain ⟨xs,n,rfl,rfl,n1,n6,l2,q⟩:=h
  have nd:=scWordsOf.nd
  have lx:=qgt xs
  have pl:=qiu (xs:=xs) n1
  refine ⟨_,(by walk_at "T.top1"),?_⟩
  refine ⟨_,qgx (by rw [lx];exact qaO (by omega)),?_⟩
  rw [lx]
  refine ⟨⟨by omega,by omega,by omega,by omega,by omega,by omega,by omega⟩,fun C hC=>?_⟩
  rw [qjc xs n1 n6]
  refine qaq (qce 0 (n:Int) (pcs n xs)) (fun i τ H2 ys=>(∃ v,τ=[v,some (.str (mkS xs)),some (.int (n:Nat))])/\H2=upd H C (.lst ys)/\ys=(List.range i).map fun i=>V.str (mkS (pce n xs i))) (by simp;exact qaO (by omega)) ⟨⟨none,rfl⟩,rfl,rfl⟩ ?_ ?_ ?_
  ·rintro i τ H2 ys hi ⟨_,rfl,rfl⟩
   exact ⟨trivial,qaa,by rw [lM_,List.length_range];exact Nat.le_refl _⟩
  ·rintro i x τ H2 ys hi hx ⟨⟨v,rfl⟩,rfl,rfl⟩
   have hi':i < pcs n xs:=by simpa using hi
   have ex:x = .int ((i * n:Nat):Int):=by
    rw [gM_,List.getElem?_range hi'] at hx
    have:=(oI_ hx).symm
    rw [this];show V.int (0+(i:Int) * (n:Int))=_;rw [Int.zero_add,Int.natCast_mul]
   subst ex
   have e3:=qit n1 hi'
   refine ⟨by rw [lx];exact qaO (by omega),?_⟩
   rw [qfJ xs (Nat.le_of_lt e3)]
   refine ⟨qaa,⟨_,rfl⟩,qbf,?_⟩
   rw [List.range_succ,List.map_append]
   rfl
  ·rintro τ H2 ys ⟨_,rfl,rfl⟩
   rw [lM_,List.length_range]
   exact q _ _ (Same.upd hC) ⟨C,rfl,qaa⟩
 ·exact h.elim
end
end K11
end
section
namespace K11
open PySem L2
section
variable {P:Program} {w:World} {K:PySem.W.Frag} {mg:Str->Option Value} {base:Heap}
def pwd (n:Nat) (wire:List Bool) (i:Nat):List Bool:=(wire.drop (n * i)).take n
def nwd (n:Nat) (wire:List Bool):Nat:=(wire.length+n - 1) / n
theorem qeg (n:Nat) (wire:List Bool):pcs n (wire.map sg)=nwd n wire:=by unfold pcs nwd;rw [lM_]
theorem qlu (n:Nat) (wire:List Bool) (i:Nat):mkS (pce n (wire.map sg) i)=bs (pwd n wire i):=by
 unfold pce pwd
 rw [qiM,Nat.mul_comm i n,<-List.map_drop,<-List.map_take]
theorem qiw {n:Nat} {wire:List Bool} {i:Nat} (hn:1<=n) (h:i < nwd n wire):n * i < wire.length:=by
 rw [<-qeg] at h
 have:=qit hn h
 rwa [lM_,Nat.mul_comm] at this
theorem qgr {n:Nat} {wire:List Bool} (hn:1<=n):wire.length<=n * nwd n wire:=by
 unfold nwd
 have:=Nat.div_add_mod (wire.length+n - 1) n
 have h2:=Nat.mod_lt (wire.length+n - 1) (show 0 < n from hn)
 omega
theorem qlM {n:Nat} {wire:List Bool} (hn:1<=n):nwd n wire<=wire.length:=by
 rw [<-qeg]
 have:=qiu (xs:=wire.map sg) hn
 rwa [lM_] at this
theorem qbg {n m:Nat} {wire:List Bool} (hn:1<=n) (h:wire.length=n * m):nwd n wire=m:=by
 unfold nwd
 rw [h]
 have:n * m+n - 1=(n - 1)+n * m:=by omega
 rw [this,Nat.add_mul_div_left _ _ (show 0 < n from hn),Nat.div_eq_of_lt (by omega),Nat.zero_add]
def WQ (H:Hp) (v:V) (n:Nat) (wire:List Bool):Prop:=∃ l,v = .ref l/\H l=some (.lst ((List.range (nwd n wire)).map fun i=>V.str (bs (pwd n wire i))))
abbrev qfX:Stmt:=top 25
def qcH:Sp:=fun vs H Q _=>match vs with
 | [cv,.str z]=>∃ (wire:List Bool) (k n:Nat) (rows:Om.Rows),DV H cv (qaA k n rows)/\Om.CodeOk k n rows/\z=bs wire/\wire.length<=2000/\∀ v H',Same H H'->WQ H' v n wire->Q v H'
 | _=>False
theorem scGiven:FnScope ["code","wire"] ["code","wire"] (qad qfX):=⟨rfl,rfl,rfl,by decide +kernel,rfl,by decide +kernel,by decide +kernel⟩
theorem qhQ (D:FnX K mg "given_words" qfX ["code","wire"]) (g1:mg "isinstance" = none) (g2:mg "str" = none) (c1:Can P w K mg base "words_of" 1 ["wire","n"] qbX):Can P w K mg base "given_words" 2 ["code","wire"] qcH:=by
 refine qag (k:=1) D scGiven (fun vs H Q E h=>?_) (fun f cdv A outer s H vs Q E hr h=>?_)
 all_goals
  unfold qcH at h
  split at h
 ·rfl
 ·exact h.elim
 ·rename_i cv z
  obtain ⟨wire,k,n,rows,hc,ok,rfl,l2,q⟩:=h
  have nd:=scGiven.nd
  obtain ⟨a,b,ss,rfl,ha,hb,hss⟩:=qas hc
  refine ⟨_,(by walk_at "T.top"),?_⟩
  refine ⟨"str",rfl,by decide,qdu ?_⟩
  refine ⟨_,gt ha (by decide) rfl,?_⟩
  refine ⟨wire.map sg,n,qiM _,rfl,ok.n1,ok.n6,by rw [lM_];exact l2,fun v H1 s1 ⟨l,e,hl⟩=>q v H1 s1 ⟨l,e,?_⟩⟩
  rw [hl,qeg]
  congr 2
  exact List.map_congr_left fun i _=>by rw [qlu]
 ·exact h.elim
end
end K11
end
section
namespace K11
open PySem L2
section
variable {P:Program} {w:World} {K:PySem.W.Frag} {mg:Str->Option Value} {base:Heap}
theorem qnj {k:Nat} {ls:List Nat} (h:∀ l∈ls,l < 2 ^ k):Om.InR k (ni ls):=fun x hx=>by
 unfold ni at hx
 obtain ⟨l,hl,rfl⟩:=mM_ hx
 exact ⟨by omega,by exact_mod_cast h l hl⟩
abbrev qi7:Stmt:=top 36
def qdc:Sp:=fun vs H Q _=>match vs with
 | [cv,.int st,.ref t]=>∃ (k n:Nat) (rows:Om.Rows) (s0:Nat) (ls:List Nat),DV H cv (qaA k n rows)/\Om.CodeOk k n rows/\st=(s0:Int)/\s0 < rows.length/\H t=some (.lst ((ni ls).map V.int))/\ls.length<=750/\(∀ l∈ls,l < 2 ^ k) ∧
   ∀ p H',Same H H'->H' p=some (.tup [.str (bs (Om.send rows s0 ls).1),.int ((Om.send rows s0 ls).2:Nat)])->Q (.ref p) H'
 | _=>False
theorem scSent:FnScope ["code","state","text","words","letter","row"] ["code","state","text"] (qad qi7):=⟨rfl,rfl,rfl,by decide +kernel,rfl,by decide +kernel,by decide +kernel⟩
theorem qjM (D:FnX K mg "sent" qi7 ["code","state","text"]) (c1:Can P w K mg base "is_letter_list" 3 ["k","thing"] qbl):Can P w K mg base "sent" 4 ["code","state","text"] qdc:=by
 refine qag (k:=3) D scSent (fun vs H Q E h=>?_) (fun f cdv A outer s H vs Q E hr h=>?_)
 all_goals
  unfold qdc at h
  split at h
 ·rfl
 ·exact h.elim
 ·rename_i cv st t
  obtain ⟨k,n,rows,s0,ls,hc,ok,rfl,hs0,ht,hlen,hls,q⟩:=h
  have nd:=scSent.nd
  obtain ⟨a,b,ss,rfl,ha,hb,hss⟩:=qas hc
  refine ⟨_,(by walk_at "T.top"),?_⟩
  have hn:(ni ls).length=ls.length:=by unfold ni;simp
  refine ⟨_,gt ha (by decide) rfl,?_⟩
  refine ⟨k,ni ls,rfl,ht,by omega,fun c H1 ic s1=>?_⟩
  rw [ic.mpr (qnj hls)]
  refine qdu ?_
  refine ⟨Nat.zero_le _,fun wl hwl=>?_⟩
  have s2:∀ o,Same H (upd H1 wl o):=fun o=>s1.trans (Same.upd hwl)
  refine ⟨⟨_,SqL.of (s2 _ _ _ ht)⟩,qaD (qaj _ t ((ni ls).map V.int)) (fun i σ H2=>(∃ v4 v5,σ=[some (.ref a),some (.int ((Om.send rows s0 (ls.take i)).2:Nat)),some (.ref t),some (.ref wl),v4,v5])/\H2=upd H1 wl (.lst ((Om.words rows s0 (ls.take i)).map fun w=>V.str (bs w)))/\(Om.send rows s0 (ls.take i)).2 < rows.length)
   ⟨⟨none,none,rfl⟩,rfl,hs0⟩ (fun i σ H2 _ ⟨_,e,_⟩=>SqL.of (by rw [e];exact s2 _ _ _ ht)) ?_ ?_⟩
  ·rintro i x σ H2 hi hx ⟨⟨v4,v5,rfl⟩,rfl,hlt⟩
   rw [gM_,ni,gM_] at hx
   obtain ⟨n',hn',rfl⟩:=Option.map_eq_some_iff.mp hx
   obtain ⟨l,hl,rfl⟩:=Option.map_eq_some_iff.mp hn'
   obtain ⟨st,e1,e2,e3,e4⟩:=Om.step_get ok hlt (hls l (mO_ hl))
   obtain ⟨p,rs,f1,f2,f3⟩:=qaJ hss e1
   obtain ⟨r,f4,f5⟩:=qa9 f3 e2
   refine ⟨_,gt (s2 _ _ _ ha) (by decide) rfl,_,gl (s2 _ _ _ hb) (by omega) (by simpa using f1),_,gl (s2 _ _ _ f2) (by omega) (by simpa using f4),?_⟩
   refine ⟨⟨_,rfl,qaa⟩,?_⟩
   refine ⟨_,gt (s2 _ _ _ f5) (by decide) rfl,_,qaa,?_,?_⟩
   ·rw [lM_,Om.words_len,List.length_take];exact lt_line (by omega)
   refine ⟨_,gt (by rw [qbf];exact s2 _ _ _ f5) (by decide) rfl,?_⟩
   have ti:ls.take (i+1)=ls.take i++[l]:=by rw [List.take_add_one,hl];rfl
   refine ⟨⟨some (.int l),some (.ref r),?_⟩,?_,?_⟩
   ·rw [ti,Om.send_snoc];rfl
   ·rw [qbf,ti,Om.words_snoc,List.map_append];rfl
   ·rw [ti,Om.send_snoc];exact e4
  ·rintro σ H2 ⟨⟨v4,v5,rfl⟩,rfl,hlt⟩
   have tl:ls.take ((ni ls).map V.int).length=ls:=List.take_of_length_le (by rw [lM_,hn];exact Nat.le_refl _)
   rw [tl]
   have ws:(Om.words rows s0 ls).map (fun w=>V.str (bs w))=((Om.words rows s0 ls).map bs).map V.str:=by rw [List.map_map];rfl
   refine ⟨rfl,(Om.words rows s0 ls).map bs,by rw [qaa,ws],?_,?_⟩
   ·have h1:(((Om.words rows s0 ls).map bs).map (·.length)).sum=((Om.words rows s0 ls).flatten).length:=by
     rw [List.length_flatten,List.map_map]
     congr 1
     apply List.map_congr_left
     intro x _
     exact qaI x
    have h2:((Om.words rows s0 ls).flatten).length<=4500:=by
     rw [Om.words_flat,(Om.send_ok ok ls s0 hs0 hls).1]
     have h6:=ok.n6
     calc n * ls.length<=6 * 750:=Nat.mul_le_mul h6 hlen
      _<=4500:=by decide
    have h3:(("" : Str)).length=0:=by decide +kernel
    rw [h1,h3]
    omega
   refine ⟨lZ_ rfl,fun p hp=>?_⟩
   refine q p _ ((s2 _).trans (Same.upd hp)) ?_
   rw [qaa,qha,Om.words_flat]
 ·exact h.elim
end
end K11
end
section
namespace K11
open PySem L2
section
variable {P:Program} {w:World} {K:PySem.W.Frag} {mg:Str->Option Value} {base:Heap}
abbrev qd5:Stmt:=top 35
def qcA:Sp:=fun vs H Q _=>match vs with
 | [.int i,.int a,.int b]=>a<=i/\i<=b/\Q (.bl true) H
 | _=>False
theorem scWithin:FnScope ["thing","least","greatest"] ["thing","least","greatest"] (qad qd5):=⟨rfl,rfl,rfl,by decide +kernel,rfl,by decide +kernel,by decide +kernel⟩
theorem qgk (D:FnX K mg "is_within" qd5 ["thing","least","greatest"]) (c1:Can P w K mg base "is_whole" 1 ["thing"] qbY):Can P w K mg base "is_within" 2 ["thing","least","greatest"] qcA:=by
 refine qag (k:=1) D scWithin (fun vs H Q E h=>?_) (fun f cdv A outer s H vs Q E hr h=>?_)
 all_goals
  unfold qcA at h
  split at h
 ·rfl
 ·exact h.elim
 ·rename_i i a b
  obtain ⟨h1,h2,q⟩:=h
  have nd:=scWithin.nd
  refine ⟨_,(by walk_at "T.top1"),?_⟩
  refine qem (decide_eq_true h1) ?_
  have e2:decide (i<=b)=true:=decide_eq_true h2
  show Q (.bl (decide (i<=b))) H
  rw [e2]
  exact q
 ·exact h.elim
end
section
variable {P:Program} {w:World} {K:PySem.W.Frag} {mg:Str->Option Value} {base:Heap}
abbrev qb4:Stmt:=top 38
def qbu:Sp:=fun vs H Q _=>match vs with
 | [.ref b]=>∃ c:List Int,H b=some (.lst (c.map V.int))/\Q (.int (Om.letterOf c)) H
 | _=>False
theorem scLetterOf:FnScope ["bits","letter","bit"] ["bits"] (qad qb4):=⟨rfl,rfl,rfl,by decide +kernel,rfl,by decide +kernel,by decide +kernel⟩
theorem qef (D:FnX K mg "letter_of" qb4 ["bits"]):Can P w K mg base "letter_of" 1 ["bits"] qbu:=by
 refine qag (k:=0) D scLetterOf (fun vs H Q E h=>?_) (fun f cdv A outer s H vs Q E hr h=>?_)
 all_goals
  unfold qbu at h
  split at h
 ·rfl
 ·exact h.elim
 ·rename_i b
  obtain ⟨c,hb,q⟩:=h
  have nd:=scLetterOf.nd
  refine ⟨_,(by walk_at "T.top"),?_⟩
  refine ⟨⟨_,SqL.of hb⟩,qaD (qaj _ b (c.map V.int)) (fun i σ H2=>H2=H/\∃ v,σ=[some (.ref b),some (.int (Om.letterOf (c.take i))),v]) ⟨rfl,none,rfl⟩ (fun i σ H2 _ ⟨e,_⟩=>SqL.of (e.symm ▸ hb)) ?_ ?_⟩
  ·rintro i x σ H2 hi hx ⟨rfl,v,rfl⟩
   rw [gM_] at hx
   obtain ⟨n,hn,rfl⟩:=Option.map_eq_some_iff.mp hx
   refine ⟨.inl ⟨by decide,by decide⟩,⟨rfl,some (.int n),?_⟩⟩
   have e:Om.letterOf (c.take (i+1))=2 * Om.letterOf (c.take i)+n:=by
    unfold Om.letterOf
    rw [List.take_add_one,hn]
    simp
   rw [e]
   rfl
  ·rintro σ H2 ⟨rfl,v,rfl⟩
   rw [lM_,List.take_length]
   exact q
 ·exact h.elim
end
section
variable {P:Program} {w:World} {K:PySem.W.Frag} {mg:Str->Option Value} {base:Heap}
theorem qcc {j:Nat} (hj:j=1\/j=2\/j=3):∀ {cs:List (List Int)},(∀ c∈cs,c.length=j)->(∀ c∈cs,∀ b∈c,Om.Bit b)->∃ ls:List Nat,cs.map Om.letterOf=ni ls/\ls.length=cs.length/\∀ l∈ls,l < 2 ^ j
 | [],_,_=>⟨[],rfl,rfl,by simp⟩
 | c :: cs,h1,h2=>by
  obtain ⟨ls,e,el,hl⟩:=qcc hj (cs:=cs) (fun c hc=>h1 c (mC_ _ hc)) (fun c hc=>h2 c (mC_ _ hc))
  obtain ⟨p0,p1,_⟩:=Om.letter_ok hj (h1 c List.mem_cons_self) (h2 c List.mem_cons_self)
  refine ⟨(Om.letterOf c).toNat :: ls,?_,by simp [el],fun l hl'=>?_⟩
  ·rw [List.map_cons,e]
   unfold ni
   rw [List.map_cons,Int.toNat_of_nonneg p0]
  ·rcases List.mem_cons.mp hl' with z | z
   ·rw [z]
    have:(((Om.letterOf c).toNat:Nat):Int) < ((2 ^ j:Nat):Int):=by rw [Int.toNat_of_nonneg p0];simpa using p1
    exact_mod_cast this
   ·exact hl l z
abbrev qcO:Stmt:=top 37
def qbZ:Sp:=fun vs H Q _=>match vs with
 | [.int k,.ref b]=>∃ (j m:Nat) (bits:List Int),k=(j:Int)/\(j=1\/j=2\/j=3)/\H b=some (.lst (bits.map V.int))/\bits.length=m * j/\m<=100/\(∀ x∈bits,Om.Bit x) ∧
    ∀ p H' (ls:List Nat),Same H H'->H p=none->H' p=some (.lst ((ni ls).map V.int))->ls.length=m->(∀ l∈ls,l < 2 ^ j)->Q (.ref p) H'
 | _=>False
theorem scLetters:FnScope ["k","bits"] ["k","bits"] (qad qcO):=⟨rfl,rfl,rfl,by decide +kernel,rfl,by decide +kernel,by decide +kernel⟩
local macro_rules | `(tactic| walk_at "T.c")=>`(tactic| (have ndc:(["bit"]:List Str).Nodup:=(by decide +kernel));((with_reducible refine' qaH ["bit"] [] ?b1 ?b2 (fun cl C s H fp=>?b3) (fun cl C s H fp=>?b4) (fun cl C s H fp=>?b5));(case b1=>exact ndc);(case b2=>walk_at "T.i");(case b3=>walk_at "T.g");(case b4=>walk_at "T.pf");(case b5=>walk_at "T.e")))
local macro_rules | `(tactic| walk_at "T.c")=>`(tactic| (have ndc:(["place","bits","k"]:List Str).Nodup:=(by decide +kernel));((with_reducible refine' qaH ["place","bits","k"] [1,0] ?b1 ?b2 (fun cl C s H fp=>?b3) (fun cl C s H fp=>?b4) (fun cl C s H fp=>?b5));(case b1=>exact ndc);(case b2=>walk_at "T.i");(case b3=>walk_at "T.g");(case b4=>walk_at "T.pf");(case b5=>walk_at "T.e")))
theorem qfd (D:FnX K mg "letters" qcO ["k","bits"]) (g1:mg "isinstance" = none) (g2:mg "list" = none) (g3:mg "all" = none) (g4:mg "len" = none) (g5:mg "range" = none)
  (c1:Can P w K mg base "is_within" 2 ["thing","least","greatest"] qcA) (c2:Can P w K mg base "letter_of" 1 ["bits"] qbu):Can P w K mg base "letters" 3 ["k","bits"] qbZ:=by
 refine qag (k:=2) D scLetters (fun vs H Q E h=>?_) (fun f cdv A outer s H vs Q E hr h=>?_)
 all_goals
  unfold qbZ at h
  split at h
 ·rfl
 ·exact h.elim
 ·rename_i k b
  obtain ⟨j,m,bits,rfl,hj,hb,bl,m100,hbits,q0⟩:=h
  have nd:=scLetters.nd
  have j3:1<=j/\j<=3:=Or.elim hj (fun e=>by rw [e];decide) fun z=>Or.elim z (fun e=>by rw [e];decide) fun e=>by rw [e];decide
  obtain ⟨cs,hm0,hc,rfl⟩:=Om.cut j (by omega) m bits bl
  have hbit:∀ c∈cs,∀ b∈c,Om.Bit b:=fun c hc' b hb'=>hbits b (List.mem_flatten.mpr ⟨c,hc',hb'⟩)
  have hlen:cs.length<=100:=by omega
  have q:∀ p H',Same H H'->H p=none->H' p=some (.lst ((cs.map Om.letterOf).map V.int))->Q (.ref p) H':=fun p H' s1 n1 h1=>by
   obtain ⟨ls,e,el,hl⟩:=qcc hj hc hbit
   rw [e] at h1
   exact q0 p H' ls s1 n1 h1 (by omega) hl
  refine ⟨_,(by walk_at "T.top"),?_⟩
  have fl:cs.flatten.length=cs.length * j:=Om.flat_len cs hc
  have fl3:cs.flatten.length<=300:=by
   rw [fl]
   calc cs.length * j<=100 * 3:=Nat.mul_le_mul hlen j3.2
    _<=300:=by decide
  refine ⟨"list",(by simp [tyN,hb]),by decide,?_⟩
  refine qol (by decide) ?_
  refine ⟨⟨_,SqL.of hb⟩,fun D1 hD1=>?_⟩
  refine qbp (qaj _ b (cs.flatten.map V.int)) (fun _=>.bl true) (by rw [lM_];exact qae (by omega)) (fun o=>SqL.upd hb hD1) (fun i x ys hx C c=>?_) ?_
  ·rw [gM_] at hx
   obtain ⟨n,hn,rfl⟩:=Option.map_eq_some_iff.mp hx
   obtain ⟨c',hc',hn'⟩:=List.mem_flatten.mp (mO_ hn)
   have e:(decide ((0:Int)<=n) && decide (n<=1))=true:=by rcases hbit c' hc' n hn' with rfl | rfl<;>decide
   rw [Bool.and_eq_true,decide_eq_true_eq,decide_eq_true_eq] at e
   exact ⟨e.1,e.2,c⟩
  refine ⟨(cs.flatten.map V.int).map fun _=>true,by rw [qaa];exact congrArg (fun l=>some (HO.lst l)) (qih _),?_⟩
  rw [qmq 0 (by simp)]
  have s1:Same H (upd H D1 (HO.lst ((cs.flatten.map V.int).map fun _=>V.bl true))):=Same.upd hD1
  generalize upd H D1 (HO.lst ((cs.flatten.map V.int).map fun _=>V.bl true))=H1 at s1 ⊢
  refine ⟨_,s1 _ _ hb,qbr (fun h1=>?_) (fun h1=>?_)⟩
  ·have e:cs.flatten=[]:=by simpa using h1
   have e0:cs=[]:=by
    cases cs with
    | nil=>rfl
    | cons c r=>
     have:=hc c List.mem_cons_self
     rw [List.flatten_cons,List.append_eq_nil_iff] at e
     rw [e.1] at this
     simp at this
     omega
   subst e0
   exact ⟨Nat.zero_le _,fun p hp=>q p _ (s1.trans (Same.upd hp)) (s1.free hp) qaa⟩
  ·have hm:1<=cs.length:=by
    cases cs with
    | nil=>simp at h1
    | cons c r=>simp
   have hmod:((((cs.flatten.map V.int).length:Nat):Int) % (j:Int))=0:=by
    rw [lM_,fl]
    push_cast
    exact Int.mul_emod_left _ _
   dsimp only [qfr,qfs,qaG]
   refine qeB (c1:=false) (c2:=false) (fun Q q=>?_) (fun _ Q q=>⟨_,qbE (s1 _ _ hb),(by omega:(0:Int) < (j:Int)),?_⟩) ?_
   ·show Q (decide ((j:Int) < 1)) H1
    rw [decide_eq_false (by omega)]
    exact q
   ·show Q (!decide (((((cs.flatten.map V.int).length:Nat):Int) % (j:Int))=0)) H1
    rw [decide_eq_true hmod]
    exact q
   refine qdu ?_
   have rs:(Builtin.Range.rangeSize 0 (((cs.flatten.map V.int).length:Nat):Int) (j:Int)).toNat=cs.length:=by
    unfold Builtin.Range.rangeSize
    have hL:(0:Int) < (((cs.flatten.map V.int).length:Nat):Int):=by rw [lM_,fl];have:0 < cs.length * j:=Nat.mul_pos hm j3.1;omega
    rw [if_pos (by omega),if_pos hL,lM_,fl]
    push_cast
    rcases hj with rfl | rfl | rfl<;>omega
   have hLb:(((cs.flatten.map V.int).length:Nat):Int)<=300:=by rw [lM_];omega
   refine ⟨_,qbE (s1 _ _ hb),⟨by omega,by omega,by omega,by omega,by omega,by omega,by omega⟩,fun D2 hD2=>?_⟩
   rw [rs]
   have nD2:H D2=none:=s1.free hD2
   refine qaq (qce 0 (j:Int) cs.length) (fun i τ H2 ys=>(∃ v,τ=[v,some (.ref b),some (.int j)])/\Same H H2/\H2 D2=some (.lst ys)/\ys=((cs.take i).map Om.letterOf).map V.int/\i<=cs.length) (by simp;exact qae (by omega)) ⟨⟨none,rfl⟩,s1.trans (Same.upd hD2),qaa,rfl,Nat.zero_le _⟩ ?_ ?_ ?_
   ·rintro i τ H2 ys hi ⟨_,_,h2,rfl,_⟩
    refine ⟨trivial,h2,by simp [List.length_take];omega⟩
   ·rintro i x τ H2 ys hi hx ⟨⟨v,rfl⟩,s2,h2,rfl,hi2⟩
    have hi':i < cs.length:=by simpa using hi
    have ex:x = .int (0+(i:Nat) * (j:Int)):=by
     rw [gM_,List.getElem?_range hi'] at hx
     exact (oI_ hx).symm
    subst ex
    refine ⟨_,s2 _ _ hb,fun p hp=>?_⟩
    have hc1:qdR (cs.flatten.map V.int) (some (0+(i:Nat) * (j:Int))) (some (0+(i:Nat) * (j:Int)+(j:Int)))=(cs[i]).map V.int:=by
     have e1:(0+(i:Nat) * (j:Int))=((i * j:Nat):Int):=by push_cast;omega
     have e2:(0+(i:Nat) * (j:Int)+(j:Int))=((i * j+j:Nat):Int):=by push_cast;omega
     have e3:i * j+j<=(cs.flatten.map V.int).length:=by
      rw [lM_,fl]
      calc i * j+j=(i+1) * j:=by rw [Nat.succ_mul]
       _<=cs.length * j:=Nat.mul_le_mul_right _ hi'
     rw [e2,e1,qkj _ _ _ (by omega) e3,<-List.map_drop,<-List.map_take,show i * j+j - i * j=j by omega,Om.cut_get cs i hc hi']
    refine ⟨cs[i],by rw [qaa,hc1],?_⟩
    have pD:D2≠p:=qac h2 hp
    have ti:cs.take (i+1)=cs.take i++[cs[i]]:=by rw [List.take_add_one,gE_ hi'];rfl
    refine ⟨by rw [qab pD];exact h2,⟨_,rfl⟩,fun x o e=>?_,qaa,?_,hi'⟩
    ·rw [qab (qac e nD2)]
     exact Same.upd hp _ _ (s2 _ _ e)
    ·rw [ti,List.map_append,List.map_append]
     rfl
   ·rintro τ H2 ys ⟨_,s2,h2,rfl,_⟩
    rw [lM_,List.length_range,List.take_length] at h2
    exact q _ _ s2 nD2 h2
 ·exact h.elim
end
end K11
end
section
namespace L2
open PySem PySem.Spec PyProof.Rows
end L2
end
section
namespace L2
open PySem PySem.Spec PyProof.Rows
section
variable {X:Cx} {p pos:Pos} {e:Expr} {es:List Expr} {t:TA}
end
end L2
end
section
namespace L2
open PySem PySem.Spec PyProof.Rows
section
variable {X:Cx}
variable {elt target iter:Expr} {ifs:List Expr} {scope:Scope} {pos spos:Pos} {wi:TI} {g:TG} {tt:TT} {te:TE}
end
end L2
end
section
namespace L2
open PySem PySem.Spec PyProof.Rows
section
variable {X:Cx} {tg:Expr}
end
end L2
end
section
namespace L2
open PySem PySem.Spec PyProof.Rows
section
variable {prog:Program} {w:World} {A:Around} {E:Value->Shared->Prop} {s:Shared}
end
section
variable {X:Cx} {p pos:Pos}
end
end L2
end
section
namespace Om
def stp (b:Bool):Int:=if b then 1 else -1
def tot (ws:List Bool):Int:=(ws.map stp).sum
def wt (turn:Int) (r:List Bool×Nat):Int:=turn * tot r.1
section
variable {rows:Rows} {turn:Int} {ks ks':List Nat} {E E':Nat->Int} {ed ed':Nat->Nat->Prop} {s l:Nat} {r:List Bool×Nat}
end
end Om
namespace L2
open PySem PySem.Spec PyProof.Rows
section
variable {H H':Hp} {kvs:List (Key×V)} {ks:List Nat} {E:Nat->Int} {c:Nat}
end
end L2
end
section
namespace L2
open PySem PySem.Spec PyProof.Rows
section
variable {X:Cx} {p pos apos:Pos} {a b e o:Expr} {es:List Expr} {t:TA} {to:TE}
end
end L2
end
section
namespace L2
open PySem PySem.Spec PyProof.Rows
section
variable {prog:Program} {w:World} {A:Around} {E:Value->Shared->Prop} {s:Shared}
end
section
variable {X:Cx} {pos apos:Pos} {o e:Expr} {to:TE} {t:TA} {es:List Expr}
end
end L2
end
section
namespace L2
open PySem PySem.Spec PyProof.Rows
section
variable {prog:Program} {w:World} {A:Around}
end
section
variable {X:Cx} {p pos:Pos}
end
end L2
end
section
namespace L2
open PySem PySem.Spec PyProof.Rows
section
variable {X:Cx}
end
end L2
namespace L2
end L2
end
section
namespace L2
open PySem PySem.Spec PyProof.Rows
section
variable {X:Cx} {a b:Expr} {p pos:Pos} {ta:TA}
end
end L2
end
section
namespace L2
open PySem PySem.Spec PyProof.Rows PySem.W
section
variable {X:Cx}
theorem qbs:∀ {ws:List Str} {us:List Value},Vals (ws.map V.str) us->StrsAre us ws
 | [],_,r=>by cases r;exact .nil
 | x :: ws,_,r=>by
  cases r with
  | cons r1 r2=>
   obtain ⟨t,rfl⟩:=r1
   exact .cons x t (qbs r2)
def qf4:R2:=fun x y H Q=>match x,y with
 | .str z,.ref p=>∃ zs:List Str,H p=some (.lst (zs.map V.str))/\Q (.bl (!decide (z∈zs))) H
 | _,_=>False
theorem qgg:OpR X (compareOp .NotIn) qf4:=by
 intro pins s σ H x y v u Q I rx ry h
 unfold qf4 at h
 split at h
 ·rename_i z p
  obtain ⟨zs,hp,q⟩:=h
  obtain ⟨t,rfl⟩:=rx
  cases ry
  obtain ⟨hz,its,n,r,e⟩:=I.hok _ _ hp
  refine notin_list_strs (vs:=its) (ys:=zs) ⟨_,e,rfl,_,rfl⟩ (qbs r) ?_
  have:(!(zs.any (· == z)))=!decide (z∈zs):=by
   congr 1
   rw [Bool.eq_iff_iff,List.any_eq_true,decide_eq_true_eq]
   exact ⟨fun ⟨y,hy,ey⟩=>(eq_of_beq ey) ▸ hy,fun h=>⟨z,h,by simp⟩⟩
  rw [this]
  exact ⟨.bl _,H,I,rfl,q⟩
 ·exact h.elim
def qec:V->List V->Hp->VK->Prop:=fun x vs H Q=>match x,vs with
 | .ref l,[.str z]=>∃ zs:List Str,H l=some (.lst (zs.map V.str))/\z∈zs/\Q (.int (zs.idxOf z:Nat)) H
 | _,_=>False
theorem qbx (k:Str):∀ {vs:List Value} {zs:List Str},StrsAre vs zs->∀ (j:Nat) (h1:j < vs.length) (h2:j < zs.length),isStrOf k vs[j]=(zs[j] == k)
 | _,_,.nil,_,h1,_=>absurd h1 (Nat.not_lt_zero _)
 | _,_,.cons n t h,0,_,_=>rfl
 | _,_,.cons n t h,j+1,h1,h2=>qbx k h j (by simpa using h1) (by simpa using h2)
theorem qdl {k:Str}:∀ {zs:List Str} {j:Nat},j < zs.idxOf k->∀ (h2:j < zs.length),(zs[j] == k)=false
 | [],j,_,h2=>absurd h2 (Nat.not_lt_zero _)
 | a :: zs,0,h,_=>by
  rw [List.idxOf_cons] at h
  cases e:(a == k) with
  | true=>rw [e] at h;exact absurd h (Nat.not_lt_zero _)
  | false=>exact e
 | a :: zs,j+1,h,h2=>by
  rw [List.idxOf_cons] at h
  cases e:(a == k) with
  | true=>rw [e] at h;exact absurd h (Nat.not_lt_zero _)
  | false=>
   rw [e] at h
   have h':j+1 < zs.idxOf k+1:=h
   exact qdl (Nat.lt_of_succ_lt_succ h') (Nat.lt_of_succ_lt_succ h2)
theorem qhp {vs:List Value} {zs:List Str} (h:StrsAre vs zs):vs.length=zs.length:=by
 induction h with
 | nil=>rfl
 | cons _ _ _ ih=>rw [List.length_cons,List.length_cons,ih]
theorem qgs:MtM X "list.index" qec:=by
 intro pins s σ H x vs v us Q I rx rv h
 unfold qec at h
 split at h
 ·rename_i l k
  obtain ⟨ns,hH,hk,q⟩:=h
  cases rx
  obtain ⟨u,rfl,ru⟩:=rv.one
  obtain ⟨t,rfl⟩:=ru
  obtain ⟨z,its,n,r,e⟩:=I.hok _ _ hH
  have hi:=qbs r
  have hlen:=qhp hi
  have hj:ns.idxOf k < ns.length:=List.idxOf_lt_length_iff.mpr hk
  have hb:ns.length<=sizeLine:=by rw [lM_] at z;exact z
  rw [sizeLine_eq] at hb
  refine call_meets PySem.F.slot_list_index ⟨_,e,rfl⟩ PySem.F.entry_list_index (PySem.F.args_list_index_2 _ _)
   (PySem.SeqAt.list_indexAt l its.toArray n none #[] (.str k t) (isStrOf k) (ns.idxOf k) (by simpa [hlen] using hj) (by omega) ?_ ?_) ⟨e,fun y hy=>(eq_isStrOf k t hi y (by simpa using hy)).at _ _,?_⟩
  ·show isStrOf k its[ns.idxOf k]=true
   rw [qbx k hi _ (by omega) hj]
   simpa using List.getElem_idxOf hj
  ·intro j hjs hlt
   show isStrOf k its[j]=false
   rw [qbx k hi j (by simpa using hjs) (by omega)]
   exact qdl hlt _
  ·exact ⟨.int _,H,I.tok _,⟨_,rfl⟩,q⟩
 ·exact h.elim
theorem qhZ {o e:Expr} {es:List Expr} {to:TE} {t:TA} {apos cpos:Pos} (ho:PE X o to) (ha:PA X (e :: es) t)
  (hbase:attributeBase o "index" X.env (eval o X.env)=eval o X.env:=by kernel_rfl)
  (hfew:((backTo cpos (starEach (e :: es) X.env)).all (fun x=>!x.1) && (backToKw cpos (keywordEach [] X.env)).all (fun x=>x.1.isSome)
   && decide ((e :: es).length+([]:List Keyword).length+(if ([]:List Keyword).isEmpty then 0 else 1) < 30))=true:=by kernel_rfl)
  (hline:(apos.endLine == cpos.line)=true:=by kernel_rfl) (hs:starEach (e :: es) X.env=(false,eval e X.env) :: starEach es X.env:=by kernel_rfl) (hplain:(backTo cpos (starEach es X.env)).any (·.1)=false:=by kernel_rfl) :
  PE X (.Call (.Attribute o "index" apos) (e :: es) [] cpos) (tMt "list" qec to t):=qfa PySem.F.plainAttrs_list PySem.F.slot_list_index PySem.F.type_list_index qgs ho ha hbase hfew hline hs hplain
end
section
variable {X:Cx} {pins:List (Addr×Obj)} {σ:St} {H:Hp} {s:Shared} {h':Heap}
end
section
variable {P:Program} {w:World} {K:PySem.W.Frag} {mg:Str->Option Value} {base:Heap} {N:List Str} {qual:Str} {scope:Scope} {f:Addr} {cd:Value} {A:Around} {outer:List Env} {s:Shared} {H:Hp} {E:XK}
end
section
variable {X:Cx} {x:Str} {p pos apos npos:Pos} {e:Expr} {es:List Expr} {t:TA} {k:Nat} {ps:List Str} {sp:Sp}
end
end L2
end
section
namespace K11
open PySem L2
section
variable {P:Program} {w:World} {K:PySem.W.Frag} {mg:Str->Option Value} {base:Heap}
theorem qdv {α:Type} [DecidableEq α]:∀ {l:List α} {i:Nat} (h:i < l.length),l.Nodup->l.idxOf l[i]=i
 | a :: l,0,_,_=>by simp
 | a :: l,i+1,h,nd=>by
  rw [List.nodup_cons] at nd
  have h':i < l.length:=by simpa using h
  have ne:a≠l[i]:=fun z=>nd.1 (z ▸ List.getElem_mem h')
  rw [List.getElem_cons_succ,List.idxOf_cons,beq_false_of_ne ne,cond_false,qdv h' nd.2]
theorem qcL {k n:Nat} {rows:Om.Rows} (ok:Om.CodeOk k n rows) {t:List Nat} (ht:∀ l∈t,l < 2 ^ k) {i:Nat} (hi:i < t.length):pwd n (Om.send rows 0 t).1 i=(Om.step rows (Om.send rows 0 (t.take i)).2 t[i]).1:=by
 have e0:t=t.take i++(t[i] :: t.drop (i+1)):=by rw [<-List.drop_eq_getElem_cons hi,List.take_append_drop]
 have h1:∀ l∈t.take i,l < 2 ^ k:=fun l hl=>ht l (List.mem_of_mem_take hl)
 have l1:((Om.send rows 0 (t.take i)).1).length=n * i:=by rw [(Om.send_ok ok _ 0 ok.s1 h1).1,List.length_take,Nat.min_eq_left (by omega)]
 have hs:=(Om.send_ok ok _ 0 ok.s1 h1).2
 have l2:((Om.step rows (Om.send rows 0 (t.take i)).2 t[i]).1).length=n:=by
  obtain ⟨_,_,_,h,_⟩:=Om.step_get ok hs (ht _ (List.getElem_mem hi))
  exact h
 have e1:(Om.send rows 0 t).1=(Om.send rows 0 (t.take i)).1++((Om.step rows (Om.send rows 0 (t.take i)).2 t[i]).1++(Om.send rows (Om.step rows (Om.send rows 0 (t.take i)).2 t[i]).2 (t.drop (i+1))).1):=by
  have:=Om.send_app rows (t.take i) (t[i] :: t.drop (i+1)) 0
  rw [<-e0] at this
  rw [this]
  rfl
 unfold pwd
 rw [e1,<-l1,List.drop_left,<-l2,List.take_left]
abbrev sRP:Stmt:=top 24
def qmR (P0:Addr):Sp:=fun vs H Q _=>match vs with
 | [cv,.str z]=>∃ (k n:Nat) (rows:Om.Rows) (t:List Nat),DV H cv (qaA k n rows)/\Om.CodeOk k n rows/\Tab P0 (qap qay) qSt H/\Om.Plain rows/\(∀ l∈t,l < 2 ^ k)/\t.length<=100/\z=bs (Om.send rows 0 t).1 ∧
   ∀ l H',SameT P0 H H'->Tab P0 (qap qay) qSt H'->H l=none->H' l=some (.lst ((ni t).map V.int))->Q (.ref l) H'
 | _=>False
theorem scRP:FnScope ["code","wire","text","state","at","word","words","letter"] ["code","wire"] (qad sRP):=⟨rfl,rfl,rfl,by decide +kernel,rfl,by decide +kernel,by decide +kernel⟩
local macro_rules | `(tactic| walk_at "T.sc")=>`(tactic| (have ndc:(["row"]:List Str).Nodup:=(by decide +kernel));((with_reducible refine' qdg "words" 6 ["row"] [] ?b1 ?b0 ?b2 (fun cl C s H fp=>?b3) (fun cl C s H fp=>?b4) (fun cl C s H fp=>?b5));(case b1=>exact ndc);(case b0=>assumption);(case b2=>walk_at "T.i");(case b3=>walk_at "T.g");(case b4=>walk_at "T.pf");(case b5=>walk_at "T.e")))
local macro_rules | `(tactic| walk_at "T.cmp")=>`(tactic| (with_reducible exact qgg))
local macro_rules | `(tactic| walk_at "T.m")=>`(tactic| ((with_reducible refine' qhZ ?a1 ?a2);(case a1=>walk_at "T.e");(case a2=>walk_at "T.a")))
theorem qnd {P0:Addr} (D:FnX K mg "read_plain" sRP ["code","wire"]) (g1:mg "enumerate" = none) (c1:Can P w K mg base "is_plain" 5 ["code"] (qcC P0)) (c2:Can P w K mg base "given_words" 2 ["code","wire"] qcH):Can P w K mg base "read_plain" 6 ["code","wire"] (qmR P0):=by
 refine qag (k:=5) D scRP (fun vs H Q E h=>?_) (fun f cdv A outer s H vs Q E hr h=>?_)
 all_goals
  unfold qmR at h
  split at h
 ·rfl
 ·exact h.elim
 ·rename_i cv z
  obtain ⟨k,n,rows,t,hc,ok,tb,pl,ht,t100,rfl,q⟩:=h
  have nd:=scRP.nd
  refine ⟨_,(by walk_at "T.top"),?_⟩
  refine ⟨k,n,rows,hc,ok,tb,fun b H1 s1 t1 hb=>?_⟩
  have hc1:=hc.monoT tb s1
  rw [hb.mpr pl]
  refine qdu ?_
  refine ⟨Nat.zero_le _,fun L hL=>?_⟩
  have w1:=Same.upd (o:=.lst []) hL
  have hL2:upd H1 L (.lst []) L=some (.lst []):=qaa
  have t2:=t1.mono w1
  have LP:L≠P0:=fun z=>by obtain ⟨ps,e⟩:=t1.tbl;rw [z,e] at hL;cases hL
  generalize upd H1 L (.lst [])=H2 at *
  have hc2:=hc1.mono w1
  obtain ⟨a,b,ss,rfl,ha,hb',hss⟩:=qas hc1
  have wl:((Om.send rows 0 t).1).length=n * t.length:=(Om.send_ok ok t 0 ok.s1 ht).1
  have n1:=ok.n1
  have n6:=ok.n6
  have big:n * t.length<=6 * 100:=Nat.mul_le_mul n6 t100
  have enw:=qbg (m:=t.length) n1 wl
  refine ⟨_,k,n,rows,hc2,ok,rfl,by omega,fun v H3 s3 wp=>?_⟩
  obtain ⟨l,rfl,hl⟩:=wp
  rw [enw] at hl
  refine ⟨⟨_,SqL.of hl⟩,?_⟩
  refine qci (qaU _ l _) (fun i σ H4=>∃ (v4 v5 v6 v7:Option V),σ=[some (.ref a),some (.str (bs (Om.send rows 0 t).1)),some (.ref L),some (.int ((Om.send rows 0 (t.take i)).2:Nat)),v4,v5,v6,v7]/\Same H1 H4/\H4 l=some (.lst ((List.range t.length).map fun i=>V.str (bs (pwd n (Om.send rows 0 t).1 i))))/\H4 L=some (.lst ((ni (t.take i)).map V.int)))
   ⟨none,none,none,none,rfl,w1.trans s3,hl,s3 _ _ hL2⟩ (fun i σ H4 _ ⟨_,_,_,_,_,_,h,_⟩=>h) ?_ ?_
  ·rintro i tt σ H4 hi ⟨v4,v5,v6,v7,rfl,s4,hl4,hL4⟩ htt
   have hi':i < t.length:=by simpa using hi
   have er2:((List.range t.length).map fun i=>V.str (bs (pwd n (Om.send rows 0 t).1 i))).getD i .non = .str (bs (pwd n (Om.send rows 0 t).1 i)):=by simp [List.getD_eq_getElem?_getD,hi']
   have lL:l≠L:=fun z=>by
    rw [z,hL4] at hl4
    have h1:=oI_ hl4
    injection h1 with h1
    have h2:=congrArg List.length h1
    simp [ni] at h2
    omega
   have hst:(Om.send rows 0 (t.take i)).2 < rows.length:=(Om.send_ok ok _ 0 ok.s1 fun l hl=>ht l (List.mem_of_mem_take hl)).2
   rw [qcL ok ht hi'] at er2
   have esn:(Om.send rows 0 (t.take (i+1))).2=(Om.step rows (Om.send rows 0 (t.take i)).2 t[i]).2:=by rw [List.take_add_one,gE_ hi'];exact Om.send_snoc ..
   have rst:Om.Rch (Om.nxR rows) (Om.send rows 0 (t.take i)).2:=qcQ ok .z fun l hl=>ht l (List.mem_of_mem_take hl)
   generalize (Om.send rows 0 (t.take i)).2=st at *
   dsimp only
   rw [er2]
   refine ⟨_,.inl qaa,rfl,rfl,?_⟩
   have w5:=Same.upd (o:=.tup [.int (i:Nat),.str (bs (Om.step rows st t[i]).1)]) htt
   have s5:=s4.trans w5
   have hl5:=w5 _ _ hl4
   have hL5:=w5 _ _ hL4
   generalize upd H4 tt (.tup [.int (i:Nat),.str (bs (Om.step rows st t[i]).1)])=H5 at *
   obtain ⟨qx,rs,e1,e2,e3⟩:=qaJ hss (s:=st) (st:=rows[st]) (gE_ hst)
   have eg:rows.getD st []=rows[st]:=by rw [List.getD_eq_getElem?_getD,gE_ hst];rfl
   have rl:rs.length=rows[st].length:=by rw [e3.length,lM_]
   have rk:rows[st].length=2 ^ k:=ok.len _ (List.getElem_mem hst)
   have r8:rows[st].length<=8:=by rw [rk];exact Om.pow8 ok.k3
   have hti:t[i] < rows[st].length:=by rw [rk];exact ht _ (List.getElem_mem hi')
   have es:Om.step rows st t[i]=rows[st][t[i]]:=by unfold Om.step;rw [eg,List.getD_eq_getElem?_getD,gE_ hti];rfl
   have ndw:(rows[st].map fun r=>bs r.1).Nodup:=by rw [Om.bs_nodup,<-eg];exact pl st rst
   rw [es] at esn ⊢
   refine ⟨_,gt (s5 _ _ ha) (by decide) rfl,.ref qx,gl (s5 _ _ hb') (by omega) (by simpa using e1),⟨_,SqL.of (s5 _ _ e2)⟩,fun M hM=>?_⟩
   refine qaq (qaj _ qx rs) (fun j τ H6 ys=>(∃ v,τ=[v])/\Same H5 H6/\H6 M=some (.lst ys)/\ys=((rows[st].take j).map fun r=>bs r.1).map V.str) (qae (by omega)) ⟨⟨none,rfl⟩,Same.upd hM,qaa,rfl⟩ ?_ ?_ ?_
   ·rintro j τ H6 ys hj ⟨_,s6,h6,rfl⟩
    exact ⟨SqL.of ((s5.trans s6) _ _ e2),h6,by rw [lM_,lM_,List.length_take];exact Nat.min_le_left _ _⟩
   ·rintro j y τ H6 ys hj hy ⟨⟨v,rfl⟩,s6,h6,rfl⟩
    have hj':j < rows[st].length:=by omega
    obtain ⟨r,r1,r2⟩:=qa9 e3 (l:=j) (r:=rows[st][j]) (gE_ hj')
    rw [hy] at r1
    cases r1
    refine ⟨_,gt ((s5.trans s6) _ _ r2) (by decide) rfl,h6,⟨_,rfl⟩,s6.own hM,qaa,?_⟩
    rw [List.take_add_one,gE_ hj',List.map_append,List.map_append]
    rfl
   ·rintro τ H6 ys ⟨_,s6,h6,rfl⟩
    rw [List.take_of_length_le (by omega)] at h6
    have s7:=s5.trans s6
    have hl6:=s6 _ _ hl5
    have hL6:=s6 _ _ hL5
    refine ⟨rows[st].map (fun r=>bs r.1),h6,?_⟩
    have hti2:t[i] < (rows[st].map fun r=>bs r.1).length:=by rw [lM_];exact hti
    have eix:(rows[st].map fun r=>bs r.1)[t[i]]=bs rows[st][t[i]].1:=by rw [List.getElem_map]
    have hz:bs rows[st][t[i]].1∈rows[st].map (fun r=>bs r.1):=eix ▸ List.getElem_mem hti2
    have hidx:(rows[st].map fun r=>bs r.1).idxOf (bs rows[st][t[i]].1)=t[i]:=by rw [<-eix];exact qdv hti2 ndw
    refine qj4 (by rw [decide_eq_true hz];decide) ?_
    refine ⟨⟨_,rfl,h6⟩,_,h6,hz,?_⟩
    rw [hidx]
    have ntl:(ni (t.take i)).length=i:=by unfold ni;rw [lM_,List.length_take];omega
    refine ⟨⟨_,rfl,hL6⟩,_,hL6,qeR (by rw [lM_];omega),?_⟩
    have s8:Same H1 (upd H6 L (.lst ((ni (t.take i)).map V.int++[.int (t[i]:Nat)]))):=s7.own hL
    have hl8:upd H6 L (.lst ((ni (t.take i)).map V.int++[.int (t[i]:Nat)])) l=H6 l:=qab lL
    rw [hl6] at hl8
    have hL8:upd H6 L (.lst ((ni (t.take i)).map V.int++[.int (t[i]:Nat)])) L=some (.lst ((ni (t.take (i+1))).map V.int)):=by rw [qaa,List.take_add_one,gE_ hi'];unfold ni;rw [List.map_append,List.map_append];rfl
    generalize upd H6 L (.lst ((ni (t.take i)).map V.int++[.int (t[i]:Nat)]))=H8 at *
    obtain ⟨r,r1,r2⟩:=qa9 e3 (l:=t[i]) (r:=rows[st][t[i]]) (gE_ hti)
    refine ⟨_,gt (s8 _ _ ha) (by decide) rfl,.ref qx,gl (s8 _ _ hb') (by omega) (by simpa using e1),.ref r,gl (s8 _ _ e2) (by omega) (by simpa using r1),_,gt (s8 _ _ r2) (by decide) rfl,?_⟩
    rw [esn]
    exact ⟨_,_,_,_,rfl,s8,hl8,hL8⟩
  ·rintro σ H4 ⟨v4,v5,v6,v7,rfl,s4,hl4,hL4⟩
   rw [lM_,List.length_range,List.take_length] at hL4
   exact q L H4 (s1.trans s4.t) (t1.mono s4) (s1.free hL LP) hL4
 ·exact h.elim
end
end K11
end
section
namespace K11
open PySem L2
theorem qbm {α:Type}:∀ {l:List α} {i j:Nat},l.Nodup->∀ (hi:i < l.length) (hj:j < l.length),l[i]=l[j]->i=j
 | a :: l,0,0,_,_,_,_=>rfl
 | a :: l,0,j+1,nd,_,hj,e=>absurd (show a∈l from (show a=l[j]'(by simpa using hj) from e) ▸ List.getElem_mem _) (List.nodup_cons.mp nd).1
 | a :: l,i+1,0,nd,hi,_,e=>absurd (show a∈l from (show l[i]'(by simpa using hi)=a from e) ▸ List.getElem_mem _) (List.nodup_cons.mp nd).1
 | a :: l,i+1,j+1,nd,hi,hj,e=>congrArg (· + 1) (qbm (List.nodup_cons.mp nd).2 (by simpa using hi) (by simpa using hj) e)
theorem qdi {α:Type}:∀ {l:List α},¬ l.Nodup->∃ i j,∃ (hi:i < l.length) (hj:j < l.length),i < j/\l[i]=l[j]
 | [],h=>absurd (by simp) h
 | a :: l,h=>by
  by_cases c:a∈l
  ·obtain ⟨j,hj,e⟩:=List.getElem_of_mem c
   exact ⟨0,j+1,by simp,by simpa using hj,by omega,e.symm⟩
  ·obtain ⟨i,j,hi,hj,ij,e⟩:=qdi (l:=l) (fun z=>h (List.nodup_cons.mpr ⟨c,z⟩))
   exact ⟨i+1,j+1,by simpa using hi,by simpa using hj,by omega,e⟩
theorem qby {s:Nat}:∀ {l:List Om.Stp} {acc:List qbj} {p:Nat×Nat},p∈acc.map (·.1)->p∈(l.foldl (qco s) acc).map (·.1)
 | [],_,_,h=>h
 | t :: l,acc,p,h=>by
  refine qby (l:=l) (acc:=qco s acc t) ?_
  unfold qco
  by_cases c:t.1.1=t.1.2\/t.2∈acc.map (·.1)
  ·rw [if_pos c];exact h
  ·rw [if_neg c,List.map_append];exact List.mem_append_left _ h
theorem qeY {s:Nat}:∀ {l:List Om.Stp} {acc:List qbj} {t:Om.Stp},t∈l->t.1.1≠t.1.2->t.2∈(l.foldl (qco s) acc).map (·.1)
 | u :: l,acc,t,h,ne=>by
  rcases List.mem_cons.mp h with h | h
  ·subst h
   refine qby (l:=l) (acc:=qco s acc t) ?_
   unfold qco
   by_cases c:t.1.1=t.1.2\/t.2∈acc.map (·.1)
   ·rw [if_pos c];exact c.resolve_left ne
   ·rw [if_neg c,List.map_append];exact List.mem_append_right _ (by simp)
  ·exact qeY (l:=l) h ne
theorem qgM {rows:Om.Rows}:∀ {qs:List Nat} {acc:List qbj} {p:Nat×Nat},p∈acc.map (·.1)->p∈(qs.foldl (stF rows) acc).map (·.1)
 | [],_,_,h=>h
 | s :: qs,acc,p,h=>qgM (qs:=qs) (acc:=stF rows acc s) (qby h)
theorem qiH {rows:Om.Rows}:∀ {qs:List Nat} {acc:List qbj} {s:Nat} {t:Om.Stp},s∈qs->t∈gS rows (s,s)->t.1.1≠t.1.2->t.2∈(qs.foldl (stF rows) acc).map (·.1)
 | u :: qs,acc,s,t,hs,ht,ne=>by
  rcases List.mem_cons.mp hs with h | h
  ·subst h
   exact qgM (qs:=qs) (acc:=stF rows acc s) (qeY ht ne)
  ·exact qiH (qs:=qs) h ht ne
theorem ql5 {rows:Om.Rows} {qs:List Nat} {s:Nat} {t:Om.Stp} (hs:s∈qs) (ht:t∈gS rows (s,s)) (ne:t.1.1≠t.1.2):t.2∈(fpF rows qs).map (·.1):=qiH hs ht ne
theorem qdA:∀ {m:Nat} {t u:List Nat},t.length=u.length->t.take m≠u.take m->∃ p,p < m/\p < t.length/\t.take p=u.take p/\t.getD p 0≠u.getD p 0
 | 0,t,u,_,h=>absurd (by simp) h
 | m+1,t,u,hl,h=>by
  by_cases c:t.take m=u.take m
  ·refine ⟨m,Nat.lt_succ_self m,?_,c,fun z=>h ?_⟩
   ·refine Classical.byContradiction fun no=>h ?_
    rw [List.take_of_length_le (by omega),List.take_of_length_le (by omega)]
    rwa [List.take_of_length_le (by omega),List.take_of_length_le (by omega)] at c
   ·by_cases hm:m < t.length
    ·rw [Om.take_succ_getD hm,Om.take_succ_getD (by omega),c,z]
    ·rw [List.take_of_length_le (by omega),List.take_of_length_le (by omega)]
     rwa [List.take_of_length_le (by omega),List.take_of_length_le (by omega)] at c
  ·obtain ⟨p,h1,h2⟩:=qdA hl c
   exact ⟨p,Nat.lt_succ_of_lt h1,h2⟩
theorem qcW {t:List Nat} {i:Nat} (h:i < t.length):t.getD i 0=t[i]:=by rw [List.getD_eq_getElem?_getD,gE_ h];rfl
theorem qin {k n:Nat} {rows:Om.Rows} (ok:Om.CodeOk k n rows) {t u:List Nat} (ht:∀ l∈t,l < 2 ^ k) (hu:∀ l∈u,l < 2 ^ k) (hl:t.length=u.length) (hw:(Om.send rows 0 t).1=(Om.send rows 0 u).1) {i:Nat} (hi:i < t.length) :
  Om.St rows (Om.send rows 0 (t.take i)).2 (Om.send rows 0 (u.take i)).2 ((t.getD i 0,u.getD i 0),((Om.send rows 0 (t.take (i+1))).2,(Om.send rows 0 (u.take (i+1))).2)):=by
 have hi':i < u.length:=by omega
 have h1:=qcL ok ht hi
 have h2:=qcL ok hu hi'
 have a1:(Om.send rows 0 (t.take i)).2 < rows.length:=(Om.send_ok ok _ 0 ok.s1 fun l hl=>ht l (List.mem_of_mem_take hl)).2
 have a2:(Om.send rows 0 (u.take i)).2 < rows.length:=(Om.send_ok ok _ 0 ok.s1 fun l hl=>hu l (List.mem_of_mem_take hl)).2
 rw [qcW hi,qcW hi']
 refine ⟨?_,?_,?_,?_⟩
 ·show t[i] < _
  rw [Om.rows_len ok a1];exact ht _ (List.getElem_mem hi)
 ·show u[i] < _
  rw [Om.rows_len ok a2];exact hu _ (List.getElem_mem hi')
 ·show (Om.step rows (Om.send rows 0 (t.take i)).2 t[i]).1=(Om.step rows (Om.send rows 0 (u.take i)).2 u[i]).1
  rw [<-h1,<-h2,hw]
 ·show (_,_)=(_,_)
  rw [Om.take_succ_getD hi,Om.take_succ_getD hi',Om.send_snoc,Om.send_snoc,qcW hi,qcW hi']
theorem qiz {k n:Nat} {rows:Om.Rows} (ok:Om.CodeOk k n rows) {qs:List Nat} (rc:RchL rows qs) (go:GOn rows qs) {d:Nat} (dl:DL rows qs d):Om.LateB rows k d:=by
 intro t u ht hu hl hw
 refine Classical.byContradiction fun no=>?_
 obtain ⟨p,p1,p2,p3,p4⟩:=qdA hl no
 obtain ⟨gm,gst⟩:=go
 obtain ⟨cl,hsub⟩:=qbR ok rc gm gst
 have inL:∀ i,p+i < t.length->((Om.send rows 0 (t.take (p+i+1))).2,(Om.send rows 0 (u.take (p+i+1))).2)∈lyN rows qs i:=by
  intro i
  induction i with
  | zero=>
   intro hi
   have st:=qin ok ht hu hl hw p2
   have hq:(Om.send rows 0 (t.take p)).2∈qs:=(rc.2.1 _).mpr (qcQ ok .z fun l hl=>ht l (List.mem_of_mem_take hl))
   rw [<-p3] at st
   have hg:=(gst ((Om.send rows 0 (t.take p)).2,(Om.send rows 0 (t.take p)).2) ((gm _).mpr ⟨hq,hq⟩) _).mpr st
   unfold lyN
   rw [Om.layK_zero]
   exact ql5 hq hg p4
  | succ i ih=>
   intro hi
   have ih:=ih (by omega)
   have st:=qin ok ht hu hl hw (i:=p+(i+1)) hi
   have hk:=Om.layK_in hsub cl i _ ih
   exact Om.layK_succ.mpr ⟨_,ih,_,(gst _ hk _).mpr st,rfl⟩
 have h1:=inL (t.length - p - 1) (by omega)
 have h2:=qca dl.2 (t.length - p - 1 - d)
 rw [show d+(t.length - p - 1 - d)=t.length - p - 1 by omega] at h2
 rw [h2] at h1
 cases h1
theorem qeL {k n:Nat} {rows:Om.Rows} (ok:Om.CodeOk k n rows) {qs:List Nat} (rc:RchL rows qs) (go:GOn rows qs):Om.Plain rows↔lyN rows qs 0=[]:=by
 obtain ⟨gm,gst⟩:=go
 unfold lyN
 rw [Om.layK_zero]
 constructor
 ·intro pl
  refine List.eq_nil_iff_forall_not_mem.mpr fun p hp=>?_
  obtain ⟨e,he,rfl⟩:=mM_ hp
  obtain ⟨s,hs,t,ht,rfl,ne⟩:=qgL he
  obtain ⟨h1,h2,h3,_⟩:=(gst (s,s) ((gm _).mpr ⟨hs,hs⟩) t).mp ht
  have nd:=pl s ((rc.2.1 s).mp hs)
  have e1:((rows.getD s []).map (·.1))[t.1.1]'(by rw [lM_];exact h1)=((rows.getD s []).map (·.1))[t.1.2]'(by rw [lM_];exact h2):=by
   rw [List.getElem_map,List.getElem_map]
   unfold Om.step at h3
   rw [List.getD_eq_getElem?_getD (l:=rows.getD s []),List.getD_eq_getElem?_getD (l:=rows.getD s []),gE_ h1,gE_ h2] at h3
   exact h3
  exact ne (qbm nd _ _ e1)
 ·intro h s hs
  refine Classical.byContradiction fun no=>?_
  obtain ⟨i,j,hi,hj,ij,e⟩:=qdi no
  have hq:=(rc.2.1 s).mpr hs
  have l1:i < (rows.getD s []).length:=by rw [lM_] at hi;exact hi
  have l2:j < (rows.getD s []).length:=by rw [lM_] at hj;exact hj
  have st:Om.St rows s s ((i,j),((Om.step rows s i).2,(Om.step rows s j).2)):=by
   refine ⟨l1,l2,?_,rfl⟩
   rw [List.getElem_map,List.getElem_map] at e
   show (Om.step rows s i).1=(Om.step rows s j).1
   unfold Om.step
   rw [List.getD_eq_getElem?_getD (l:=rows.getD s []),List.getD_eq_getElem?_getD (l:=rows.getD s []),gE_ l1,gE_ l2]
   exact e
  have:=ql5 hq ((gst (s,s) ((gm _).mpr ⟨hq,hq⟩) _).mpr st) (show i≠j from Nat.ne_of_lt ij)
  rw [h] at this
  cases this
theorem qgA {k n:Nat} {rows:Om.Rows} (ok:Om.CodeOk k n rows) {qs:List Nat} (rc:RchL rows qs) (go:GOn rows qs) {d:Nat} (dl:DL rows qs d):Om.Plain rows↔d=0:=by
 rw [qeL ok rc go]
 constructor
 ·intro h
  exact Classical.byContradiction fun no=>dl.1 0 (by omega) h
 ·rintro rfl
  exact dl.2
theorem qks {k n:Nat} {rows:Om.Rows} (ok:Om.CodeOk k n rows) {qs:List Nat} (rc:RchL rows qs) (go:GOn rows qs) (b:qcm rows qs):¬ Om.Plain rows:=fun z=>by
 rw [qeL ok rc go] at z
 have:=qca z (gK qs).length
 rw [Nat.zero_add] at this
 exact b this
theorem qcT {k n:Nat} {rows:Om.Rows} (ok:Om.CodeOk k n rows) {d:Nat} (lb:Om.LateB rows k d) {t:List Nat} (ht:∀ l∈t,l < 2 ^ k) {c:List Nat} (h:Om.LCP (Om.GT rows k n (Om.send rows 0 t).1 t.length) c):c <+: t/\t.length - d<=c.length:=by
 have wl:((Om.send rows 0 t).1).length=n * t.length:=(Om.send_ok ok t 0 ok.s1 ht).1
 refine ⟨h.1 t ⟨ht,rfl,List.take_prefix _ _⟩,?_⟩
 have:=h.2 (t.take (t.length - d)) fun u hu=>by
  have e:=hu.full ok (by rw [wl];exact Nat.le_refl _)
  rw [List.take_of_length_le (by rw [wl];exact Nat.le_refl _)] at e
  have:=lb t u ht hu.1 hu.2.1.symm e.symm
  rw [this]
  exact List.take_prefix _ _
 rw [List.length_take] at this
 omega
end K11
end
section
namespace K11
open PySem L2
section
variable {P:Program} {w:World} {K:PySem.W.Frag} {mg:Str->Option Value} {base:Heap}
theorem qjK {α:Type} [DecidableEq α] (l:List α):(Om.once l).Nodup:=by
 refine Om.snocInd (P:=fun l=>(Om.once l).Nodup) (by simp [Om.once]) (fun l x ih=>?_) l
 rw [Om.once_snoc]
 by_cases h:x∈Om.once l
 ·rw [if_pos h];exact ih
 ·rw [if_neg h,List.nodup_append]
  refine ⟨ih,by simp,fun a ha b hb e=>?_⟩
  rw [mS_ hb] at e
  exact h (e ▸ ha)
theorem qhD {α:Type} [DecidableEq α] {l:List α} (ne:l≠[]):(Om.once l).length=1↔∀ x∈l,∀ y∈l,x=y:=by
 constructor
 ·intro h x hx y hy
  obtain ⟨z,e⟩:=List.length_eq_one_iff.mp h
  have h1:=(Om.mem_once l x).mpr hx
  have h2:=(Om.mem_once l y).mpr hy
  rw [e,List.mem_singleton] at h1 h2
  rw [h1,h2]
 ·intro h
  obtain ⟨x,hx⟩:=List.exists_mem_of_ne_nil _ ne
  have nd:=qjK l
  have hx1:=(Om.mem_once l x).mpr hx
  have al:∀ y∈Om.once l,y=x:=fun y hy=>h y ((Om.mem_once l y).mp hy) x hx
  match e:Om.once l with
  | []=>rw [e] at hx1;cases hx1
  | [_]=>rfl
  | a :: b :: r=>
   rw [e] at nd al
   have ea:=al a (by simp)
   have eb:=al b (by simp)
   rw [ea,eb] at nd
   simp at nd
def TLs (H:Hp) (vs:List V) (tl:List (List Nat)):Prop:=vs.length=tl.length/\∀ (i:Nat) t,tl[i]? = some t->∃ q,vs[i]? = some (.ref q)/\H q=some (.lst ((ni t).map V.int))
theorem TLs.mono {H H':Hp} {vs:List V} {tl:List (List Nat)} (h:TLs H vs tl) (s:Same H H'):TLs H' vs tl:=⟨h.1,fun i t e=>let ⟨q,e1,e2⟩:=h.2 i t e;⟨q,e1,s _ _ e2⟩⟩
theorem TLs.snoc {H:Hp} {vs:List V} {tl:List (List Nat)} {t:List Nat} {q:Addr} (h:TLs H vs tl) (e1:H q=some (.lst ((ni t).map V.int))):TLs H (vs++[.ref q]) (tl++[t]):=by
 refine ⟨by simp [h.1],fun i g' e=>?_⟩
 by_cases c:i < tl.length
 ·rw [List.getElem?_append_left c] at e
  obtain ⟨q',k1,k2⟩:=h.2 i g' e
  exact ⟨q',by rw [List.getElem?_append_left (by rw [h.1];exact c)];exact k1,k2⟩
 ·rw [List.getElem?_append_right (by omega)] at e
  have lt:=(gS_ e).1
  have ei:i=tl.length:=by simp at lt;omega
  subst ei
  rw [Nat.sub_self] at e
  cases e
  exact ⟨q,by rw [List.getElem?_append_right (by rw [h.1];exact Nat.le_refl _),h.1,Nat.sub_self];rfl,e1⟩
theorem qhU {t:List Nat} {c:Nat} (h:c < t.length):((ni t).map V.int)[c]? = some (.int (t.getD c 0:Nat)):=by
 unfold ni
 rw [List.map_map,gM_,gE_ h,List.getD_eq_getElem?_getD,gE_ h]
 rfl
theorem qaf (t:List Nat):(ni t).length=t.length:=by unfold ni;rw [lM_]
abbrev qd6:Stmt:=top 33
def qcB:Sp:=fun vs H Q _=>match vs with
 | [.ref a]=>∃ (vs:List V) (tl:List (List Nat)) (L:Nat),H a=some (.lst vs)/\TLs H vs tl/\tl≠[]/\tl.length<=64/\(∀ t∈tl,t.length=L)/\L<=100/\∀ (c:Nat) H',Same H H'->Om.Shr tl c->Q (.int (c:Nat)) H'
 | _=>False
theorem scShared:FnScope ["tails","count"] ["tails"] (qad qd6):=⟨rfl,rfl,rfl,by decide +kernel,rfl,by decide +kernel,by decide +kernel⟩
local macro_rules | `(tactic| walk_at "T.c")=>`(tactic| (have ndc:(["tail","count"]:List Str).Nodup:=(by decide +kernel));((with_reducible refine' qaH ["tail","count"] [1] ?b1 ?b2 (fun cl C s H fp=>?b3) (fun cl C s H fp=>?b4) (fun cl C s H fp=>?b5));(case b1=>exact ndc);(case b2=>walk_at "T.i");(case b3=>walk_at "T.g");(case b4=>walk_at "T.pf");(case b5=>walk_at "T.e")))
local macro_rules | `(tactic| walk_at "T.b")=>`(tactic| first | ((with_reducible refine' qkd ?a0 ?a9 ?a1);(case a0=>with_reducible assumption);(case a9=>rfl);(case a1=>walk_at "T.a")) | ((with_reducible refine' qj9 ?a0 ?a9 ?a1);(case a0=>with_reducible assumption);(case a9=>rfl);(case a1=>walk_at "T.a")))
local macro_rules | `(tactic| walk_at "T.st")=>`(tactic| ((with_reducible refine' qkT "count" 1 ?b0 ?a1);(case b0=>with_unfolding_all assumption);(case a1=>walk_at "T.e")))
theorem qgl (D:FnX K mg "shared_count" qd6 ["tails"]) (g1:mg "len" = none) (g2:mg "set" = none):Can P w K mg base "shared_count" 1 ["tails"] qcB:=by
 refine qag (k:=0) D scShared (fun vs H Q E h=>?_) (fun f cdv A outer s H vs Q E hr h=>?_)
 all_goals
  unfold qcB at h
  split at h
 ·rfl
 ·exact h.elim
 ·rename_i a
  obtain ⟨vs,tl,L,ha,ht,ne,l64,hL,L100,q⟩:=h
  have nd:=scShared.nd
  have lp:0 < tl.length:=List.length_pos_iff.mpr ne
  obtain ⟨q0,e0,hq0⟩:=ht.2 0 tl[0] (gE_ lp)
  have m0:tl[0]∈tl:=List.getElem_mem lp
  have L0:((ni tl[0]).map V.int).length=L:=by rw [lM_,qaf];exact hL _ m0
  refine ⟨_,(by walk_at "T.top"),?_⟩
  refine ⟨fun m σ H2=>∃ c:Nat,σ=[some (.ref a),some (.int (c:Nat))]/\m+c=L/\Same H H2/\∀ t∈tl,∀ u∈tl,t.take c=u.take c,⟨L,0,rfl,rfl,Same.refl _,fun t _ u _=>rfl⟩,?_⟩
  rintro m σ H2 ⟨c,rfl,hm,s2,al⟩
  refine ⟨.ref q0,gl (s2 _ _ ha) (by decide) (by simpa using e0),.inr ⟨_,qbE (s2 _ _ hq0),?_⟩⟩
  dsimp only [rN0]
  rw [L0]
  refine qbr (fun lt=>?_) (fun ge=>?_)
  ·have lt:c < L:=by have:=of_decide_eq_true lt;omega
   refine ⟨⟨_,SqL.of (s2 _ _ ha)⟩,fun M hM=>?_⟩
   refine qaq (qaj _ a vs) (fun j τ H3 ys=>(∃ v,τ=[v,some (.int (c:Nat))])/\Same H2 H3/\H3 M=some (.lst ys)/\ys=((tl.take j).map fun t=>((t.getD c 0:Nat):Int)).map V.int) (qae (by rw [ht.1];omega)) ⟨⟨none,rfl⟩,Same.upd hM,qaa,rfl⟩ ?_ ?_ ?_
   ·rintro j τ H3 ys hj ⟨_,s3,h3,rfl⟩
    exact ⟨SqL.of ((s2.trans s3) _ _ ha),h3,by rw [lM_,lM_,List.length_take];exact Nat.min_le_left _ _⟩
   ·rintro j y τ H3 ys hj hy ⟨⟨v,rfl⟩,s3,h3,rfl⟩
    have hj':j < tl.length:=by rw [<-ht.1];exact hj
    obtain ⟨qj,ej,hqj⟩:=ht.2 j tl[j] (gE_ hj')
    rw [hy] at ej
    cases ej
    have lj:c < tl[j].length:=by rw [hL _ (List.getElem_mem hj')];exact lt
    refine ⟨_,gl ((s2.trans s3) _ _ hqj) (by omega) (by rw [show ((c:Nat):Int).toNat=c by omega];exact qhU lj),h3,⟨_,rfl⟩,s3.own hM,qaa,?_⟩
    rw [List.take_add_one,gE_ hj',List.map_append,List.map_append]
    rfl
   ·rintro τ H3 ys ⟨_,s3,h3,rfl⟩
    rw [List.take_of_length_le (by rw [ht.1];exact Nat.le_refl _)] at h3
    refine ⟨M,_,rfl,h3,by rw [lM_];omega,fun S hS=>.inl ⟨S,_,rfl,qaa,?_⟩⟩
    have s4:∀ o,Same H (upd H3 S o):=fun o=>(s2.trans s3).trans (Same.upd hS)
    have ne':(tl.map fun t=>((t.getD c 0:Nat):Int))≠[]:=by simpa using ne
    have one:=qhD ne'
    refine qbr (fun e1=>?_) (fun e1=>?_)
    ·have e1:(Om.once (tl.map fun t=>((t.getD c 0:Nat):Int))).length=1:=by have:=of_decide_eq_true e1;omega
     have al2:=one.mp e1
     refine ⟨fun σ' H'=>σ'=[some (.ref a),some (.int ((c:Nat)+1))]/\Same H H',?_,?_⟩
     ·rintro σ' H' ⟨rfl,s'⟩
      refine ⟨m - 1,by omega,c+1,by push_cast;rfl,by omega,s',fun t ht' u hu=>?_⟩
      have lt':c < t.length:=by rw [hL t ht'];exact lt
      have lu:c < u.length:=by rw [hL u hu];exact lt
      have e2:=al2 _ (List.mem_map_of_mem (f:=fun t:List Nat=>((t.getD c 0:Nat):Int)) ht') _ (List.mem_map_of_mem (f:=fun t:List Nat=>((t.getD c 0:Nat):Int)) hu)
      have e2:t.getD c 0=u.getD c 0:=by omega
      rw [List.getD_eq_getElem?_getD,List.getD_eq_getElem?_getD,gE_ lt',gE_ lu] at e2
      have e2:t[c]=u[c]:=e2
      rw [List.take_add_one,List.take_add_one,al t ht' u hu,gE_ lt',gE_ lu,e2]
     ·exact ⟨rfl,s4 _⟩
    ·have e1:¬ (Om.once (tl.map fun t=>((t.getD c 0:Nat):Int))).length=1:=fun z=>e1 (decide_eq_true (by omega))
     refine q c _ (s4 _) ⟨fun t ht'=>by rw [hL t ht'];omega,al,.inr ?_⟩
     refine Classical.byContradiction fun no=>e1 (one.mpr fun x hx y hy=>?_)
     obtain ⟨t,ht',rfl⟩:=mM_ hx
     obtain ⟨u,hu,rfl⟩:=mM_ hy
     refine Classical.byContradiction fun ne2=>no ⟨t,ht',u,hu,fun z=>ne2 (by rw [z])⟩
  ·have ge:¬ c < L:=fun z=>ge (decide_eq_true (by omega))
   refine qdu ?_
   have ec:c=L:=by omega
   exact q c _ s2 ⟨fun t ht'=>by rw [hL t ht'];omega,al,.inl ⟨tl[0],m0,by rw [hL _ m0,ec]⟩⟩
 ·exact h.elim
end
end K11
end
section
namespace K11
open PySem L2
section
variable {P:Program} {w:World} {K:PySem.W.Frag} {mg:Str->Option Value} {base:Heap}
def GLs (H:Hp) (vs:List V) (gl:List Om.Gs):Prop:=vs.length=gl.length/\∀ (i:Nat) g,gl[i]? = some g->∃ q l,vs[i]? = some (.ref q)/\H q=some (.tup [.int (g.1:Nat),.ref l])/\H l=some (.lst ((ni g.2).map V.int))
theorem GLs.mono {H H':Hp} {vs:List V} {gl:List Om.Gs} (h:GLs H vs gl) (s:Same H H'):GLs H' vs gl:=⟨h.1,fun i g e=>let ⟨q,l,e1,e2,e3⟩:=h.2 i g e;⟨q,l,e1,s _ _ e2,s _ _ e3⟩⟩
theorem GLs.snoc {H:Hp} {vs:List V} {gl:List Om.Gs} {g:Om.Gs} {q l:Addr} (h:GLs H vs gl) (e1:H q=some (.tup [.int (g.1:Nat),.ref l])) (e2:H l=some (.lst ((ni g.2).map V.int))):GLs H (vs++[.ref q]) (gl++[g]):=by
 refine ⟨by simp [h.1],fun i g' e=>?_⟩
 by_cases c:i < gl.length
 ·rw [List.getElem?_append_left c] at e
  obtain ⟨q',l',k1,k2,k3⟩:=h.2 i g' e
  exact ⟨q',l',by rw [List.getElem?_append_left (by rw [h.1];exact c)];exact k1,k2,k3⟩
 ·rw [List.getElem?_append_right (by omega)] at e
  have lt:=(gS_ e).1
  have ei:i=gl.length:=by simp at lt;omega
  subst ei
  rw [Nat.sub_self] at e
  cases e
  exact ⟨q,l,by rw [List.getElem?_append_right (by rw [h.1];exact Nat.le_refl _),h.1,Nat.sub_self];rfl,e1,e2⟩
theorem GLs.nil (H:Hp):GLs H [] []:=⟨rfl,fun i g e=>by simp at e⟩
open Classical in
noncomputable def woF (F:Addr->Prop) (H:Hp):Hp:=fun b=>if F b then none else H b
theorem qam {F:Addr->Prop} {H:Hp} {b:Addr} (n:¬ F b):woF F H b=H b:=if_neg n
theorem qaw {F:Addr->Prop} {H:Hp} {b:Addr} (n:F b):woF F H b=none:=if_pos n
theorem qbK (F:Addr->Prop) (H:Hp):Same (woF F H) H:=fun b u e=>by
 by_cases z:F b
 ·rw [qaw z] at e;cases e
 ·rw [qam z] at e;exact e
theorem qbT {F:Addr->Prop} {H H':Hp} {B:Addr} {o:HO} (s:Same H H') (hB:F B):Same (woF F H) (woF F (upd H' B o)):=fun x u e=>by
 by_cases z:F x
 ·rw [qaw z] at e;cases e
 ·rw [qam z] at e ⊢
  rw [qab (fun c:x=B=>z (by rw [c];exact hB))]
  exact s _ _ e
theorem qhf {F:Addr->Prop} {H H':Hp} (s:Same H H'):Same (woF F H) (woF F H'):=fun x u e=>by
 by_cases z:F x
 ·rw [qaw z] at e;cases e
 ·rw [qam z] at e ⊢
  exact s _ _ e
theorem qev {B:Addr} {H H':Hp} (s:Same H H'):Same (woA B H) (woA B H'):=fun x u e=>by
 unfold woA at e ⊢
 by_cases c:x=B
 ·rw [if_pos c] at e;cases e
 ·rw [if_neg c] at e ⊢
  exact s _ _ e
def qkz (rows:Om.Rows) (word:List Bool) (g:Om.Gs) (j:Nat):List Om.Gs:=((List.range j).filter fun l=>decide (word <+: (Om.step rows g.1 l).1)).map fun l=>((Om.step rows g.1 l).2,g.2++[l])
theorem qf0 (rows:Om.Rows) (word:List Bool) (g:Om.Gs) (j:Nat):qkz rows word g (j+1)=qkz rows word g j++if word <+: (Om.step rows g.1 j).1 then [((Om.step rows g.1 j).2,g.2++[j])] else []:=by
 unfold qkz
 rw [List.range_succ,List.filter_append,List.map_append]
 congr 1
 by_cases c:word <+: (Om.step rows g.1 j).1
 ·simp [List.filter_cons,c]
 ·simp [List.filter_cons,c]
theorem qh8 (rows:Om.Rows) (word:List Bool) {gl:List Om.Gs} {i:Nat} {g:Om.Gs} (h:gl[i]? = some g):Om.gbF rows (gl.take (i+1)) word=Om.gbF rows (gl.take i) word++qkz rows word g (rows.getD g.1 []).length:=by
 rw [List.take_add_one,h]
 unfold Om.gbF
 rw [List.flatMap_append]
 show _++List.flatMap _ [g]=_
 rw [List.flatMap_singleton]
 rfl
abbrev qfV:Stmt:=top 32
def qd1:Sp:=fun vs H Q _=>match vs with
 | [cv,.ref ga,.str z]=>∃ (k n:Nat) (rows:Om.Rows) (gl:List Om.Gs) (vs:List V) (word:List Bool),DV H cv (qaA k n rows)/\Om.CodeOk k n rows/\H ga=some (.lst vs)/\GLs H vs gl/\gl.length<=8/\(∀ g∈gl,g.1 < rows.length/\g.2.length<=100)/\z=bs word ∧
   ∀ l vs' H',Same H H'->H l=none->H' l=some (.lst vs')->GLs (woF (fun b=>∃ u,H b=some u) H') vs' (Om.gbF rows gl word)->Q (.ref l) H'
 | _=>False
theorem scGuess:FnScope ["code","guesses","word","behind","state","tail","letter","row"] ["code","guesses","word"] (qad qfV):=⟨rfl,rfl,rfl,by decide +kernel,rfl,by decide +kernel,by decide +kernel⟩
local macro_rules | `(tactic| walk_at "T.m")=>`(tactic| first | ((with_reducible refine' qeQ ?a1 ?a2);(case a1=>walk_at "T.e");(case a2=>walk_at "T.a")) | ((with_reducible refine' qhY ?a1 ?a2);(case a1=>walk_at "T.e");(case a2=>walk_at "T.a")))
theorem qhO (D:FnX K mg "guesses_behind" qfV ["code","guesses","word"]) (g1:mg "enumerate" = none):Can P w K mg base "guesses_behind" 1 ["code","guesses","word"] qd1:=by
 refine qag (k:=0) D scGuess (fun vs H Q E h=>?_) (fun f cdv A outer s H vs Q E hr h=>?_)
 all_goals
  unfold qd1 at h
  split at h
 ·rfl
 ·exact h.elim
 ·rename_i cv ga z
  obtain ⟨k,n,rows,gl0,vs,word,hc,ok,hga,hg,g8,hgs,rfl,q⟩:=h
  have nd:=scGuess.nd
  obtain ⟨a,b,ss,rfl,ha,hb,hss⟩:=qas hc
  refine ⟨_,(by walk_at "T.top"),?_⟩
  refine ⟨Nat.zero_le _,fun B hB=>?_⟩
  have s1:=Same.upd (o:=.lst []) hB
  have hB1:upd H B (.lst []) B=some (.lst []):=qaa
  generalize upd H B (.lst [])=H1 at s1 hB1 ⊢
  obtain ⟨F,hF⟩ : ∃ F:Addr->Prop,F=fun b=>b=B\/∃ u,H b=some u:=⟨_,rfl⟩
  have FB:F B:=by rw [hF];exact .inl rfl
  have Fn:∀ {b},H b=none->b≠B->¬ F b:=fun {b} h1 h2 z=>by
   rw [hF] at z
   rcases z with z | ⟨u,z⟩
   ·exact h2 z
   ·rw [h1] at z;cases z
  refine ⟨⟨_,SqL.of (s1 _ _ hga)⟩,qaD (qaj _ ga vs) (fun i σ H2=>∃ (v4 v5 v6 v7:Option V) (vs':List V),σ=[some (.ref a),some (.ref ga),some (.str (bs word)),some (.ref B),v4,v5,v6,v7]/\Same H H2/\H2 B=some (.lst vs')/\GLs (woF F H2) vs' (Om.gbF rows (gl0.take i) word)/\vs'.length<=i * 8)
   ⟨none,none,none,none,[],rfl,s1,hB1,GLs.nil _,Nat.zero_le _⟩ (fun i σ H2 _ ⟨_,_,_,_,_,_,s2,_⟩=>SqL.of (s2 _ _ hga)) ?_ ?_⟩
  ·rintro i x σ H2 hi hx ⟨v4,v5,v6,v7,vs',rfl,s2,h2,hG,vl⟩
   have hi':i < gl0.length:=by rw [<-hg.1];exact hi
   obtain ⟨qg,lg,e1,e2,e3⟩:=hg.2 i gl0[i] (gE_ hi')
   rw [hx] at e1
   cases e1
   obtain ⟨hst,htl⟩:=hgs _ (List.getElem_mem hi')
   have eg2:=qh8 rows word (gE_ hi')
   generalize hgi:gl0[i]=g at *
   refine ⟨_,.inl (s2 _ _ e2),rfl,rfl,?_⟩
   obtain ⟨qx,rs,f1,f2,f3⟩:=qaJ hss (s:=g.1) (st:=rows[g.1]) (gE_ hst)
   have eg:rows.getD g.1 []=rows[g.1]:=by rw [List.getD_eq_getElem?_getD,gE_ hst];rfl
   have rl:rs.length=rows[g.1].length:=by rw [f3.length,lM_]
   have rk:rows[g.1].length=2 ^ k:=ok.len _ (List.getElem_mem hst)
   have r8:rows[g.1].length<=8:=by rw [rk];exact Om.pow8 ok.k3
   refine ⟨_,gt (s2 _ _ ha) (by decide) rfl,.ref qx,gl (s2 _ _ hb) (by omega) (by simpa using f1),⟨_,SqL.of (s2 _ _ f2)⟩,?_⟩
   refine qci (qaU _ qx rs) (fun j σ H3=>∃ (v6 v7:Option V) (vs3:List V),σ=[some (.ref a),some (.ref ga),some (.str (bs word)),some (.ref B),some (.int (g.1:Nat)),some (.ref lg),v6,v7]/\Same H H3/\H3 B=some (.lst vs3)/\GLs (woF F H3) vs3 (Om.gbF rows (gl0.take i) word++qkz rows word g j)/\vs3.length<=i * 8+j)
    ⟨v6,v7,vs',rfl,s2,h2,by simpa [qkz] using hG,vl⟩ (fun j σ H3 _ ⟨_,_,_,_,s3,_⟩=>s3 _ _ f2) ?_ ?_
   ·rintro j tt σ H3 hj ⟨v6,v7,vs3,rfl,s3,h3,hG3,vl3⟩ htt
    have hj':j < rows[g.1].length:=by omega
    obtain ⟨r,r1,r2⟩:=qa9 f3 (l:=j) (r:=rows[g.1][j]) (gE_ hj')
    have es:Om.step rows g.1 j=rows[g.1][j]:=by unfold Om.step;rw [eg,List.getD_eq_getElem?_getD,gE_ hj'];rfl
    have er:rs.getD j .non = .ref r:=by rw [List.getD_eq_getElem?_getD,r1];rfl
    have rsc:=qf0 rows word g j
    rw [es] at rsc
    generalize rows[g.1][j]=rw' at *
    dsimp only
    rw [er]
    refine ⟨_,.inl qaa,rfl,rfl,?_⟩
    have w4:=Same.upd (o:=.tup [.int (j:Nat),.ref r]) htt
    have s4:=s3.trans w4
    have h4:=w4 _ _ h3
    have hG4:=hG3.mono (qhf (F:=F) w4)
    generalize upd H3 tt (.tup [.int (j:Nat),.ref r])=H4 at *
    refine ⟨_,gt (s4 _ _ r2) (by decide) rfl,?_⟩
    refine ⟨rfl,?_⟩
    show (if Txt.startswith (bs rw'.1) (bs word)=true then _ else _)
    rw [qfF]
    refine qbr (fun c=>?_) (fun c=>?_)
    ·have c:word <+: rw'.1:=of_decide_eq_true c
     rw [if_pos c] at rsc
     refine ⟨⟨_,rfl,h4⟩,?_⟩
     refine ⟨_,gt (s4 _ _ r2) (by decide) rfl,lZ_ rfl,fun p1 hp1=>?_⟩
     have w5:=Same.upd (o:=.lst [.int (j:Nat)]) hp1
     have h5:upd H4 p1 (.lst [.int (j:Nat)]) p1=some (.lst [.int (j:Nat)]):=qaa
     generalize upd H4 p1 (.lst [.int (j:Nat)])=H5 at *
     refine ⟨_,_,(s4.trans w5) _ _ e3,h5,qae (by rw [lM_,qaf];show _+1<=1000;omega),fun p2 hp2=>?_⟩
     have e6:(ni g.2).map V.int++[V.int (j:Nat)]=(ni (g.2++[j])).map V.int:=by unfold ni;simp
     rw [e6]
     have w6:=Same.upd (o:=.lst ((ni (g.2++[j])).map V.int)) hp2
     have h6:upd H5 p2 (.lst ((ni (g.2++[j])).map V.int)) p2=some (.lst ((ni (g.2++[j])).map V.int)):=qaa
     have o2:H p2=none:=(s4.trans w5).free hp2
     have n2:p2≠B:=fun z=>by rw [z,w5 _ _ h4] at hp2;cases hp2
     generalize upd H5 p2 (.lst ((ni (g.2++[j])).map V.int))=H6 at *
     refine ⟨lZ_ rfl,fun p3 hp3=>?_⟩
     have w7:=Same.upd (o:=.tup [.int (rw'.2:Nat),.ref p2]) hp3
     have h7:upd H6 p3 (.tup [.int (rw'.2:Nat),.ref p2]) p3=some (.tup [.int (rw'.2:Nat),.ref p2]):=qaa
     have w47:=(w5.trans w6).trans w7
     have o3:H p3=none:=(s4.trans (w5.trans w6)).free hp3
     have n3:p3≠B:=fun z=>by rw [z,(w5.trans w6) _ _ h4] at hp3;cases hp3
     have h67:=w7 _ _ h6
     generalize upd H6 p3 (.tup [.int (rw'.2:Nat),.ref p2])=H7 at *
     refine ⟨_,w47 _ _ h4,lt_line (by omega),?_⟩
     refine ⟨_,_,vs3++[.ref p3],rfl,(s4.trans w47).own hB,qaa,?_,by rw [lA_];simp;omega⟩
     rw [rsc,<-List.append_assoc]
     refine GLs.snoc (l:=p2) (hG4.mono (qbT w47 FB)) (by rw [qam (Fn o3 n3),qab n3];exact h7) (by rw [qam (Fn o2 n2),qab n2];exact h67)
    ·have c:¬ word <+: rw'.1:=fun z=>c (decide_eq_true z)
     rw [if_neg c,List.append_nil] at rsc
     exact ⟨_,_,vs3,rfl,s4,h4,by rw [rsc];exact hG4,by omega⟩
   ·rintro σ H3 ⟨v6,v7,vs3,rfl,s3,h3,hG3,vl3⟩
    refine ⟨_,_,_,_,vs3,rfl,s3,h3,?_,by omega⟩
    rw [eg2,eg]
    rw [rl] at hG3
    exact hG3
  ·rintro σ H2 ⟨v4,v5,v6,v7,vs',rfl,s2,h2,hG,vl⟩
   rw [List.take_of_length_le (by rw [hg.1];exact Nat.le_refl _)] at hG
   refine q B vs' _ s2 hB h2 (hG.mono fun b u e=>?_)
   by_cases z:F b
   ·rw [qaw z] at e;cases e
   ·rw [qam z] at e
    rw [qam (fun y=>z (by rw [hF];exact .inr y))]
    exact e
 ·exact h.elim
end
end K11
end
section
namespace K11
open PySem L2
section
variable {P:Program} {w:World} {K:PySem.W.Frag} {mg:Str->Option Value} {base:Heap}
theorem qaZ (ls:List Nat) (c:Nat):((ni ls).map V.int).take c=(ni (ls.take c)).map V.int:=by unfold ni;rw [List.map_take,List.map_take]
theorem qeh (ls:List Nat) (c:Nat):((ni ls).map V.int).drop c=(ni (ls.drop c)).map V.int:=by unfold ni;rw [List.map_drop,List.map_drop]
theorem qdk (ls ms:List Nat):(ni ls).map V.int++(ni ms).map V.int=(ni (ls++ms)).map V.int:=by unfold ni;rw [List.map_append,List.map_append]
theorem qbF (xs:List V) (h:Nat):qdR xs none (some (h:Int))=xs.take h:=by
 have:=qeq xs 0 h
 unfold qdR at this ⊢
 rw [show HT.sIx xs.length 0 none=HT.sIx xs.length 0 (some ((0:Nat):Int)) by rw [HT.sIx_none,HT.sIx_nat];omega,this,List.drop_zero,Nat.sub_zero]
theorem qcZ (xs:List V) (a:Nat):qdR xs (some (a:Int)) none=xs.drop a:=by
 have:=qeq xs a xs.length
 unfold qdR at this ⊢
 rw [show HT.sIx xs.length xs.length none=HT.sIx xs.length xs.length (some ((xs.length:Nat):Int)) by rw [HT.sIx_none,HT.sIx_nat];omega,this,List.take_of_length_le (by rw [List.length_drop];exact Nat.le_refl _)]
abbrev sRd:Stmt:=top 31
def qmv (P0:Addr):Sp:=fun vs H Q _=>match vs with
 | [cv,.str z]=>∃ (k n:Nat) (rows:Om.Rows) (wire:List Bool) (t0:List Nat),DV H cv (qaA k n rows)/\Om.CodeOk k n rows/\Tab P0 (qap qay) qSt H/\z=bs wire/\wire.length<=2000/\(∀ l∈t0,l < 2 ^ k)/\t0.length=nwd n wire/\wire <+: (Om.send rows 0 t0).1/\(∀ qs,RchL rows qs->¬ qcm rows qs) ∧
   ∀ l (c:List Nat) H',SameT P0 H H'->Tab P0 (qap qay) qSt H'->H l=none->H' l=some (.lst ((ni c).map V.int))->Om.LCP (Om.GT rows k n wire (nwd n wire)) c->Q (.ref l) H'
 | _=>False
theorem scRd:FnScope ["code","wire","certain","guesses","at","word","count"] ["code","wire"] (qad sRd):=⟨rfl,rfl,rfl,by decide +kernel,rfl,by decide +kernel,by decide +kernel⟩
local macro_rules | `(tactic| walk_at "T.sc")=>`(tactic| (have ndc:(["state","tail","count"]:List Str).Nodup:=(by decide +kernel));((with_reducible refine' qdg "guesses" 3 ["state","tail","count"] [6] ?b1 ?b0 ?b2 (fun cl C s H fp=>?b3) (fun cl C s H fp=>?b4) (fun cl C s H fp=>?b5));(case b1=>exact ndc);(case b0=>assumption);(case b2=>walk_at "T.i");(case b3=>walk_at "T.g");(case b4=>walk_at "T.pf");(case b5=>walk_at "T.e")))
local macro_rules | `(tactic| walk_at "T.c")=>`(tactic| (have ndc:(["state","tail"]:List Str).Nodup:=(by decide +kernel));((with_reducible refine' qaH ["state","tail"] [] ?b1 ?b2 (fun cl C s H fp=>?b3) (fun cl C s H fp=>?b4) (fun cl C s H fp=>?b5));(case b1=>exact ndc);(case b2=>walk_at "T.i");(case b3=>walk_at "T.g");(case b4=>walk_at "T.pf");(case b5=>walk_at "T.e")))
theorem qne {P0:Addr} (D:FnX K mg "read" sRd ["code","wire"]) (g1:mg "enumerate" = none) (c1:Can P w K mg base "late" 6 ["code"] (qeC P0)) (c2:Can P w K mg base "given_words" 2 ["code","wire"] qcH) (c3:Can P w K mg base "guesses_behind" 1 ["code","guesses","word"] qd1) (c4:Can P w K mg base "shared_count" 1 ["tails"] qcB):Can P w K mg base "read" 7 ["code","wire"] (qmv P0):=by
 refine qag (k:=6) D scRd (fun vs H Q E h=>?_) (fun f cdv A outer s H vs Q E hr h=>?_)
 all_goals
  unfold qmv at h
  split at h
 ·rfl
 ·exact h.elim
 ·rename_i cv z
  obtain ⟨k,n,rows,wire,t0,hc,ok,tb,rfl,w2000,ht0,l0,pre0,nb,q⟩:=h
  have nd:=scRd.nd
  refine ⟨_,(by walk_at "T.top"),?_⟩
  refine ⟨k,n,rows,hc,ok,tb,fun qs H1 s1 t1 rc go bk=>absurd bk (nb qs rc),fun d qs H1 s1 t1 rc go _ dl d64=>?_⟩
  have lb:=qiz ok rc go dl
  clear dl go rc nb
  have hc1:=hc.monoT tb s1
  dsimp only [qfr,qfs,tBU,tOp,tV,tC,qkA,qaG]
  refine qak (by simp) ?_
  refine ⟨Nat.zero_le _,fun L hL=>?_⟩
  have w1:=Same.upd (o:=.lst []) hL
  have hL2:upd H1 L (.lst []) L=some (.lst []):=qaa
  have t2:=t1.mono w1
  have LP:L≠P0:=fun z=>by obtain ⟨ps,e⟩:=t1.tbl;rw [z,e] at hL;cases hL
  generalize upd H1 L (.lst [])=H2 at *
  refine ⟨Nat.zero_le _,fun z1 hz1=>?_⟩
  have w2:=Same.upd (o:=.lst []) hz1
  have hz2:upd H2 z1 (.lst []) z1=some (.lst []):=qaa
  have nz1:z1≠L:=fun z=>by rw [z,hL2] at hz1;cases hz1
  generalize upd H2 z1 (.lst [])=H3 at *
  refine ⟨lZ_ rfl,fun z2 hz2'=>?_⟩
  have w3:=Same.upd (o:=.tup [.int 0,.ref z1]) hz2'
  have hz3:upd H3 z2 (.tup [.int 0,.ref z1]) z2=some (.tup [.int 0,.ref z1]):=qaa
  have nz2:z2≠L:=fun z=>by rw [z,w2 _ _ hL2] at hz2';cases hz2'
  have hz23:=w3 _ _ hz2
  generalize upd H3 z2 (.tup [.int 0,.ref z1])=H4 at *
  refine ⟨lZ_ rfl,fun z3 hz3'=>?_⟩
  have w4:=Same.upd (o:=.lst [.ref z2]) hz3'
  have hz4:upd H4 z3 (.lst [.ref z2]) z3=some (.lst [.ref z2]):=qaa
  have nz3:z3≠L:=fun z=>by rw [z,(w2.trans w3) _ _ hL2] at hz3';cases hz3'
  have w14:=(w2.trans w3).trans w4
  have G4:GLs (woA L (upd H4 z3 (.lst [.ref z2]))) [.ref z2] [(0,[])]:=by
   refine ⟨rfl,fun i g e=>?_⟩
   have lt:=(gS_ e).1
   have ei:i=0:=by simpa using lt
   subst ei
   cases e
   exact ⟨z2,z1,rfl,woA.at (w4 _ _ hz3) nz2,woA.at (w4 _ _ hz23) nz1⟩
  generalize upd H4 z3 (.lst [.ref z2])=H5 at *
  clear hz23 hz2 hz3 hz1 hz2' hz3' w3 w4
  have hc2:=(hc1.mono w1).mono w14
  have hL5:=w14 _ _ hL2
  have s5:=w1.trans w14
  obtain ⟨a,b,ss,rfl,ha,hb',hss⟩:=qas hc1
  have n1:=ok.n1
  have nwl:=qlM (wire:=wire) n1
  refine ⟨wire,k,n,rows,hc2,ok,rfl,w2000,fun v H6 s6 wp=>?_⟩
  obtain ⟨l,rfl,hl⟩:=wp
  refine ⟨⟨_,SqL.of hl⟩,?_⟩
  refine qci (qaU _ l _) (fun i σ H7=>∃ (v4 v5 v6:Option V) (g:Addr) (vs:List V) (gl0:List Om.Gs) (c:List Nat),σ=[some (.ref a),some (.str (bs wire)),some (.ref L),some (.ref g),v4,v5,v6]/\Same H1 H7/\H7 l=some (.lst ((List.range (nwd n wire)).map fun i=>V.str (bs (pwd n wire i))))/\H7 L=some (.lst ((ni c).map V.int))/\g≠L/\H7 g=some (.lst vs)/\GLs (woA L H7) vs gl0/\Om.GInv rows k n wire i c gl0)
   ⟨none,none,none,z3,[.ref z2],[(0,[])],[],rfl,s5.trans s6,hl,s6 _ _ hL5,nz3,s6 _ _ hz4,G4.mono (qev s6),Om.gt_zero rows k n wire⟩ (fun i σ H7 _ ⟨_,_,_,_,_,_,_,_,_,h,_⟩=>h) ?_ ?_
  ·rintro i tt σ H7 hi ⟨v4,v5,v6,g,vs,gl0,c,rfl,s7,hl7,hL7,ngL,hg7,hG7,inv⟩ htt
   have hi':i < nwd n wire:=by simpa using hi
   have er2:((List.range (nwd n wire)).map fun i=>V.str (bs (pwd n wire i))).getD i .non = .str (bs (pwd n wire i)):=by simp [List.getD_eq_getElem?_getD,hi']
   have hni:n * i<=wire.length:=Nat.le_of_lt (qiw n1 hi')
   have lL:l≠L:=fun z=>by
    rw [z,hL7] at hl7
    have h1:=oI_ hl7
    injection h1 with h1
    have h3:=congrArg (fun y:List V=>y[0]?) h1
    have h5:0 < nwd n wire:=by omega
    cases c with
    | nil=>simp [ni,h5] at h3
    | cons x c=>simp [ni,h5] at h3
   have g8:=inv.le8 ok lb hni
   have glg:=inv.long ok lb hni
   have gtl:=inv.tail
   have gst:∀ g∈gl0,g.1 < rows.length/\g.2.length<=64:=fun g hg=>by
    obtain ⟨m1,m2⟩:=(inv.mem g).mp hg
    refine ⟨by rw [<-m2];exact (Om.send_ok ok _ 0 ok.s1 m1.1).2,?_⟩
    have:=gtl g hg
    omega
   have gb64:=Om.gb_len ok (word:=pwd n wire i) g8 fun g hg=>(gst g hg).1
   have gbne:=inv.some ok hni (Om.GT.take ok ht0 l0 pre0 (show i+1<=nwd n wire by omega))
   have gtail:∀ g∈Om.gbF rows gl0 (pwd n wire i),g.2.length=i+1 - c.length:=fun g hg=>by
    obtain ⟨p,hp,l',_,_,rfl⟩:=Om.mem_gbF.mp hg
    have:=gtl p hp
    simp
    omega
   have stp:=fun {m:Nat} {g0:Om.Gs}=>inv.step ok hni (m:=m) (g0:=g0)
   have ci:c.length<=i:=by
    obtain ⟨p,hp⟩:=List.exists_mem_of_ne_nil _ inv.ne
    have:=gtl p hp
    omega
   rw [show (wire.drop (n * i)).take n=pwd n wire i from rfl] at gbne
   have stp:∀ {m:Nat} {g0:Om.Gs},(Om.gbF rows gl0 (pwd n wire i))[0]? = some g0->Om.Shr ((Om.gbF rows gl0 (pwd n wire i)).map (·.2)) m->Om.GInv rows k n wire (i+1) (c++g0.2.take m) (Om.dropG m (Om.gbF rows gl0 (pwd n wire i))):=stp
   dsimp only
   rw [er2]
   refine ⟨_,.inl qaa,rfl,rfl,?_⟩
   have w8:=Same.upd (o:=.tup [.int (i:Nat),.str (bs (pwd n wire i))]) htt
   have s8:=s7.trans w8
   have hl8:=w8 _ _ hl7
   have hL8:=w8 _ _ hL7
   have hg8:=w8 _ _ hg7
   have hG8:=hG7.mono (qev (B:=L) w8)
   generalize upd H7 tt (.tup [.int (i:Nat),.str (bs (pwd n wire i))])=H8 at *
   clear hl7 hL7 hg7 hG7 w8
   refine ⟨k,n,rows,gl0,vs,pwd n wire i,hc1.mono s8,ok,hg8,hG8.mono woA.same,g8,fun g hg=>⟨(gst g hg).1,by have:=(gst g hg).2;omega⟩,rfl,fun B vsB H9 w9 nB hB hGF=>?_⟩
   have hGB:=hGF.mono (qbK _ _)
   have s9:=s8.trans w9
   have hl9:=w9 _ _ hl8
   have hL9:=w9 _ _ hL8
   have nBL:B≠L:=fun z=>by rw [z,hL8] at nB;cases nB
   generalize Om.gbF rows gl0 (pwd n wire i)=gb at *
   have lp:0 < gb.length:=List.length_pos_iff.mpr gbne
   obtain ⟨g0,hg0⟩ : ∃ g0,gb[0]? = some g0:=⟨_,gE_ lp⟩
   have vl:=hGB.1
   refine ⟨_,hB,qbr (fun z=>?_) (fun _=>?_)⟩
   ·have z:vsB.length=0:=by cases vsB with | nil=>rfl | cons x xs=>simp at z
    omega
   dsimp only [qaG]
   refine ⟨⟨_,SqL.of hB⟩,fun M hM=>?_⟩
   refine qaq (qaj _ B vsB) (fun j τ H10 ys=>(∃ v v',τ=[v,v'])/\Same H9 H10/\H10 M=some (.lst ys)/\TLs H9 ys ((gb.take j).map (·.2))) (qae (by omega)) ⟨⟨none,none,rfl⟩,Same.upd hM,qaa,rfl,fun i t e=>by simp at e⟩ ?_ ?_ ?_
   ·rintro j τ H10 ys hj ⟨_,w10,h10,hT⟩
    exact ⟨SqL.of (w10 _ _ hB),h10,by rw [hT.1,lM_,List.length_take];exact Nat.min_le_left _ _⟩
   ·rintro j y τ H10 ys hj hy ⟨⟨v,v',rfl⟩,w10,h10,hT⟩
    have hj':j < gb.length:=by omega
    obtain ⟨qj,lj,e1,e2,e3⟩:=hGB.2 j gb[j] (gE_ hj')
    rw [hy] at e1
    cases e1
    refine ⟨_,.inl (w10 _ _ e2),rfl,rfl,?_⟩
    refine ⟨h10,⟨_,_,rfl⟩,w10.own hM,qaa,?_⟩
    rw [List.take_add_one,gE_ hj',List.map_append]
    exact hT.snoc e3
   rintro τ H10 ys ⟨_,w10,h10,hT⟩
   rw [List.take_of_length_le (by omega)] at hT
   refine ⟨ys,gb.map (·.2),i+1 - c.length,h10,hT.mono w10,by simpa using gbne,by rw [lM_];exact gb64,fun t ht=>?_,by omega,fun cnt H11 w11 shr=>?_⟩
   ·obtain ⟨g',hg',rfl⟩:=mM_ ht
    exact gtail g' hg'
   have inv':=stp hg0 shr
   have w911:=w10.trans w11
   have hL11:=w911 _ _ hL9
   have hl11:=w911 _ _ hl9
   have hB11:=w911 _ _ hB
   have hG11:=hGB.mono w911
   have s11:=s9.trans w911
   clear w10 w11 h10 hT hM
   obtain ⟨q0,l0',e1,e2,e3⟩:=hG11.2 0 g0 hg0
   dsimp only [qai,qaG]
   refine ⟨⟨_,rfl,hL11⟩,.ref q0,gl hB11 (by decide) (by simpa using e1),.ref l0',gt e2 (by decide) rfl,_,e3,fun S hS=>?_⟩
   rw [qbF,qaZ]
   have w12:=Same.upd (o:=.lst ((ni (g0.2.take cnt)).map V.int)) hS
   have hS12:upd H11 S (.lst ((ni (g0.2.take cnt)).map V.int)) S=some (.lst ((ni (g0.2.take cnt)).map V.int)):=qaa
   generalize upd H11 S (.lst ((ni (g0.2.take cnt)).map V.int))=H12 at *
   have tk:(g0.2.take cnt).length<=66:=by
    have h1:=gtail g0 (mO_ hg0)
    rw [List.length_take]
    omega
   refine ⟨_,_,w12 _ _ hL11,hS12,qaO (by rw [lM_,lM_,qaf,qaf];omega),?_⟩
   rw [qdk]
   have hL13:upd H12 L (.lst ((ni (c++g0.2.take cnt)).map V.int)) L=some (.lst ((ni (c++g0.2.take cnt)).map V.int)):=qaa
   have s13:Same H1 (upd H12 L (.lst ((ni (c++g0.2.take cnt)).map V.int))):=(s11.trans w12).own hL
   have hl13:upd H12 L (.lst ((ni (c++g0.2.take cnt)).map V.int)) l=_:=(qab lL).trans (w12 _ _ hl11)
   have hB13:upd H12 L (.lst ((ni (c++g0.2.take cnt)).map V.int)) B=_:=(qab nBL).trans (w12 _ _ hB11)
   have hG13:GLs (upd H12 L (.lst ((ni (c++g0.2.take cnt)).map V.int))) vsB gb:=(hGF.mono (qbT (w911.trans w12) ⟨_,hL8⟩)).mono (qbK _ _)
   generalize upd H12 L (.lst ((ni (c++g0.2.take cnt)).map V.int))=H13 at *
   clear hL11 hl11 hB11 hG11 s11 w12 hS12 hGF hGB w911 e1 e2 e3 hS
   dsimp only [qai,qaG]
   refine ⟨⟨_,SqL.of hB13⟩,fun C hC=>?_⟩
   have nCL:C≠L:=fun z=>by rw [z,hL13] at hC;cases hC
   have w14':=Same.upd (o:=.lst []) hC
   obtain ⟨F,hF⟩ : ∃ F:Addr->Prop,F=fun b=>b=L\/b=C:=⟨_,rfl⟩
   have FC:F C:=by rw [hF];exact .inr rfl
   have Fn:∀ {b},b≠L->b≠C->¬ F b:=fun {b} h1 h2 z=>by
    rw [hF] at z
    exact z.elim h1 h2
   refine qaq (qaj _ B vsB) (fun j τ H14 ys=>(∃ v v',τ=[v,v',some (.int (cnt:Nat))])/\Same H13 H14/\H14 C=some (.lst ys)/\GLs (woF F H14) ys (Om.dropG cnt (gb.take j))) (qae (by omega)) ⟨⟨none,none,rfl⟩,w14',qaa,GLs.nil _⟩ ?_ ?_ ?_
   ·rintro j τ H14 ys hj ⟨_,w15,h15,hD⟩
    exact ⟨SqL.of (w15 _ _ hB13),h15,by rw [hD.1];unfold Om.dropG;rw [lM_,List.length_take];exact Nat.min_le_left _ _⟩
   ·rintro j y τ H14 ys hj hy ⟨⟨v,v',rfl⟩,w15,h15,hD⟩
    have hj':j < gb.length:=by omega
    obtain ⟨qj,lj,e1,e2,e3⟩:=hG13.2 j gb[j] (gE_ hj')
    rw [hy] at e1
    cases e1
    refine ⟨_,.inl (w15 _ _ e2),rfl,rfl,?_⟩
    refine ⟨_,w15 _ _ e3,fun p1 hp1=>?_⟩
    rw [qcZ,qeh]
    have w16:=Same.upd (o:=.lst ((ni (gb[j].2.drop cnt)).map V.int)) hp1
    have h16:upd H14 p1 (.lst ((ni (gb[j].2.drop cnt)).map V.int)) p1=some (.lst ((ni (gb[j].2.drop cnt)).map V.int)):=qaa
    have m1:p1≠L:=fun z=>by rw [z,w15 _ _ hL13] at hp1;cases hp1
    have m2:p1≠C:=fun z=>by rw [z,h15] at hp1;cases hp1
    generalize upd H14 p1 (.lst ((ni (gb[j].2.drop cnt)).map V.int))=H16 at *
    refine ⟨lZ_ rfl,fun p2 hp2=>?_⟩
    have w17:=Same.upd (o:=.tup [.int (gb[j].1:Nat),.ref p1]) hp2
    have h17:upd H16 p2 (.tup [.int (gb[j].1:Nat),.ref p1]) p2=some (.tup [.int (gb[j].1:Nat),.ref p1]):=qaa
    have m3:p2≠L:=fun z=>by rw [z,(w15.trans w16) _ _ hL13] at hp2;cases hp2
    have m4:p2≠C:=fun z=>by rw [z,w16 _ _ h15] at hp2;cases hp2
    have h167:=w17 _ _ h16
    generalize upd H16 p2 (.tup [.int (gb[j].1:Nat),.ref p1])=H17 at *
    have w1417:=w16.trans w17
    refine ⟨w1417 _ _ h15,⟨_,_,rfl⟩,(w15.trans w1417).own hC,qaa,?_⟩
    have ed:Om.dropG cnt (gb.take (j+1))=Om.dropG cnt (gb.take j)++[(gb[j].1,gb[j].2.drop cnt)]:=by
     unfold Om.dropG
     rw [List.take_add_one,gE_ hj',List.map_append]
     rfl
    rw [ed]
    exact GLs.snoc (l:=p1) (hD.mono (qbT w1417 FC)) (by rw [qam (Fn m3 m4),qab m4];exact h17) (by rw [qam (Fn m1 m2),qab m2];exact h167)
   rintro τ H14 ys ⟨_,w15,h15,hD⟩
   rw [List.take_of_length_le (by omega)] at hD
   refine ⟨_,_,_,C,ys,_,_,rfl,s13.trans w15,w15 _ _ hl13,w15 _ _ hL13,nCL,h15,hD.mono fun b u e=>?_,inv'⟩
   by_cases z:F b
   ·rw [qaw z] at e;cases e
   ·rw [qam z] at e
    exact woA.at e fun y=>z (by rw [hF];exact .inl y)
  ·rintro σ H7 ⟨v4,v5,v6,g,vs,gl0,c,rfl,s7,hl7,hL7,ngL,hg7,hG7,inv⟩
   rw [lM_,List.length_range] at inv
   exact q L c H7 (s1.trans s7.t) (t1.mono s7) (s1.free hL LP) hL7 inv.lcp
 ·exact h.elim
end
end K11
end
section
namespace K11
open PySem L2
section
structure CS (P0:Addr) (F:Addr->Prop) (G H:Hp) (d:Addr):Prop where
 dk:Deck F H d
 kp:Kp G H
 gF:∀ b,F b->G b=none
 tb:Tab P0 (qap qay) qSt H
theorem Kp.off {F:Addr->Prop} {G H H':Hp} (s:Kp G H) (g:∀ b,F b->G b=none) (o:Off F H H'):Kp G H':=fun b u nt e=>o _ _ (s _ _ nt e) fun z=>by rw [g b z] at e;cases e
theorem Kp.upd {H0 H:Hp} (s:Kp H0 H) {a:Addr} {o:HO} (n:H0 a=none):Kp H0 (upd H a o):=fun b u nt e=>by
 rw [qab (qac e n)]
 exact s _ _ nt e
theorem CS.same {P0:Addr} {F:Addr->Prop} {G H H':Hp} {d:Addr} (c:CS P0 F G H d) (s:Same H H'):CS P0 F G H' d:=⟨c.dk.same s,c.kp.trans (Same.kp s),c.gF,c.tb.mono s⟩
theorem CS.sT {P0:Addr} {F:Addr->Prop} {G H H':Hp} {d:Addr} (c:CS P0 F G H d) (s:SameT P0 H H') (t:Tab P0 (qap qay) qSt H'):CS P0 F G H' d:=⟨c.dk.sameT c.tb s,c.kp.trans (SameT.kp c.tb s),c.gF,t⟩
theorem CS.off {P0:Addr} {F:Addr->Prop} {G H H':Hp} {d:Addr} (c:CS P0 F G H d) (k:Deck F H' d) (o:Off F H H'):CS P0 F G H' d:=⟨k,c.kp.off c.gF o,c.gF,c.tb.off c.dk o⟩
theorem qkR {t u:TS} {D:Ends} {σ:St} {H:Hp} (M:St->Hp->Prop) (h1:∀ σ' H',M σ' H'->u D σ' H') (h2:∀ nx:St->Hp->Prop,(∀ σ' H',M σ' H'->nx σ' H')->t { D with nx:=nx } σ H):qfr t u D σ H:=h2 (u D) h1
end
theorem qew {rows:Om.Rows} {x y:Nat} {ls ms:List Nat} (hl:ls.length=ms.length) (al:∀ j,j < ls.length->Om.Alike rows x y ls ms j):∀ j,j<=ls.length->(Om.send rows x (ls.take j)).1=(Om.send rows y (ms.take j)).1
 | 0,_=>rfl
 | j+1,h=>by
  have ih:=qew hl al j (by omega)
  have a:=al j (by omega)
  unfold Om.Alike Om.pst at a
  rw [Om.take_succ_getD (show j < ls.length by omega),Om.take_succ_getD (show j < ms.length by omega),Om.send_app,Om.send_app,ih]
  show _++((Om.step rows _ _).1++[])=_++((Om.step rows _ _).1++[])
  rw [List.append_nil,List.append_nil]
  exact congrArg _ a
theorem qcK {rows:Om.Rows} {s:Nat} {ls:List Nat} (h:(Om.send rows s ls).2=s):∀ m:Nat,Om.send rows s (List.replicate m ls).flatten=((List.replicate m (Om.send rows s ls).1).flatten,s)
 | 0=>rfl
 | m+1=>by
  rw [List.replicate_succ,List.flatten_cons,Om.send_app,h,qcK h m,List.replicate_succ,List.flatten_cons]
theorem qi3 {k:Nat} {rows:Om.Rows} {st b:Nat} {xs ys:List Nat} (h:ShN k rows (st:Nat) (b:Nat) (ni xs) (ni ys)) :
  b < xs.length/\ys.length=xs.length/\Om.Rch (Om.nxR rows) st/\(∀ l∈xs,l < 2 ^ k)/\(∀ l∈ys,l < 2 ^ k)/\(Om.send rows st (xs.take b)).2=(Om.send rows st xs).2/\(Om.send rows st (ys.take b)).2=(Om.send rows st ys).2/\xs.getD 0 0≠ys.getD 0 0 ∧
   ∀ m,(Om.send rows st (xs++(List.replicate m (xs.drop b)).flatten)).1=(Om.send rows st (ys++(List.replicate m (ys.drop b)).flatten)).1:=by
 obtain ⟨h1,⟨h2,h3⟩,⟨_,h4⟩,h5,h6,h7,h8,h9⟩:=h
 have nx:Om.nats (ni xs)=xs:=Om.nats_cast xs
 have ny:Om.nats (ni ys)=ys:=Om.nats_cast ys
 have lx:=Om.nats_lt h5
 have ly:=Om.nats_lt h6
 rw [qbb,qbb] at h1
 rw [qbb] at h3 h8 h9
 rw [nx] at lx h8 h9
 rw [ny] at ly h8 h9
 rw [Int.toNat_natCast] at h4 h8 h9
 rw [Int.toNat_natCast] at h9
 have hb:b < xs.length:=by omega
 unfold Om.pst at h9
 rw [List.take_length,List.take_of_length_le (l:=ys) (i:=xs.length) (by omega)] at h9
 obtain ⟨e1,e2⟩:=Prod.mk.inj h9
 have wt:=qew h1 h8
 refine ⟨hb,h1.symm,h4,lx,ly,e1,e2,fun z=>h7 ?_,fun m=>?_⟩
 ·have y0:0 < ys.length:=by omega
  have x0:0 < xs.length:=by omega
  unfold ni
  rw [gM_,gM_]
  rw [List.getD_eq_getElem?_getD,List.getD_eq_getElem?_getD,gE_ x0,gE_ y0] at z
  rw [gE_ x0,gE_ y0]
  have z:xs[0]=ys[0]:=z
  rw [z]
 ·have w0:=wt xs.length (Nat.le_refl _)
  rw [List.take_length,List.take_of_length_le (l:=ys) (i:=xs.length) (by omega)] at w0
  have wb:=wt b (by omega)
  have ax:=Om.send_app rows (xs.take b) (xs.drop b) st
  have ay:=Om.send_app rows (ys.take b) (ys.drop b) st
  rw [List.take_append_drop] at ax ay
  rw [e1] at ax
  rw [e2] at ay
  have a1:(Om.send rows st xs).1=(Om.send rows st (xs.take b)).1++(Om.send rows (Om.send rows st xs).2 (xs.drop b)).1:=congrArg (·.1) ax
  have a2:(Om.send rows st xs).2=(Om.send rows (Om.send rows st xs).2 (xs.drop b)).2:=congrArg (·.2) ax
  have b1:(Om.send rows st ys).1=(Om.send rows st (ys.take b)).1++(Om.send rows (Om.send rows st ys).2 (ys.drop b)).1:=congrArg (·.1) ay
  have b2:(Om.send rows st ys).2=(Om.send rows (Om.send rows st ys).2 (ys.drop b)).2:=congrArg (·.2) ay
  have wd:(Om.send rows (Om.send rows st xs).2 (xs.drop b)).1=(Om.send rows (Om.send rows st ys).2 (ys.drop b)).1:=by
   have:(Om.send rows st (xs.take b)).1++(Om.send rows (Om.send rows st xs).2 (xs.drop b)).1=(Om.send rows st (xs.take b)).1++(Om.send rows (Om.send rows st ys).2 (ys.drop b)).1:=by
    exact (a1.symm.trans (w0.trans b1)).trans (by rw [wb])
   exact List.append_cancel_left this
  rw [Om.send_app,Om.send_app,qcK a2.symm m,qcK b2.symm m,wd,w0]
section
theorem qnZ {H:Hp}:∀ ns:List Int,DVs H (ns.map V.int) (ns.map PyData.int)
 | []=>.nil
 | n :: ns=>.cons (.int n) (qnZ ns)
theorem dvI {H:Hp} {l:Addr} {xs:List Int} (h:H l=some (.lst (xs.map V.int))):DV H (.ref l) (.list (xs.map PyData.int)):=.lst h (qnZ xs)
theorem neI {H:Hp} {p q:Addr} {xs ys:List Int} {C:VK} (hp:H p=some (.lst (xs.map V.int))) (hq:H q=some (.lst (ys.map V.int))) (c:C (.bl (!decide (xs=ys))) H):qjg (.ref p) (.ref q) H C:=⟨_,_,dvI hp,dvI hq,qah _,qah _,by rw [qa7];exact c⟩
theorem eqI {H:Hp} {p q:Addr} {xs ys:List Int} {C:VK} (hp:H p=some (.lst (xs.map V.int))) (hq:H q=some (.lst (ys.map V.int))) (c:C (.bl (decide (xs=ys))) H):qf7 (.ref p) (.ref q) H C:=⟨_,_,dvI hp,dvI hq,qah _,qah _,by rw [qa7];exact c⟩
end
end K11
end
section
namespace K11
open PySem L2
section
variable {P:Program} {w:World} {K:PySem.W.Frag} {mg:Str->Option Value} {base:Heap}
theorem qnh (ls:List Nat):nl ls=(ni ls).map V.int:=(qni ls).symm
abbrev sNR:Stmt:=top 46
def qmS (P0:Addr):Sp:=fun vs H Q _=>match vs with
 | [.ref d,cv]=>∃ (F:Addr->Prop) (G:Hp) (k n:Nat) (rows:Om.Rows),CS P0 F G H d/\DV G cv (qaA k n rows)/\Om.CodeOk k n rows/\(∃ qs,RchL rows qs/\qcm rows qs)/\∀ H',CS P0 F G H' d->Q (.bl true) H'
 | _=>False
theorem scNR:FnScope ["deck","code","found","state","ones","others","begin","ahead","turns","one","other"] ["deck","code"] (qad sNR):=⟨rfl,rfl,rfl,by decide +kernel,rfl,by decide +kernel,by decide +kernel⟩
theorem qb5 (ls:List Nat) (m:Nat):((List.replicate m ls).flatten).length=m * ls.length:=by simp
theorem qf2 (ls:List Nat) (m:Nat):(List.replicate m ((ni ls).map V.int)).flatten=(ni (List.replicate m ls).flatten).map V.int:=by
 induction m with
 | zero=>rfl
 | succ m ih=>rw [List.replicate_succ,List.flatten_cons,ih,qdk,List.replicate_succ,List.flatten_cons]
theorem qf3 {ls:List Nat} {m:Nat} {l:Nat} (h:l∈(List.replicate m ls).flatten):l∈ls:=by
 obtain ⟨y,h1,h2⟩:=List.mem_flatten.mp h
 rw [(List.mem_replicate.mp h1).2] at h2
 exact h2
theorem qnf {P0:Addr} (D:FnX K mg "_law_never_right" sNR ["deck","code"]) (c1:Can P w K mg base "never" 6 ["code"] (qcD P0)) (c2:Can P w K mg base "never_shows" 5 ["code","answer"] (qi0 P0)) (c3:Can P w K mg base "sent" 4 ["code","state","text"] qdc) (c4:Can P w K mg base "_law_draw" 1 ["deck","many"] qa8):Can P w K mg base "_law_never_right" 7 ["deck","code"] (qmS P0):=by
 refine qag (k:=6) D scNR (fun vs H Q E h=>?_) (fun f cdv A outer s H vs Q E hr h=>?_)
 all_goals
  unfold qmS at h
  split at h
 ·rfl
 ·exact h.elim
 ·rename_i d cv
  obtain ⟨F,G,k,n,rows,cs,dv,ok,⟨qs0,rc0,bk0⟩,q⟩:=h
  have nd:=scNR.nd
  refine ⟨_,(by walk_at "T.top"),?_⟩
  refine ⟨k,n,rows,DV.kp cs.kp dv,ok,cs.tb,fun qs H1 s1 t1 rc nb=>absurd (rc0.uniq rc ▸ bk0) nb,fun an T U st b xs ys qs H1 s1 t1 rc bk nT nU TU han hT hU x65 yl told sh=>?_⟩
  have cs1:=cs.sT s1 t1
  obtain ⟨hb,yx,rch,lx,ly,e1,e2,ne0,eqw⟩:=qi3 sh
  rw [qnh] at hT hU
  have nTF:¬ F T:=cs.dk.new nT
  have nUF:¬ F U:=cs.dk.new nU
  have A1:Ans H1 an T U (st:Nat) (b:Nat) (ni xs) (ni ys):=⟨han,hT,hU⟩
  have st8:st < rows.length:=Om.rch_ok ok st rch
  dsimp only [qai,qfr,qfs,tOr,tBU,tOp,tV,tC,qkA,qaG]
  refine qak (by simp) ?_
  refine ⟨k,n,rows,T,U,_,_,_,_,DV.kp cs1.kp dv,ok,t1,A1,by rw [qbb];omega,by rw [qbb];omega,fun c H2 ic s2 t2=>?_⟩
  rw [ic.mpr sh]
  refine qdu ?_
  have cs2:=cs1.sT s2 t2
  have A2:=A1.kp (SameT.kp t1 s2)
  clear A1 han hT hU s2 t2 ic
  refine ⟨_,.inl A2.an,rfl,rfl,?_⟩
  dsimp only [qai,qaG]
  have tkx:∀ l∈xs.take b,l < 2 ^ k:=fun l hl=>lx l (List.mem_of_mem_take hl)
  have tky:∀ l∈ys.take b,l < 2 ^ k:=fun l hl=>ly l (List.mem_of_mem_take hl)
  refine ⟨_,A2.hT,fun p1 hp1=>?_⟩
  rw [qbF,qaZ]
  have w3:=Same.upd (o:=.lst ((ni (xs.take b)).map V.int)) hp1
  have h3:upd H2 p1 (.lst ((ni (xs.take b)).map V.int)) p1=some (.lst ((ni (xs.take b)).map V.int)):=qaa
  have cs3:=cs2.same w3
  have A3:=A2.same w3
  generalize upd H2 p1 (.lst ((ni (xs.take b)).map V.int))=H3 at *
  refine ⟨k,n,rows,st,xs.take b,DV.kp cs3.kp dv,ok,rfl,st8,h3,by rw [List.length_take];omega,tkx,fun p2 H4 w4 h4=>?_⟩
  have cs4:=cs3.same w4
  have A4:=A3.same w4
  clear A2 A3 cs2 cs3 w3 w4 h3
  refine ⟨_,gt h4 (by decide) rfl,?_⟩
  refine ⟨_,A4.hU,fun p3 hp3=>?_⟩
  rw [qbF,qaZ]
  have w5:=Same.upd (o:=.lst ((ni (ys.take b)).map V.int)) hp3
  have h5:upd H4 p3 (.lst ((ni (ys.take b)).map V.int)) p3=some (.lst ((ni (ys.take b)).map V.int)):=qaa
  have cs5:=cs4.same w5
  have A5:=A4.same w5
  generalize upd H4 p3 (.lst ((ni (ys.take b)).map V.int))=H5 at *
  refine ⟨k,n,rows,st,ys.take b,DV.kp cs5.kp dv,ok,rfl,st8,h5,by rw [List.length_take];omega,tky,fun p4 H6 w6 h6=>?_⟩
  have cs6:=cs5.same w6
  have A6:=A5.same w6
  clear A4 A5 cs4 cs5 w5 w6 h5 h4
  refine ⟨_,gt h6 (by decide) rfl,lZ_ rfl,fun p5 hp5=>?_⟩
  rw [e1,e2]
  have w7:=Same.upd (o:=.lst ([((Om.send rows st xs).2:Int),((Om.send rows st ys).2:Int)].map V.int)) hp5
  have h7:upd H6 p5 (.lst ([((Om.send rows st xs).2:Int),((Om.send rows st ys).2:Int)].map V.int)) p5=some (.lst ([((Om.send rows st xs).2:Int),((Om.send rows st ys).2:Int)].map V.int)):=qaa
  have cs7:=cs6.same w7
  have A7:=A6.same w7
  change (fun H7=>_) (upd H6 p5 (.lst ([((Om.send rows st xs).2:Int),((Om.send rows st ys).2:Int)].map V.int)))
  generalize upd H6 p5 (.lst ([((Om.send rows st xs).2:Int),((Om.send rows st ys).2:Int)].map V.int))=H7 at *
  dsimp only [qai]
  clear A6 cs6 w7 h6
  refine ⟨k,n,rows,st,xs,DV.kp cs7.kp dv,ok,rfl,st8,A7.hT,by omega,lx,fun p6 H8 w8 h8=>?_⟩
  refine ⟨_,gt h8 (by decide) rfl,?_⟩
  have cs8:=cs7.same w8
  have A8:=A7.same w8
  refine ⟨k,n,rows,st,ys,DV.kp cs8.kp dv,ok,rfl,st8,A8.hU,by omega,ly,fun p7 H9 w9 h9=>?_⟩
  refine ⟨_,gt h9 (by decide) rfl,lZ_ rfl,fun p8 hp8=>?_⟩
  have w10:=Same.upd (o:=.lst ([((Om.send rows st xs).2:Int),((Om.send rows st ys).2:Int)].map V.int)) hp8
  have cs10:=(cs8.same w9).same w10
  have A10:=(A8.same w9).same w10
  refine neI (((w8.trans w9).trans w10) _ _ h7) (show upd H9 p8 (.lst ([((Om.send rows st xs).2:Int),((Om.send rows st ys).2:Int)].map V.int)) p8=_ from qaa) ?_
  refine qak (by simp) ?_
  change (fun H7=>_) (upd H9 p8 (.lst ([((Om.send rows st xs).2:Int),((Om.send rows st ys).2:Int)].map V.int)))
  generalize upd H9 p8 (.lst ([((Om.send rows st xs).2:Int),((Om.send rows st ys).2:Int)].map V.int))=H10 at *
  dsimp only [qai,qaG]
  clear A7 A8 cs7 cs8 w8 w9 w10 h8 h9 h7
  refine ⟨F,cs10.dk,by decide,by decide,fun r H11 r0 r6 d11 o11=>?_⟩
  have cs11:=cs10.off d11 o11
  have hT11:=o11 _ _ A10.hT nTF
  have hU11:=o11 _ _ A10.hU nUF
  clear A10 cs10 o11
  dsimp only [qai]
  refine ⟨_,hT11,fun qa1 hqa1=>?_⟩
  rw [qcZ,qeh]
  have wa1:=Same.upd (o:=.lst ((ni (xs.drop b)).map V.int)) hqa1
  have ha1:upd H11 qa1 (.lst ((ni (xs.drop b)).map V.int)) qa1=some (.lst ((ni (xs.drop b)).map V.int)):=qaa
  generalize upd H11 qa1 (.lst ((ni (xs.drop b)).map V.int))=Ha1 at *
  have dla:(xs.drop b).length<=65:=by rw [List.length_drop];omega
  have mla:(xs.drop b).length * r.toNat<=65 * 6:=Nat.mul_le_mul dla (by omega)
  refine ⟨_,ha1,by omega,by omega,qae (by rw [lM_,qaf];omega),fun qa2 hqa2=>?_⟩
  rw [qf2]
  have wa2:=Same.upd (o:=.lst ((ni (List.replicate r.toNat (xs.drop b)).flatten).map V.int)) hqa2
  have ha2:upd Ha1 qa2 (.lst ((ni (List.replicate r.toNat (xs.drop b)).flatten).map V.int)) qa2=some (.lst ((ni (List.replicate r.toNat (xs.drop b)).flatten).map V.int)):=qaa
  generalize upd Ha1 qa2 (.lst ((ni (List.replicate r.toNat (xs.drop b)).flatten).map V.int))=Ha2 at *
  refine ⟨_,_,(wa1.trans wa2) _ _ hT11,ha2,qae (by rw [lM_,lM_,qaf,qaf,qb5,Nat.mul_comm];omega),fun l1 hl1=>?_⟩
  rw [qdk]
  have w12:=(wa1.trans wa2).trans (Same.upd (o:=.lst ((ni (xs++(List.replicate r.toNat (xs.drop b)).flatten)).map V.int)) hl1)
  have h12:upd Ha2 l1 (.lst ((ni (xs++(List.replicate r.toNat (xs.drop b)).flatten)).map V.int)) l1=some (.lst ((ni (xs++(List.replicate r.toNat (xs.drop b)).flatten)).map V.int)):=qaa
  generalize upd Ha2 l1 (.lst ((ni (xs++(List.replicate r.toNat (xs.drop b)).flatten)).map V.int))=H12 at *
  clear wa1 wa2 ha1 ha2 hqa1 hqa2 hl1
  have cs12:=cs11.same w12
  have rl:∀ (zs:List Nat),zs.length<=65->(zs++(List.replicate r.toNat (zs.drop b)).flatten).length<=750:=fun zs hz=>by
   rw [lA_,qb5,List.length_drop]
   have:r.toNat * (zs.length - b)<=6 * 65:=Nat.mul_le_mul (by omega) (by omega)
   omega
  have rm:∀ (zs:List Nat),(∀ l∈zs,l < 2 ^ k)->∀ l∈zs++(List.replicate r.toNat (zs.drop b)).flatten,l < 2 ^ k:=fun zs hz l hl=>by
   rcases mA_ hl with h | h
   ·exact hz l h
   ·exact hz l (List.mem_of_mem_drop (qf3 h))
  refine ⟨k,n,rows,st,_,DV.kp cs12.kp dv,ok,rfl,st8,h12,rl xs x65,rm xs lx,fun p9 H13 w13 h13=>?_⟩
  have cs13:=cs12.same w13
  dsimp only [qai]
  have hU13:=(w12.trans w13) _ _ hU11
  refine ⟨_,hU13,fun qb1 hqb1=>?_⟩
  rw [qcZ,qeh]
  have wb1:=Same.upd (o:=.lst ((ni (ys.drop b)).map V.int)) hqb1
  have hb1:upd H13 qb1 (.lst ((ni (ys.drop b)).map V.int)) qb1=some (.lst ((ni (ys.drop b)).map V.int)):=qaa
  generalize upd H13 qb1 (.lst ((ni (ys.drop b)).map V.int))=Hb1 at *
  have dlb:(ys.drop b).length<=65:=by rw [List.length_drop];omega
  have mlb:(ys.drop b).length * r.toNat<=65 * 6:=Nat.mul_le_mul dlb (by omega)
  refine ⟨_,hb1,by omega,by omega,qae (by rw [lM_,qaf];omega),fun qb2 hqb2=>?_⟩
  rw [qf2]
  have wb2:=Same.upd (o:=.lst ((ni (List.replicate r.toNat (ys.drop b)).flatten).map V.int)) hqb2
  have hb2:upd Hb1 qb2 (.lst ((ni (List.replicate r.toNat (ys.drop b)).flatten).map V.int)) qb2=some (.lst ((ni (List.replicate r.toNat (ys.drop b)).flatten).map V.int)):=qaa
  generalize upd Hb1 qb2 (.lst ((ni (List.replicate r.toNat (ys.drop b)).flatten).map V.int))=Hb2 at *
  refine ⟨_,_,(wb1.trans wb2) _ _ hU13,hb2,qae (by rw [lM_,lM_,qaf,qaf,qb5,Nat.mul_comm];omega),fun l2 hl2=>?_⟩
  rw [qdk]
  have w14:=(wb1.trans wb2).trans (Same.upd (o:=.lst ((ni (ys++(List.replicate r.toNat (ys.drop b)).flatten)).map V.int)) hl2)
  have h14:upd Hb2 l2 (.lst ((ni (ys++(List.replicate r.toNat (ys.drop b)).flatten)).map V.int)) l2=some (.lst ((ni (ys++(List.replicate r.toNat (ys.drop b)).flatten)).map V.int)):=qaa
  generalize upd Hb2 l2 (.lst ((ni (ys++(List.replicate r.toNat (ys.drop b)).flatten)).map V.int))=H14 at *
  clear wb1 wb2 hb1 hb2 hqb1 hqb2 hl2
  have cs14:=cs13.same w14
  refine ⟨k,n,rows,st,_,DV.kp cs14.kp dv,ok,rfl,st8,h14,rl ys (by omega),rm ys ly,fun p10 H15 w15 h15=>?_⟩
  have cs15:=cs14.same w15
  dsimp only [qai]
  have x0:0 < xs.length:=by omega
  have y0:0 < ys.length:=by omega
  refine ⟨_,gt ((w14.trans w15) _ _ h13) (by decide) rfl,_,gt h15 (by decide) rfl,?_⟩
  refine qem (by rw [eqw r.toNat];exact decide_eq_true rfl) ?_
  refine ⟨_,gl ((((w12.trans w13).trans w14).trans w15) _ _ hT11) (by decide) (qhU x0),_,gl ((((w12.trans w13).trans w14).trans w15) _ _ hU11) (by decide) (qhU y0),?_⟩
  have nz:(!decide (((xs.getD 0 0:Nat):Int)=((ys.getD 0 0:Nat):Int)))=true:=by
   rw [decide_eq_false (fun z=>ne0 (by omega))];rfl
  show Q (.bl (!decide (((xs.getD 0 0:Nat):Int)=((ys.getD 0 0:Nat):Int)))) H15
  rw [nz]
  exact q _ cs15
 ·exact h.elim
end
end K11
end
section
namespace K11
open PySem L2
section
variable {P:Program} {w:World} {K:PySem.W.Frag} {mg:Str->Option Value} {base:Heap}
structure LR (P0:Addr) (F:Addr->Prop) (G H:Hp) (d TX:Addr) (t:List Nat):Prop where
 cs:CS P0 F G H d
 hT:H TX=some (.lst ((ni t).map V.int))
theorem LR.same {P0:Addr} {F:Addr->Prop} {G H H':Hp} {d TX:Addr} {t:List Nat} (c:LR P0 F G H d TX t) (s:Same H H'):LR P0 F G H' d TX t:=⟨c.cs.same s,s _ _ c.hT⟩
theorem LR.sT {P0:Addr} {F:Addr->Prop} {G H H':Hp} {d TX:Addr} {t:List Nat} (c:LR P0 F G H d TX t) (s:SameT P0 H H') (tb:Tab P0 (qap qay) qSt H'):LR P0 F G H' d TX t:=⟨c.cs.sT s tb,(SameT.kp c.cs.tb s).lst c.hT⟩
theorem qcr {c t:List Nat} (h:c <+: t):c=t.take c.length:=List.prefix_iff_eq_take.mp h
theorem qkV {hi st:Int} (hs:0 < st) (hh:0 < hi) {i:Nat} (h:i < (Builtin.Range.rangeSize 0 hi st).toNat):(i:Int) * st < hi:=by
 unfold Builtin.Range.rangeSize at h
 rw [if_pos hs,if_pos hh] at h
 have h1:(i:Int)<=(hi - 0 - 1) / st:=by omega
 have h2:(i:Int) * st<=(hi - 0 - 1) / st * st:=Int.mul_le_mul_of_nonneg_right h1 (by omega)
 have h3:=Int.ediv_mul_le (hi - 0 - 1) (show st≠0 by omega)
 omega
theorem qmp {k n:Nat} {rows:Om.Rows} (ok:Om.CodeOk k n rows) {t:List Nat} (ht:∀ l∈t,l < 2 ^ k) (a:Nat) :
  (t.take (nwd n ((Om.send rows 0 t).1.take a))).length=nwd n ((Om.send rows 0 t).1.take a)/\(Om.send rows 0 t).1.take a <+: (Om.send rows 0 (t.take (nwd n ((Om.send rows 0 t).1.take a)))).1/\nwd n ((Om.send rows 0 t).1.take a)<=t.length:=by
 have wl:((Om.send rows 0 t).1).length=n * t.length:=(Om.send_ok ok t 0 ok.s1 ht).1
 have n1:=ok.n1
 have tl:((Om.send rows 0 t).1.take a).length<=n * t.length:=by rw [List.length_take,wl];exact Nat.min_le_right _ _
 have le:nwd n ((Om.send rows 0 t).1.take a)<=t.length:=by
  refine Classical.byContradiction fun no=>?_
  have:=qiw (i:=t.length) n1 (show t.length < nwd n ((Om.send rows 0 t).1.take a) by omega)
  omega
 have ge:=qgr (n:=n) (wire:=(Om.send rows 0 t).1.take a) n1
 generalize nwd n ((Om.send rows 0 t).1.take a)=m at *
 have ht':∀ l∈t.take m,l < 2 ^ k:=fun l hl=>ht l (List.mem_of_mem_take hl)
 have lm:(t.take m).length=m:=by rw [List.length_take];omega
 refine ⟨lm,?_,le⟩
 have e:=Om.send_app rows (t.take m) (t.drop m) 0
 rw [List.take_append_drop] at e
 have p2:(Om.send rows 0 (t.take m)).1 <+: (Om.send rows 0 t).1:=by rw [e];exact List.prefix_append _ _
 refine List.prefix_of_prefix_length_le (List.take_prefix _ _) p2 ?_
 rw [(Om.send_ok ok (t.take m) 0 ok.s1 ht').1,lm]
 exact ge
theorem qhT {n:Nat} {w1 w2:List Bool} (h:w1.length<=w2.length):nwd n w1<=nwd n w2:=by
 unfold nwd
 exact Nat.div_le_div_right (by omega)
abbrev qfT:Stmt:=top 47
def qdZ (P0:Addr):Sp:=fun vs H Q _=>match vs with
 | [.ref d,cv,.int dn]=>∃ (F:Addr->Prop) (G:Hp) (k n:Nat) (rows:Om.Rows) (dd:Nat),CS P0 F G H d/\DV G cv (qaA k n rows)/\Om.CodeOk k n rows/\dn=(dd:Int)/\dd<=64/\Om.LateB rows k dd/\(dd=0->Om.Plain rows)/\(∀ qs,RchL rows qs->¬ qcm rows qs)/\∀ H',CS P0 F G H' d->Q (.bl true) H'
 | _=>False
theorem scLateR:FnScope ["deck","code","d","k","text","more","wire","found","ahead","at"] ["deck","code","d"] (qad qfT):=⟨rfl,rfl,rfl,by decide +kernel,rfl,by decide +kernel,by decide +kernel⟩
local macro_rules | `(tactic| walk_at "T.c")=>`(tactic| (have ndc:(["j","deck"]:List Str).Nodup:=(by decide +kernel));((with_reducible refine' qaH ["j","deck"] [0] ?b1 ?b2 (fun cl C s H fp=>?b3) (fun cl C s H fp=>?b4) (fun cl C s H fp=>?b5));(case b1=>exact ndc);(case b2=>walk_at "T.i");(case b3=>walk_at "T.g");(case b4=>walk_at "T.pf");(case b5=>walk_at "T.e")))
theorem qhN {P0:Addr} (D:FnX K mg "_law_late_right" qfT ["deck","code","d"]) (g1:mg "range" = none) (g2:mg "list" = none) (g3:mg "len" = none) (c1:Can P w K mg base "letters" 3 ["k","bits"] qbZ) (c2:Can P w K mg base "sent" 4 ["code","state","text"] qdc) (c3:Can P w K mg base "read" 7 ["code","wire"] (qmv P0)) (c4:Can P w K mg base "read_plain" 6 ["code","wire"] (qmR P0)) (c5:Can P w K mg base "_law_draw" 1 ["deck","many"] qa8):Can P w K mg base "_law_late_right" 8 ["deck","code","d"] (qdZ P0):=by
 refine qag (k:=7) D scLateR (fun vs H Q E h=>?_) (fun f cdv A outer s H vs Q E hr h=>?_)
 all_goals
  unfold qdZ at h
  split at h
 ·rfl
 ·exact h.elim
 ·rename_i d cv dn
  obtain ⟨F,G,k,n,rows,dd,cs,dv,ok,rfl,d64,lb,pl,nb,q⟩:=h
  have nd:=scLateR.nd
  obtain ⟨ca,cb,ss,rfl,hca,hcb,hss⟩:=qas dv
  have k1:=ok.k1
  have k3:=ok.k3
  have n1:=ok.n1
  have n6:=ok.n6
  refine ⟨_,(by walk_at "T.top"),?_⟩
  refine ⟨_,gt (cs.kp.tup hca) (by decide) rfl,?_⟩
  dsimp only [qai]
  refine ⟨F,cs.dk,by decide,by decide,fun r H1 r0 r13 d1 o1=>?_⟩
  have cs1:=cs.off d1 o1
  obtain ⟨m,rfl⟩ : ∃ m:Nat,r=(m:Int):=⟨r.toNat,by omega⟩
  have km:k * m<=3 * 13:=Nat.mul_le_mul k3 (by omega)
  have kd:k * dd<=3 * 64:=Nat.mul_le_mul k3 d64
  have em:(k:Int) * (m:Nat)=((k * m:Nat):Int):=by push_cast;rfl
  have ed:(k:Int) * (dd:Nat)=((k * dd:Nat):Int):=by push_cast;rfl
  refine ⟨.inl ⟨by omega,by omega⟩,by omega,by omega,fun Da hDa=>?_⟩
  have nFa:¬ F Da:=cs1.dk.new hDa
  have eca:((k:Int) * (m:Nat)).toNat=k * m:=by rw [<-Int.natCast_mul,Int.toNat_natCast]
  refine qaq (qaC 0 _) (fun i τ H2 ys=>(∃ v,τ=[v,some (.ref d)])/\Deck F H2 d/\Off F H1 H2/\H2 Da=some (.lst ys)/\∃ bits:List Int,bits.length=i/\ys=bits.map V.int/\∀ x∈bits,Om.Bit x) (by rw [lM_,List.length_range];exact qae (by omega)) ⟨⟨none,rfl⟩,cs1.dk.same (Same.upd hDa),(Same.upd hDa).off,qaa,[],rfl,rfl,by simp⟩ ?_ ?_ ?_
  ·rintro i τ H2 ys hi ⟨_,_,_,h2,bits,hl,rfl,_⟩
   exact ⟨trivial,h2,by rw [lM_,hl];exact Nat.le_refl _⟩
  ·rintro i x τ H2 ys hi hx ⟨⟨v,rfl⟩,d2,o2,h2,bits,hl,rfl,hbits⟩
   refine ⟨F,d2,by decide,by decide,fun r H3 r0 r1 d3 o3=>?_⟩
   refine ⟨o3 _ _ h2 nFa,⟨_,rfl⟩,d3.own nFa,(o2.trans o3).upd_own hDa,qaa,bits++[r],by simp [hl],by simp,fun y hy=>?_⟩
   rcases mA_ hy with hy | hy
   ·exact hbits y hy
   ·rw [mS_ hy]
    have:r=0\/r=1:=by omega
    exact this
  rintro τ Ha2 ys ⟨_,d2,o2,h2,bits,hl,rfl,hbits⟩
  have csa2:=cs1.off d2 o2
  have hla:bits.length=m * k:=by
   rw [hl,lM_,List.length_range,Nat.mul_comm]
   omega
  refine ⟨k,m,bits,rfl,by omega,h2,hla,by omega,hbits,fun pa Ha3 ta wa3 npa ha3 tla lta=>?_⟩
  have csa3:=csa2.same wa3
  have oa3:Off F H1 Ha3:=o2.trans wa3.off
  have nFpa:¬ F pa:=csa2.dk.new npa
  clear h2 d2 o2 hl hbits hla wa3 csa2
  dsimp only [qai]
  refine ⟨.inl ⟨by omega,by omega⟩,by omega,by omega,fun Db hDb=>?_⟩
  have nFb:¬ F Db:=csa3.dk.new hDb
  have ecb:((k:Int) * (dd:Nat)).toNat=k * dd:=by rw [<-Int.natCast_mul,Int.toNat_natCast]
  refine qaq (qaC 0 _) (fun i τ H2 ys=>(∃ v,τ=[v,some (.ref d)])/\Deck F H2 d/\Off F Ha3 H2/\H2 Db=some (.lst ys)/\∃ bits:List Int,bits.length=i/\ys=bits.map V.int/\∀ x∈bits,Om.Bit x) (by rw [lM_,List.length_range];exact qae (by omega)) ⟨⟨none,rfl⟩,csa3.dk.same (Same.upd hDb),(Same.upd hDb).off,qaa,[],rfl,rfl,by simp⟩ ?_ ?_ ?_
  ·rintro i τ H2 ys hi ⟨_,_,_,h2,bits,hl,rfl,_⟩
   exact ⟨trivial,h2,by rw [lM_,hl];exact Nat.le_refl _⟩
  ·rintro i x τ H2 ys hi hx ⟨⟨v,rfl⟩,d2,o2,h2,bits,hl,rfl,hbits⟩
   refine ⟨F,d2,by decide,by decide,fun r H3 r0 r1 d3 o3=>?_⟩
   refine ⟨o3 _ _ h2 nFb,⟨_,rfl⟩,d3.own nFb,(o2.trans o3).upd_own hDb,qaa,bits++[r],by simp [hl],by simp,fun y hy=>?_⟩
   rcases mA_ hy with hy | hy
   ·exact hbits y hy
   ·rw [mS_ hy]
    have:r=0\/r=1:=by omega
    exact this
  rintro τ Hb2 ys ⟨_,d2,o2,h2,bits,hl,rfl,hbits⟩
  have csb2:=csa3.off d2 o2
  have hlb:bits.length=dd * k:=by
   rw [hl,lM_,List.length_range,Nat.mul_comm]
   omega
  refine ⟨k,dd,bits,rfl,by omega,h2,hlb,by omega,hbits,fun pb Hb3 tb wb3 npb hb3 tlb ltb=>?_⟩
  have csb3:=csb2.same wb3
  have ob3:Off F Ha3 Hb3:=o2.trans wb3.off
  have nFpb:¬ F pb:=csb2.dk.new npb
  clear h2 d2 o2 hl hbits hlb wb3 csb2
  dsimp only [qai]
  have L1:LR P0 F G Hb3 d pa ta:=⟨csb3,ob3 _ _ ha3 nFpa⟩
  clear csa3 csb3 ob3 oa3 cs1 cs o1 d1
  have wl:((Om.send rows 0 ta).1).length=n * ta.length:=(Om.send_ok ok ta 0 ok.s1 lta).1
  have big:n * ta.length<=6 * 13:=Nat.mul_le_mul n6 (by omega)
  refine ⟨_,.inl L1.hT,fun q1 hq1=>?_⟩
  have w4:=Same.upd (o:=.lst ((ni ta).map V.int)) hq1
  have h4:upd Hb3 q1 (.lst ((ni ta).map V.int)) q1=some (.lst ((ni ta).map V.int)):=qaa
  have L4:=L1.same w4
  have hb4:=w4 _ _ hb3
  generalize upd Hb3 q1 (.lst ((ni ta).map V.int))=H4 at *
  refine ⟨k,n,rows,0,ta,DV.kp L4.cs.kp dv,ok,rfl,ok.s1,h4,by omega,lta,fun q2 H5 w5 h5=>?_⟩
  have L5:=L4.same w5
  have hb5:=w5 _ _ hb4
  refine ⟨_,gt h5 (by decide) rfl,?_⟩
  clear L1 L4 w4 w5 h4 hb4 hb3 hq1
  dsimp only [qai]
  refine ⟨k,n,rows,_,ta,DV.kp L5.cs.kp dv,ok,L5.cs.tb,rfl,by omega,lta,(qbg n1 wl).symm,List.prefix_refl _,nb,fun f1 c1 H6 s6 t6 nf1 hf1 lc1=>?_⟩
  rw [qbg n1 wl] at lc1
  obtain ⟨pc1,ll1⟩:=qcT ok lb lta lc1
  have L6:=L5.sT s6 t6
  have hb6:=(SameT.kp L5.cs.tb s6).lst hb5
  clear L5 s6 t6 nf1
  dsimp only [qai]
  refine ⟨_,qbE hf1,_,L6.hT,fun p1 hp1=>?_⟩
  rw [lM_,qaf,qbF,qaZ,<-qcr pc1]
  have w7:=Same.upd (o:=.lst ((ni c1).map V.int)) hp1
  have h7:upd H6 p1 (.lst ((ni c1).map V.int)) p1=some (.lst ((ni c1).map V.int)):=qaa
  have L7:=L6.same w7
  have hb7:=w7 _ _ hb6
  have hf7:=w7 _ _ hf1
  generalize upd H6 p1 (.lst ((ni c1).map V.int))=H7 at *
  clear L6 hb6 hf1 w7
  refine neI hf7 h7 ?_
  refine qak (by simp) ?_
  refine ⟨_,qbE hf7,_,qbE L7.hT,?_⟩
  rw [lM_,qaf,lM_,qaf]
  refine qak (by simp;omega) ?_
  clear h7 hp1
  dsimp only [qaG]
  have lab:∀ l∈ta++tb,l < 2 ^ k:=fun l hl=>(mA_ hl).elim (lta l) (ltb l)
  have wl2:((Om.send rows 0 (ta++tb)).1).length=n * (ta++tb).length:=(Om.send_ok ok (ta++tb) 0 ok.s1 lab).1
  have abl:(ta++tb).length=m+dd:=by rw [lA_,tla,tlb]
  have big2:n * (ta++tb).length<=6 * 77:=Nat.mul_le_mul n6 (by omega)
  refine ⟨_,_,L7.hT,hb7,qae (by rw [lM_,qaf,lM_,qaf];omega),fun q3 hq3=>?_⟩
  rw [qdk]
  have w8:=Same.upd (o:=.lst ((ni (ta++tb)).map V.int)) hq3
  have h8:upd H7 q3 (.lst ((ni (ta++tb)).map V.int)) q3=some (.lst ((ni (ta++tb)).map V.int)):=qaa
  have L8:=L7.same w8
  have hf8:=w8 _ _ hf7
  generalize upd H7 q3 (.lst ((ni (ta++tb)).map V.int))=H8 at *
  refine ⟨k,n,rows,0,ta++tb,DV.kp L8.cs.kp dv,ok,rfl,ok.s1,h8,by omega,lab,fun q4 H9 w9 h9=>?_⟩
  have L9:=L8.same w9
  have hf9:=w9 _ _ hf8
  refine ⟨_,gt h9 (by decide) rfl,?_⟩
  clear L7 L8 w8 w9 h8 hf8 hf7 hb7 hq3
  refine ⟨k,n,rows,_,ta++tb,DV.kp L9.cs.kp dv,ok,L9.cs.tb,rfl,by omega,lab,(qbg n1 wl2).symm,List.prefix_refl _,nb,fun f2 c2 H10 s10 t10 nf2 hf2 lc2=>?_⟩
  rw [qbg n1 wl2] at lc2
  obtain ⟨pc2,ll2⟩:=qcT ok lb lab lc2
  have L10:=L9.sT s10 t10
  have hf10:=(SameT.kp L9.cs.tb s10).lst hf9
  clear L9 s10 t10 nf2 hf9 h9
  have ec2:c2.take ta.length=ta:=by
   have h1:=qcr pc2
   rw [h1,List.take_take,Nat.min_eq_left (by omega),List.take_left]
  refine ⟨_,qbE L10.hT,_,hf2,fun p2 hp2=>?_⟩
  rw [lM_,qaf,qbF,qaZ,ec2]
  have w11:=Same.upd (o:=.lst ((ni ta).map V.int)) hp2
  have h11:upd H10 p2 (.lst ((ni ta).map V.int)) p2=some (.lst ((ni ta).map V.int)):=qaa
  have L11:=L10.same w11
  have hf11:=w11 _ _ hf10
  generalize upd H10 p2 (.lst ((ni ta).map V.int))=H11 at *
  clear L10 hf10 w11 hf2 hp2
  refine ⟨_,_,dvI h11,dvI L11.hT,qah _,qah _,?_⟩
  rw [qa7]
  refine qak (by simp) ?_
  clear h11
  dsimp only [qaG]
  refine qkR (fun σ H12=>σ=[some (.ref d),some (.ref ca),some (.int (dd:Nat)),some (.int (k:Nat)),some (.ref pa),some (.ref pb),some (.str (bs (Om.send rows 0 ta).1)),some (.ref f1),none,none]/\LR P0 F G H12 d pa ta) ?_ (fun nx fin=>?_)
  rotate_left
  ·dsimp only [qfs,qky,tBU,tOp,tV,tC,qaG,qf7]
   by_cases z0:dd=0
   ·subst z0
    refine qem (by simp) ?_
    refine ⟨k,n,rows,ta,DV.kp L11.cs.kp dv,ok,L11.cs.tb,pl rfl,lta,by omega,rfl,fun l3 H12 s12 t12 nl3 hl3=>?_⟩
    have L12:=L11.sT s12 t12
    have hf12:=(SameT.kp L11.cs.tb s12).lst hf11
    refine ⟨_,_,dvI hl3,dvI L12.hT,qah _,qah _,?_⟩
    rw [qa7]
    refine qak (by simp) ?_
    have ec1:c1=ta:=by
     have h1:=qcr pc1
     rw [h1,List.take_of_length_le (by omega)]
    refine ⟨_,_,dvI hf12,dvI L12.hT,qah _,qah _,?_⟩
    rw [qa7]
    refine qak (by simp [ec1]) ?_
    exact fin _ _ ⟨rfl,L12⟩
   ·refine qak (by simp;omega) ?_
    exact fin _ _ ⟨rfl,L11⟩
  clear L11 hf11
  rintro σ H12 ⟨rfl,L12⟩
  refine ⟨Nat.zero_le _,fun ah hah=>?_⟩
  have w13:=Same.upd (o:=.lst []) hah
  have h13:upd H12 ah (.lst []) ah=some (.lst []):=qaa
  have L13:=L12.same w13
  generalize upd H12 ah (.lst [])=H13 at *
  clear L12 w13 hah
  have lw:(bs (Om.send rows 0 ta).1).length=n * ta.length:=by rw [qaI,wl]
  have lwi:(((bs (Om.send rows 0 ta).1).length:Nat):Int)<=78:=by rw [lw];omega
  refine ⟨_,qgx (by rw [lw];exact qaO (by omega)),_,qgx (by rw [lw];exact qaO (by omega)),?_⟩
  rw [lw]
  rw [lw] at lwi
  obtain ⟨sp,hsp⟩ : ∃ sp:Nat,sp=1+n * ta.length / 12:=⟨_,rfl⟩
  have hst:(1:Int)+((n * ta.length:Nat):Int) / 12=(sp:Int):=by omega
  have hm:=fun {i:Nat}=>qkV (hi:=((n * ta.length:Nat):Int)+1) (st:=(1:Int)+((n * ta.length:Nat):Int) / 12) (by omega) (by omega) (i:=i)
  refine ⟨⟨by decide,by decide⟩,⟨by omega,by omega,by omega,by omega,by omega,by omega,by omega⟩,?_⟩
  refine qaD (qce 0 ((1:Int)+((n * ta.length:Nat):Int) / 12) _) (fun i σ H2=>∃ (f7 ah:Addr) (c:List Nat) (v9:Option V),σ=[some (.ref d),some (.ref ca),some (.int (dd:Nat)),some (.int (k:Nat)),some (.ref pa),some (.ref pb),some (.str (bs (Om.send rows 0 ta).1)),some (.ref f7),some (.ref ah),v9]/\LR P0 F G H2 d pa ta/\H2 ah=some (.lst ((ni c).map V.int))/\c <+: ta/\∀ a2 c2,i * sp<=a2->Om.LCP (Om.GT rows k n ((Om.send rows 0 ta).1.take a2) (nwd n ((Om.send rows 0 ta).1.take a2))) c2->c.length<=c2.length)
   ⟨f1,ah,[],none,rfl,L13,h13,List.nil_prefix,fun _ _ _ _=>Nat.zero_le _⟩ (fun _ _ _ _ _=>trivial) ?_ ?_
  ·rintro i x σ H2 hi hx ⟨f7,ah,c,v9,rfl,L2,hah,pc,gr⟩
   have hi':i < (Builtin.Range.rangeSize 0 (((n * ta.length:Nat):Int)+1) ((1:Int)+((n * ta.length:Nat):Int) / 12)).toNat:=by simpa using hi
   have ex:x = .int ((i * sp:Nat):Int):=by
    rw [gM_,List.getElem?_range hi'] at hx
    have:=(oI_ hx).symm
    rw [this];show V.int (0+(i:Int) * ((1:Int)+((n * ta.length:Nat):Int) / 12))=_;rw [hst,Int.zero_add,Int.natCast_mul]
   subst ex
   obtain ⟨b1,b2,b3⟩:=qmp ok lta (i * sp)
   have lt':∀ l∈ta.take (nwd n ((Om.send rows 0 ta).1.take (i * sp))),l < 2 ^ k:=fun l hl=>lta l (List.mem_of_mem_take hl)
   refine ⟨by rw [qaI,wl];exact qaO (by omega),?_⟩
   rw [qmi (by omega),Int.toNat_natCast]
   refine ⟨k,n,rows,_,_,DV.kp L2.cs.kp dv,ok,L2.cs.tb,rfl,by rw [List.length_take,wl];omega,lt',b1,b2,nb,fun f8 c8 H3 s3 t3 nf8 hf8 lc8=>?_⟩
   have L3:=L2.sT s3 t3
   have hah3:=(SameT.kp L2.cs.tb s3).lst hah
   have pc8:c8 <+: ta:=(lc8.1 _ ⟨lt',b1,(List.take_prefix _ _).trans b2⟩).trans (List.take_prefix _ _)
   have le8:=gr _ _ (Nat.le_refl _) lc8
   have ec:c8.take c.length=c:=(qcr (List.prefix_of_prefix_length_le pc pc8 le8)).symm
   clear L2 hah s3 t3 nf8
   dsimp only [qai]
   refine ⟨_,qbE hah3,_,hf8,fun p1 hp1=>?_⟩
   rw [lM_,qaf,qbF,qaZ,ec]
   have w4:=Same.upd (o:=.lst ((ni c).map V.int)) hp1
   have h4:upd H3 p1 (.lst ((ni c).map V.int)) p1=some (.lst ((ni c).map V.int)):=qaa
   have L4:=L3.same w4
   have hah4:=w4 _ _ hah3
   have hf4:=w4 _ _ hf8
   generalize upd H3 p1 (.lst ((ni c).map V.int))=H4 at *
   clear L3 hah3 hf8 w4
   refine ⟨_,_,dvI h4,dvI hah4,qah _,qah _,?_⟩
   rw [qa7]
   refine qak (by simp) ?_
   refine ⟨_,qbE hf4,_,L4.hT,fun p2 hp2=>?_⟩
   rw [lM_,qaf,qbF,qaZ,<-qcr pc8]
   have w5:=Same.upd (o:=.lst ((ni c8).map V.int)) hp2
   have h5:upd H4 p2 (.lst ((ni c8).map V.int)) p2=some (.lst ((ni c8).map V.int)):=qaa
   have L5:=L4.same w5
   have hf5:=w5 _ _ hf4
   generalize upd H4 p2 (.lst ((ni c8).map V.int))=H5 at *
   refine neI hf5 h5 ?_
   refine qak (by simp) ?_
   refine ⟨f8,f8,c8,_,rfl,L5,hf5,pc8,fun a2 c2 ha2 lc2=>?_⟩
   have hle:i * sp<=a2:=by
    rw [Nat.succ_mul] at ha2
    omega
   have pre2:(Om.send rows 0 ta).1.take (i * sp) <+: (Om.send rows 0 ta).1.take a2:=by
    refine List.prefix_of_prefix_length_le (List.take_prefix _ _) (List.take_prefix _ _) ?_
    rw [List.length_take,List.length_take]
    omega
   exact Om.LCP.grow ok pre2 (qhT pre2.length_le) (qgr n1) lc8 lc2 (qgr n1)
  ·rintro σ H2 ⟨f7,ah,c,v9,rfl,L2,hah,pc,gr⟩
   exact q _ L2.cs
 ·exact h.elim
end
end K11
end
section
namespace K11
open PySem L2
section
variable {P:Program} {w:World} {K:PySem.W.Frag} {mg:Str->Option Value} {base:Heap}
theorem qfB {H:Hp} {p:Addr} {k:Nat} (k1:1<=k) (k3:k<=3) (h:H p=some (.lst [.int 2,.int 4,.int 8])):qen H (.ref p) ((k:Int) - 1)=some (.int ((2 ^ k:Nat):Int)):=by
 have:k=1\/k=2\/k=3:=by omega
 rcases this with rfl | rfl | rfl
 ·exact gl h (by decide) rfl
 ·exact gl h (by decide) rfl
 ·exact gl h (by decide) rfl
theorem CS.own {P0:Addr} {F:Addr->Prop} {G H0 H:Hp} {d T:Addr} {xs:List V} {o:HO} (c0:CS P0 F G H0 d) (n:H0 T=none) (c:CS P0 F G H d) (hl:H T=some (.lst xs)):CS P0 F G (upd H T o) d:=by
 refine ⟨c.dk.own (c0.dk.new n),fun b u nt e=>?_,c.gF,c.tb.upd hl⟩
 rw [qab (fun z:b=T=>by rw [z] at e;have:=c0.kp _ _ nt e;rw [n] at this;cases this)]
 exact c.kp _ _ nt e
theorem qkQ {ls:List Nat} {i l:Nat}:((ni ls).map V.int).set i (.int (l:Nat))=(ni (ls.set i l)).map V.int:=by
 unfold ni
 rw [List.map_set,List.map_set]
abbrev qfR:Stmt:=top 48
def qdX (P0:Addr):Sp:=fun vs H Q _=>match vs with
 | [.ref d,cv,.int dn]=>∃ (F:Addr->Prop) (G:Hp) (k n:Nat) (rows:Om.Rows) (dd:Nat),CS P0 F G H d/\DV G cv (qaA k n rows)/\Om.CodeOk k n rows/\dn=(dd:Int)/\dd<=64/\Om.LateB rows k dd/\(∀ qs,RchL rows qs->¬ qcm rows qs)/\∀ H',CS P0 F G H' d->Q (.bl true) H'
 | _=>False
theorem scLongR:FnScope ["deck","code","d","text","at","found"] ["deck","code","d"] (qad qfR):=⟨rfl,rfl,rfl,by decide +kernel,rfl,by decide +kernel,by decide +kernel⟩
local macro_rules | `(tactic| walk_at "T.c")=>`(tactic| (have ndc:(["k","deck","code"]:List Str).Nodup:=(by decide +kernel));((with_reducible refine' qaH ["k","deck","code"] [0,1] ?b1 ?b2 (fun cl C s H fp=>?b3) (fun cl C s H fp=>?b4) (fun cl C s H fp=>?b5));(case b1=>exact ndc);(case b2=>walk_at "T.i");(case b3=>walk_at "T.g");(case b4=>walk_at "T.pf");(case b5=>walk_at "T.e")))
theorem qhK {P0:Addr} (D:FnX K mg "_law_long_right" qfR ["deck","code","d"]) (g1:mg "range" = none) (g2:mg "list" = none) (g3:mg "len" = none) (c2:Can P w K mg base "sent" 4 ["code","state","text"] qdc) (c3:Can P w K mg base "read" 7 ["code","wire"] (qmv P0)) (c5:Can P w K mg base "_law_draw" 1 ["deck","many"] qa8):Can P w K mg base "_law_long_right" 8 ["deck","code","d"] (qdX P0):=by
 refine qag (k:=7) D scLongR (fun vs H Q E h=>?_) (fun f cdv A outer s H vs Q E hr h=>?_)
 all_goals
  unfold qdX at h
  split at h
 ·rfl
 ·exact h.elim
 ·rename_i d cv dn
  obtain ⟨F,G,k,n,rows,dd,cs,dv,ok,rfl,d64,lb,nb,q⟩:=h
  have nd:=scLongR.nd
  obtain ⟨ca,cb,ss,rfl,hca,hcb,hss⟩:=qas dv
  have k1:=ok.k1
  have k3:=ok.k3
  have n1:=ok.n1
  have n6:=ok.n6
  have p8:2 ^ k<=8:=Nat.le_trans (Nat.pow_le_pow_right (by decide) k3) (by decide)
  have p2:2<=2 ^ k:=by
   have:k=1\/k=2\/k=3:=by omega
   rcases this with rfl | rfl | rfl<;>decide
  refine ⟨_,(by walk_at "T.top"),?_⟩
  refine ⟨F,cs.dk,by decide,by decide,fun r H1 r0 r20 d1 o1=>?_⟩
  have cs1:=cs.off d1 o1
  refine ⟨by omega,by omega,fun D1 hD1=>?_⟩
  have nF:¬ F D1:=cs1.dk.new hD1
  refine qaq (qaC 0 _) (fun i τ H2 ys=>(∃ v,τ=[v,some (.ref d),some (.ref ca)])/\Deck F H2 d/\Off F H1 H2/\H2 D1=some (.lst ys)/\∃ ls:List Nat,ls.length=i/\ys=(ni ls).map V.int/\∀ l∈ls,l < 2 ^ k) (by rw [lM_,List.length_range];exact qae (by omega)) ⟨⟨none,rfl⟩,cs1.dk.same (Same.upd hD1),(Same.upd hD1).off,qaa,[],rfl,rfl,by simp⟩ ?_ ?_ ?_
  ·rintro i τ H2 ys hi ⟨_,_,_,h2,ls,hl,rfl,_⟩
   exact ⟨trivial,h2,by unfold ni;simp [hl]⟩
  ·rintro i x τ H2 ys hi hx ⟨⟨v,rfl⟩,d2,o2,h2,ls,hl,rfl,hls⟩
   have hca2:H2 ca=some (.tup [.int (k:Nat),.int (n:Nat),.ref cb]):=(cs1.off d2 o2).kp.tup hca
   refine ⟨lZ_ rfl,fun L hL=>?_⟩
   have nL:¬ F L:=d2.new hL
   refine ⟨_,gt (Same.upd hL _ _ hca2) (by decide) rfl,_,qfB k1 k3 qaa,?_⟩
   refine ⟨F,d2.own nL,by omega,by omega,fun r H3 r0 r1 d3 o3=>?_⟩
   obtain ⟨l,rfl⟩ : ∃ l:Nat,r=(l:Int):=⟨r.toNat,by omega⟩
   have lk:l < 2 ^ k:=by omega
   refine ⟨o3 _ _ (Same.upd hL _ _ h2) nF,⟨_,rfl⟩,d3.own nF,((o2.upd_new hL).trans o3).upd_own hD1,qaa,ls++[l],by simp [hl],by unfold ni;simp,fun y hy=>?_⟩
   rcases mA_ hy with hy | hy
   ·exact hls y hy
   ·rw [mS_ hy];exact lk
  rintro τ H2 ys ⟨_,d2,o2,h2,ls,hl,rfl,hls⟩
  have cs2:=cs1.off d2 o2
  have hl20:1<=ls.length/\ls.length<=20:=by
   rw [hl,lM_,List.length_range]
   omega
  clear o2 d2 hl
  refine ⟨F,cs2.dk,by decide,by decide,fun r2 H3 s0 s15 d3 o3=>?_⟩
  have cs3:=cs2.off d3 o3
  have h3:=o3 _ _ h2 nF
  clear o3 d3 h2
  have big:ls.length * (1+r2).toNat<=20 * 15:=Nat.mul_le_mul hl20.2 (by omega)
  have one:1 * 1<=ls.length * (1+r2).toNat:=Nat.mul_le_mul hl20.1 (by omega)
  refine ⟨_,h3,by omega,by omega,qae (by rw [lM_,qaf];omega),fun T hT=>?_⟩
  rw [qf2]
  have w4:=Same.upd (o:=.lst ((ni (List.replicate (1+r2).toNat ls).flatten).map V.int)) hT
  have h4:upd H3 T (.lst ((ni (List.replicate (1+r2).toNat ls).flatten).map V.int)) T=some (.lst ((ni (List.replicate (1+r2).toNat ls).flatten).map V.int)):=qaa
  have cs4:=cs3.same w4
  generalize upd H3 T (.lst ((ni (List.replicate (1+r2).toNat ls).flatten).map V.int))=H4 at *
  have tl:((List.replicate (1+r2).toNat ls).flatten).length=ls.length * (1+r2).toNat:=by rw [qb5,Nat.mul_comm]
  have tm:∀ l∈(List.replicate (1+r2).toNat ls).flatten,l < 2 ^ k:=fun l hl=>hls l (qf3 hl)
  generalize (List.replicate (1+r2).toNat ls).flatten=t at *
  dsimp only [qai]
  refine ⟨_,qbE h4,F,cs4.dk,by rw [lM_,qaf];omega,by rw [lM_,qaf];omega,fun a H5 a0 a1 d5 o5=>?_⟩
  rw [lM_,qaf] at a1
  have cs5:=cs4.off d5 o5
  have h5:=o5 _ _ h4 (cs3.dk.new hT)
  clear o5 d5 h4 w4
  obtain ⟨i,rfl⟩ : ∃ i:Nat,a=(i:Int):=⟨a.toNat,by omega⟩
  have hi:i < t.length:=by omega
  dsimp only [qai]
  refine ⟨_,gl h5 (by omega) (by rw [Int.toNat_natCast];exact qhU hi),?_⟩
  have en:(1:Int) - ((t.getD i 0:Nat):Int) % 2=((1 - t.getD i 0 % 2:Nat):Int):=by omega
  have vl:1 - t.getD i 0 % 2 < 2 ^ k:=by omega
  refine ⟨show (0:Int) < 2 by decide,?_⟩
  refine ⟨_,i,h5,qjY (by rw [lM_,qaf];exact hi),?_⟩
  dsimp only
  rw [en,qkQ]
  have cs6:=cs3.own hT cs5 (o:=.lst ((ni (t.set i (1 - t.getD i 0 % 2))).map V.int)) h5
  have h6:upd H5 T (.lst ((ni (t.set i (1 - t.getD i 0 % 2))).map V.int)) T=some (.lst ((ni (t.set i (1 - t.getD i 0 % 2))).map V.int)):=qaa
  generalize upd H5 T (.lst ((ni (t.set i (1 - t.getD i 0 % 2))).map V.int))=H6 at *
  have tl2:(t.set i (1 - t.getD i 0 % 2)).length=t.length:=List.length_set
  have tm2:∀ l∈t.set i (1 - t.getD i 0 % 2),l < 2 ^ k:=fun l hl=>(List.mem_or_eq_of_mem_set hl).elim (tm l) (fun z=>by rw [z];exact vl)
  generalize t.set i (1 - t.getD i 0 % 2)=t2 at *
  have L6:LR P0 F G H6 d T t2:=⟨cs6,h6⟩
  clear h5 cs5 h6 cs6 cs4 cs3 cs2 cs1 cs h3 o1 d1
  have wl:((Om.send rows 0 t2).1).length=n * t2.length:=(Om.send_ok ok t2 0 ok.s1 tm2).1
  have big2:n * t2.length<=6 * 300:=Nat.mul_le_mul n6 (by omega)
  refine ⟨_,.inl L6.hT,fun q1 hq1=>?_⟩
  have w7:=Same.upd (o:=.lst ((ni t2).map V.int)) hq1
  have h7:upd H6 q1 (.lst ((ni t2).map V.int)) q1=some (.lst ((ni t2).map V.int)):=qaa
  have L7:=L6.same w7
  generalize upd H6 q1 (.lst ((ni t2).map V.int))=H7 at *
  refine ⟨k,n,rows,0,t2,DV.kp L7.cs.kp dv,ok,rfl,ok.s1,h7,by omega,tm2,fun q2 H8 w8 h8=>?_⟩
  have L8:=L7.same w8
  refine ⟨_,gt h8 (by decide) rfl,?_⟩
  refine ⟨k,n,rows,_,t2,DV.kp L8.cs.kp dv,ok,L8.cs.tb,rfl,by omega,tm2,(qbg n1 wl).symm,List.prefix_refl _,nb,fun f1 c1 H9 s9 t9 nf1 hf1 lc1=>?_⟩
  rw [qbg n1 wl] at lc1
  obtain ⟨pc1,ll1⟩:=qcT ok lb tm2 lc1
  have L9:=L8.sT s9 t9
  dsimp only [qai]
  refine ⟨_,qbE hf1,_,L9.hT,fun p1 hp1=>?_⟩
  rw [lM_,qaf,qbF,qaZ,<-qcr pc1]
  have w10:=Same.upd (o:=.lst ((ni c1).map V.int)) hp1
  have h10:upd H9 p1 (.lst ((ni c1).map V.int)) p1=some (.lst ((ni c1).map V.int)):=qaa
  have L10:=L9.same w10
  have hf10:=w10 _ _ hf1
  generalize upd H9 p1 (.lst ((ni c1).map V.int))=H10 at *
  refine eqI hf10 h10 ?_
  refine qem (decide_eq_true rfl) ?_
  refine ⟨_,qbE hf10,_,qbE L10.hT,?_⟩
  have e:decide ((((ni t2).map V.int).length:Int) - (dd:Nat)<=(((ni c1).map V.int).length:Int))=true:=by
   rw [lM_,qaf,lM_,qaf]
   exact decide_eq_true (by omega)
  show Q (.bl (decide ((((ni t2).map V.int).length:Int) - (dd:Nat)<=(((ni c1).map V.int).length:Int)))) H10
  rw [e]
  exact q _ L10.cs
 ·exact h.elim
end
end K11
end
section
namespace K11
open PySem L2
section
variable {P:Program} {w:World} {K:PySem.W.Frag} {mg:Str->Option Value} {base:Heap}
theorem qkp:("00" : Str)=bs [false,false]:=by decide +kernel
theorem qmn:("01" : Str)=bs [false,true]:=by decide +kernel
theorem qmm:("10" : Str)=bs [true,false]:=by decide +kernel
theorem qnC:("11" : Str)=bs [true,true]:=by decide +kernel
theorem qbW {H:Hp} {p1 p2 p3:Addr} {w1 w2:List Bool} {s1 s2:Nat} (h1:H p1=some (.tup [.str (bs w1),.int (s1:Nat)])) (h2:H p2=some (.tup [.str (bs w2),.int (s2:Nat)])) (h3:H p3=some (.lst [.ref p1,.ref p2])):DV H (.ref p3) (qaF [(w1,s1),(w2,s2)]):=
 .lst h3 (.cons (.tup h1 (.cons (.str _) (.cons (.int _) .nil))) (.cons (.tup h2 (.cons (.str _) (.cons (.int _) .nil))) .nil))
abbrev qmX:Stmt:=top 45
def qiZ:Sp:=fun vs H Q _=>match vs with
 | [.ref a]=>∃ F,Deck F H a/\∀ v (k n:Nat) (rows:Om.Rows) G H',Deck F H' a->Off F H H'->Same G H'->(∀ b,F b->G b=none)->(∀ b u,H b=some u->G b=none)->DV G v (qaA k n rows)->Om.CodeOk k n rows->Q v H'
 | _=>False
theorem scRow:FnScope ["deck","many","gap","states","k"] ["deck"] (qad qmX):=⟨rfl,rfl,rfl,by decide +kernel,rfl,by decide +kernel,by decide +kernel⟩
theorem qlH (D:FnX K mg "_law_row" qmX ["deck"]) (g1:mg "range" = none) (c1:Can P w K mg base "_law_draw" 1 ["deck","many"] qa8):Can P w K mg base "_law_row" 2 ["deck"] qiZ:=by
 refine qag (k:=1) D scRow (fun vs H Q E h=>?_) (fun f cdv A outer s H vs Q E hr h=>?_)
 all_goals
  unfold qiZ at h
  split at h
 ·rfl
 ·exact h.elim
 ·rename_i a
  obtain ⟨F,hD,q⟩:=h
  have nd:=scRow.nd
  refine ⟨_,(by walk_at "T.top"),?_⟩
  refine ⟨F,hD,by decide,by decide,fun r1 H1 r10 r11 d1 o1=>?_⟩
  dsimp only [qai]
  refine ⟨F,d1,by omega,by omega,fun r2 H2 r20 r21 d2 o2=>?_⟩
  obtain ⟨m,hm⟩ : ∃ m:Nat,2+r1=(m:Int):=⟨(2+r1).toNat,by omega⟩
  obtain ⟨g,hg⟩ : ∃ g:Nat,1+(1+r2)=(g:Int):=⟨(1+(1+r2)).toNat,by omega⟩
  have m8:2<=m/\m<=7:=by omega
  have gm:g<=m:=by omega
  have oo:Off F H H2:=o1.trans o2
  have nF2:∀ {b},H2 b=none->¬ F b:=fun {b} h=>d2.new h
  dsimp only [qai]
  refine ⟨lZ_ rfl,fun p1 hp1=>?_⟩
  have w1:=Same.upd (o:=.tup [.str ("00" : Str),.int 1]) hp1
  have k1:upd H2 p1 (.tup [.str ("00" : Str),.int 1]) p1=some (.tup [.str ("00" : Str),.int 1]):=qaa
  generalize upd H2 p1 (.tup [.str ("00" : Str),.int 1])=H3 at *
  refine ⟨lZ_ rfl,fun p2 hp2=>?_⟩
  have w2:=Same.upd (o:=.tup [.str ("00" : Str),.int (1+(1+r2))]) hp2
  have k2:upd H3 p2 (.tup [.str ("00" : Str),.int (1+(1+r2))]) p2=some (.tup [.str ("00" : Str),.int (1+(1+r2))]):=qaa
  have k12:=w2 _ _ k1
  generalize upd H3 p2 (.tup [.str ("00" : Str),.int (1+(1+r2))])=H4 at *
  refine ⟨lZ_ rfl,fun p3 hp3=>?_⟩
  have w3:=Same.upd (o:=.lst [.ref p1,.ref p2]) hp3
  have k3:upd H4 p3 (.lst [.ref p1,.ref p2]) p3=some (.lst [.ref p1,.ref p2]):=qaa
  have k13:=w3 _ _ k12
  have k23:=w3 _ _ k2
  generalize upd H4 p3 (.lst [.ref p1,.ref p2])=H5 at *
  refine ⟨lZ_ rfl,fun S hS=>?_⟩
  have w4:=Same.upd (o:=.lst [.ref p3]) hS
  have k4:upd H5 S (.lst [.ref p3]) S=some (.lst [.ref p3]):=qaa
  have nS:H2 S=none:=((w1.trans w2).trans w3).free hS
  have s6:=((w1.trans w2).trans w3).trans w4
  obtain ⟨F',hF'⟩ : ∃ F':Addr->Prop,F'=fun b=>b=S\/∃ u,H2 b=some u:=⟨_,rfl⟩
  have FS:F' S:=by rw [hF'];exact .inl rfl
  have Fn:∀ {b},H2 b=none->b≠S->¬ F' b:=fun {b} h1 h2 z=>by
   rw [hF'] at z
   rcases z with z | ⟨u,z⟩
   ·exact h2 z
   ·rw [h1] at z;cases z
  have n1:p1≠S:=fun z=>by rw [z,hS] at k13;cases k13
  have n2:p2≠S:=fun z=>by rw [z,hS] at k23;cases k23
  have n3:p3≠S:=fun z=>by rw [z,hS] at k3;cases k3
  have D6:DVs (woF F' (upd H5 S (.lst [.ref p3]))) [.ref p3] ([[([false,false],1),([false,false],g)]].map qaF):=by
   refine .cons (qbW (p1:=p1) (p2:=p2) ?_ ?_ ?_) .nil
   ·rw [qam (Fn hp1 n1),qab n1,k13,qkp];rfl
   ·rw [qam (Fn (w1.free hp2) n2),qab n2,k23,qkp,hg]
   ·rw [qam (Fn ((w1.trans w2).free hp3) n3),qab n3,k3]
  generalize upd H5 S (.lst [.ref p3])=H6 at *
  clear w1 w2 w3 w4 k1 k2 k12 k13 k23 k3 hp1 hp2 hp3 hS
  dsimp only [qai]
  refine ⟨⟨by omega,by omega,by omega,by omega⟩,qaD (qaC 1 _) (fun i σ H7=>∃ (v4:Option V) (xs:List V) (rows:Om.Rows),σ=[some (.ref a),some (.int (2+r1)),some (.int (1+r2)),some (.ref S),v4]/\Same H2 H7/\H7 S=some (.lst xs)/\DVs (woF F' H7) xs (rows.map qaF)/\rows.length=1+i/\∀ st∈rows,st.length=2/\∀ r∈st,r.1.length=2/\r.2 < m+1)
   ⟨none,_,_,rfl,s6,k4,D6,rfl,fun st hs=>?_⟩ (fun _ _ _ _ _=>trivial) ?_ ?_⟩
  ·rw [mS_ hs]
   refine ⟨rfl,fun r hr=>?_⟩
   rcases List.mem_cons.mp hr with z | z
   ·rw [z];exact ⟨rfl,by show 1 < m+1;omega⟩
   ·rw [mS_ z];exact ⟨rfl,by show g < m+1;omega⟩
  ·rintro i x σ H7 hi hx ⟨v4,xs,rows,rfl,s7,h7,dv7,rl,rk⟩
   have hi':i < m - 1:=by
    rw [lM_,List.length_range] at hi
    omega
   have ex:x = .int (1+(i:Nat)):=by
    rw [lM_,List.length_range] at hi
    rw [gM_,List.getElem?_range hi] at hx
    exact (oI_ hx).symm
   subst ex
   have xl:xs.length=rows.length:=by rw [dv7.length,lM_]
   have ek:(1:Int)+(i:Nat)+1=((i+2:Nat):Int):=by omega
   refine ⟨⟨_,rfl,h7⟩,?_⟩
   refine ⟨lZ_ rfl,fun p1 hp1=>?_⟩
   have w1:=Same.upd (o:=.tup [.str ("00" : Str),.int (1+(i:Nat)+1)]) hp1
   have k1:upd H7 p1 (.tup [.str ("00" : Str),.int (1+(i:Nat)+1)]) p1=some (.tup [.str ("00" : Str),.int (1+(i:Nat)+1)]):=qaa
   generalize upd H7 p1 (.tup [.str ("00" : Str),.int (1+(i:Nat)+1)])=H8 at *
   refine ⟨lZ_ rfl,fun p2 hp2=>?_⟩
   have w2:=Same.upd (o:=.tup [.str ("01" : Str),.int (1+(i:Nat)+1)]) hp2
   have k2:upd H8 p2 (.tup [.str ("01" : Str),.int (1+(i:Nat)+1)]) p2=some (.tup [.str ("01" : Str),.int (1+(i:Nat)+1)]):=qaa
   have k12:=w2 _ _ k1
   generalize upd H8 p2 (.tup [.str ("01" : Str),.int (1+(i:Nat)+1)])=H9 at *
   refine ⟨lZ_ rfl,fun p3 hp3=>?_⟩
   have w3:=Same.upd (o:=.lst [.ref p1,.ref p2]) hp3
   have k3:upd H9 p3 (.lst [.ref p1,.ref p2]) p3=some (.lst [.ref p1,.ref p2]):=qaa
   have k13:=w3 _ _ k12
   have k23:=w3 _ _ k2
   have w13:=(w1.trans w2).trans w3
   have n1:p1≠S:=fun z=>by rw [z,h7] at hp1;cases hp1
   have n2:p2≠S:=fun z=>by rw [z,w1 _ _ h7] at hp2;cases hp2
   have n3:p3≠S:=fun z=>by rw [z,(w1.trans w2) _ _ h7] at hp3;cases hp3
   generalize upd H9 p3 (.lst [.ref p1,.ref p2])=H10 at *
   refine ⟨_,w13 _ _ h7,lt_line (by omega),?_⟩
   refine ⟨_,xs++[.ref p3],rows++[[([false,false],i+2),([false,true],i+2)]],rfl,(s7.trans w13).own nS,qaa,?_,by rw [lA_,rl];simp;omega,fun st hs=>?_⟩
   ·rw [List.map_append]
    refine (dv7.mono (qbT w13 FS)).app (.cons (qbW (p1:=p1) (p2:=p2) ?_ ?_ ?_) .nil)
    ·rw [qam (Fn (s7.free hp1) n1),qab n1,k13,qkp,ek]
    ·rw [qam (Fn ((s7.trans w1).free hp2) n2),qab n2,k23,qmn,ek]
    ·rw [qam (Fn ((s7.trans (w1.trans w2)).free hp3) n3),qab n3,k3]
   ·rcases mA_ hs with z | z
    ·exact rk st z
    ·rw [mS_ z]
     refine ⟨rfl,fun r hr=>?_⟩
     rcases List.mem_cons.mp hr with z | z
     ·rw [z];exact ⟨rfl,by show i+2 < m+1;omega⟩
     ·rw [mS_ z];exact ⟨rfl,by show i+2 < m+1;omega⟩
  ·rintro σ H7 ⟨v4,xs,rows,rfl,s7,h7,dv7,rl,rk⟩
   have rl':rows.length=m:=by
    rw [lM_,List.length_range] at rl
    omega
   have xl:xs.length=rows.length:=by rw [dv7.length,lM_]
   refine ⟨⟨_,rfl,h7⟩,?_⟩
   refine ⟨lZ_ rfl,fun p1 hp1=>?_⟩
   have w1:=Same.upd (o:=.tup [.str ("10" : Str),.int 0]) hp1
   have k1:upd H7 p1 (.tup [.str ("10" : Str),.int 0]) p1=some (.tup [.str ("10" : Str),.int 0]):=qaa
   generalize upd H7 p1 (.tup [.str ("10" : Str),.int 0])=H8 at *
   refine ⟨lZ_ rfl,fun p2 hp2=>?_⟩
   have w2:=Same.upd (o:=.tup [.str ("11" : Str),.int 0]) hp2
   have k2:upd H8 p2 (.tup [.str ("11" : Str),.int 0]) p2=some (.tup [.str ("11" : Str),.int 0]):=qaa
   have k12:=w2 _ _ k1
   generalize upd H8 p2 (.tup [.str ("11" : Str),.int 0])=H9 at *
   refine ⟨lZ_ rfl,fun p3 hp3=>?_⟩
   have w3:=Same.upd (o:=.lst [.ref p1,.ref p2]) hp3
   have k3:upd H9 p3 (.lst [.ref p1,.ref p2]) p3=some (.lst [.ref p1,.ref p2]):=qaa
   have k13:=w3 _ _ k12
   have k23:=w3 _ _ k2
   have w13:=(w1.trans w2).trans w3
   have n1:p1≠S:=fun z=>by rw [z,h7] at hp1;cases hp1
   have n2:p2≠S:=fun z=>by rw [z,w1 _ _ h7] at hp2;cases hp2
   have n3:p3≠S:=fun z=>by rw [z,(w1.trans w2) _ _ h7] at hp3;cases hp3
   generalize upd H9 p3 (.lst [.ref p1,.ref p2])=H10 at *
   refine ⟨_,w13 _ _ h7,lt_line (by omega),?_⟩
   have s11:Same H2 (upd H10 S (.lst (xs++[.ref p3]))):=(s7.trans w13).own nS
   have h11:upd H10 S (.lst (xs++[.ref p3])) S=some (.lst (xs++[.ref p3])):=qaa
   have dv11:DVs (woF F' (upd H10 S (.lst (xs++[.ref p3])))) (xs++[.ref p3]) ((rows++[[([true,false],0),([true,true],0)]]).map qaF):=by
    rw [List.map_append]
    refine (dv7.mono (qbT w13 FS)).app (.cons (qbW (p1:=p1) (p2:=p2) ?_ ?_ ?_) .nil)
    ·rw [qam (Fn (s7.free hp1) n1),qab n1,k13,qmm];rfl
    ·rw [qam (Fn ((s7.trans w1).free hp2) n2),qab n2,k23,qnC];rfl
    ·rw [qam (Fn ((s7.trans (w1.trans w2)).free hp3) n3),qab n3,k3]
   have rk':∀ st∈rows++[[([true,false],0),([true,true],0)]],st.length=2/\∀ r∈st,r.1.length=2/\r.2 < m+1:=fun st hs=>by
    rcases mA_ hs with z | z
    ·exact rk st z
    ·rw [mS_ z]
     refine ⟨rfl,fun r hr=>?_⟩
     rcases List.mem_cons.mp hr with z | z
     ·rw [z];exact ⟨rfl,by show 0 < m+1;omega⟩
     ·rw [mS_ z];exact ⟨rfl,by show 0 < m+1;omega⟩
   have rl2:(rows++[[([true,false],0),([true,true],0)]]).length=m+1:=by rw [lA_,rl'];rfl
   generalize rows++[[([true,false],0),([true,true],0)]]=rows2 at *
   generalize xs++[.ref p3]=xs2 at *
   generalize upd H10 S (.lst xs2)=H11 at *
   clear w1 w2 w3 w13 k1 k2 k12 k13 k23 k3 hp1 hp2 hp3 n1 n2 n3 h7 s7 dv7
   refine ⟨lZ_ rfl,fun p hp=>?_⟩
   have np:H2 p=none:=s11.free hp
   have pS:p≠S:=fun z=>by rw [z,h11] at hp;cases hp
   have e1:woF (fun b=>∃ u,H2 b=some u) (upd H11 p (.tup [.int 1,.int 2,.ref S])) p=some (.tup [.int 1,.int 2,.ref S]):=by rw [qam (fun ⟨u,z⟩=>by rw [np] at z;cases z),qaa]
   have e2:woF (fun b=>∃ u,H2 b=some u) (upd H11 p (.tup [.int 1,.int 2,.ref S])) S=some (.lst xs2):=by rw [qam (fun ⟨u,z⟩=>by rw [nS] at z;cases z),qab (Ne.symm pS)];exact h11
   have e3:Same (woF F' H11) (woF (fun b=>∃ u,H2 b=some u) (upd H11 p (.tup [.int 1,.int 2,.ref S]))):=fun b u e=>by
    by_cases z:F' b
    ·rw [qaw z] at e;cases e
    ·rw [qam z] at e
     rw [qam (fun y=>z (by rw [hF'];exact .inr y)),qab (fun y:b=p=>by rw [y,hp] at e;cases e)]
     exact e
   refine q _ 1 2 rows2 (woF (fun b=>∃ u,H2 b=some u) (upd H11 p (.tup [.int 1,.int 2,.ref S]))) _ (d2.same (s11.trans (Same.upd hp))) (oo.trans (s11.trans (Same.upd hp)).off) (qbK _ _) (fun b hb=>qaw (d2.there hb)) (fun b u e=>?_) (.tup e1 (.cons (.int _) (.cons (.int _) (.cons (.lst e2 (dv11.mono e3)) .nil)))) ⟨by decide,by decide,by decide,by decide,by omega,by omega,fun st hs=>(rk' st hs).1,fun st hs r hr=>by rw [rl2];exact (rk' st hs).2 r hr⟩
   by_cases hb:F b
   ·exact qaw (d2.there hb)
   ·exact qaw ⟨u,oo _ _ e hb⟩
 ·exact h.elim
end
end K11
end
section
namespace K11
open PySem L2
section
variable {P:Program} {w:World} {K:PySem.W.Frag} {mg:Str->Option Value} {base:Heap}
abbrev Cd:=Nat×Nat×Om.Rows
def cD (c:Cd):PyData:=qaA c.1 c.2.1 c.2.2
def okC (c:Cd):Prop:=Om.CodeOk c.1 c.2.1 c.2.2
abbrev qi8:Stmt:=top 49
def qfH (P0:Addr) (K:PySem.W.Frag):Sp:=fun vs H Q _=>match vs with
 | [.ref a]=>∃ ns:List Int,SqL K H a (ns.map V.int)/\ns.length<=63/\Tab P0 (qap qay) qSt H/\∀ H',Q (.bl true) H'
 | _=>False
theorem scLaw:FnScope ["script","deck","codes","code","d"] ["script"] (qad qi8):=⟨rfl,rfl,rfl,by decide +kernel,rfl,by decide +kernel,by decide +kernel⟩
local macro_rules | `(tactic| walk_at "T.c")=>`(tactic| (have ndc:(["turn","deck"]:List Str).Nodup:=(by decide +kernel));((with_reducible refine' qaH ["turn","deck"] [1] ?b1 ?b2 (fun cl C s H fp=>?b3) (fun cl C s H fp=>?b4) (fun cl C s H fp=>?b5));(case b1=>exact ndc);(case b2=>walk_at "T.i");(case b3=>walk_at "T.g");(case b4=>walk_at "T.pf");(case b5=>walk_at "T.e")))
local macro_rules | `(tactic| walk_at "T.cmp")=>`(tactic| ((with_reducible refine' qlC ?a1);(case a1=>exact Room.units (by assumption))))
theorem qlJ {f:Addr} {fd:FuncData} {P0:Addr} (D:Fun K "law" "law" qi8 f fd) (g1:mg "range" = none) (c1:Can P w K mg base "_law_deck" 1 ["script"] (qfI K)) (c2:Can P w K mg base "_law_code" 3 ["deck","most_bits","most_signs","most_states"] qd0) (c3:Can P w K mg base "_law_row" 2 ["deck"] qiZ) (c4:Can P w K mg base "late" 6 ["code"] (qeC P0)) (c5:Can P w K mg base "is_plain" 5 ["code"] (qcC P0)) (c6:Can P w K mg base "_law_never_right" 7 ["deck","code"] (qmS P0)) (c7:Can P w K mg base "never" 6 ["code"] (qcD P0)) (c8:Can P w K mg base "_law_late_right" 8 ["deck","code","d"] (qdZ P0)) (c9:Can P w K mg base "_law_long_right" 8 ["deck","code","d"] (qdX P0)):FnOk P w K mg base CX0 9 f fd ["script"] (qfH P0 K):=by
 refine D.ok (k:=8) scLaw (fun vs H Q E h=>?_) (fun cdv A outer s H vs Q E hr h=>?_)
 all_goals
  unfold qfH at h
  split at h
 ·rfl
 ·exact h.elim
 ·rename_i a
  obtain ⟨ns,hS,h63,tb,q⟩:=h
  have nd:=scLaw.nd
  refine ⟨_,(by walk_at "T.top"),?_⟩
  refine ⟨ns,hS,h63,fun d F H1 s1 dk fF=>?_⟩
  have tb1:=tb.mono s1
  dsimp only [qai]
  refine ⟨by decide,by decide,fun C hC=>?_⟩
  have nFC:¬ F C:=dk.new hC
  obtain ⟨F',hF'⟩ : ∃ F':Addr->Prop,F'=fun b=>F b\/b=C:=⟨_,rfl⟩
  have Fn:∀ {b},¬ F b->b≠C->¬ F' b:=fun {b} h1 h2 z=>by rw [hF'] at z;exact z.elim h1 h2
  have F1:∀ {b},¬ F' b->¬ F b/\b≠C:=fun {b} h=>⟨fun z=>h (by rw [hF'];exact .inl z),fun z=>h (by rw [hF'];exact .inr z)⟩
  refine qaq (qaC 0 _) (fun i τ H2 ys=>(∃ v,τ=[v,some (.ref d)])/\Deck F H2 d/\Tab P0 (qap qay) qSt H2/\H2 C=some (.lst ys)/\∃ cds:List Cd,cds.length=i/\(∀ c∈cds,okC c)/\DVs (woF F' H2) ys (cds.map cD)) (by rw [lM_,List.length_range];exact qae (by decide)) ⟨⟨none,rfl⟩,dk.same (Same.upd hC),tb1.mono (Same.upd hC),qaa,[],rfl,by simp,.nil⟩ ?_ ?_ ?_
  ·rintro i τ H2 ys hi ⟨_,_,_,h2,cds,hl,_,dv⟩
   exact ⟨trivial,h2,by rw [dv.length,lM_,hl];exact Nat.le_refl _⟩
  ·rintro i x τ H2 ys hi hx ⟨⟨v,rfl⟩,d2,t2,h2,cds,hl,hok,dv2⟩
   refine ⟨rfl,rfl,rfl,F,d2,fun v k n rows G H3 d3 o3 sG gF nw dv ok=>?_⟩
   have h3:=o3 _ _ h2 nFC
   have t3:=t2.off d2 o3
   refine ⟨h3,⟨_,rfl⟩,d3.own nFC,t3.upd h3,qaa,cds++[(k,n,rows)],by simp [hl],fun c hc=>?_,?_⟩
   ·rcases mA_ hc with z | z
    ·exact hok c z
    ·rw [mS_ z];exact ok
   ·rw [List.map_append]
    refine (dv2.mono fun b u e=>?_).app (.cons (dv.mono fun b u e=>?_) .nil)
    ·by_cases z:F' b
     ·rw [qaw z] at e;cases e
     ·rw [qam z] at e ⊢
      rw [qab (F1 z).2]
      exact o3 _ _ e (F1 z).1
    ·have bF:¬ F b:=fun z=>by rw [gF b z] at e;cases e
     have bC:b≠C:=fun z=>by rw [z,nw C _ h2] at e;cases e
     rw [qam (Fn bF bC),qab bC]
     exact sG _ _ e
  rintro τ H2 ys ⟨_,d2,t2,h2,cds,hl,hok,dv2⟩
  rw [lM_,List.length_range] at hl
  refine ⟨F,d2,fun v k n rows G H3 d3 o3 sG gF nw dv ok=>?_⟩
  have h3:=o3 _ _ h2 nFC
  have t3:=t2.off d2 o3
  refine ⟨lZ_ rfl,fun p hp=>?_⟩
  have w4:=Same.upd (o:=.lst [v]) hp
  have h4:upd H3 p (.lst [v]) p=some (.lst [v]):=qaa
  generalize upd H3 p (.lst [v])=H4 at *
  have yl:ys.length=8:=by rw [dv2.length,lM_,hl];rfl
  refine ⟨_,_,w4 _ _ h3,h4,qae (by rw [yl];show 8+1<=1000;decide),fun X hX=>?_⟩
  have w5:=Same.upd (o:=.lst (ys++[v])) hX
  have h5:upd H4 X (.lst (ys++[v])) X=some (.lst (ys++[v])):=qaa
  generalize upd H4 X (.lst (ys++[v]))=H5 at *
  have w35:=w4.trans w5
  have d5:=d3.same w35
  have t5:=t3.mono w35
  have nFX:¬ F X:=(d3.same w4).new hX
  have D5:DVs (woF F H5) (ys++[v]) ((cds++[(k,n,rows)]).map cD):=by
   rw [List.map_append]
   refine (dv2.mono fun b u e=>?_).app (.cons (dv.mono fun b u e=>?_) .nil)
   ·by_cases z:F' b
    ·rw [qaw z] at e;cases e
    ·rw [qam z] at e
     rw [qam (F1 z).1]
     exact w35 _ _ (o3 _ _ e (F1 z).1)
   ·have bF:¬ F b:=fun z=>by rw [gF b z] at e;cases e
    rw [qam bF]
    exact w35 _ _ (sG _ _ e)
  have hok5:∀ c∈cds++[(k,n,rows)],okC c:=fun c hc=>by
   rcases mA_ hc with z | z
   ·exact hok c z
   ·rw [mS_ z];exact ok
  have cl:(cds++[(k,n,rows)]).length=9:=by rw [lA_,hl];rfl
  have cs5:CS P0 F (woF F H5) H5 d:=⟨d5,Same.kp (qbK F H5),fun b hb=>qaw hb,t5⟩
  have hX5:woF F H5 X=some (.lst (ys++[v])):=by rw [qam nFX];exact h5
  generalize ys++[v]=xs at *
  generalize cds++[(k,n,rows)]=cds2 at *
  generalize woF F H5=G5 at *
  clear w35 w4 w5 h4 h3 h2 d2 d3 o3 t2 t3 sG gF nw dv ok dv2 hok hl yl hp hX hC nFX d5 t5 h5 fF
  dsimp only [qai]
  have xl:xs.length=9:=by rw [D5.length,lM_,cl]
  refine ⟨⟨_,SqL.of (cs5.kp.lst hX5)⟩,qaD (qaj _ X xs) (fun i σ H6=>∃ (v3 v4:Option V),σ=[some (.ref a),some (.ref d),some (.ref X),v3,v4]/\CS P0 F G5 H6 d) ⟨none,none,rfl,cs5⟩ (fun i σ H6 _ ⟨_,_,_,c⟩=>SqL.of (c.kp.lst hX5)) ?_ ?_⟩
  ·rintro i x σ H6 hi hx ⟨v3,v4,rfl,cs6⟩
   have hi':i < cds2.length:=by omega
   obtain ⟨x',hx',dv⟩:=D5.get (i:=i) (d:=cD cds2[i]) (by rw [gM_,gE_ hi'];rfl)
   rw [hx] at hx'
   cases hx'
   have ok:=hok5 _ (List.getElem_mem hi')
   obtain ⟨x7,hx7,dv7⟩:=D5.get (i:=7) (d:=cD (cds2[7]'(by omega))) (by rw [gM_,gE_ (by omega)];rfl)
   generalize cds2[7]'(by omega)=cc7 at dv7
   generalize cds2[i]=cc at dv ok
   obtain ⟨k,n,rows⟩:=cc
   have ok:Om.CodeOk k n rows:=ok
   have dv:DV G5 x (qaA k n rows):=dv
   obtain ⟨ca,cb,ss,rfl,_,_,_⟩:=qas dv
   obtain ⟨k7,n7,rows7⟩:=cc7
   have dv7:DV G5 x7 (qaA k7 n7 rows7):=dv7
   obtain ⟨ca7,cb7,ss7,rfl,_,_,_⟩:=qas dv7
   dsimp only [qai]
   refine ⟨k,n,rows,DV.kp cs6.kp dv,ok,cs6.tb,fun qs H7 s7 t7 rc go bk=>?_,fun dd qs H7 s7 t7 rc go nb dl d64=>?_⟩
   ·have cs7:=cs6.sT s7 t7
    have npl:=qks ok rc go bk
    dsimp only [qai]
    refine ⟨k,n,rows,DV.kp cs7.kp dv,ok,t7,fun b H8 s8 t8 ib=>?_⟩
    have cs8:=cs7.sT s8 t8
    have eb:b=false:=Bool.eq_false_iff.mpr fun z=>npl (ib.mp z)
    subst eb
    refine .inl ⟨rfl,?_⟩
    dsimp only [qjg,qf7]
    refine qak (by simp) ?_
    dsimp only [qfr,qfs,qky,tBU,tOp,tV,tC,qkA,qbv,qaG]
    refine qem (by simp) ?_
    refine ⟨F,G5,k,n,rows,cs8,dv,ok,⟨qs,rc,bk⟩,fun H9 cs9=>?_⟩
    refine qak (by simp) ?_
    refine qak (by simp) ?_
    refine qak (by simp) ?_
    exact ⟨_,_,rfl,cs9⟩
   ·have cs7:=cs6.sT s7 t7
    have lz:=qgA ok rc go dl
    have lb:=qiz ok rc go dl
    have nball:∀ qs',RchL rows qs'->¬ qcm rows qs':=fun qs' rc' bk'=>nb (rc'.uniq rc ▸ bk')
    dsimp only [qai]
    refine ⟨k,n,rows,DV.kp cs7.kp dv,ok,t7,fun b H8 s8 t8 ib=>?_⟩
    have cs8:=cs7.sT s8 t8
    have eb:b=decide (V.int (dd:Nat)=V.int 0):=by
     rw [Bool.eq_iff_iff,ib,lz,decide_eq_true_eq]
     constructor
     ·rintro rfl;rfl
     ·intro z
      injection z with z
      omega
    subst eb
    refine .inl ⟨rfl,?_⟩
    dsimp only [qjg,qf7]
    refine qak (by simp) ?_
    dsimp only [qfr,qfs,qky,tOr,tBU,tOp,tV,tC,qkA,qbv,qaG]
    refine qak (by simp) ?_
    refine qak (by simp) ?_
    refine qem (by simp) ?_
    refine ⟨k,n,rows,DV.kp cs8.kp dv,ok,t8,fun qs' H9 s9 t9 rc' nb'=>?_,fun an T U st b xs ys qs' H9 s9 t9 rc' bk' _ _ _ _ _ _ _ _ _ _=>absurd bk' (nball qs' rc')⟩
    have cs9:=cs8.sT s9 t9
    refine qak (by simp) ?_
    refine ⟨F,G5,k,n,rows,dd,cs9,dv,ok,rfl,d64,lb,lz.mpr,nball,fun H10 cs10=>?_⟩
    refine qak (by simp) ?_
    refine qem (by simp) ?_
    refine ⟨.ref ca7,gl (cs10.kp.lst hX5) (by decide) hx7,?_⟩
    refine .inr ⟨_,_,DV.kp cs10.kp dv,DV.kp cs10.kp dv7,qbG _ _ _,qbG _ _ _,?_⟩
    refine qbr (fun _=>?_) (fun _=>?_)
    ·refine ⟨F,G5,k,n,rows,dd,cs10,dv,ok,rfl,d64,lb,nball,fun H11 cs11=>?_⟩
     refine qak (by simp) ?_
     exact ⟨_,_,rfl,cs11⟩
    ·refine qak (by simp) ?_
     exact ⟨_,_,rfl,cs10⟩
  ·rintro σ H6 ⟨v3,v4,rfl,cs6⟩
   exact q _
 ·exact h.elim
end
end K11
end
section
namespace K11
open PySem L2
theorem qbz {K:PySem.W.Frag} {h:Heap} {mg:Str->Option Value} {x:Str} {st:Stmt} {p0:Str} (D:DefIn K x st) (X:K.In h) (G:h.Ns mainGlobals mg)
  (hb:∀ (kV doc pm:Value) (an:Option Addr) (cdv ct:Value) (a0:Value),bindArgs (PySem.W.fnOf x x (qav st) (qao st) (qad st) .none kV doc pm an cdv ct) ⟨[a0],[]⟩=pure ([p0].zip [a0])):FnX K mg x st [p0]:=
 D.fnX X G fun kV doc pm an cdv ct us hl=>match us,hl with
  | [a0],_=>hb kV doc pm an cdv ct a0
theorem qa4 {K:PySem.W.Frag} {h:Heap} {mg:Str->Option Value} {x:Str} {st:Stmt} {p0 p1:Str} (D:DefIn K x st) (X:K.In h) (G:h.Ns mainGlobals mg)
  (hb:∀ (kV doc pm:Value) (an:Option Addr) (cdv ct:Value) (a0 a1:Value),bindArgs (PySem.W.fnOf x x (qav st) (qao st) (qad st) .none kV doc pm an cdv ct) ⟨[a0,a1],[]⟩=pure ([p0,p1].zip [a0,a1])):FnX K mg x st [p0,p1]:=
 D.fnX X G fun kV doc pm an cdv ct us hl=>match us,hl with
  | [a0,a1],_=>hb kV doc pm an cdv ct a0 a1
theorem qfn {K:PySem.W.Frag} {h:Heap} {mg:Str->Option Value} {x:Str} {st:Stmt} {p0 p1 p2:Str} (D:DefIn K x st) (X:K.In h) (G:h.Ns mainGlobals mg)
  (hb:∀ (kV doc pm:Value) (an:Option Addr) (cdv ct:Value) (a0 a1 a2:Value),bindArgs (PySem.W.fnOf x x (qav st) (qao st) (qad st) .none kV doc pm an cdv ct) ⟨[a0,a1,a2],[]⟩=pure ([p0,p1,p2].zip [a0,a1,a2])):FnX K mg x st [p0,p1,p2]:=
 D.fnX X G fun kV doc pm an cdv ct us hl=>match us,hl with
  | [a0,a1,a2],_=>hb kV doc pm an cdv ct a0 a1 a2
theorem qmd {K:PySem.W.Frag} {h:Heap} {mg:Str->Option Value} {x:Str} {st:Stmt} {p0 p1 p2 p3:Str} (D:DefIn K x st) (X:K.In h) (G:h.Ns mainGlobals mg)
  (hb:∀ (kV doc pm:Value) (an:Option Addr) (cdv ct:Value) (a0 a1 a2 a3:Value),bindArgs (PySem.W.fnOf x x (qav st) (qao st) (qad st) .none kV doc pm an cdv ct) ⟨[a0,a1,a2,a3],[]⟩=pure ([p0,p1,p2,p3].zip [a0,a1,a2,a3])):FnX K mg x st [p0,p1,p2,p3]:=
 D.fnX X G fun kV doc pm an cdv ct us hl=>match us,hl with
  | [a0,a1,a2,a3],_=>hb kV doc pm an cdv ct a0 a1 a2 a3
theorem qnw {K:PySem.W.Frag} {h:Heap} {mg:Str->Option Value} {x:Str} {st:Stmt} {p0 p1 p2 p3 p4:Str} (D:DefIn K x st) (X:K.In h) (G:h.Ns mainGlobals mg)
  (hb:∀ (kV doc pm:Value) (an:Option Addr) (cdv ct:Value) (a0 a1 a2 a3 a4:Value),bindArgs (PySem.W.fnOf x x (qav st) (qao st) (qad st) .none kV doc pm an cdv ct) ⟨[a0,a1,a2,a3,a4],[]⟩=pure ([p0,p1,p2,p3,p4].zip [a0,a1,a2,a3,a4])):FnX K mg x st [p0,p1,p2,p3,p4]:=
 D.fnX X G fun kV doc pm an cdv ct us hl=>match us,hl with
  | [a0,a1,a2,a3,a4],_=>hb kV doc pm an cdv ct a0 a1 a2 a3 a4
theorem all_mk {l:PySem.W.OpenLaw} {w:World} {K:PySem.W.Frag} {h:Heap} {mg:Str->Option Value} {fa:Addr} (X:K.In h) (G:h.Ns mainGlobals mg) (hfa:mg "law" = some (.ref fa))
  (d1:DefIn K "texts_from" qeF) (d2:DefIn K "state_texts" qkU) (d3:DefIn K "reached" qcN) (d4:DefIn K "pair_steps" qd7) (d5:DefIn K "pair_graph" qfW) (d6:DefIn K "first_pairs" sFP) (d7:DefIn K "layer_behind" qfS) (d8:DefIn K "layers_of" qd9) (d9:DefIn K "comes_back" qfZ) (d10:DefIn K "longest_walk" qi6) (d11:DefIn K "first_return" qfY) (d12:DefIn K "late" qi9) (d13:DefIn K "never" qfQ) (d14:DefIn K "is_whole" qfN) (d15:DefIn K "is_letter" qd8) (d16:DefIn K "is_letter_list" qcP) (d17:DefIn K "pairs_on_the_way" qmW) (d18:DefIn K "has_never_shape" qfO) (d19:DefIn K "never_shows" qmY) (d20:DefIn K "_law_draw" qja) (d21:DefIn K "_law_deck" qjb) (d22:DefIn K "_law_few" qm0) (d23:DefIn K "_law_words" qfM) (d24:DefIn K "_law_code" qfU) (d25:DefIn K "has_unlike_words" qmZ) (d26:DefIn K "is_plain" qfP) (d27:DefIn K "words_of" qcM) (d28:DefIn K "given_words" qfX) (d29:DefIn K "sent" qi7) (d30:DefIn K "is_within" qd5) (d31:DefIn K "letter_of" qb4) (d32:DefIn K "letters" qcO) (d33:DefIn K "read_plain" sRP) (d34:DefIn K "shared_count" qd6) (d35:DefIn K "guesses_behind" qfV) (d36:DefIn K "read" sRd) (d37:DefIn K "_law_never_right" sNR) (d38:DefIn K "_law_late_right" qfT) (d39:DefIn K "_law_long_right" qfR) (d40:DefIn K "_law_row" qmX) (dl:DefIn K "law" qi8) {c0 P0:Addr} (ht:PySem.W.tabIn K "state_texts" = some (c0,P0))
  (z1:PySem.W.nsIn K mainGlobals "len" = some none) (z2:PySem.W.nsIn K mainGlobals "range" = some none) (z3:PySem.W.nsIn K mainGlobals "isinstance" = some none) (z4:PySem.W.nsIn K mainGlobals "int" = some none) (z5:PySem.W.nsIn K mainGlobals "bool" = some none) (z6:PySem.W.nsIn K mainGlobals "list" = some none) (z7:PySem.W.nsIn K mainGlobals "tuple" = some none) (z8:PySem.W.nsIn K mainGlobals "str" = some none) (z9:PySem.W.nsIn K mainGlobals "all" = some none) (z10:PySem.W.nsIn K mainGlobals "max" = some none) (z11:PySem.W.nsIn K mainGlobals "min" = some none) (z12:PySem.W.nsIn K mainGlobals "enumerate" = some none) (z13:PySem.W.nsIn K mainGlobals "sorted" = some none) (z14:PySem.W.nsIn K mainGlobals "zip" = some none) (z15:PySem.W.nsIn K mainGlobals "reversed" = some none) (z16:PySem.W.nsIn K mainGlobals "set" = some none) :
  ∃ fd:FuncData,(∀ (s:Shared) (v:Value),BindsTo s fd ⟨[v],[]⟩ [("script",v)])/\∀ base:Heap,K.In base->base.Ns mainGlobals mg->Maker mg base c0 P0->FnOk l.prog w K mg base CX0 9 fa fd ["script"] (qfH P0 K):=by
 obtain ⟨f,oc,od,an,osl,kV,dc,pm,cd,ct,h1,h2,h3,h4⟩:=dl
 have e:=hfa.symm.trans (PySem.W.mg_of X G h1)
 cases e
 have F:=qiF (st:=qi8) h2 h3 h4
 refine ⟨PySem.W.fnOf "law" "law" (qav qi8) (qao qi8) (qad qi8) .none kV dc pm an cd ct,fun s v=>.of_eq rfl,fun base _ _ M=>?_⟩
 have z_len:=PySem.W.mg_none_of X G z1
 have z_range:=PySem.W.mg_none_of X G z2
 have z_isinstance:=PySem.W.mg_none_of X G z3
 have z_int:=PySem.W.mg_none_of X G z4
 have z_bool:=PySem.W.mg_none_of X G z5
 have z_list:=PySem.W.mg_none_of X G z6
 have z_tuple:=PySem.W.mg_none_of X G z7
 have z_str:=PySem.W.mg_none_of X G z8
 have z_all:=PySem.W.mg_none_of X G z9
 have z_max:=PySem.W.mg_none_of X G z10
 have z_min:=PySem.W.mg_none_of X G z11
 have z_enumerate:=PySem.W.mg_none_of X G z12
 have z_sorted:=PySem.W.mg_none_of X G z13
 have z_zip:=PySem.W.mg_none_of X G z14
 have z_reversed:=PySem.W.mg_none_of X G z15
 have z_set:=PySem.W.mg_none_of X G z16
 have x_tf:=qa4 d1 X G (fun _ _ _ _ _ _ _ _=>rfl)
 have c_stT:=qlG (P:=l.prog) (w:=w) (base:=base) (FnC.of d2 ht X G (fun kV doc pm an cdv ct us hl=>match us,hl with | [_],_=>rfl)) x_tf z_len z_enumerate M
 have c_reached:=qfc (P:=l.prog) (w:=w) (base:=base) (qbz d3 X G (fun _ _ _ _ _ _ _=>rfl)) z_sorted c_stT
 have c_psteps:=qgm (P:=l.prog) (w:=w) (base:=base) (qfn d4 X G (fun _ _ _ _ _ _ _ _ _=>rfl)) z_enumerate
 have c_graph:=qhP (P:=l.prog) (w:=w) (base:=base) (qa4 d5 X G (fun _ _ _ _ _ _ _ _=>rfl)) c_psteps
 have c_fp:=qng (P:=l.prog) (w:=w) (base:=base) (qbz d6 X G (fun _ _ _ _ _ _ _=>rfl)) c_reached c_psteps
 have c_layer:=qhM (P:=l.prog) (w:=w) (base:=base) (qa4 d7 X G (fun _ _ _ _ _ _ _ _=>rfl))
 have c_layers:=qgo (P:=l.prog) (w:=w) (base:=base) (qa4 d8 X G (fun _ _ _ _ _ _ _ _=>rfl)) z_len c_layer
 have c_comes:=qhS (P:=l.prog) (w:=w) (base:=base) (qa4 d9 X G (fun _ _ _ _ _ _ _ _=>rfl)) z_len
 have c_walk:=qjL (P:=l.prog) (w:=w) (base:=base) (qbz d10 X G (fun _ _ _ _ _ _ _=>rfl)) z_list z_reversed
 have c_first:=qhR (P:=l.prog) (w:=w) (base:=base) (qbz d11 X G (fun _ _ _ _ _ _ _=>rfl)) z_enumerate
 have c_late:=qjN (P:=l.prog) (w:=w) (base:=base) (qbz d12 X G (fun _ _ _ _ _ _ _=>rfl)) z_len c_graph c_reached c_layers c_fp c_comes
 have c_never:=qhJ (P:=l.prog) (w:=w) (base:=base) (qbz d13 X G (fun _ _ _ _ _ _ _=>rfl)) c_graph c_reached c_layers c_fp c_comes c_walk c_first
 have c_whole:=qhF (P:=l.prog) (w:=w) (base:=base) (qbz d14 X G (fun _ _ _ _ _ _ _=>rfl)) z_isinstance z_int z_bool
 have c_letter:=qgn (P:=l.prog) (w:=w) (base:=base) (qa4 d15 X G (fun _ _ _ _ _ _ _ _=>rfl)) c_whole
 have c_letterL:=qfe (P:=l.prog) (w:=w) (base:=base) (qa4 d16 X G (fun _ _ _ _ _ _ _ _=>rfl)) z_isinstance z_list z_all c_letter
 have c_way:=qlF (P:=l.prog) (w:=w) (base:=base) (qmd d17 X G (fun _ _ _ _ _ _ _ _ _ _=>rfl)) z_zip
 have c_shape:=qhH (P:=l.prog) (w:=w) (base:=base) (qa4 d18 X G (fun _ _ _ _ _ _ _ _=>rfl)) z_isinstance z_tuple z_len c_whole c_letterL
 have c_nsh:=qlI (P:=l.prog) (w:=w) (base:=base) (qa4 d19 X G (fun _ _ _ _ _ _ _ _=>rfl)) z_len c_shape c_reached c_way
 have c_draw:=qjO (P:=l.prog) (w:=w) (base:=base) (qa4 d20 X G (fun _ _ _ _ _ _ _ _=>rfl)) z_len
 have c_deck:=qjP (P:=l.prog) (w:=w) (base:=base) (qbz d21 X G (fun _ _ _ _ _ _ _=>rfl)) z_len z_max z_min z_range z_int
 have c_few:=qlL (P:=l.prog) (w:=w) (base:=base) (qa4 d22 X G (fun _ _ _ _ _ _ _ _=>rfl)) z_range z_int c_draw
 have c_words:=qhE (P:=l.prog) (w:=w) (base:=base) (qnw d23 X G (fun _ _ _ _ _ _ _ _ _ _ _=>rfl)) z_range z_len z_list c_draw
 have c_lcode:=qhL (P:=l.prog) (w:=w) (base:=base) (qmd d24 X G (fun _ _ _ _ _ _ _ _ _ _=>rfl)) z_range c_draw c_few c_words
 have c_has:=qlK (P:=l.prog) (w:=w) (base:=base) (qbz d25 X G (fun _ _ _ _ _ _ _=>rfl)) z_len z_set
 have c_plain:=qhI (P:=l.prog) (w:=w) (base:=base) (qbz d26 X G (fun _ _ _ _ _ _ _=>rfl)) z_all c_reached c_has
 have c_wordsOf:=qfb (P:=l.prog) (w:=w) (base:=base) (qa4 d27 X G (fun _ _ _ _ _ _ _ _=>rfl)) z_range z_len
 have c_given:=qhQ (P:=l.prog) (w:=w) (base:=base) (qa4 d28 X G (fun _ _ _ _ _ _ _ _=>rfl)) z_isinstance z_str c_wordsOf
 have c_sent:=qjM (P:=l.prog) (w:=w) (base:=base) (qfn d29 X G (fun _ _ _ _ _ _ _ _ _=>rfl)) c_letterL
 have c_within:=qgk (P:=l.prog) (w:=w) (base:=base) (qfn d30 X G (fun _ _ _ _ _ _ _ _ _=>rfl)) c_whole
 have c_letterOf:=qef (P:=l.prog) (w:=w) (base:=base) (qbz d31 X G (fun _ _ _ _ _ _ _=>rfl))
 have c_letters:=qfd (P:=l.prog) (w:=w) (base:=base) (qa4 d32 X G (fun _ _ _ _ _ _ _ _=>rfl)) z_isinstance z_list z_all z_len z_range c_within c_letterOf
 have c_rp:=qnd (P:=l.prog) (w:=w) (base:=base) (qa4 d33 X G (fun _ _ _ _ _ _ _ _=>rfl)) z_enumerate c_plain c_given
 have c_shared:=qgl (P:=l.prog) (w:=w) (base:=base) (qbz d34 X G (fun _ _ _ _ _ _ _=>rfl)) z_len z_set
 have c_guess:=qhO (P:=l.prog) (w:=w) (base:=base) (qfn d35 X G (fun _ _ _ _ _ _ _ _ _=>rfl)) z_enumerate
 have c_rd:=qne (P:=l.prog) (w:=w) (base:=base) (qa4 d36 X G (fun _ _ _ _ _ _ _ _=>rfl)) z_enumerate c_late c_given c_guess c_shared
 have c_nr:=qnf (P:=l.prog) (w:=w) (base:=base) (qa4 d37 X G (fun _ _ _ _ _ _ _ _=>rfl)) c_never c_nsh c_sent c_draw
 have c_lateR:=qhN (P:=l.prog) (w:=w) (base:=base) (qfn d38 X G (fun _ _ _ _ _ _ _ _ _=>rfl)) z_range z_list z_len c_letters c_sent c_rd c_rp c_draw
 have c_longR:=qhK (P:=l.prog) (w:=w) (base:=base) (qfn d39 X G (fun _ _ _ _ _ _ _ _ _=>rfl)) z_range z_list z_len c_sent c_rd c_draw
 have c_row:=qlH (P:=l.prog) (w:=w) (base:=base) (qbz d40 X G (fun _ _ _ _ _ _ _=>rfl)) z_range c_draw
 exact qlJ F z_range c_deck c_lcode c_row c_late c_plain c_nr c_never c_lateR c_longR
theorem walk {l:PySem.W.OpenLaw} {q:Program} {loose:List Str} {XP:(Str->Option Value)->Heap->Prop} {YP:World->Heap->Prop} {d:DefRec} {K:Params->PySem.W.Frag} {c0 P0:Addr} (hn:l.most=some 63) (hdf:d.params.defaults=[])
  (hY:∀ (w:World) (h:Heap),YP w h->(K w.params).In h) (hnt:∀ w:World,PySem.W.noTabs (K w.params)=true) (htb:∀ (w:World) (h:Heap),YP w h->h.get? P0=some (PySem.W.tabObj #[])) (hcd:∀ w:World,PySem.W.codeHdIn (K w.params) c0 P0=true) (ht0:∀ w:World,PySem.W.tabIn (K w.params) "state_texts" = some (c0,P0))
  (F:∀ (w:World) (mg:Str->Option Value) (fa:Addr) (h:Heap),(K w.params).In h->h.Ns mainGlobals mg->mg d.name=some (.ref fa) →
   ∃ fd:FuncData,(∀ (s:Shared) (u:Value),BindsTo s fd ⟨[u],[]⟩ [("script",u)])/\∀ base:Heap,(K w.params).In base->base.Ns mainGlobals mg->Maker mg base c0 P0->FnOk l.prog w (K w.params) mg base CX0 9 fa fd ["script"] (qfH P0 (K w.params))) :
  PySem.W.WalkO q loose XP YP l.row.toRowW d [] (fun f vs=>PySem.call f vs):=
 L2.walk_ofT (n:=63) (k:=9) (x:= "script") (CX:=fun _=>CX0) (sp:=fun w=>qfH P0 (K w.params)) hn (by decide) hdf ⟨rfl,by decide,by decide⟩ hY hnt htb hcd F (fun _ _ a ns hl hT hS=>⟨ns,hS,hl,.inl hT,fun _=>rfl⟩) fun _ _ _ _ _ z=>z
end K11
open PySem PySem.W PyProof.Rows
local macro_rules | `(tactic| walk_at "k_def")=>`(tactic| ((refine' L2.DefIn.mk ?a ?l ?c ?k);(case a=>k_is);(case l=>k_is);(case c=>k_is);(case k=>k_is)))
set_option maxRecDepth 100000 in
set_option maxHeartbeats 0 in
theorem PySem.Challenge.cw_ownbeat_k11_whole_read_as_sent_holds : PySem.Challenge.rw_ownbeat_k11_whole_read_as_sent.Holds := by
 w_on;o_law
 refine PySem.W.holds_open (q:=KH.V) (loose:=[]) (Xt:=(fun s=>xlAt KH.V [] s && recOk (RowW.records (OpenRow.toRowW KH.Rw.row)) s)) (N:=4406) (XP:=PySem.W.XL KH.V []) (Yf:=PySem.W.Hook.obs KH.hk) (Ya:=PySem.W.Hook.val KH.hk) (YP:=PySem.W.Hook.says KH.hk) ?hl (PySem.W.Hook.of KH.hk) (PySem.W.Hook.keeps KH.hk) (fun s e=>PySem.W.xl_of s (Bool.and_eq_true_iff.mp e).1) PySem.W.XL.keeps (by rfl) (by rfl) (by rfl) (fun s e=>PySem.W.recFacts_of (Bool.and_eq_true_iff.mp e).2) (by rfl) (by first | assumption | decide +kernel) (by decide +kernel) ⟨rfl,rfl,rfl,rfl,rfl,by decide +kernel⟩ ?hw ?hc
 (case hl=>exact KH.HL)
 (case hw=>w_witness2)
 delta KH.hk
 k_fill
 refine' K11.walk (l:=PySem.Challenge.rw_ownbeat_k11_whole_read_as_sent) rfl rfl (fun w h Y=>PySem.W.km_in_of Y) ?nt ?tb ?cd ?t0 ?F
 (case t0=>intro w;exact rfl)
 (case nt=>intro w;exact rfl)
 (case tb=>intro w h Y;exact PySem.W.km_tabs_of Y _ (by decide))
 (case cd=>intro w;exact rfl)
 case F=>
  intro w mg fa h KX G hmg
  refine' K11.all_mk KX G hmg ?d1 ?d2 ?d3 ?d4 ?d5 ?d6 ?d7 ?d8 ?d9 ?d10 ?d11 ?d12 ?d13 ?d14 ?d15 ?d16 ?d17 ?d18 ?d19 ?d20 ?d21 ?d22 ?d23 ?d24 ?d25 ?d26 ?d27 ?d28 ?d29 ?d30 ?d31 ?d32 ?d33 ?d34 ?d35 ?d36 ?d37 ?d38 ?d39 ?d40 ?dl (by exact rfl) ?z1 ?z2 ?z3 ?z4 ?z5 ?z6 ?z7 ?z8 ?z9 ?z10 ?z11 ?z12 ?z13 ?z14 ?z15 ?z16
  (case d1=>walk_at "k_def")
  (case d2=>walk_at "k_def")
  (case d3=>walk_at "k_def")
  (case d4=>walk_at "k_def")
  (case d5=>walk_at "k_def")
  (case d6=>walk_at "k_def")
  (case d7=>walk_at "k_def")
  (case d8=>walk_at "k_def")
  (case d9=>walk_at "k_def")
  (case d10=>walk_at "k_def")
  (case d11=>walk_at "k_def")
  (case d12=>walk_at "k_def")
  (case d13=>walk_at "k_def")
  (case d14=>walk_at "k_def")
  (case d15=>walk_at "k_def")
  (case d16=>walk_at "k_def")
  (case d17=>walk_at "k_def")
  (case d18=>walk_at "k_def")
  (case d19=>walk_at "k_def")
  (case d20=>walk_at "k_def")
  (case d21=>walk_at "k_def")
  (case d22=>walk_at "k_def")
  (case d23=>walk_at "k_def")
  (case d24=>walk_at "k_def")
  (case d25=>walk_at "k_def")
  (case d26=>walk_at "k_def")
  (case d27=>walk_at "k_def")
  (case d28=>walk_at "k_def")
  (case d29=>walk_at "k_def")
  (case d30=>walk_at "k_def")
  (case d31=>walk_at "k_def")
  (case d32=>walk_at "k_def")
  (case d33=>walk_at "k_def")
  (case d34=>walk_at "k_def")
  (case d35=>walk_at "k_def")
  (case d36=>walk_at "k_def")
  (case d37=>walk_at "k_def")
  (case d38=>walk_at "k_def")
  (case d39=>walk_at "k_def")
  (case d40=>walk_at "k_def")
  (case dl=>walk_at "k_def")
  (case z1=>k_is)
  (case z2=>k_is)
  (case z3=>k_is)
  (case z4=>k_is)
  (case z5=>k_is)
  (case z6=>k_is)
  (case z7=>k_is)
  (case z8=>k_is)
  (case z9=>k_is)
  (case z10=>k_is)
  (case z11=>k_is)
  (case z12=>k_is)
  (case z13=>k_is)
  (case z14=>k_is)
  (case z15=>k_is)
  (case z16=>k_is)
end
end
