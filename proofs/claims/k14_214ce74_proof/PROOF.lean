import PyProof.Rows.All
import Wide.All
import OpenK.AllK
import Wide.FinOn
import PyProof.EqAt
import PyProof.EqKinds
import PyProof.TupleCall
import Lean
import PyProof.CompFree
import PyProof.IsInstanceH
import PyProof.IsiPairs
import PyProof.ConsumeWalk
import PyProof.IsiNone
import KE.KIntText
import PyProof.Rows.EqDataRows
import PyProof.RangeIter
import PyProof.ZipIter
import PyProof.EnumMake
import PyProof.WalksEnum
import PyProof.Rows.ZipGen
import PyProof.Rows.SortWalk
import KE.KEqDict
import KE.KDictLaws
import PyProof.Rows.SumAny
import PyProof.Rows.FStr
import PyProof.ListRange
import PyProof.DictWalks
import PyProof.DictCopy
import KE.KDictOf
import PyProof.Rows.StrRev
import PyProof.ListStr
import KE.KRevSl
import KE.KLam
import PyProof.Rows.SetFrom
import PyProof.SetRoads
import KE.KNestM
import PyProof.StrLawsIdx
import PyProof.StrLoop
import PyProof.StrWalks
import PyProof.StrLawsChain
import PyProof.FitsReplace
import PyProof.MeetsStr2
import KE.KRevIter
import PyProof.DictUpdate
import PyProof.StrBlock2
import PyProof.AttrMissHeap
import PyProof.Rows.SeqMore2
import KE.KSortTup
import KE.KItemsList
import PySem.Challenge.RW_ownbeat_k14_papers_let_by_or_not
set_option Elab.async false
set_option linter.all false
set_option maxRecDepth 100000
set_option maxHeartbeats 4000000
theorem gE_ {α:Type _} {l:List α} {i:Nat} (h:i<l.length):l[i]?=some l[i]:=List.getElem?_eq_getElem h
theorem lM_ {α β:Type _} {as:List α} (f:α->β):(as.map f).length=as.length:=List.length_map f
theorem gM_ {α β:Type _} {f:α->β} {l:List α} {i:Nat}:(l.map f)[i]?=Option.map f l[i]?:=List.getElem?_map
theorem lA_ {α:Type _} {as bs:List α}:(as++bs).length=as.length+bs.length:=List.length_append
theorem mO_ {α:Type _} {l:List α} {i:Nat} {a:α} (e:l[i]?=some a):a∈l:=List.mem_of_getElem? e
theorem mA_ {α:Type _} {a:α} {s t:List α} (h:a∈s++t):a∈s\/a∈t:=List.mem_append.mp h
theorem gS_ {α:Type _} {l:List α} {i:Nat} {a:α} (h:l[i]?=some a):∃ h:i<l.length,l[i]=a:=List.getElem?_eq_some_iff.mp h
theorem mC_ {α:Type _} (y:α) {a:α} {l:List α} (h:a∈l):a∈y::l:=List.mem_cons_of_mem y h
theorem mS_ {α:Type _} {a b:α} (h:a∈[b]):a=b:=List.mem_singleton.mp h
theorem mM_ {α β:Type _} {b:β} {f:α->β} {l:List α} (h:b∈l.map f):∃ a,a∈l/\f a=b:=List.mem_map.mp h
theorem oI_ {α:Type _} {a b:α} (h:some a=some b):a=b:=Option.some.inj h
theorem mG_ {α:Type _} {a:α} {l:List α} (h:a∈l):∃ i:Nat,l[i]?=some a:=List.mem_iff_getElem?.mp h
theorem lZ_ {n:Nat} (h:Nat.ble n 1000=true):n<=PySem.sizeLine:=Nat.le_trans (Nat.le_of_ble_eq_true h) (by decide)
section
namespace KH
open PySem PySem.W
abbrev Pw:Program:=PySem.Challenge.pw_ownbeat_k14_papers_let_by_or_not
abbrev Rw:OpenLaw:=PySem.Challenge.rw_ownbeat_k14_papers_let_by_or_not
abbrev tp (i:Nat):Stmt:=Pw.main.body.getD i (.Pass ⟨0,0,0,0⟩)
abbrev dA (s:Stmt):Arguments:=match s with
 | .FunctionDef _ a _ _ _ _ _ _ _ _=>a
 | _=>{ posonlyargs:=[],args:=[],vararg:=none,kwonlyargs:=[],kw_defaults:=[],kwarg:=none,defaults:=[] }
abbrev dB (s:Stmt):List Stmt:=match s with
 | .FunctionDef _ _ b _ _ _ _ _ _ _=>b
 | _=>[]
abbrev dS (s:Stmt):Scope:=match s with
 | .FunctionDef _ _ _ _ _ _ sc _ _ _=>sc
 | _=>{ kind:=.function,names:=[],isGenerator:=false,isCoroutine:=false }
abbrev en (P:Params) (k:Str) (t:Nat) (v:Value):DictEntry:=⟨PyData.keyHash P k,.str k t,v⟩
abbrev tu (l:List Value):Obj:=⟨.type "tuple",none,.seq l.toArray 0,#[]⟩
abbrev co (n:Str) (t1:Nat) (q:Str) (t2 t3:Nat) (l c:Int) (a b:Nat) (x y:Value) (z:Nat) (d:Int) (t4:Nat):Obj:=⟨.type "code",none,.fields #[.str n t1,.str q t2,.str "/claim/cut.py" t3,.int l 0,.int c 0,.int 0 0,.int 0 0,.int 3 0,.ref a,.bool true,.int 181 0,.ref b,.none,x,y,.ref z,.int d 0,.int l 0,.str "/claim/cut.py" t4],#[]⟩
abbrev fu (n q:Str) (st:Stmt) (m:Str) (t c:Nat):Obj:=⟨.type "function",none,.func ⟨n,q,dA st,.stmts (dB st),dS st,3,[],.none,.none,.none,.str m t,none,.ref c,.none,0⟩,#[]⟩
noncomputable def K (P:Params):Frag:=
 (nat_lit 2,⟨.none,none,.dict #[],#[]⟩) ::
 (nat_lit 3,⟨.type "dict",none,.dict #[en P "__name__" 165 (.str "law_ownbeat_k14_papers_let_by_or_not" 395),en P "__doc__" 166 (.none),en P "__package__" 167 (.none),en P "__loader__" 168 (.builtin "__main__.__loader__#opaque"),en P "__spec__" 169 (.none),en P "__annotations__" 170 (.ref 6),en P "__builtins__" 171 (.ref 4),en P "__file__" 173 (.str "/claim/cut.py" 172),en P "__cached__" 174 (.none),en P "is_whole" 195 (.ref 21),en P "texts_from" 209 (.ref 28),en P "state_texts" 217 (.ref 35),en P "reached" 224 (.ref 42),en P "layers_of" 234 (.ref 49),en P "layer_behind" 246 (.ref 56),en P "comes_back" 254 (.ref 63),en P "longest_walk" 265 (.ref 70),en P "first_return" 275 (.ref 77),en P "SIGNS" 280 (.ref 78),en P "still_paper" 286 (.ref 83),en P "still_shows" 299 (.ref 90),en P "put_behind" 310 (.ref 97),en P "paper_keys" 320 (.ref 104),en P "greatest_peak" 332 (.ref 111),en P "runs_over" 346 (.ref 118),en P "greatest_runs" 356 (.ref 125),en P "is_paper" 362 (.ref 130),en P "is_paper_row" 369 (.ref 137),en P "standing_loop" 382 (.ref 144),en P "standing_steps" 388 (.ref 149),en P "loop_of" 394 (.ref 154),en P "_law_draws" 410 (.ref 161),en P "_law_some" 416 (.ref 166),en P "_law_behind" 428 (.ref 173),en P "_law_code" 434 (.ref 178),en P "_law_wider" 440 (.ref 183),en P "_law_copy" 446 (.ref 188),en P "_law_come_to" 457 (.ref 195),en P "_law_runs" 468 (.ref 202),en P "_law_most" 487 (.ref 209),en P "_law_shows" 493 (.ref 214),en P "_law_ends" 509 (.ref 221),en P "_law_papers" 515 (.ref 226),en P "_law_bent" 527 (.ref 233),en P "_law_torn" 543 (.ref 240),en P "law" 549 (.ref 245)] 46,#[]⟩) ::
 (nat_lit 15,tu []) ::
 (nat_lit 17,tu [.str "thing" 192]) ::
 (nat_lit 18,tu []) ::
 (nat_lit 20,co "is_whole" 189 "is_whole" 190 191 2 1 15 16 (.ref 17) (.ref 18) 19 193 194) ::
 (nat_lit 21,fu "is_whole" "is_whole" (tp 1) "ownbeat.walks" 187 20) ::
 (nat_lit 22,tu []) ::
 (nat_lit 24,tu [.str "start" 199,.str "steps" 200,.str "texts" 201,.str "queue" 202,.str "place" 203,.str "node" 204,.str "letter" 205,.str "to" 206]) ::
 (nat_lit 25,tu []) ::
 (nat_lit 27,co "texts_from" 196 "texts_from" 197 198 4 2 22 23 (.ref 24) (.ref 25) 26 207 208) ::
 (nat_lit 28,fu "texts_from" "texts_from" (tp 2) "ownbeat.walks" 187 27) ::
 (nat_lit 29,tu []) ::
 (nat_lit 31,tu [.str "code" 213]) ::
 (nat_lit 32,tu [.str "code" 214]) ::
 (nat_lit 34,co "state_texts" 210 "state_texts" 211 212 16 1 29 30 (.ref 31) (.ref 32) 33 215 216) ::
 (nat_lit 35,fu "state_texts" "state_texts" (tp 3) "ownbeat.walks" 187 34) ::
 (nat_lit 36,tu []) ::
 (nat_lit 38,tu [.str "code" 221]) ::
 (nat_lit 39,tu []) ::
 (nat_lit 41,co "reached" 218 "reached" 219 220 18 1 36 37 (.ref 38) (.ref 39) 40 222 223) ::
 (nat_lit 42,fu "reached" "reached" (tp 4) "ownbeat.walks" 187 41) ::
 (nat_lit 43,tu []) ::
 (nat_lit 45,tu [.str "first" 228,.str "graph" 229,.str "layers" 230,.str "layer" 231]) ::
 (nat_lit 46,tu []) ::
 (nat_lit 48,co "layers_of" 225 "layers_of" 226 227 20 2 43 44 (.ref 45) (.ref 46) 47 232 233) ::
 (nat_lit 49,fu "layers_of" "layers_of" (tp 5) "ownbeat.walks" 187 48) ::
 (nat_lit 50,tu []) ::
 (nat_lit 52,tu [.str "layer" 238,.str "graph" 239,.str "behind" 240,.str "node" 241,.str "label" 242,.str "to" 243]) ::
 (nat_lit 53,tu []) ::
 (nat_lit 55,co "layer_behind" 235 "layer_behind" 236 237 27 2 50 51 (.ref 52) (.ref 53) 54 244 245) ::
 (nat_lit 56,fu "layer_behind" "layer_behind" (tp 6) "ownbeat.walks" 187 55) ::
 (nat_lit 57,tu []) ::
 (nat_lit 59,tu [.str "layers" 250,.str "graph" 251]) ::
 (nat_lit 60,tu []) ::
 (nat_lit 62,co "comes_back" 247 "comes_back" 248 249 34 2 57 58 (.ref 59) (.ref 60) 61 252 253) ::
 (nat_lit 63,fu "comes_back" "comes_back" (tp 7) "ownbeat.walks" 187 62) ::
 (nat_lit 64,tu []) ::
 (nat_lit 66,tu [.str "layers" 258,.str "node" 259,.str "walk" 260,.str "layer" 261,.str "ahead" 262]) ::
 (nat_lit 67,tu []) ::
 (nat_lit 69,co "longest_walk" 255 "longest_walk" 256 257 36 1 64 65 (.ref 66) (.ref 67) 68 263 264) ::
 (nat_lit 70,fu "longest_walk" "longest_walk" (tp 8) "ownbeat.walks" 187 69) ::
 (nat_lit 71,tu []) ::
 (nat_lit 73,tu [.str "walk" 269,.str "places" 270,.str "place" 271,.str "step" 272]) ::
 (nat_lit 74,tu []) ::
 (nat_lit 76,co "first_return" 266 "first_return" 267 268 44 1 71 72 (.ref 73) (.ref 74) 75 273 274) ::
 (nat_lit 77,fu "first_return" "first_return" (tp 9) "ownbeat.walks" 187 76) ::
 (nat_lit 78,tu [.str "0" 278,.str "1" 279]) ::
 (nat_lit 79,tu []) ::
 (nat_lit 82,co "still_paper" 281 "still_paper" 282 283 53 1 79 80 (.none) (.none) 81 284 285) ::
 (nat_lit 83,fu "still_paper" "still_paper" (tp 12) "ownbeat.stillness" 276 82) ::
 (nat_lit 84,tu []) ::
 (nat_lit 86,tu [.str "code" 290,.str "number" 291,.str "paper" 292,.str "runs" 293,.str "state" 294,.str "sign" 295,.str "most" 296]) ::
 (nat_lit 87,tu []) ::
 (nat_lit 89,co "still_shows" 287 "still_shows" 288 289 58 3 84 85 (.ref 86) (.ref 87) 88 297 298) ::
 (nat_lit 90,fu "still_shows" "still_shows" (tp 13) "ownbeat.stillness" 276 89) ::
 (nat_lit 91,tu []) ::
 (nat_lit 93,tu [.str "sign" 303,.str "count" 304,.str "word" 305,.str "peak" 306,.str "one" 307]) ::
 (nat_lit 94,tu []) ::
 (nat_lit 96,co "put_behind" 300 "put_behind" 301 302 65 3 91 92 (.ref 93) (.ref 94) 95 308 309) ::
 (nat_lit 97,fu "put_behind" "put_behind" (tp 14) "ownbeat.stillness" 276 96) ::
 (nat_lit 98,tu []) ::
 (nat_lit 100,tu [.str "code" 314,.str "keys" 315,.str "state" 316,.str "sign" 317]) ::
 (nat_lit 101,tu []) ::
 (nat_lit 103,co "paper_keys" 311 "paper_keys" 312 313 72 1 98 99 (.ref 100) (.ref 101) 102 318 319) ::
 (nat_lit 104,fu "paper_keys" "paper_keys" (tp 15) "ownbeat.stillness" 276 103) ::
 (nat_lit 105,tu []) ::
 (nat_lit 107,tu [.str "code" 324,.str "runs" 325,.str "peak" 326,.str "state" 327,.str "sign" 328,.str "row" 329]) ::
 (nat_lit 108,tu []) ::
 (nat_lit 110,co "greatest_peak" 321 "greatest_peak" 322 323 78 2 105 106 (.ref 107) (.ref 108) 109 330 331) ::
 (nat_lit 111,fu "greatest_peak" "greatest_peak" (tp 16) "ownbeat.stillness" 276 110) ::
 (nat_lit 112,tu []) ::
 (nat_lit 114,tu [.str "code" 336,.str "runs" 337,.str "over" 338,.str "state" 339,.str "sign" 340,.str "row" 341,.str "run" 342,.str "key" 343]) ::
 (nat_lit 115,tu []) ::
 (nat_lit 117,co "runs_over" 333 "runs_over" 334 335 84 2 112 113 (.ref 114) (.ref 115) 116 344 345) ::
 (nat_lit 118,fu "runs_over" "runs_over" (tp 17) "ownbeat.stillness" 276 117) ::
 (nat_lit 119,tu []) ::
 (nat_lit 121,tu [.str "code" 350,.str "runs" 351,.str "key" 352,.str "over" 353]) ::
 (nat_lit 122,tu []) ::
 (nat_lit 124,co "greatest_runs" 347 "greatest_runs" 348 349 93 1 119 120 (.ref 121) (.ref 122) 123 354 355) ::
 (nat_lit 125,fu "greatest_runs" "greatest_runs" (tp 18) "ownbeat.stillness" 276 124) ::
 (nat_lit 126,tu []) ::
 (nat_lit 129,co "is_paper" 357 "is_paper" 358 359 102 2 126 127 (.none) (.none) 128 360 361) ::
 (nat_lit 130,fu "is_paper" "is_paper" (tp 19) "ownbeat.stillness" 276 129) ::
 (nat_lit 131,tu []) ::
 (nat_lit 133,tu [.str "row" 366]) ::
 (nat_lit 134,tu []) ::
 (nat_lit 136,co "is_paper_row" 363 "is_paper_row" 364 365 106 1 131 132 (.ref 133) (.ref 134) 135 367 368) ::
 (nat_lit 137,fu "is_paper_row" "is_paper_row" (tp 20) "ownbeat.stillness" 276 136) ::
 (nat_lit 138,tu []) ::
 (nat_lit 140,tu [.str "code" 373,.str "states" 374,.str "sign" 375,.str "graph" 376,.str "state" 377,.str "first" 378,.str "layers" 379]) ::
 (nat_lit 141,tu []) ::
 (nat_lit 143,co "standing_loop" 370 "standing_loop" 371 372 110 1 138 139 (.ref 140) (.ref 141) 142 380 381) ::
 (nat_lit 144,fu "standing_loop" "standing_loop" (tp 21) "ownbeat.stillness" 276 143) ::
 (nat_lit 145,tu []) ::
 (nat_lit 148,co "standing_steps" 383 "standing_steps" 384 385 123 3 145 146 (.none) (.none) 147 386 387) ::
 (nat_lit 149,fu "standing_steps" "standing_steps" (tp 22) "ownbeat.stillness" 276 148) ::
 (nat_lit 150,tu []) ::
 (nat_lit 153,co "loop_of" 389 "loop_of" 390 391 125 1 150 151 (.none) (.none) 152 392 393) ::
 (nat_lit 154,fu "loop_of" "loop_of" (tp 23) "ownbeat.stillness" 276 153) ::
 (nat_lit 155,tu []) ::
 (nat_lit 157,tu [.str "script" 400,.str "many" 401,.str "drawn" 402,.str "base" 403,.str "k" 404,.str "cell" 405,.str "number" 406,.str "one" 407]) ::
 (nat_lit 158,tu []) ::
 (nat_lit 160,co "_law_draws" 397 "_law_draws" 398 399 129 2 155 156 (.ref 157) (.ref 158) 159 408 409) ::
 (nat_lit 161,fu "_law_draws" "_law_draws" (tp 25) "law_ownbeat_k14_papers_let_by_or_not" 395 160) ::
 (nat_lit 162,tu []) ::
 (nat_lit 165,co "_law_some" 411 "_law_some" 412 413 152 4 162 163 (.none) (.none) 164 414 415) ::
 (nat_lit 166,fu "_law_some" "_law_some" (tp 26) "law_ownbeat_k14_papers_let_by_or_not" 395 165) ::
 (nat_lit 167,tu []) ::
 (nat_lit 169,tu [.str "x" 420,.str "state" 421,.str "many" 422,.str "turns" 423,.str "begins" 424,.str "behind" 425]) ::
 (nat_lit 170,tu []) ::
 (nat_lit 172,co "_law_behind" 417 "_law_behind" 418 419 160 5 167 168 (.ref 169) (.ref 170) 171 426 427) ::
 (nat_lit 173,fu "_law_behind" "_law_behind" (tp 27) "law_ownbeat_k14_papers_let_by_or_not" 395 172) ::
 (nat_lit 174,tu []) ::
 (nat_lit 177,co "_law_code" 429 "_law_code" 430 431 167 2 174 175 (.none) (.none) 176 432 433) ::
 (nat_lit 178,fu "_law_code" "_law_code" (tp 28) "law_ownbeat_k14_papers_let_by_or_not" 395 177) ::
 (nat_lit 179,tu []) ::
 (nat_lit 182,co "_law_wider" 435 "_law_wider" 436 437 187 2 179 180 (.none) (.none) 181 438 439) ::
 (nat_lit 183,fu "_law_wider" "_law_wider" (tp 29) "law_ownbeat_k14_papers_let_by_or_not" 395 182) ::
 (nat_lit 184,tu []) ::
 (nat_lit 187,co "_law_copy" 441 "_law_copy" 442 443 192 1 184 185 (.none) (.none) 186 444 445) ::
 (nat_lit 188,fu "_law_copy" "_law_copy" (tp 30) "law_ownbeat_k14_papers_let_by_or_not" 395 187) ::
 (nat_lit 189,tu []) ::
 (nat_lit 191,tu [.str "code" 450,.str "found" 451,.str "at" 452,.str "word" 453,.str "behind" 454]) ::
 (nat_lit 192,tu []) ::
 (nat_lit 194,co "_law_come_to" 447 "_law_come_to" 448 449 194 1 189 190 (.ref 191) (.ref 192) 193 455 456) ::
 (nat_lit 195,fu "_law_come_to" "_law_come_to" (tp 31) "law_ownbeat_k14_papers_let_by_or_not" 395 194) ::
 (nat_lit 196,tu []) ::
 (nat_lit 198,tu [.str "sign" 461,.str "run" 462,.str "word" 463,.str "top" 464,.str "one" 465]) ::
 (nat_lit 199,tu []) ::
 (nat_lit 201,co "_law_runs" 458 "_law_runs" 459 460 203 3 196 197 (.ref 198) (.ref 199) 200 466 467) ::
 (nat_lit 202,fu "_law_runs" "_law_runs" (tp 32) "law_ownbeat_k14_papers_let_by_or_not" 395 201) ::
 (nat_lit 203,tu []) ::
 (nat_lit 205,tu [.str "code" 472,.str "found" 473,.str "line" 474,.str "at" 475,.str "most" 476,.str "state" 477,.str "sign" 478,.str "run" 479,.str "word" 480,.str "behind" 481,.str "last" 482,.str "many" 483,.str "top" 484]) ::
 (nat_lit 206,tu []) ::
 (nat_lit 208,co "_law_most" 469 "_law_most" 470 471 212 1 203 204 (.ref 205) (.ref 206) 207 485 486) ::
 (nat_lit 209,fu "_law_most" "_law_most" (tp 33) "law_ownbeat_k14_papers_let_by_or_not" 395 208) ::
 (nat_lit 210,tu []) ::
 (nat_lit 213,co "_law_shows" 488 "_law_shows" 489 490 229 3 210 211 (.none) (.none) 212 491 492) ::
 (nat_lit 214,fu "_law_shows" "_law_shows" (tp 34) "law_ownbeat_k14_papers_let_by_or_not" 395 213) ::
 (nat_lit 215,tu []) ::
 (nat_lit 217,tu [.str "code" 497,.str "found" 498,.str "state" 499,.str "turn" 500,.str "sign" 501,.str "word" 502,.str "behind" 503,.str "last" 504,.str "many" 505,.str "top" 506]) ::
 (nat_lit 218,tu []) ::
 (nat_lit 220,co "_law_ends" 494 "_law_ends" 495 496 246 1 215 216 (.ref 217) (.ref 218) 219 507 508) ::
 (nat_lit 221,fu "_law_ends" "_law_ends" (tp 35) "law_ownbeat_k14_papers_let_by_or_not" 395 220) ::
 (nat_lit 222,tu []) ::
 (nat_lit 225,co "_law_papers" 510 "_law_papers" 511 512 257 3 222 223 (.none) (.none) 224 513 514) ::
 (nat_lit 226,fu "_law_papers" "_law_papers" (tp 36) "law_ownbeat_k14_papers_let_by_or_not" 395 225) ::
 (nat_lit 227,tu []) ::
 (nat_lit 229,tu [.str "paper" 519,.str "x" 520,.str "at" 521,.str "state" 522,.str "sign" 523,.str "run" 524]) ::
 (nat_lit 230,tu []) ::
 (nat_lit 232,co "_law_bent" 516 "_law_bent" 517 518 269 2 227 228 (.ref 229) (.ref 230) 231 525 526) ::
 (nat_lit 233,fu "_law_bent" "_law_bent" (tp 37) "law_ownbeat_k14_papers_let_by_or_not" 395 232) ::
 (nat_lit 234,tu []) ::
 (nat_lit 236,tu [.str "paper" 531,.str "x" 532,.str "aside" 533,.str "at" 534,.str "state" 535,.str "sign" 536,.str "run" 537,.str "some" 538,.str "odd" 539,.str "other" 540]) ::
 (nat_lit 237,tu []) ::
 (nat_lit 239,co "_law_torn" 528 "_law_torn" 529 530 274 3 234 235 (.ref 236) (.ref 237) 238 541 542) ::
 (nat_lit 240,fu "_law_torn" "_law_torn" (tp 38) "law_ownbeat_k14_papers_let_by_or_not" 395 239) ::
 (nat_lit 241,tu []) ::
 (nat_lit 244,co "law" 544 "law" 545 546 286 1 241 242 (.none) (.none) 243 547 548) ::
 (nat_lit 245,fu "law" "law" (tp 39) "law_ownbeat_k14_papers_let_by_or_not" 395 244) :: []
def V:Program:=view Pw [1,2,3,4,5,6,7,8,9,11,12,13,14,15,16,17,18,19,20,21,22,23,25,26,27,28,29,30,31,32,33,34,35,36,37,38,39]
noncomputable abbrev hk:Hook:=kmHook K [2,3,15,17,18,20,21,22,24,25,27,28,29,31,32,34,35,36,38,39,41,42,43,45,46,48,49,50,52,53,55,56,57,59,60,62,63,64,66,67,69,70,71,73,74,76,77,78,79,82,83,84,86,87,89,90,91,93,94,96,97,98,100,101,103,104,105,107,108,110,111,112,114,115,117,118,119,121,122,124,125,126,129,130,131,133,134,136,137,138,140,141,143,144,145,148,149,150,153,154,155,157,158,160,161,162,165,166,167,169,170,172,173,174,177,178,179,182,183,184,187,188,189,191,192,194,195,196,198,199,201,202,203,205,206,208,209,210,213,214,215,217,218,220,221,222,225,226,227,229,230,232,233,234,236,237,239,240,241,244,245] (fun _=>by kernel_rfl) [30]
theorem HL:LeftO (Rw.row).prog V [] (fun s=>xlAt V [] s && recOk (RowW.records (OpenRow.toRowW Rw.row)) s) (Hook.obs hk) (Hook.val hk) 2452:=by
 intro w
 rw [Fast.te14364793385576792824,Fast.te4187177175401517315,Fast.te5923862056798008813]
 kernel_rfl
end KH
noncomputable def PySem.W.Fast.tw13673091162599787723:PySem.W.OpenLaw:=PySem.Challenge.rw_ownbeat_k14_papers_let_by_or_not
theorem PySem.W.Fast.te13673091162599787723:PySem.Challenge.rw_ownbeat_k14_papers_let_by_or_not=PySem.W.Fast.tw13673091162599787723:=rfl
end
set_option compiler.extract_closed false
namespace L2
open PySem PySem.Spec PyProof.Rows
abbrev Key:=Sum Int Str
def qeB:Key->Value->Bool
 | .inl k,v=>Value.isInt k v
 | .inr x,v=>Value.isStrOf x v
def qnT (w:World):Key->Int
 | .inl k=>hashInt k
 | .inr x=>hashStr w x
theorem qaq:∀ {k:Key} {v:Value},qeB k v=true->(∃ i t,k=Sum.inl i/\v=Value.int i t)\/(∃ x t,k=Sum.inr x/\v=Value.str x t)
 | .inl i,v,h=>by
  obtain ⟨t,e⟩:=Value.isInt_shape (k:=i) (v:=v) h
  exact .inl ⟨i,t,rfl,e⟩
 | .inr x,v,h=>by
  obtain ⟨t,e⟩:=Value.isStrOf_shape (x:=x) (v:=v) h
  exact .inr ⟨x,t,rfl,e⟩
theorem qfN (i:Int) (t:Tok):qeB (.inl i) (.int i t)=true:=by simp [qeB,Value.isInt]
theorem qfM (x:Str) (t:Tok):qeB (.inr x) (.str x t)=true:=by simp [qeB,Value.isStrOf]
theorem qlE (a b:Int):decide ((Sum.inl a:Key)=Sum.inl b)=(a == b):=by
 by_cases e:a=b
 ·subst e;simp
 ·have h:¬ (Sum.inl a:Key)=Sum.inl b:=fun q=>e (Sum.inl.inj q)
  rw [decide_eq_false h]
  exact (beq_eq_false_iff_ne.mpr e).symm
theorem qlB (a b:Str):decide ((Sum.inr a:Key)=Sum.inr b)=decide (a=b):=by
 by_cases e:a=b
 ·subst e;simp
 ·have h:¬ (Sum.inr a:Key)=Sum.inr b:=fun q=>e (Sum.inr.inj q)
  rw [decide_eq_false h,decide_eq_false e]
theorem qlD (a:Int) (b:Str):decide ((Sum.inl a:Key)=Sum.inr b)=false:=decide_eq_false (fun q=>nomatch q)
theorem qlC (a:Str) (b:Int):decide ((Sum.inr a:Key)=Sum.inl b)=false:=decide_eq_false (fun q=>nomatch q)
def qap (prog:Program) (w:World):PySem.KeyKind prog w Key where
 is:=qeB
 hash:=qnT w
 inj:=fun v a b ha hb=>by
  rcases qaq ha with ⟨i,t,rfl,rfl⟩ | ⟨x,t,rfl,rfl⟩
  ·rcases qaq hb with ⟨j,u,rfl,e⟩ | ⟨y,u,rfl,e⟩
   ·injection e with e1 _;rw [e1]
   ·exact nomatch e
  ·rcases qaq hb with ⟨j,u,rfl,e⟩ | ⟨y,u,rfl,e⟩
   ·exact nomatch e
   ·injection e with e1 _;rw [e1]
 byValue:=fun k v h=>by
  rcases qaq h with ⟨i,t,rfl,rfl⟩ | ⟨x,t,rfl,rfl⟩<;>rfl
 pyHash:=fun hv h=>by
  rcases qaq hv with ⟨i,t,rfl,rfl⟩ | ⟨x,t,rfl,rfl⟩
  ·exact wpAny_pyHash_int h
  ·exact wpAny_pyHash_str h
 eqBool:=fun hu hv h=>by
  rcases qaq hu with ⟨i,t,rfl,rfl⟩ | ⟨x,t,rfl,rfl⟩
  ·rcases qaq hv with ⟨j,u,rfl,rfl⟩ | ⟨y,u,rfl,rfl⟩
   ·rw [qlE] at h;exact wpAny_eqBool_int h
   ·rw [qlD] at h;exact SeqAt.EqAt.int_str i t y u _ _ _ _ h
  ·rcases qaq hv with ⟨j,u,rfl,rfl⟩ | ⟨y,u,rfl,rfl⟩
   ·rw [qlC] at h;exact SeqAt.EqAt.str_int x t j u _ _ _ _ h
   ·rw [qlB] at h;exact wpAny_eqBool_str h
 «strs» := fun k x t v h=>by
  rcases qaq h with ⟨i,u,rfl,e⟩ | ⟨y,u,rfl,e⟩
  ·exact nomatch e
  ·injection e with e1 _
   subst e1
   cases v<;>rfl
theorem qdx (prog:Program) (w:World) (i:Int) (t:Tok):(qap prog w).is (.inl i) (.int i t)=true:=qfN i t
theorem qdw (prog:Program) (w:World) (x:Str) (t:Tok):(qap prog w).is (.inr x) (.str x t)=true:=qfM x t
end L2
namespace L2
open PySem PySem.Spec PyProof.Rows
inductive V where
 | non | bl (b:Bool) | int (i:Int) | str (x:Str) | byt (b:Array UInt8) | flt (b:UInt64) | ref (a:Addr) | ty (n:String)
 deriving DecidableEq
def RelV:V->Value->Prop
 | .non,u=>u=Value.none
 | .bl b,u=>u=Value.bool b
 | .int i,u=>∃ t,u=Value.int i t
 | .str x,u=>∃ t,u=Value.str x t
 | .byt b,u=>∃ t,u=Value.bytes b t
 | .flt b,u=>∃ t,u=Value.float b t
 | .ref a,u=>u=Value.ref a
 | .ty n,u=>u=Value.type n
abbrev Vals:List V->List Value->Prop:=Paired RelV
theorem Vals.length {xs:List V} {us:List Value} (r:Vals xs us):xs.length=us.length:=Paired.length r
theorem Vals.get:∀ {xs:List V} {us:List Value} {i:Nat} {x:V},Vals xs us->xs[i]? = some x->∃ u,us[i]? = some u/\RelV x u
 | _,_,_,_,.nil,e=>by simp at e
 | _,_,0,_,.cons r _,e=>by simp at e;subst e;exact ⟨_,rfl,r⟩
 | _,_,i+1,x,.cons _ t,e=>by
  obtain ⟨u,h1,h2⟩:=Vals.get (i:=i) (x:=x) t (by simpa using e)
  exact ⟨u,by simpa using h1,h2⟩
theorem Vals.set {x:V} {u:Value} (r:RelV x u):∀ {xs:List V} {us:List Value} (i:Nat),Vals xs us->Vals (xs.set i x) (us.set i u)
 | _,_,_,.nil=>.nil
 | _,_,0,.cons _ t=>.cons r t
 | _,_,i+1,.cons q t=>.cons q (Vals.set r i t)
theorem Vals.append:∀ {xs ys:List V} {us ws:List Value},Vals xs us->Vals ys ws->Vals (xs++ys) (us++ws)
 | _,_,_,_,.nil,s=>s
 | _,_,_,_,.cons r t,s=>.cons r (Vals.append t s)
theorem Vals.take:∀ {xs:List V} {us:List Value} (n:Nat),Vals xs us->Vals (xs.take n) (us.take n)
 | _,_,0,_=>.nil
 | _,_,_+1,.nil=>.nil
 | _,_,n+1,.cons r t=>.cons r (Vals.take n t)
theorem Vals.drop:∀ {xs:List V} {us:List Value} (n:Nat),Vals xs us->Vals (xs.drop n) (us.drop n)
 | _,_,0,r=>r
 | _,_,_+1,.nil=>.nil
 | _,_,n+1,.cons _ t=>Vals.drop n t
def RelO:Option V->Option Value->Prop
 | some v,some u=>RelV v u
 | none,none=>True
 | _,_=>False
def KV {κ:Type}:List (κ×V)->List (κ×Value)->Prop:=Paired fun (p:κ×V) (q:κ×Value)=>p.1=q.1/\RelV p.2 q.2
def kV:Key->V
 | .inl i=>.int i
 | .inr x=>.str x
inductive HO where
  | lst (xs:List V)
  | tup (xs:List V)
  | dK (kvs:List (Key×V)) | dT (kvs:List (List Key×V))
  | set (S:Int->Bool) (n:Nat)
  | ins (C dx:Addr) (fs:List (Str×V))
  | own (x:Addr)
  | xd (fs:List (Str×V))
  | met (f x:Addr)
  | rng (lo hi:Int)
  | frz (o:Obj) (u:HO)
  | tbl (ps:Array Value)
  | ext (φ:Heap->Prop)
abbrev Hp:=Addr->Option HO
def upd (H:Hp) (a:Addr) (o:HO):Hp:=fun b=>if b=a then some o else H b
theorem qaa {H:Hp} {a:Addr} {o:HO}:upd H a o a=some o:=by unfold upd;rw [if_pos rfl]
theorem qac {H:Hp} {a b:Addr} {o:HO} (h:b≠a):upd H a o b=H b:=by unfold upd;rw [if_neg h]
theorem qbI {H:Hp} {a:Addr} {o u:HO}:upd (upd H a o) a u=upd H a u:=by
 funext b;unfold upd;split<;>rfl
theorem qaj {H:Hp} {a b:Addr} {o u:HO} (h:H a=some o) (h':H b=some u) (d:o≠u):a≠b:=by
 intro e;subst e;rw [h] at h';exact d (oI_ h')
theorem qab {H:Hp} {a b:Addr} {o:HO} (h:H a=some o) (h':H b=none):a≠b:=by
 intro e;subst e;rw [h] at h';cases h'
section
variable (P:Program) (w:World)
def ObjOk (H:Hp) (h:Heap) (a:Addr):HO->Prop
 | .lst xs=>xs.length<=sizeLine/\∃ (its:List Value) (n:Nat),Vals xs its/\h.get? a=some { cls:=.type "list",data:=.seq its.toArray n }
 | .tup xs=>xs.length<=sizeLine/\∃ its:List Value,Vals xs its/\IsTup h a its.toArray
 | .dK kvs=>kvs.length<=sizeLine/\(a == sysModules)=false/\∃ vs,KV kvs vs/\h.DictOf (qap P w) a vs
 | .dT kvs=>kvs.length<=sizeLine/\(a == sysModules)=false/\∃ xs:List (List Key×Addr×Value),
   Paired (fun (p:List Key×V) (q:List Key×Addr×Value)=>p.1=q.1/\H q.2.1=some (.tup (p.1.map kV))/\RelV p.2 q.2.2) kvs xs ∧
   ∃ o es ep,h.get? a=some o/\o.ExactDict/\o.data = .dict es ep/\es.toList=xs.map (entryOfKey (tupleKind (qap P w)))/\(xs.map (·.1)).Nodup
 | .set S n=>h.SetOf (intKind P w) a S n
 | .ins C dx fs=>H dx=some (.own a)/\fs.length<=1000/\dx≠a/\h.get? a=some (PySem.W.instObj C dx) ∧
   ∃ mA,h.Ns1 dx mA/\(∀ f,RelO (fs.lookup f) (mA f))/\PySem.Within mA (fs.map (·.1))
 | .own _=>∃ o,h.get? a=some o
 | .xd fs=>∃ mA,h.Ns1 a mA/\∀ f,RelO (fs.lookup f) (mA f)
 | .rng lo hi=>∃ t u v,h.get? a=some { cls:=.type "range",data:=.fields #[.int lo t,.int hi u,.int 1 v] }
 | .frz o u=>h.get? a=some o/\ObjOk H h a u
 | .tbl ps=>h.get? a=some { cls:=.none,data:=.fields ps }
 | .met f x=>h.get? a=some (PySem.W.methodObj (.ref f) (.ref x))
 | .ext φ=>φ h/\(∃ o,h.get? a=some o)/\∀ h1 h2:Heap,φ h1->(∀ o,h1.get? a=some o->h2.get? a=some o)->φ h2
def HOk (H:Hp) (h:Heap):Prop:=∀ a o,H a=some o->ObjOk P w H h a o
end
section
variable {P:Program} {w:World} {H H':Hp} {h h':Heap} {a:Addr} {o:HO}
theorem ObjOk.lt (x:ObjOk P w H h a o):a < h.objs.size:=by
 cases o with
 | lst xs=>obtain ⟨_,_,_,_,e⟩:=x;exact Heap.lt_size e
 | tup xs=>obtain ⟨_,_,_,p⟩:=x;exact p.lt
 | dK kvs=>obtain ⟨_,_,_,_,o,_,_,e,_⟩:=x;exact Heap.lt_size e
 | dT kvs=>obtain ⟨_,_,_,_,o,_,_,e,_⟩:=x;exact Heap.lt_size e
 | set S n=>obtain ⟨o,_,_,_,e,_⟩:=x;exact Heap.lt_size e
 | ins C dx fs=>obtain ⟨_,_,_,e,_⟩:=x;exact Heap.lt_size e
 | own y=>obtain ⟨_,e⟩:=x;exact Heap.lt_size e
 | xd fs=>obtain ⟨_,⟨_,_,_,e,_⟩,_⟩:=x;exact Heap.lt_size e
 | rng lo hi=>obtain ⟨_,_,_,e⟩:=x;exact Heap.lt_size e
 | frz ob u=>obtain ⟨e,_⟩:=x;exact Heap.lt_size e
 | tbl ps=>exact Heap.lt_size (show h.get? a=some _ from x)
 | met f y=>exact Heap.lt_size (show h.get? a=some _ from x)
 | ext φ=>obtain ⟨_,⟨_,e⟩,_⟩:=x;exact Heap.lt_size e
theorem Paired.mapP {α β:Type} {F G:α->β->Prop}:∀ {l₁:List α} {l₂:List β},Paired F l₁ l₂->(∀ a b,F a b->G a b)->Paired G l₁ l₂
 | _,_,.nil,_=>.nil
 | _,_,.cons r t,f=>.cons (f _ _ r) (Paired.mapP t f)
theorem ObjOk.stay (x:ObjOk P w H h a o) (k:∀ b u,(b=a\/H b=some (.own a))->h.get? b=some u->h'.get? b=some u)
  (ho:∀ b,H b=some (.own a)->H' b=some (.own a)) (ht:∀ b xs,H b=some (.tup xs)->H' b=some (.tup xs)):ObjOk P w H' h' a o:=by
 induction o with
 | lst xs=>obtain ⟨z,its,n,r,e⟩:=x;exact ⟨z,its,n,r,k _ _ (.inl rfl) e⟩
 | tup xs=>obtain ⟨z,its,r,ob,e,c⟩:=x;exact ⟨z,its,r,ob,k _ _ (.inl rfl) e,c⟩
 | dK kvs=>obtain ⟨z,y,vs,r,ob,es,ep,e,c⟩:=x;exact ⟨z,y,vs,r,ob,es,ep,k _ _ (.inl rfl) e,c⟩
 | dT kvs=>
  obtain ⟨z,y,xs,r,ob,es,ep,e,c⟩:=x
  exact ⟨z,y,xs,Paired.mapP r fun p q z=>⟨z.1,ht _ _ z.2.1,z.2.2⟩,ob,es,ep,k _ _ (.inl rfl) e,c⟩
 | set S n=>obtain ⟨ob,es,ep,t,e,c⟩:=x;exact ⟨ob,es,ep,t,k _ _ (.inl rfl) e,c⟩
 | ins C dx fs=>
  obtain ⟨d,z,ne,e,mA,⟨od,es,ep,e2,c⟩,r⟩:=x
  exact ⟨ho _ d,z,ne,k _ _ (.inl rfl) e,mA,⟨od,es,ep,k _ _ (.inr d) e2,c⟩,r⟩
 | own y=>obtain ⟨ob,e⟩:=x;exact ⟨ob,k _ _ (.inl rfl) e⟩
 | xd fs=>obtain ⟨mA,⟨od,es,ep,e,c⟩,r⟩:=x;exact ⟨mA,⟨od,es,ep,k _ _ (.inl rfl) e,c⟩,r⟩
 | rng lo hi=>obtain ⟨t,u,v,e⟩:=x;exact ⟨t,u,v,k _ _ (.inl rfl) e⟩
 | frz ob u ih=>obtain ⟨e,q⟩:=x;exact ⟨k _ _ (.inl rfl) e,ih q⟩
 | tbl ps=>
  have e:h.get? a=some { cls:=.none,data:=.fields ps }:=x
  show h'.get? a=some { cls:=.none,data:=.fields ps }
  exact k a _ (.inl rfl) e
 | met f y=>
  have e:h.get? a=some (PySem.W.methodObj (.ref f) (.ref y)):=x
  show h'.get? a=some (PySem.W.methodObj (.ref f) (.ref y))
  exact k a _ (.inl rfl) e
 | ext φ=>obtain ⟨p,⟨o,e⟩,st⟩:=x;exact ⟨st _ _ p fun o q=>k _ _ (.inl rfl) q,⟨o,k _ _ (.inl rfl) e⟩,st⟩
theorem HOk.lt (x:HOk P w H h) (e:H a=some o):a < h.objs.size:=(x a o e).lt
theorem HOk.fresh (x:HOk P w H h) (e:h.objs.size<=a):H a=none:=by
 cases q:H a with
 | none=>rfl
 | some u=>exact absurd (Nat.lt_of_lt_of_le (x.lt q) e) (Nat.lt_irrefl _)
theorem HOk.kept (x:HOk P w H h) (k:∀ b u,h.get? b=some u->h'.get? b=some u):HOk P w H h':=fun a o e=>
 (x a o e).stay (fun b u _ q=>k b u q) (fun _ q=>q) fun _ _ q=>q
theorem HOk.laid (x:HOk P w H h) (k:∀ b u,h.get? b=some u->h'.get? b=some u) (hp:h.objs.size<=a) (new:ObjOk P w (upd H a o) h' a o):HOk P w (upd H a o) h':=fun b u e=>by
 have hn:=x.fresh hp
 by_cases hb:b=a
 ·subst hb;rw [qaa] at e;cases e;exact new
 ·rw [qac hb] at e
  exact (x b u e).stay (fun c v _ q=>k c v q) (fun c q=>by rw [qac (qab q hn)];exact q) fun c xs q=>by rw [qac (qab q hn)];exact q
end
def Rd (H:Hp) (a:Addr) (u:HO):Prop:=H a=some u\/∃ o,H a=some (.frz o u)
theorem Rd.ok {P:Program} {w:World} {H:Hp} {h:Heap} {a:Addr} {u:HO} (r:Rd H a u) (x:HOk P w H h):ObjOk P w H h a u:=by
 rcases r with r | ⟨o,r⟩
 ·exact x a u r
 ·obtain ⟨_,q⟩:=x a _ r
  exact q
def Mut:Option HO->Prop
 | some (.lst _)=>True
 | some (.dK _)=>True
 | some (.dT _)=>True
 | some (.set _ _)=>True
 | some (.ins _ _ _)=>True
 | some (.ext _)=>True
 | _=>False
section
variable {P:Program} {w:World} {H:Hp} {h h':Heap} {x e:Addr} {o':HO}
theorem HOk.write (ok:HOk P w H h) (mu:Mut (H x)) (he:e=x\/H e=some (.own x)) (k:∀ b u,b≠e->h.get? b=some u->h'.get? b=some u) (heo:∃ u,h'.get? e=some u)
  (new:ObjOk P w (upd H x o') h' x o'):HOk P w (upd H x o') h':=fun b u q=>by
 have nown:∀ c y,H c=some (.own y)->c≠x:=fun c y r z=>by subst z;rw [r] at mu;exact mu
 have ntup:∀ c xs,H c=some (.tup xs)->c≠x:=fun c xs r z=>by subst z;rw [r] at mu;exact mu
 by_cases hb:b=x
 ·subst hb;rw [qaa] at q;cases q;exact new
 ·rw [qac hb] at q
  by_cases hbe:b=e
  ·have q':H b=some (.own x):=by
    rcases he with z | z
    ·exact absurd (hbe.trans z) hb
    ·rw [hbe];exact z
   rw [q] at q';cases q'
   obtain ⟨v,hv⟩:=heo
   exact ⟨v,by rw [hbe];exact hv⟩
  ·refine (ok b u q).stay (fun c v hc r=>k c v ?_ r) (fun c r=>by rw [qac (nown c b r)];exact r) fun c xs r=>by rw [qac (ntup c xs r)];exact r
   rcases hc with rfl | hc
   ·exact hbe
   ·rintro rfl
    rcases he with z | z
    ·exact nown c b hc z
    ·rw [hc] at z;cases z;exact hb rfl
end
structure Un (fs ex:List Addr) (H H':Hp) (h h':Heap):Prop where
 keep:∀ b o,h.get? b=some o->H b=none->b ∉ fs->b ∉ ex->h'.get? b=some o
 slot:∀ b o,h.get? b=some o->H b=none->b∈fs->b ∉ ex->∃ sl,h'.get? b=some { o with slots:=sl }
 free:∀ b o,h.get? b=some o->H b=none->b ∉ ex->H' b=none
 there:∀ b o,h.get? b=some o->b ∉ ex->∃ o',h'.get? b=some o'
 tups:∀ b xs,H b=some (.tup xs)->H' b=some (.tup xs)
 frzs:∀ b o u,H b=some (.frz o u)->H' b=some (.frz o u)
 tbls:∀ b ps,H b=some (.tbl ps)->∃ more,H' b=some (.tbl (ps++more))
section
variable {fs fs' ex ex':List Addr} {H H1 H2:Hp} {h h1 h2 h':Heap} {a x e:Addr} {o:HO}
theorem Un.any (u:Un fs ex H H1 h h1) {b:Addr} {ob:Obj} (q:h.get? b=some ob) (n:H b=none) (hx:b ∉ ex):∃ sl,h1.get? b=some { ob with slots:=sl }:=by
 by_cases hb:b∈fs
 ·exact u.slot b ob q n hb hx
 ·exact ⟨ob.slots,u.keep b ob q n hb hx⟩
theorem Un.kept (k:∀ b u,h.get? b=some u->h'.get? b=some u):Un fs ex H H h h':=
 ⟨fun b ob q _ _ _=>k b ob q,fun b ob q _ _ _=>⟨ob.slots,k b ob q⟩,fun _ _ _ n _=>n,fun b ob q _=>⟨ob,k b ob q⟩,fun _ _ q=>q,fun _ _ _ q=>q,fun _ ps q=>⟨#[],by rw [q];simp⟩⟩
theorem Un.refl:Un fs ex H H h h:=Un.kept fun _ _ q=>q
theorem Un.laid (k:∀ b u,h.get? b=some u->h'.get? b=some u) (hp:h.objs.size<=a) (hn:H a=none):Un fs ex H (upd H a o) h h' where
 keep:=fun b u q _ _ _=>k b u q
 slot:=fun b u q _ _ _=>⟨u.slots,k b u q⟩
 free:=fun b u q n _=>by rw [qac (Nat.ne_of_lt (Nat.lt_of_lt_of_le (Heap.lt_size q) hp))];exact n
 there:=fun b u q _=>⟨u,k b u q⟩
 tups:=fun b xs q=>by rw [qac (qab q hn)];exact q
 frzs:=fun b u xs q=>by rw [qac (qab q hn)];exact q
 tbls:=fun b ps q=>⟨#[],by rw [qac (qab q hn),q];simp⟩
theorem Un.write (mu:Mut (H x)) (he:e=x\/H e=some (.own x)) (k:∀ b u,b≠e->h.get? b=some u->h'.get? b=some u) (heo:∃ u,h'.get? e=some u):Un fs ex H (upd H x o) h h':=by
 have hx:∀ b,H b=none->b≠x:=fun b n z=>by subst z;rw [n] at mu;exact mu
 have hb:∀ b,H b=none->b≠e:=fun b n z=>by
  subst z
  rcases he with r | r
  ·exact hx b n r
  ·rw [n] at r;cases r
 have hm:∀ b u,H b=some u->¬ Mut (some u)->b≠x:=fun b u q nm z=>by subst z;rw [q] at mu;exact nm mu
 refine ⟨fun b u q n _ _=>k b u (hb b n) q,fun b u q n _ _=>⟨u.slots,k b u (hb b n) q⟩,fun b u q n _=>by rw [qac (hx b n)];exact n,fun b u q _=>?_,
  fun b xs q=>by rw [qac (hm b _ q fun z=>z)];exact q,fun b u xs q=>by rw [qac (hm b _ q fun z=>z)];exact q,fun b ps q=>⟨#[],by rw [qac (hm b _ q fun z=>z),q];simp⟩⟩
 by_cases hbe:b=e
 ·subst hbe;exact heo
 ·exact ⟨u,k b u hbe q⟩
end
def trk (h:Heap) (H:Hp):List Addr:=(List.range h.objs.size).filter fun a=>(H a).isSome
def qhg (h:Heap) (H:Hp):Heap:=PySem.W.hideAll h (trk h H)
theorem qfU (h:Heap) (H:Hp):(qhg h H).objs.size=h.objs.size:=PySem.W.hideAll_size _ _
theorem qbF {h:Heap} {H:Hp} {b:Addr} {o:Obj} (e:h.get? b=some o) (n:H b=none):(qhg h H).get? b=some o:=
 PySem.W.hideAll_get _ e fun hm=>by
  have q:(H b).isSome=true:=(List.mem_filter.mp hm).2
  rw [n] at q;simp at q
theorem qjz {h:Heap} {H:Hp} {b:Addr} {o:Obj} (e:(qhg h H).get? b=some o):h.get? b=some o/\H b=none:=by
 have e':h.get? b=some o:=PySem.W.of_hideAll (trk h H) e
 refine ⟨e',?_⟩
 cases q:H b with
 | none=>rfl
 | some x=>
  have hm:b∈trk h H:=List.mem_filter.mpr ⟨List.mem_range.mpr (Heap.lt_size e'),by simp [q]⟩
  have z:(qhg h H).get? b=none:=PySem.W.hideAll_none (trk h H) hm
  rw [z] at e;cases e
end L2
namespace L2
open PySem PySem.Spec PyProof.Rows
structure Mod (K:PySem.W.Frag) (mg:Str->Option Value) (base:Heap):Prop where
 kin:K.In base
 glob:base.Ns mainGlobals mg
 blt:∃ mb,base.Ns builtinsNs mb/\∀ x:Str,x≠"__name__"->mb x=bootBuiltins x
 nolimit:base.NoLimit
structure Cx where
 prog:Program
 w:World
 K:PySem.W.Frag
 mg:Str->Option Value
 base:Heap
 A:Around
 N:List Str
 s₀:Shared
 H₀:Hp
 env:Env
 outer:List Env
 stack:List Env
 ex:List Addr
 fn:Str->Bool
 calm:Bool
 pn:List (Addr×Obj)
 xe:Value->Shared->Prop
def frs (l:List Env):List Addr:=l.filterMap (·.frame)
abbrev Cx.fs (X:Cx):List Addr:=frs X.outer
def Vis (sc:Scope) (x:Str):Prop:=sc.names.lookup x=some .local\/sc.names.lookup x=some .cell\/sc.names.lookup x=some .free
def Loc (sc:Scope) (x:Str):Prop:=sc.names.lookup x=some .local\/sc.names.lookup x=some .cell
def qn7 (env:Env) (h:Heap) (m:Str->Option Value) (x:Str) (u:Value):Prop:=
 (env.kindOf x=some .local/\m x=some u)\/((env.kindOf x=some .cell\/env.kindOf x=some .free)/\∃ c,env.cells.lookup x=some c/\h.IsCell c (some u))
structure Cx.Ok (X:Cx):Prop where
 mod:Mod X.K X.mg X.base
 kind:X.env.scope.kind = .function
 glob:X.env.globals=mainGlobals
 blt:X.env.builtins=builtinsNs
 above:X.s₀.heap.objs.size<=X.env.locals
 inj:∀ x y c,X.env.cells.lookup x=some c->X.env.cells.lookup y=some c->x=y
 has:∀ x,(X.env.kindOf x=some .cell\/X.env.kindOf x=some .free)->∃ c,X.env.cells.lookup x=some c
 cab:∀ x c,X.fn x=true->X.env.cells.lookup x=some c->X.s₀.heap.objs.size<=c
 hd:X.calm=true->X.A.handled=none
 frames:X.A.frames=some X.stack
 stk:X.stack=X.outer\/(X.stack=X.env :: X.outer/\X.env.frame=some X.env.locals)
 exf:∀ b∈X.ex,b≠X.env.locals/\∀ x c,X.env.cells.lookup x=some c->c≠b
 bs:∀ b o,X.base.get? b=some o->X.s₀.heap.get? b=some o/\X.H₀ b=none
 bsz:X.base.objs.size<=X.s₀.heap.objs.size
 noex:∀ b o,X.base.get? b=some o->b ∉ X.ex
 exfs:∀ b∈X.ex,b ∉ X.fs
 funs:X.s₀.heap.FunFrames X.base X.outer
 frf:∀ b∈X.fs,X.H₀ b=none
structure Inv (X:Cx) (pins:List (Addr×Obj)) (σ:List (Option V)) (H:Hp) (s:Shared):Prop where
 ok:X.Ok
 os:s.os=X.s₀.os
 bare:AllBare s.gens
 base:Un X.fs X.ex X.H₀ H X.s₀.heap s.heap
 loc:∃ m,s.heap.Ns X.env.locals m/\∀ (i:Nat) (x:Str) (v:V),X.N[i]? = some x->σ[i]? = some (some v)->Vis X.env.scope x->∃ u,RelV v u/\qn7 X.env s.heap m x u
 cell:∀ x c,X.env.cells.lookup x=some c->∃ v,s.heap.IsCell c v
 free:H X.env.locals=none
 freeC:∀ x c,X.env.cells.lookup x=some c->H c=none
 pin:∀ p∈X.pn++pins,s.heap.get? p.1=some p.2/\H p.1=none/\p.1≠X.env.locals/\p.1 ∉ X.fs/\∀ v,p.2.data≠.cell v
 hok:HOk X.prog X.w H s.heap
 len:σ.length=X.N.length
section
variable {X:Cx} {pins:List (Addr×Obj)} {σ:List (Option V)} {H H':Hp} {s:Shared} {h':Heap}
theorem Cx.Ok.nofr (ok:X.Ok) {b:Addr} {o:Obj} (e:X.base.get? b=some o):b ∉ X.fs:=fun hb=>by
 have:=(ok.funs.mem hb).1
 rw [e] at this;cases this
theorem Inv.bs (I:Inv X pins σ H s):∀ b o,X.base.get? b=some o->s.heap.get? b=some o/\H b=none:=fun b o e=>
 ⟨I.base.keep b o (I.ok.bs b o e).1 (I.ok.bs b o e).2 (I.ok.nofr e) (I.ok.noex b o e),I.base.free b o (I.ok.bs b o e).1 (I.ok.bs b o e).2 (I.ok.noex b o e)⟩
theorem Inv.bk (I:Inv X pins σ H s):∀ b o,X.base.get? b=some o->s.heap.get? b=some o:=fun b o e=>(I.bs b o e).1
theorem Inv.mod (I:Inv X pins σ H s):Mod X.K X.mg X.base:=I.ok.mod
theorem Inv.kIn (I:Inv X pins σ H s):X.K.In s.heap:=I.ok.mod.kin.keeps I.bk
theorem Inv.lt (I:Inv X pins σ H s):X.env.locals < s.heap.objs.size:=let ⟨_,hn,_⟩:=I.loc;hn.lt
theorem Inv.sz (I:Inv X pins σ H s):X.s₀.heap.objs.size<=s.heap.objs.size:=Nat.le_trans I.ok.above (Nat.le_of_lt I.lt)
theorem Inv.nofs (I:Inv X pins σ H s) {a:Addr} (h:s.heap.objs.size<=a):a ∉ X.fs:=fun hb=>by
 obtain ⟨_,o,ho,_⟩:=I.ok.funs.mem hb
 exact absurd (Nat.lt_of_lt_of_le (Heap.lt_size ho) (Nat.le_trans I.sz h)) (Nat.lt_irrefl _)
theorem Inv.cne (I:Inv X pins σ H s):∀ x c,X.env.cells.lookup x=some c->c≠X.env.locals:=fun x c e z=>by
 obtain ⟨v,o,ho,hd⟩:=I.cell x c e
 obtain ⟨m,⟨o',es,ep,ho',hd',_⟩,_⟩:=I.loc
 rw [z,ho'] at ho;cases ho;rw [hd'] at hd;cases hd
theorem Inv.funs (I:Inv X pins σ H s):s.heap.FunFrames X.base X.outer:=by
 have all:∀ (l:List Env),(∀ b∈frs l,b∈X.fs)->X.s₀.heap.FunFrames X.base l->s.heap.FunFrames X.base l:=by
  intro l
  induction l with
  | nil=>intro _ _;trivial
  | cons env r ih=>
   intro hs hl
   obtain ⟨hk,⟨L,o,hf,hn,ho,hd⟩,hr⟩:=hl
   have hL:L∈X.fs:=hs L (by unfold frs;rw [List.filterMap_cons,hf];exact List.mem_cons_self)
   obtain ⟨sl,e⟩:=I.base.slot L o ho (I.ok.frf L hL) hL fun z=>I.ok.exfs L z hL
   exact ⟨hk,⟨L,_,hf,hn,e,hd⟩,ih (fun b hb=>hs b (by unfold frs;rw [List.filterMap_cons,hf];exact mC_ _ hb)) hr⟩
 exact all X.outer (fun _ hb=>hb) I.ok.funs
theorem Inv.stack (I:Inv X pins σ H s):s.heap.FunFrames X.base X.stack:=by
 rcases I.ok.stk with e | ⟨e,hf⟩
 ·rw [e];exact I.funs
 ·rw [e]
  obtain ⟨m,hn,_⟩:=I.loc
  refine .cons (by rw [I.ok.kind];decide) hf hn ?_ I.funs
  exact Heap.get?_none_of_le (Nat.le_trans I.ok.bsz I.ok.above)
theorem Inv.stkSub (I:Inv X pins σ H s):∀ b∈frs X.stack,b∈X.env.locals :: X.fs:=fun b hb=>by
 rcases I.ok.stk with e | ⟨e,hf⟩
 ·rw [e] at hb;exact mC_ _ hb
 ·rw [e] at hb
  unfold frs at hb
  rw [List.filterMap_cons,hf] at hb
  exact hb
theorem Inv.stkFree (I:Inv X pins σ H s):∀ b∈frs X.stack,H b=none:=fun b hb=>by
 rcases List.mem_cons.mp (I.stkSub b hb) with e | hb
 ·rw [e];exact I.free
 ·obtain ⟨_,o,ho,_⟩:=I.ok.funs.mem hb
  exact I.base.free b o ho (I.ok.frf b hb) fun z=>I.ok.exfs b z hb
theorem Inv.step {g':Array GenState} {t':Nat} {d':Drawn} {ch:List Addr} (I:Inv X pins σ H s)
  (hch:∀ b∈ch,(b∈X.ex\/X.s₀.heap.objs.size<=b)/\b≠X.env.locals/\(∀ x c,X.env.cells.lookup x=some c->c≠b)/\∀ p∈X.pn++pins,p.1≠b)
  (keep:∀ b o,b≠X.env.locals->b ∉ X.fs->b ∉ ch->s.heap.get? b=some o->H b=none->h'.get? b=some o)
  (slot:∀ b o,b≠X.env.locals->b∈X.fs->b ∉ ch->s.heap.get? b=some o->H b=none->∃ sl,h'.get? b=some { o with slots:=sl }) (free:∀ b o,b ∉ ch->s.heap.get? b=some o->H b=none->H' b=none)
  (there:∀ b o,b ∉ ch->s.heap.get? b=some o->∃ o',h'.get? b=some o')
  (tups:∀ b xs,H b=some (.tup xs)->H' b=some (.tup xs)) (frzs:∀ b o u,H b=some (.frz o u)->H' b=some (.frz o u)) (tbls:∀ b ps,H b=some (.tbl ps)->∃ more,H' b=some (.tbl (ps++more)))
  (ns:∀ m,s.heap.Ns X.env.locals m->h'.Ns X.env.locals m) (hok:HOk X.prog X.w H' h') (hg:AllBare g') :
  Inv X pins σ H' { s with heap:=h',gens:=g',drawn:=d',toks:=t' }:=by
 have neL:∀ b o,X.s₀.heap.get? b=some o->b≠X.env.locals:=fun b o e=>Nat.ne_of_lt (Nat.lt_of_lt_of_le (Heap.lt_size e) I.ok.above)
 have neC:∀ b o,X.s₀.heap.get? b=some o->b ∉ X.ex->b ∉ ch:=fun b o e hx hb=>by
  rcases (hch b hb).1 with z | z
  ·exact hx z
  ·exact absurd (Nat.lt_of_lt_of_le (Heap.lt_size e) z) (Nat.lt_irrefl _)
 have cellK:∀ x c,X.env.cells.lookup x=some c->∀ v,s.heap.IsCell c v->h'.IsCell c v:=fun x c e v ⟨o,ho,hd⟩=>by
  have nch:c ∉ ch:=fun z=>(hch c z).2.2.1 x c e rfl
  by_cases hc:c∈X.fs
  ·obtain ⟨sl,q⟩:=slot c o (I.cne x c e) hc nch ho (I.freeC x c e)
   exact ⟨_,q,hd⟩
  ·exact ⟨o,keep c o (I.cne x c e) hc nch ho (I.freeC x c e),hd⟩
 refine ⟨I.ok,I.os,hg,⟨fun b o e n hb hx=>?_,fun b o e n hb hx=>?_,fun b o e n hx=>?_,fun b o e hx=>?_,fun b xs e=>tups b xs (I.base.tups b xs e),fun b o xs e=>frzs b o xs (I.base.frzs b o xs e),fun b ps e=>?_⟩,?_,fun x c e=>?_,?_,fun x c e=>?_,fun p hp=>?_,hok,I.len⟩
 ·exact keep b o (neL b o e) hb (neC b o e hx) (I.base.keep b o e n hb hx) (I.base.free b o e n hx)
 ·obtain ⟨sl,e1⟩:=I.base.slot b o e n hb hx
  obtain ⟨sl',e2⟩:=slot b _ (neL b o e) hb (neC b o e hx) e1 (I.base.free b o e n hx)
  exact ⟨sl',e2⟩
 ·obtain ⟨o',e1⟩:=I.base.there b o e hx
  exact free b o' (neC b o e hx) e1 (I.base.free b o e n hx)
 ·obtain ⟨o',e1⟩:=I.base.there b o e hx
  exact there b o' (neC b o e hx) e1
 ·obtain ⟨m1,e1⟩:=I.base.tbls b ps e
  obtain ⟨m2,e2⟩:=tbls b _ e1
  exact ⟨m1++m2,by rw [e2,Array.append_assoc]⟩
 ·obtain ⟨m,hn,hl⟩:=I.loc
  refine ⟨m,ns m hn,fun i x v e1 e2 e3=>?_⟩
  obtain ⟨u,r,l⟩:=hl i x v e1 e2 e3
  refine ⟨u,r,?_⟩
  rcases l with l | ⟨k,c,e,z⟩
  ·exact .inl l
  ·exact .inr ⟨k,c,e,cellK x c e _ z⟩
 ·obtain ⟨v,z⟩:=I.cell x c e
  exact ⟨v,cellK x c e v z⟩
 ·obtain ⟨m,⟨o,_,_,ho,_⟩,_⟩:=I.loc
  exact free _ o (fun z=>(hch _ z).2.1 rfl) ho I.free
 ·obtain ⟨v,o,ho,hd⟩:=I.cell x c e
  exact free c o (fun z=>(hch c z).2.2.1 x c e rfl) ho (I.freeC x c e)
 ·obtain ⟨e,n,ne,nf,d⟩:=I.pin p hp
  have nch:p.1 ∉ ch:=fun z=>(hch p.1 z).2.2.2 p hp rfl
  exact ⟨keep p.1 p.2 ne nf nch e n,free p.1 p.2 nch e n,ne,nf,d⟩
theorem Inv.un {t':Nat} (I:Inv X pins σ H s) (u:Un X.fs [] H H' s.heap h') (hok:HOk X.prog X.w H' h'):Inv X pins σ H' { s with heap:=h',toks:=t' }:=by
 obtain ⟨m,⟨o,es,ep,ho,r⟩,_⟩:=id I.loc
 obtain ⟨sl,hL⟩:=u.any ho I.free (by simp)
 exact I.step (g':=s.gens) (d':=s.drawn) (ch:=[]) (fun _ z=>nomatch z) (fun b o _ hb _ e n=>u.keep b o e n hb (by simp)) (fun b o _ hb _ e n=>u.slot b o e n hb (by simp)) (fun b o _ e n=>u.free b o e n (by simp)) (fun b o _ e=>u.there b o e (by simp)) u.tups u.frzs u.tbls (fun m' hm=>by
  obtain ⟨o',es',ep',ho',r'⟩:=hm
  rw [ho] at ho';cases ho'
  exact ⟨_,es',ep',hL,r'⟩) hok I.bare
theorem Inv.call {g':Array GenState} {t':Nat} {d':Drawn} {ch:List Addr} (I:Inv X pins σ H s) (u:Un (frs X.stack) ch H H' s.heap h') (hok:HOk X.prog X.w H' h') (hg:AllBare g')
  (hch:∀ b∈ch,(b∈X.ex\/X.s₀.heap.objs.size<=b)/\b≠X.env.locals/\(∀ x c,X.env.cells.lookup x=some c->c≠b)/\∀ p∈X.pn++pins,p.1≠b) :
  Inv X pins σ H' { s with heap:=h',gens:=g',drawn:=d',toks:=t' }:=by
 obtain ⟨m,⟨o,es,ep,ho,r⟩,_⟩:=id I.loc
 obtain ⟨sl,hL⟩:=u.any ho I.free fun z=>(hch _ z).2.1 rfl
 exact I.step (ch:=ch) hch (fun b o hL hb hc e n=>u.keep b o e n (fun z=>(List.mem_cons.mp (I.stkSub b z)).elim hL hb) hc) (fun b o _ _ hc e n=>u.any e n hc) (fun b o hc e n=>u.free b o e n hc) (fun b o hc e=>u.there b o e hc) u.tups u.frzs u.tbls (fun m' hm=>by
  obtain ⟨o',es',ep',ho',r'⟩:=hm
  rw [ho] at ho';cases ho'
  exact ⟨_,es',ep',hL,r'⟩) hok hg
theorem Inv.turned {t':Nat} {it:Addr} (I:Inv X pins σ H s) (k:∀ b o,b≠it->s.heap.get? b=some o->h'.get? b=some o) (hn:H it=none) (hL:it≠X.env.locals)
  (h1:it∈X.ex\/X.s₀.heap.objs.size<=it) (h2:∀ x c,X.env.cells.lookup x=some c->c≠it) (h3:∀ p∈X.pn++pins,p.1≠it):Inv X pins σ H { s with heap:=h',toks:=t' }:=by
 have nit:∀ b u,H b=some u->b≠it:=fun b u e z=>by rw [z,hn] at e;cases e
 refine I.step (g':=s.gens) (d':=s.drawn) (ch:=[it]) (fun b hb=>?_) (fun b o _ _ hc e _=>k b o (fun z=>hc (by simp [z])) e) (fun b o _ _ hc e _=>⟨o.slots,k b o (fun z=>hc (by simp [z])) e⟩) (fun _ _ _ _ n=>n)
  (fun b o hc e=>⟨o,k b o (fun z=>hc (by simp [z])) e⟩) (fun _ _ e=>e) (fun _ _ _ e=>e) (fun b ps e=>⟨#[],by rw [e];simp⟩) (fun m hm=>?_) (fun b u e=>?_) I.bare
 ·have e:b=it:=by simpa using hb
  subst e
  exact ⟨h1,hL,h2,h3⟩
 ·obtain ⟨o,es,ep,ho,r⟩:=hm
  exact ⟨o,es,ep,k _ o (Ne.symm hL) ho,r⟩
 ·refine (I.hok b u e).stay (fun c v hc q=>k c v ?_ q) (fun _ q=>q) fun _ _ q=>q
  rcases hc with z | z
  ·rw [z];exact nit b u e
  ·exact nit c _ z
theorem Inv.tok (I:Inv X pins σ H s) (t:Nat):Inv X pins σ H { s with toks:=t }:=I.un (h':=s.heap) (t':=t) Un.refl I.hok
theorem Inv.kept {t':Nat} (I:Inv X pins σ H s) (k:∀ b u,s.heap.get? b=some u->h'.get? b=some u):Inv X pins σ H { s with heap:=h',toks:=t' }:=I.un (Un.kept k) (I.hok.kept k)
theorem Inv.laid {a:Addr} {o:HO} {t':Nat} (I:Inv X pins σ H s) (k:∀ b u,s.heap.get? b=some u->h'.get? b=some u) (hp:s.heap.objs.size<=a) (new:ObjOk X.prog X.w (upd H a o) h' a o) :
  Inv X pins σ (upd H a o) { s with heap:=h',toks:=t' }:=I.un (Un.laid k hp (I.hok.fresh hp)) (I.hok.laid k hp new)
theorem Inv.write {x e:Addr} {o:HO} {t':Nat} (I:Inv X pins σ H s) (mu:Mut (H x)) (he:e=x\/H e=some (.own x)) (k:∀ b u,b≠e->s.heap.get? b=some u->h'.get? b=some u) (heo:∃ u,h'.get? e=some u)
  (new:ObjOk X.prog X.w (upd H x o) h' x o):Inv X pins σ (upd H x o) { s with heap:=h',toks:=t' }:=I.un (Un.write mu he k heo) (I.hok.write mu he k heo new)
theorem Inv.pins_of {pins':List (Addr×Obj)} (I:Inv X pins σ H s) (h:∀ p∈pins',s.heap.get? p.1=some p.2/\H p.1=none/\p.1≠X.env.locals/\p.1 ∉ X.fs/\∀ v,p.2.data≠.cell v):Inv X pins' σ H s:=
 ⟨I.ok,I.os,I.bare,I.base,I.loc,I.cell,I.free,I.freeC,fun p hp=>(mA_ hp).elim (fun z=>I.pin p (List.mem_append_left _ z)) (h p),I.hok,I.len⟩
theorem qd7 {N:List Str} (hN:N.Nodup) {i j:Nat} {x:Str} (a:N[i]? = some x) (b:N[j]? = some x):i=j:=by
 obtain ⟨h1,e1⟩:=gS_ a
 obtain ⟨h2,e2⟩:=gS_ b
 exact (List.getElem_inj hN).mp (e1.trans e2.symm)
theorem qeY {M:Model} {A:Around} {E:Value->Shared->Prop} {i:Nat} {x:Str} {v:V} {u:Value} {Q:Unit->Shared->Prop} (I:Inv X pins σ H s) (hN:X.N.Nodup) (hi:X.N[i]? = some x) (hx:Loc X.env.scope x) (r:RelV v u)
  (h:∀ s',Inv X pins (σ.set i (some v)) H s'->(∃ a,Heap.SameBut a s.heap s'.heap/\(a=X.env.locals\/X.env.cells.lookup x=some a))->Q () s') (hf:X.fn x=true\/X.env.scope.names.lookup x=some .local:=by first | exact .inl rfl | exact .inr rfl | assumption):wpAny M A (storeName X.env x u) Q E s:=by
 obtain ⟨m,hn,hl⟩:=id I.loc
 have hcls:(X.env.scope.kind == .class || (X.env.scope.kind == .module && X.env.locals != X.env.globals))=false:=by rw [I.ok.kind];rfl
 have hiσ:i < σ.length:=by rw [I.len];exact (gS_ hi).1
 have cne:=I.cne
 have tracked:∀ {a:Addr} {h':Heap},(∃ o,s.heap.get? a=some o/\H a=none)->Heap.SameBut a s.heap h'->HOk X.prog X.w H h':=fun {a h'} ha hs b ob e=>by
  obtain ⟨_,_,hfree⟩:=ha
  refine (I.hok b ob e).stay (fun c w' hc q=>(hs.2 c ?_).trans q) (fun _ q=>q) fun _ _ q=>q
  rintro rfl
  rcases hc with rfl | hc
  ·rw [hfree] at e;cases e
  ·rw [hfree] at hc;cases hc
 rcases hx with hk | hk
 ·refine wpAny_storeName_local hk hn (fun h' hn' hs=>?_) hcls
  obtain ⟨oL,_,_,hoL,_⟩:=id hn
  refine h _ ⟨I.ok,I.os,I.bare,⟨fun b o e n hb hx=>?_,fun b o e n hb hx=>?_,I.base.free,fun b o e hx=>?_,I.base.tups,I.base.frzs,I.base.tbls⟩,⟨_,hn',fun j y v' e1 e2 e3=>?_⟩,fun y c e=>?_,I.free,I.freeC,fun p hp=>?_,tracked ⟨oL,hoL,I.free⟩ hs,by simpa using I.len⟩ ⟨_,hs,.inl rfl⟩
  ·exact (hs.2 b (Nat.ne_of_lt (Nat.lt_of_lt_of_le (Heap.lt_size e) I.ok.above))).trans (I.base.keep b o e n hb hx)
  ·obtain ⟨sl,e1⟩:=I.base.slot b o e n hb hx
   exact ⟨sl,(hs.2 b (Nat.ne_of_lt (Nat.lt_of_lt_of_le (Heap.lt_size e) I.ok.above))).trans e1⟩
  ·obtain ⟨o',e1⟩:=I.base.there b o e hx
   exact ⟨o',(hs.2 b (Nat.ne_of_lt (Nat.lt_of_lt_of_le (Heap.lt_size e) I.ok.above))).trans e1⟩
  ·by_cases hj:j=i
   ·subst hj
    rw [hi] at e1;cases e1
    rw [List.getElem?_set_self hiσ] at e2
    cases e2
    exact ⟨u,r,.inl ⟨hk,by simp⟩⟩
   ·rw [List.getElem?_set_ne (Ne.symm hj)] at e2
    obtain ⟨u',r',q⟩:=hl j y v' e1 e2 e3
    refine ⟨u',r',?_⟩
    rcases q with ⟨k,e⟩ | ⟨k,c,e,z⟩
    ·refine .inl ⟨k,?_⟩
     have:y≠x:=fun e=>hj (qd7 hN e1 (e ▸ hi))
     simp [this,e]
    ·exact .inr ⟨k,c,e,z.sameBut hs (cne y c e)⟩
  ·obtain ⟨w',z⟩:=I.cell y c e
   exact ⟨w',z.sameBut hs (cne y c e)⟩
  ·obtain ⟨e,n,ne,nf,d⟩:=I.pin p hp
   exact ⟨(hs.2 p.1 ne).trans e,n,ne,nf,d⟩
 ·have hfn:X.fn x=true:=by
   rcases hf with z | z
   ·exact z
   ·rw [z] at hk;cases hk
  obtain ⟨c,hc⟩:=I.ok.has x (.inl hk)
  obtain ⟨w',z⟩:=I.cell x c hc
  refine wpAny_storeName_cell I.ok.kind hk hc z (fun h' hc' hs=>?_)
  obtain ⟨oc,hoc,hocd⟩:=id z
  refine h { s with heap:=h' } ⟨I.ok,I.os,I.bare,⟨fun b o e n hb hx=>?_,fun b o e n hb hx=>?_,I.base.free,fun b o e hx=>?_,I.base.tups,I.base.frzs,I.base.tbls⟩,⟨m,hn.sameBut hs (Ne.symm (cne x c hc)),fun j y v' e1 e2 e3=>?_⟩,fun y c' e=>?_,I.free,I.freeC,fun p hp=>?_,tracked ⟨oc,hoc,I.freeC x c hc⟩ hs,by simpa using I.len⟩ ⟨c,hs,.inr hc⟩
  ·exact (hs.2 b (Nat.ne_of_lt (Nat.lt_of_lt_of_le (Heap.lt_size e) (I.ok.cab x c hfn hc)))).trans (I.base.keep b o e n hb hx)
  ·obtain ⟨sl,e1⟩:=I.base.slot b o e n hb hx
   exact ⟨sl,(hs.2 b (Nat.ne_of_lt (Nat.lt_of_lt_of_le (Heap.lt_size e) (I.ok.cab x c hfn hc)))).trans e1⟩
  ·obtain ⟨o',e1⟩:=I.base.there b o e hx
   exact ⟨o',(hs.2 b (Nat.ne_of_lt (Nat.lt_of_lt_of_le (Heap.lt_size e) (I.ok.cab x c hfn hc)))).trans e1⟩
  ·by_cases hj:j=i
   ·subst hj
    rw [hi] at e1;cases e1
    rw [List.getElem?_set_self hiσ] at e2
    cases e2
    exact ⟨u,r,.inr ⟨.inl hk,c,hc,hc'⟩⟩
   ·rw [List.getElem?_set_ne (Ne.symm hj)] at e2
    obtain ⟨u',r',q⟩:=hl j y v' e1 e2 e3
    refine ⟨u',r',?_⟩
    rcases q with q | ⟨k,c',e,z'⟩
    ·exact .inl q
    ·refine .inr ⟨k,c',e,z'.sameBut hs ?_⟩
     rintro rfl
     exact hj (qd7 hN e1 (I.ok.inj _ _ _ e hc ▸ hi))
  ·by_cases hcc:c'=c
   ·subst hcc;exact ⟨_,hc'⟩
   ·obtain ⟨w2,z2⟩:=I.cell y c' e
    exact ⟨w2,z2.sameBut hs hcc⟩
  ·obtain ⟨e,n,ne,nf,d⟩:=I.pin p hp
   refine ⟨(hs.2 p.1 ?_).trans e,n,ne,nf,d⟩
   intro q
   rw [q,hoc] at e
   have q':oc=p.2:=oI_ e
   exact d w' (by rw [<-q'];exact hocd)
theorem qbC {M:Model} {A:Around} {E:Value->Shared->Prop} {i:Nat} {x:Str} {v:V} {u:Value} {Q:Unit->Shared->Prop} (I:Inv X pins σ H s) (hN:X.N.Nodup) (hi:X.N[i]? = some x) (hx:Loc X.env.scope x) (r:RelV v u)
  (h:∀ s',Inv X pins (σ.set i (some v)) H s'->Q () s') (hf:X.fn x=true\/X.env.scope.names.lookup x=some .local:=by first | exact .inl rfl | exact .inr rfl | assumption):wpAny M A (storeName X.env x u) Q E s:=
 qeY I hN hi hx r (fun s' I' _=>h s' I') hf
theorem Inv.call' {s':Shared} {ch:List Addr} (I:Inv X pins σ H s) (ho:s'.os=s.os) (u:Un (frs X.stack) ch H H' s.heap s'.heap) (hok:HOk X.prog X.w H' s'.heap) (hg:AllBare s'.gens)
  (hch:∀ b∈ch,(b∈X.ex\/X.s₀.heap.objs.size<=b)/\b≠X.env.locals/\(∀ x c,X.env.cells.lookup x=some c->c≠b)/\∀ p∈X.pn++pins,p.1≠b):Inv X pins σ H' s':=by
 obtain ⟨h',g',d',t',o'⟩:=s'
 have e:o'=s.os:=ho
 subst e
 exact I.call (g':=g') (t':=t') (d':=d') u hok hg hch
end
abbrev XK:=Value->Option Addr->Hp->Prop
abbrev St:=List (Option V)
abbrev VK:=V->Hp->Prop
abbrev TE:=St->Hp->VK->Prop
abbrev TT:=St->Hp->(Bool->Hp->Prop)->Prop
abbrev TA:=St->Hp->(List V->Hp->Prop)->Prop
structure Ends where
 nx:St->Hp->Prop
 rt:VK
 bk:St->Hp->Prop:=fun _ _=>False
 ct:St->Hp->Prop:=fun _ _=>False
abbrev TS:=Ends->St->Hp->Prop
def EP (X:Cx) (pins:List (Addr×Obj)) (σ:St) (Q:VK) (u:Value) (s':Shared):Prop:=∃ v H',Inv X pins σ H' s'/\RelV v u/\Q v H'
def TP (X:Cx) (pins:List (Addr×Obj)) (σ:St) (Q:Bool->Hp->Prop) (b:Bool) (s':Shared):Prop:=∃ H',Inv X pins σ H' s'/\Q b H'
def AP (X:Cx) (pins:List (Addr×Obj)) (σ:St) (Q:List V->Hp->Prop) (us:List Value) (s':Shared):Prop:=∃ vs H',Inv X pins σ H' s'/\Vals vs us/\Q vs H'
def SP (X:Cx) (pins:List (Addr×Obj)) (D:Ends) (f:Flow) (s':Shared):Prop:=
 match f with
 | .next=>∃ σ' H',Inv X pins σ' H' s'/\D.nx σ' H'
 | .brk=>∃ σ' H',Inv X pins σ' H' s'/\D.bk σ' H'
 | .cont=>∃ σ' H',Inv X pins σ' H' s'/\D.ct σ' H'
 | .ret u=>∃ v σ' H',Inv X pins σ' H' s'/\RelV v u/\D.rt v H'
def PE (X:Cx) (e:Expr) (t:TE):Prop:=
 ∀ (pins:List (Addr×Obj)) (s:Shared) (σ:St) (H:Hp) (Q:VK),Inv X pins σ H s->t σ H Q->wpAny (model X.prog X.w) X.A (eval e X.env) (EP X pins σ Q) X.xe s
def PT (X:Cx) (e:Expr) (t:TT):Prop:=
 ∀ (pins:List (Addr×Obj)) (s:Shared) (σ:St) (H:Hp) (Q:Bool->Hp->Prop),Inv X pins σ H s->t σ H Q->wpAny (model X.prog X.w) X.A (isTrue e X.env (eval e X.env)) (TP X pins σ Q) X.xe s
def PW (X:Cx) (e:Expr) (t:TT):Prop:=
 ∀ (whole:Sem Value) (pins:List (Addr×Obj)) (s:Shared) (σ:St) (H:Hp) (Q:Bool->Hp->Prop),Inv X pins σ H s->t σ H Q->wpAny (model X.prog X.w) X.A (isTrue e X.env whole) (TP X pins σ Q) X.xe s
theorem PW.pt {X:Cx} {e:Expr} {t:TT} (h:PW X e t):PT X e t:=h _
def PA (X:Cx) (es:List Expr) (t:TA):Prop:=
 ∀ (pos:Pos) (pins:List (Addr×Obj)) (s:Shared) (σ:St) (H:Hp) (Q:List V->Hp->Prop),Inv X pins σ H s->t σ H Q->wpAny (model X.prog X.w) X.A (spliced (backTo pos (starEach es X.env))) (AP X pins σ Q) X.xe s
def PS (X:Cx) (st:Stmt) (t:TS):Prop:=
 ∀ (pins:List (Addr×Obj)) (s:Shared) (σ:St) (H:Hp) (D:Ends),Inv X pins σ H s->t D σ H->wpAny (model X.prog X.w) X.A (exec st X.env) (SP X pins D) X.xe s
def PSs (X:Cx) (st:List Stmt) (t:TS):Prop:=
 ∀ (pins:List (Addr×Obj)) (s:Shared) (σ:St) (H:Hp) (D:Ends),Inv X pins σ H s->t D σ H->wpAny (model X.prog X.w) X.A (execs st X.env) (SP X pins D) X.xe s
theorem thn {α:Type} {t:Sem α} {Q Q':α->Shared->Prop} {M:Model} {A:Around} {E:Value->Shared->Prop} {s:Shared} (h:wpAny M A t Q E s) (hQ:∀ a s,Q a s->Q' a s):wpAny M A t Q' E s:=wpAny_mono h hQ fun _ _ x=>x
end L2
namespace L2
open PySem PySem.Spec PyProof.Rows
section
variable {X:Cx}
def qnx (i:Nat):TE:=fun σ H Q=>∃ v,σ[i]? = some (some v)/\Q v H
def tC (v:V):TE:=fun _ H Q=>Q v H
theorem qkW {i:Nat} {x:Str} {pos:Pos} (hN:X.N[i]? = some x) (hv:Vis X.env.scope x) (hd:(x == ("__debug__" : Str))=false:=by decide) (hcd:(x == ("__classdict__" : Str))=false:=by decide):PE X (.Name x pos) (qnx i):=by
 intro pins s σ H Q I h
 obtain ⟨v,e,h⟩:=h
 obtain ⟨m,hn,hl⟩:=I.loc
 obtain ⟨u,r,l⟩:=hl i x v hN e hv
 have fin:EP X pins σ Q u s:=⟨v,H,I,r,h⟩
 rcases l with ⟨hk,hm⟩ | ⟨hk,c,hc,hcell⟩
 ·exact wpAny_Name (wpAny_loadName_local I.ok.kind hk hn hm fin) hd
 ·rcases hk with hk | hk
  ·exact wpAny_Name (wpAny_loadName_cell I.ok.kind hk hc hcell fin) hd
  ·exact wpAny_Name (wpAny_loadName_free I.ok.kind hk hc hcell fin hcd) hd
theorem qhK {i j pos}:PE X (.Constant (.int i) j pos) (tC (.int i)):=fun _ _ _ H _ I h=>wpAny_Constant_int ⟨.int i,H,I.tok _,⟨_,rfl⟩,h⟩
theorem qmP {b j pos}:PE X (.Constant (.bool b) j pos) (tC (.bl b)):=fun _ _ _ H _ I h=>Constant_bool ⟨.bl b,H,I,rfl,h⟩
theorem qk0 {j pos}:PE X (.Constant .none j pos) (tC .non):=fun _ _ _ H _ I h=>Constant_none ⟨.non,H,I,rfl,h⟩
theorem qhJ {x j pos}:PE X (.Constant (.str x) j pos) (tC (.str x)):=fun _ _ _ H _ I h=>Calls.Constant_str ⟨.str x,H,I.tok _,⟨_,rfl⟩,h⟩
def Gl (X:Cx) (x:Str):Prop:=X.env.kindOf x=some .globalImplicit
theorem qdz {E:Value->Shared->Prop} {pins:List (Addr×Obj)} {s:Shared} {σ:St} {H:Hp} {x:Str} {u:Value} {pos:Pos} {Q:Value->Shared->Prop} (I:Inv X pins σ H s) (hg:Gl X x) (hm:X.mg x=some u) (h:Q u s)
  (hd:(x == ("__debug__" : Str))=false:=by decide):wpAny (model X.prog X.w) X.A (eval (.Name x pos) X.env) Q E s:=
 Calls.Name_function_global I.ok.kind hg (Calls.loadGlobal_global (by rw [I.ok.glob];exact I.mod.glob.keeps I.bk) hm h) hd
theorem qbs {E:Value->Shared->Prop} {pins:List (Addr×Obj)} {s:Shared} {σ:St} {H:Hp} {x:Str} {u:Value} {pos:Pos} {Q:Value->Shared->Prop} (I:Inv X pins σ H s) (hg:Gl X x) (hm:X.mg x=none) (hv:bootBuiltins x=some u) (h:Q u s)
  (hn:x≠"__name__" := by decide) (hd:(x == ("__debug__" : Str))=false:=by decide):wpAny (model X.prog X.w) X.A (eval (.Name x pos) X.env) Q E s:=by
 obtain ⟨mb,h1,h2⟩:=I.mod.blt
 exact Calls.Name_function_global I.ok.kind hg (Calls.loadGlobal_builtin (by rw [I.ok.glob];exact I.mod.glob.keeps I.bk) hm (by rw [I.ok.blt];exact h1.keeps I.bk) ((h2 x hn).trans hv) h) hd
theorem qi5 {x:Str} {v:V} {u:Value} {pos:Pos} (hg:Gl X x) (hm:X.mg x=some u) (r:RelV v u) (hd:(x == ("__debug__" : Str))=false:=by decide):PE X (.Name x pos) (tC v):=
 fun _ _ _ H _ I h=>qdz I hg hm ⟨v,H,I,r,h⟩ hd
theorem qjb {x:Str} {v:V} {u:Value} {pos:Pos} (hg:Gl X x) (hm:X.mg x=none) (hv:bootBuiltins x=some u) (r:RelV v u) (hn:x≠"__name__" := by decide) (hd:(x == ("__debug__" : Str))=false:=by decide):PE X (.Name x pos) (tC v):=
 fun _ _ _ H _ I h=>qbs I hg hm hv ⟨v,H,I,r,h⟩ hn hd
variable {a b:Expr} {ta tb:TE} {pos:Pos}
variable {tA tB':TT} {rest:List Expr}
def qnG (t u:TT):TT:=fun σ H Q=>t σ H fun c H1=>if c=true then u σ H1 Q else Q false H1
def tOr (t u:TT):TT:=fun σ H Q=>t σ H fun c H1=>if c=true then Q true H1 else u σ H1 Q
def qnC (t:TT):TT:=fun σ H Q=>t σ H fun c H1=>Q (!c) H1
theorem qiT (ha:PT X a tA):PW X (.BoolOp .And [a] pos) tA:=by
 intro wh pins s σ H Q I h
 refine isTrue_and (thn (ha pins s σ H Q I h) fun c s1 e=>?_)
 cases c with
 | true=>exact isTrue_and_nil e
 | false=>exact e
theorem qkL (ha:PT X a tA):PW X (.BoolOp .Or [a] pos) tA:=by
 intro wh pins s σ H Q I h
 refine isTrue_or (thn (ha pins s σ H Q I h) fun c s1 e=>?_)
 cases c with
 | false=>exact isTrue_or_nil e
 | true=>exact e
theorem qkM (ha:PT X a tA) (hb:PW X (.BoolOp .And (b :: rest) pos) tB'):PW X (.BoolOp .And (a :: b :: rest) pos) (qnG tA tB'):=by
 intro wh pins s σ H Q I h
 refine isTrue_and (thn (ha pins s σ H _ I h) fun c s1 ⟨H1,I1,q1⟩=>?_)
 cases c with
 | true=>exact hb wh pins s1 σ H1 Q I1 q1
 | false=>exact ⟨H1,I1,q1⟩
theorem qmL (ha:PT X a tA) (hb:PW X (.BoolOp .Or (b :: rest) pos) tB'):PW X (.BoolOp .Or (a :: b :: rest) pos) (tOr tA tB'):=by
 intro wh pins s σ H Q I h
 refine isTrue_or (thn (ha pins s σ H _ I h) fun c s1 ⟨H1,I1,q1⟩=>?_)
 cases c with
 | true=>exact ⟨H1,I1,q1⟩
 | false=>exact hb wh pins s1 σ H1 Q I1 q1
theorem qkN (ha:PT X a tA):PT X (.UnaryOp .Not a pos) (qnC tA):=by
 intro pins s σ H Q I h
 exact isTrue_not (ha pins s σ H (fun c H1=>Q (!c) H1) I h)
theorem qkZ {op} {t:TE} (h:PE X a t):PE X (.BoolOp op [a] pos) t:=fun pins s σ H Q I hw=>BoolOp_one (h pins s σ H Q I hw)
def tIf (t:TT) (ta tb:TE):TE:=fun σ H Q=>t σ H fun c H1=>if c=true then ta σ H1 Q else tb σ H1 Q
theorem qgU {c:Expr} (hc:PT X c tA) (ha:PE X a ta) (hb:PE X b tb):PE X (.IfExp c a b pos) (tIf tA ta tb):=by
 intro pins s σ H Q I h
 refine wpAny_IfExp (thn (hc pins s σ H _ I h) fun d s1 ⟨H1,I1,q1⟩=>?_)
 cases d with
 | true=>exact ha pins s1 σ H1 Q I1 q1
 | false=>exact hb pins s1 σ H1 Q I1 q1
end
end L2
namespace L2
open PySem PySem.Spec PyProof.Rows
def SqL (K:PySem.W.Frag) (H:Hp) (a:Addr) (xs:List V):Prop:=
 Rd H a (.lst xs) ∨
  ∃ (o:Obj) (its:Array Value) (n:Nat),K.lookup a=some o/\o.cls = .type "list"/\o.dict=none/\o.data = .seq its n/\its.size<=sizeLine/\Vals xs its.toList
def SqT (K:PySem.W.Frag) (H:Hp) (a:Addr) (xs:List V):Prop:=
 Rd H a (.tup xs) ∨
  ∃ (o:Obj) (its:Array Value) (n:Nat),K.lookup a=some o/\o.cls = .type "tuple"/\o.data = .seq its n/\its.size<=sizeLine/\Vals xs its.toList
def qn3:Value->Option V
 | .none=>some .non
 | .bool b=>some (.bl b)
 | .int i _=>some (.int i)
 | .str x _=>some (.str x)
 | .bytes b _=>some (.byt b)
 | .float b _=>some (.flt b)
 | .ref a=>some (.ref a)
 | .type n=>some (.ty n)
 | _=>none
theorem RelV.abs {x:V} {u:Value} (r:RelV x u):qn3 u=some x:=by
 cases x with
 | non=>cases r;rfl
 | bl _=>cases r;rfl
 | int _=>obtain ⟨t,rfl⟩:=r;rfl
 | str _=>obtain ⟨t,rfl⟩:=r;rfl
 | byt _=>obtain ⟨t,rfl⟩:=r;rfl
 | flt _=>obtain ⟨t,rfl⟩:=r;rfl
 | ref _=>cases r;rfl
 | ty _=>cases r;rfl
theorem RelV.inj {x y:V} {u:Value} (r:RelV x u) (q:RelV y u):x=y:=oI_ (r.abs.symm.trans q.abs)
theorem Vals.inj:∀ {xs ys:List V} {us:List Value},Vals xs us->Vals ys us->xs=ys
 | _,_,_,.nil,.nil=>rfl
 | _,_,_,.cons r t,.cons r' t'=>by rw [r.inj r',Vals.inj t t']
section
variable {X:Cx} {pins:List (Addr×Obj)} {σ:St} {H:Hp} {s:Shared} {a:Addr} {xs ys:List V}
theorem SqL.of {K:PySem.W.Frag} (h:H a=some (.lst xs)):SqL K H a xs:=.inl (.inl h)
theorem SqT.of {K:PySem.W.Frag} (h:H a=some (.tup xs)):SqT K H a xs:=.inl (.inl h)
theorem Inv.list (I:Inv X pins σ H s) (h:SqL X.K H a xs):∃ its:List Value,Vals xs its/\PlainL s.heap a its.toArray/\xs.length<=sizeLine:=by
 rcases h with h | ⟨o,its,n,hk,hc,hd,hs,hz,r⟩
 ·obtain ⟨z,its,n,r,e⟩:=h.ok I.hok
  exact ⟨its,r,⟨_,n,e,rfl,rfl,rfl⟩,z⟩
 ·refine ⟨its.toList,r,⟨o,n,I.kIn a o hk,hc,hd,by simpa using hs⟩,?_⟩
  have e:=r.length
  simp only [Array.length_toList] at e
  omega
theorem Inv.tuple (I:Inv X pins σ H s) (h:SqT X.K H a xs):∃ its:List Value,Vals xs its/\IsTup s.heap a its.toArray/\xs.length<=sizeLine:=by
 rcases h with h | ⟨o,its,n,hk,hc,hs,hz,r⟩
 ·obtain ⟨z,its,r,p⟩:=h.ok I.hok
  exact ⟨its,r,p,z⟩
 ·refine ⟨its.toList,r,⟨o,I.kIn a o hk,hc,n,by simpa using hs⟩,?_⟩
  have e:=r.length
  simp only [Array.length_toList] at e
  omega
theorem Inv.list_inj (I:Inv X pins σ H s) (h:SqL X.K H a xs) (h':SqL X.K H a ys):xs=ys:=by
 obtain ⟨its,r,⟨o,n,e,_,_,d⟩,_⟩:=I.list h
 obtain ⟨its',r',⟨o',n',e',_,_,d'⟩,_⟩:=I.list h'
 rw [e] at e';cases e'
 rw [d] at d'
 injection d' with d1 _
 have:its=its':=by simpa using congrArg Array.toList d1
 subst this
 exact r.inj r'
theorem Inv.tuple_inj (I:Inv X pins σ H s) (h:SqT X.K H a xs) (h':SqT X.K H a ys):xs=ys:=by
 obtain ⟨its,r,⟨o,e,_,n,d⟩,_⟩:=I.tuple h
 obtain ⟨its',r',⟨o',e',_,n',d'⟩,_⟩:=I.tuple h'
 rw [e] at e';cases e'
 rw [d] at d'
 injection d' with d1 _
 have:its=its':=by simpa using congrArg Array.toList d1
 subst this
 exact r.inj r'
end
abbrev Cx.wish (X:Cx) (E:Value->Shared->Prop):Cx:={ X with xe:=E }
abbrev Cx.nox (X:Cx):Cx:=X.wish fun _ _=>False
theorem Cx.Ok.wish {X:Cx} (ok:X.Ok) (E:Value->Shared->Prop):(X.wish E).Ok:=
 ⟨ok.mod,ok.kind,ok.glob,ok.blt,ok.above,ok.inj,ok.has,ok.cab,ok.hd,ok.frames,ok.stk,ok.exf,ok.bs,ok.bsz,ok.noex,ok.exfs,ok.funs,ok.frf⟩
theorem Cx.Ok.unwish {X:Cx} {E:Value->Shared->Prop} (ok:(X.wish E).Ok):X.Ok:=
 ⟨ok.mod,ok.kind,ok.glob,ok.blt,ok.above,ok.inj,ok.has,ok.cab,ok.hd,ok.frames,ok.stk,ok.exf,ok.bs,ok.bsz,ok.noex,ok.exfs,ok.funs,ok.frf⟩
section
variable {X:Cx} {pins:List (Addr×Obj)} {σ:St} {H:Hp} {s:Shared} {E:Value->Shared->Prop}
theorem Inv.wish (I:Inv X pins σ H s) (E:Value->Shared->Prop):Inv (X.wish E) pins σ H s:=⟨I.ok.wish E,I.os,I.bare,I.base,I.loc,I.cell,I.free,I.freeC,I.pin,I.hok,I.len⟩
theorem Inv.unwish (I:Inv (X.wish E) pins σ H s):Inv X pins σ H s:=⟨I.ok.unwish,I.os,I.bare,I.base,I.loc,I.cell,I.free,I.freeC,I.pin,I.hok,I.len⟩
theorem SP.unwish {D:Ends} {f:Flow} {s':Shared} (h:SP (X.wish E) pins D f s'):SP X pins D f s':=by
 cases f with
 | next=>obtain ⟨σ',H',I,q⟩:=h;exact ⟨σ',H',I.unwish,q⟩
 | brk=>obtain ⟨σ',H',I,q⟩:=h;exact ⟨σ',H',I.unwish,q⟩
 | cont=>obtain ⟨σ',H',I,q⟩:=h;exact ⟨σ',H',I.unwish,q⟩
 | ret u=>obtain ⟨v,σ',H',I,r,q⟩:=h;exact ⟨v,σ',H',I.unwish,r,q⟩
theorem PE.nox {e:Expr} {t:TE} (h:PE X.nox e t):PE X e t:=fun pins s σ H Q I hw=>
 wpAny_mono (h pins s σ H Q (I.wish _) hw) (fun _ _ ⟨v,H',I',r,q⟩=>⟨v,H',I'.unwish,r,q⟩) fun _ _ z=>False.elim z
theorem PSs.nox {st:List Stmt} {t:TS} (h:PSs X.nox st t):PSs X st t:=fun pins s σ H D I hw=>
 wpAny_mono (h pins s σ H D (I.wish _) hw) (fun _ _ q=>q.unwish) fun _ _ z=>False.elim z
end
section
variable {X:Cx} {st:Stmt} {rest:List Stmt} {t u:TS} {e:Expr} {te:TE} {pos:Pos}
def qaS:TS:=fun D σ H=>D.nx σ H
def qgr (t u:TS):TS:=fun D σ H=>t { D with nx:=u D } σ H
theorem qiW:PSs X [] qaS:=fun _ _ σ H _ I h=>wpAny_execs_nil ⟨σ,H,I,h⟩
theorem qd2 (h1:PS X st t) (h2:PSs X rest u):PSs X (st :: rest) (qgr t u):=by
 intro pins s σ H D I h
 refine wpAny_execs_cons (thn (h1 pins s σ H { D with nx:=u D } I h) fun f s1 q=>?_)
 cases f with
 | next=>
  obtain ⟨σ',H',I',q⟩:=q
  exact h2 pins s1 σ' H' D I' q
 | ret v=>exact q
 | brk=>exact q
 | cont=>exact q
theorem qdt (h1:PS X st t):PSs X [st] t:=by
 intro pins s σ H D I h
 refine wpAny_execs_cons (thn (h1 pins s σ H D I h) fun f s1 q=>?_)
 cases f with
 | next=>exact wpAny_execs_nil q
 | ret v=>exact q
 | brk=>exact q
 | cont=>exact q
theorem Inv.quiet {pins:List (Addr×Obj)} {σ:St} {H:Hp} {s:Shared} (I:Inv X pins σ H s):interactive X.env=false:=by simp [interactive,I.ok.kind]
def qkl (te:TE):TS:=fun D σ H=>te σ H fun _ H1=>D.nx σ H1
theorem qiX (he:PE X e te) (hs:swapsWith e none pos.line X.env=pure false:=by rfl):PS X (.Expr e pos) (qkl te):=by
 intro pins s σ H D I h
 exact wpAny_Expr_any (thn (he pins s σ H _ I h) fun v s1 ⟨x,H1,I1,r1,q1⟩=>⟨σ,H1,I1,q1⟩) I.quiet hs
def qnA (te:TE):TS:=fun D σ H=>te σ H D.rt
theorem qhG (he:PE X e te):PS X (.Return (some e) pos) (qnA te):=by
 intro pins s σ H D I h
 exact wpAny_Return_some (thn (he pins s σ H _ I h) fun v s1 ⟨x,H1,I1,r1,q1⟩=>⟨x,σ,H1,I1,r1,q1⟩)
def qkk (c:TT) (t u:TS):TS:=fun D σ H=>c σ H fun b H1=>if b=true then t D σ H1 else u D σ H1
theorem qmM {c:Expr} {a b:List Stmt} {tc:TT} (hc:PT X c tc) (ha:PSs X a t) (hb:PSs X b u):PS X (.If c a b pos) (qkk tc t u):=by
 intro pins s σ H D I h
 refine wpAny_If (thn (hc pins s σ H _ I h) fun d s1 ⟨H1,I1,q1⟩=>?_)
 cases d with
 | true=>exact ha pins s1 σ H1 D I1 q1
 | false=>exact hb pins s1 σ H1 D I1 q1
end
abbrev TG:=V->St->Hp->(St->Hp->Prop)->Prop
abbrev TGs:=List V->St->Hp->(St->Hp->Prop)->Prop
def PG (X:Cx) (target:Expr) (t:TG):Prop:=
 ∀ (pins:List (Addr×Obj)) (s:Shared) (σ:St) (H:Hp) (v:V) (u:Value) (Q:St->Hp->Prop),Inv X pins σ H s->RelV v u->t v σ H Q →
  wpAny (model X.prog X.w) X.A (assign target X.env u) (fun _ s'=>∃ σ' H',Inv X pins σ' H' s'/\Q σ' H') X.xe s
def PGs (X:Cx) (ts:List Expr) (t:TGs):Prop:=
 ∀ (pins:List (Addr×Obj)) (s:Shared) (σ:St) (H:Hp) (vs:List V) (us:List Value) (Q:St->Hp->Prop),Inv X pins σ H s->Vals vs us->t vs σ H Q →
  wpAny (model X.prog X.w) X.A (assignInOrder ((assignEach ts X.env).map (·.2)) us) (fun _ s'=>∃ σ' H',Inv X pins σ' H' s'/\Q σ' H') X.xe s
abbrev qnd:=V->V->V->Hp->(Hp->Prop)->Prop
def qmi (X:Cx) (t:qnd):Prop:=
 ∀ (pins:List (Addr×Obj)) (s:Shared) (σ:St) (H:Hp) (o i v:V) (ov iv u:Value) (Q:Hp->Prop),Inv X pins σ H s->RelV o ov->RelV i iv->RelV v u->t o i v H Q →
  wpAny (model X.prog X.w) X.A (setItem ov iv u) (fun _ s'=>∃ H',Inv X pins σ H' s'/\Q H') X.xe s
abbrev TIp:=V->V->Hp->VK->Prop
def PIp (X:Cx) (op:Operator) (t:TIp):Prop:=
 ∀ (pins:List (Addr×Obj)) (s:Shared) (σ:St) (H:Hp) (x y:V) (v u:Value) (Q:VK),Inv X pins σ H s->RelV x v->RelV y u->t x y H Q →
  wpAny (model X.prog X.w) X.A (inplaceOp op v u) (EP X pins σ Q) X.xe s
section
variable {X:Cx} {pos:Pos}
def qah (i:Nat):TG:=fun v σ H Q=>Q (σ.set i (some v)) H
theorem qi2 {i:Nat} {x:Str} (hN:X.N.Nodup) (hi:X.N[i]? = some x) (hx:Loc X.env.scope x) (hf:X.fn x=true\/X.env.scope.names.lookup x=some .local:=by first | exact .inl rfl | exact .inr rfl | assumption):PG X (.Name x pos) (qah i):=by
 intro pins s σ H v u Q I r h
 exact wpAny_assign_Name (qbC I hN hi hx r (fun s' I'=>⟨_,H,I',h⟩) hf)
def qn0:TGs:=fun vs σ H Q=>vs=[]/\Q σ H
def qm0 (t:TG) (u:TGs):TGs:=fun vs σ H Q=>∃ v r,vs=v :: r/\t v σ H fun σ' H'=>u r σ' H' Q
theorem qi1:PGs X [] qn0:=by
 intro pins s σ H vs us Q I r h
 obtain ⟨e,h⟩:=h
 subst e
 cases r
 exact assignInOrder_nil ⟨σ,H,I,h⟩
theorem qgR {e:Expr} {es:List Expr} {t:TG} {u:TGs} (h1:PG X e t) (h2:PGs X es u)
  (hs:(assignEach (e :: es) X.env).map (·.2)=assign e X.env :: (assignEach es X.env).map (·.2):=by rfl):PGs X (e :: es) (qm0 t u):=by
 intro pins s σ H vs us Q I r h
 obtain ⟨v,vr,e1,h⟩:=h
 subst e1
 cases r with
 | cons r rr=>
  rw [hs]
  refine assignInOrder_cons (thn (h1 pins s σ H _ _ _ I r h) fun _ s1 ⟨σ1,H1,I1,q1⟩=>?_)
  exact h2 pins s1 σ1 H1 _ _ Q I1 rr q1
def qnZ (K:PySem.W.Frag) (n:Nat) (t:TGs):TG:=fun v σ H Q=>∃ a xs,v = .ref a/\SqT K H a xs/\xs.length=n/\t xs σ H Q
theorem qkT {es:List Expr} {k:Nat} {t:TGs} {n:Nat} (hc:X.calm=true) (h:PGs X es t)
  (hn:(assignEach es X.env).length=n:=by rfl) (hst:(assignEach es X.env).findIdx? (·.1)=none:=by rfl):PG X (.Tuple es k pos) (qnZ X.K n t):=by
 intro pins s σ H v u Q I r hw
 obtain ⟨a,xs,e1,hq,hl,hw⟩:=hw
 subst e1
 cases r
 obtain ⟨its,rv,ht,hz⟩:=I.tuple hq
 refine assign_Tuple_tuple (I.ok.hd hc) ht (by simp [hn,<-hl,rv.length]) hst fun h' hx=>?_
 have I1:Inv X pins σ H { s with heap:=h' }:=I.kept (t':=s.toks) fun b o e=>hx b o (Nat.ne_of_lt (Heap.lt_size e)) e
 exact h pins _ σ H xs _ Q I1 (by simpa using rv) hw
def qnu (to ti:TE) (t:qnd):TG:=fun v σ H Q=>to σ H fun o H1=>ti σ H1 fun i H2=>t o i v H2 fun H3=>Q σ H3
theorem qkU {o i:Expr} {to ti:TE} {t:qnd} (ho:PE X o to) (hi:PE X i ti) (hs:qmi X t)
  (ha:∀ v,assign (.Subscript o i pos) X.env v=(do
   let ov <-holding [v] (eval o X.env)
   let iv <-holding [v,ov] (eval i X.env)
   standAt pos
   holding [v,ov,iv] (setItem ov iv v)
   release [v,ov,iv] []):=by intro _;rfl):PG X (.Subscript o i pos) (qnu to ti t):=by
 intro pins s σ H v u Q I r h
 rw [ha]
 refine wpAny_bind (wpAny_holding (thn (ho pins s σ H _ I h) fun ov s1 ⟨x,H1,I1,r1,q1⟩=>?_))
 refine wpAny_bind (wpAny_holding (thn (hi pins s1 σ H1 _ I1 q1) fun iv s2 ⟨y,H2,I2,r2,q2⟩=>?_))
 refine wpAny_bind (wpAny_standAt (wpAny_bind (wpAny_holding (thn (hs pins s2 σ H2 x y v ov iv u _ I2 r1 r2 r q2) fun _ s3 ⟨H3,I3,q3⟩=>?_))))
 exact wpAny_release ⟨σ,H3,I3,q3⟩
def qj9 (te:TE) (g:TG):TS:=fun D σ H=>te σ H fun x H1=>g x σ H1 D.nx
theorem qkQ {tg e:Expr} {te:TE} {g:TG} (he:PE X e te) (hg:PG X tg g) (hs:swapsWithSole [tg] e pos.line X.env=pure false:=by rfl) (hw:swappedStores [tg] e X.env=pure none:=by rfl)
  (h1:(assignEach [tg] X.env).map (·.2)=[assign tg X.env]:=by rfl):PS X (.Assign [tg] e pos) (qj9 te g):=by
 intro pins s σ H D I h
 refine wpAny_Assign_stores (thn (he pins s σ H _ I h) fun v s1 ⟨x,H1,I1,r1,q1⟩=>?_) hs hw
 rw [h1]
 exact thn (hg pins s1 σ H1 x v _ I1 r1 q1) fun _ s2 q=>q
def qnF (i:Nat) (te:TE) (ti:TIp):TS:=fun D σ H=>∃ x,σ[i]? = some (some x)/\te σ H fun y H1=>ti x y H1 fun z H2=>D.nx (σ.set i (some z)) H2
theorem qkP {i:Nat} {x:Str} {e:Expr} {te:TE} {op:Operator} {ti:TIp} {pos':Pos} (hN:X.N.Nodup) (hi:X.N[i]? = some x) (hx:Loc X.env.scope x) (he:PE X e te) (ho:PIp X op ti) (hf:X.fn x=true\/X.env.scope.names.lookup x=some .local:=by first | exact .inl rfl | exact .inr rfl | assumption) :
  PS X (.AugAssign (.Name x pos') op e pos) (qnF i te ti):=by
 intro pins s σ H D I h
 obtain ⟨v,e1,h⟩:=h
 obtain ⟨m,hn,hl⟩:=I.loc
 have vis:Vis X.env.scope x:=by rcases hx with k | k;exact .inl k;exact .inr (.inl k)
 obtain ⟨u,r,l⟩:=hl i x v hi e1 vis
 refine wpAny_AugAssign_Name ?_
 have go:wpAny (model X.prog X.w) X.A (eval e X.env) (fun w s₂=>wpAny (model X.prog X.w) X.A (inplaceOp op u w) (fun r s₃=>wpAny (model X.prog X.w) X.A (storeName X.env x r) (fun _=>SP X pins D .next) X.xe s₃) X.xe s₂) X.xe s:=by
  refine thn (he pins s σ H _ I h) fun w s1 ⟨y,H1,I1,r1,q1⟩=>?_
  refine thn (ho pins s1 σ H1 v y u w _ I1 r r1 q1) fun z s2 ⟨zv,H2,I2,r2,q2⟩=>?_
  exact qbC I2 hN hi hx r2 (fun s3 I3=>⟨_,H2,I3,q2⟩) hf
 rcases l with ⟨hk,hm⟩ | ⟨hk,c,hc,hcell⟩
 ·exact wpAny_loadName_local I.ok.kind hk hn hm go
 ·rcases hk with hk | hk
  ·exact wpAny_loadName_cell I.ok.kind hk hc hcell go
  ·rcases hx with k | k
   ·have:X.env.scope.names.lookup x=some .free:=hk
    rw [k] at this;cases this
   ·have:X.env.scope.names.lookup x=some .free:=hk
    rw [k] at this;cases this
def ipI (f:Int->Int->Int):TIp:=fun x y H Q=>∃ i j,x = .int i/\y = .int j/\Q (.int (f i j)) H
theorem qlK:PIp X .Add (ipI fun i j=>i+j):=by
 intro pins s σ H x y v u Q I r1 r2 h
 obtain ⟨i,j,e1,e2,q⟩:=h
 subst e1;subst e2
 obtain ⟨t,rfl⟩:=r1
 obtain ⟨t',rfl⟩:=r2
 exact iadd_int ⟨.int _,H,I.tok _,⟨_,rfl⟩,q⟩
end
section
variable {X:Cx} {pos:Pos}
def qhw (c:TT) (tb:TS):TS:=fun D σ H=>∃ W:Nat->St->Hp->Prop,(∃ m,W m σ H)/\∀ m σ H,W m σ H →
 c σ H fun b H1=>if b=true then ∃ N:St->Hp->Prop,(∀ σ' H',N σ' H'->∃ m',m' < m/\W m' σ' H')/\tb { D with nx:=N,ct:=N,bk:=D.nx } σ H1 else D.nx σ H1
theorem qgN {c:Expr} {body:List Stmt} {tc:TT} {tb:TS} (hp:PassesOwn (model X.prog X.w) X.A X.env X.xe) (hc:PT X c tc) (hb:PSs X body tb):PS X (.While c body [] pos) (qhw tc tb):=by
 intro pins s σ H D I h
 obtain ⟨W,⟨m0,w0⟩,turn⟩:=h
 refine wpAny_While (codeAny_whileLoop (fun n s'=>∃ σ' H',Inv X pins σ' H' s'/\W n σ' H') ?_ m0 ⟨σ,H,I,w0⟩)
 rintro n s1 ⟨σ1,H1,I1,w1⟩
 refine wpAny_passesOwn hp (thn (hc pins s1 σ1 H1 _ I1 (turn n σ1 H1 w1)) fun b s2 ⟨H2,I2,q2⟩=>?_)
 cases b with
 | true=>
  obtain ⟨N,hN,q2⟩:=q2
  rw [if_pos rfl]
  refine wpAny_passesOwn hp (thn (hb pins s2 σ1 H2 _ I2 q2) fun f s3 q3=>?_)
  cases f with
  | next=>
   obtain ⟨σ3,H3,I3,n3⟩:=q3
   obtain ⟨m',hm,w3⟩:=hN σ3 H3 n3
   exact ⟨m',hm,σ3,H3,I3,w3⟩
  | cont=>
   obtain ⟨σ3,H3,I3,n3⟩:=q3
   obtain ⟨m',hm,w3⟩:=hN σ3 H3 n3
   exact ⟨m',hm,σ3,H3,I3,w3⟩
  | brk=>exact q3
  | ret v=>exact q3
 | false=>
  rw [if_neg Bool.false_ne_true]
  exact wpAny_execs_nil ⟨σ1,H2,I2,q2⟩
end
structure It where
 go:Nat->Hp->Prop
 yld:Nat->Hp->V->Hp->Prop
 stop:Nat->Hp->Prop
def qdK (X:Cx) (pins:List (Addr×Obj)) (H:Hp) (b:Addr):Prop:=
 H b=none/\b≠X.env.locals/\b ∉ X.fs/\(b∈X.ex\/X.s₀.heap.objs.size<=b)/\(∀ x c,X.env.cells.lookup x=some c->c≠b)/\∀ p∈X.pn++pins,p.1≠b
theorem Inv.fpOk {X:Cx} {pins:List (Addr×Obj)} {σ:St} {H H':Hp} {s:Shared} {b:Addr} (I:Inv X pins σ H s) (hb:s.heap.objs.size<=b) (hn:H' b=none):qdK X pins H' b:=by
 refine ⟨hn,Nat.ne_of_gt (Nat.lt_of_lt_of_le I.lt hb),I.nofs hb,.inr (Nat.le_trans I.sz hb),fun x c e z=>?_,fun p hp z=>?_⟩
 ·obtain ⟨v,q⟩:=I.cell x c e
  exact absurd (Nat.lt_of_lt_of_le q.lt (by rw [z];exact hb)) (Nat.lt_irrefl _)
 ·exact absurd (Nat.lt_of_lt_of_le (Heap.lt_size (I.pin p hp).1) (by rw [z];exact hb)) (Nat.lt_irrefl _)
structure Turn (P:Program) (w:World) (K:PySem.W.Frag) (tg:Expr) (J:It) (fp:List Addr) (it:Addr) (tn:Nat->Heap->Prop):Prop where
 mem:it∈fp
 obj:∀ i h,tn i h->∀ b∈fp,∃ o,h.get? b=some o/\∀ v,o.data≠.cell v
 keep:∀ i h h',tn i h->(∀ b∈fp,∀ o,h.get? b=some o->h'.get? b=some o)->tn i h'
 item:∀ (X:Cx),X.prog=P->X.w=w->X.K=K->X.calm=true->∀ (i:Nat) (pins:List (Addr×Obj)) (s:Shared) (σ:St) (H:Hp) (E:Value->Shared->Prop),Inv X pins σ H s->(∀ b∈fp,qdK X pins H b)->tn i s.heap->J.go i H →
  wpAny (model P w) X.A (pyNext (.ref it)) (fun r s1=>∃ u,r=some u ∧
   wpAny (model P w) X.A (letOwnedTupleGo tg (.ref it) u) (fun _ s2=>∃ x H',Inv X pins σ H' s2/\RelV x u/\J.yld i H x H'/\tn (i+1) s2.heap/\∀ b∈fp,H' b=none) E s1) E s
 done:∀ (X:Cx),X.prog=P->X.w=w->X.K=K->X.calm=true->∀ (i:Nat) (pins:List (Addr×Obj)) (s:Shared) (σ:St) (H:Hp) (E:Value->Shared->Prop),Inv X pins σ H s->(∀ b∈fp,qdK X pins H b)->tn i s.heap->J.stop i H →
  wpAny (model P w) X.A (pyNext (.ref it)) (fun r s1=>r=none/\Inv X pins σ H s1) E s
 self:∀ (A:Around) (i:Nat) (s:Shared) (Q:Value->Shared->Prop) (E:Value->Shared->Prop),tn i s.heap->Q (.ref it) s->wpAny (model P w) A (pyIter (.ref it)) Q E s
abbrev TI:=St->Hp->(It->Hp->Prop)->Prop
def PIE (X:Cx) (pins:List (Addr×Obj)) (σ:St) (tg:Expr) (R:It->Hp->Prop) (itv:Value) (s2:Shared):Prop:=
 ∃ (it:Addr) (fp:List Addr) (tn:Nat->Heap->Prop) (J:It) (H':Hp),itv = .ref it/\Inv X pins σ H' s2/\Turn X.prog X.w X.K tg J fp it tn/\tn 0 s2.heap/\(∀ b∈fp,qdK X pins H' b)/\R J H'
def PI (X:Cx) (tg iter:Expr) (wi:TI):Prop:=
 ∀ (pins:List (Addr×Obj)) (s:Shared) (σ:St) (H:Hp) (R:It->Hp->Prop),Inv X pins σ H s->wi σ H R →
  wpAny (model X.prog X.w) X.A (eval iter X.env) (fun v s1=>wpAny (model X.prog X.w) X.A (pyIter v) (PIE X pins σ tg R) X.xe s1) X.xe s
theorem qfV {M:Model} {A:Around} {E:Value->Shared->Prop} {s:Shared} {tg:Expr} {it:Addr} {u:Value} {o:Obj} {n:String} {vs:Array Value} {Q:Unit->Shared->Prop} (ho:s.heap.get? it=some o) (hc:o.cls = .type n) (hd:o.data = .fields vs)
  (hn:["enumerate","zip","dict_itemiterator","dict_reverseitemiterator","odict_iterator","itertools.zip_longest","itertools.pairwise"].contains n=false) (hQ:Q () s):wpAny M A (letOwnedTupleGo tg (.ref it) u) Q E s:=by
 unfold letOwnedTupleGo
 cases tg<;>first
  | exact wpAny_pure hQ
  | (cases u<;>first
    | exact wpAny_pure hQ
    | (refine wpAny_bind (wpAny_load ho ?_)
       rw [hc,hd]
       show wpAny M A (if (["enumerate","zip","dict_itemiterator","dict_reverseitemiterator","odict_iterator","itertools.zip_longest","itertools.pairwise"].contains n && vs[0]? == some (rawInt _))=true then _ else _) Q E s
       rw [if_neg (by intro h;rw [hn,Bool.false_and] at h;cases h)]
       exact wpAny_pure hQ))
def Itl (K:PySem.W.Frag) (a:Addr):It:=
 ⟨fun i H=>∃ xs x,SqL K H a xs/\xs[i]? = some x,fun i H x H'=>H'=H/\∀ xs,SqL K H a xs->xs[i]? = some x,fun i H=>∃ xs,SqL K H a xs/\xs.length<=i⟩
def Itt (K:PySem.W.Frag) (a:Addr):It:=
 ⟨fun i H=>∃ xs x,SqT K H a xs/\xs[i]? = some x,fun i H x H'=>H'=H/\∀ xs,SqT K H a xs->xs[i]? = some x,fun i H=>∃ xs,SqT K H a xs/\xs.length<=i⟩
def Itr (lo:Int) (n:Nat):It:=⟨fun i _=>i < n,fun i H x H'=>H'=H/\x = .int (lo+i),fun i _=>n<=i⟩
theorem qcJ {P:Program} {w:World} {K:PySem.W.Frag} {tg:Expr} (a it:Addr):Turn P w K tg (Itl K a) [it] it (fun i h=>h.IsListIter it a i) where
 mem:=by simp
 obj:=fun i h st b hb=>by
  have e:b=it:=by simpa using hb
  subst e
  obtain ⟨o,e,c,d⟩:=st
  exact ⟨o,e,fun v z=>by rw [d] at z;cases z⟩
 keep:=fun i h h' st k=>st.at fun o e=>k it (by simp) o e
 item:=by
  intro X hP hw hK hc i pins s σ H E I hf st hg
  subst hP hw hK
  obtain ⟨xs,x,hq,hx⟩:=hg
  obtain ⟨its,rv,p,hz⟩:=I.list hq
  obtain ⟨u,hu,ru⟩:=rv.get hx
  obtain ⟨f0,f1,f2,f3,f4,f5⟩:=hf it (by simp)
  refine wpAny_pyNext_list_item st p.isList (x:=u) (by simpa using hu) fun h' st' sb=>?_
  have I1:Inv X pins σ H { s with heap:=h' }:=I.turned (t':=s.toks) (fun b o hb e=>(sb.2 b hb).trans e) f0 f1 f3 f4 f5
  obtain ⟨o,e,c,d⟩:=id st'
  exact ⟨u,rfl,qfV (s:={ s with heap:=h' }) e c d (by decide) ⟨x,H,I1,ru,⟨rfl,fun ys hy=>by rw [I.list_inj hy hq];exact hx⟩,st',fun b hb=>(hf b hb).1⟩⟩
 done:=by
  intro X hP hw hK hc i pins s σ H E I hf st hg
  subst hP hw hK
  obtain ⟨xs,hq,hx⟩:=hg
  obtain ⟨its,rv,p,hz⟩:=I.list hq
  obtain ⟨f0,f1,f2,f3,f4,f5⟩:=hf it (by simp)
  have hl:=rv.length
  exact wpAny_pyNext_list_end (I.ok.hd hc) st p.isList (by simp;omega) fun h' eb=>⟨rfl,I.turned (t':=s.toks) (fun b o hb e=>eb b o hb e) f0 f1 f3 f4 f5⟩
 self:=fun _ _ _ _ _ st h=>wpAny_pyIter_listiter st h
theorem qeo {P:Program} {w:World} {K:PySem.W.Frag} {tg:Expr} (a it:Addr):Turn P w K tg (Itt K a) [it] it (fun i h=>h.IsTupleIter it a i) where
 mem:=by simp
 obj:=fun i h st b hb=>by
  have e:b=it:=by simpa using hb
  subst e
  obtain ⟨o,e,c,d⟩:=st
  exact ⟨o,e,fun v z=>by rw [d] at z;cases z⟩
 keep:=fun i h h' st k=>st.at fun o e=>k it (by simp) o e
 item:=by
  intro X hP hw hK hc i pins s σ H E I hf st hg
  subst hP hw hK
  obtain ⟨xs,x,hq,hx⟩:=hg
  obtain ⟨its,rv,p,hz⟩:=I.tuple hq
  obtain ⟨u,hu,ru⟩:=rv.get hx
  obtain ⟨f0,f1,f2,f3,f4,f5⟩:=hf it (by simp)
  refine wpAny_pyNext_tuple_item st (show s.heap.IsTuple a its.toArray from p) (x:=u) (by simpa using hu) fun h' st' sb=>?_
  have I1:Inv X pins σ H { s with heap:=h' }:=I.turned (t':=s.toks) (fun b o hb e=>(sb.2 b hb).trans e) f0 f1 f3 f4 f5
  obtain ⟨o,e,c,d⟩:=id st'
  exact ⟨u,rfl,qfV (s:={ s with heap:=h' }) e c d (by decide) ⟨x,H,I1,ru,⟨rfl,fun ys hy=>by rw [I.tuple_inj hy hq];exact hx⟩,st',fun b hb=>(hf b hb).1⟩⟩
 done:=by
  intro X hP hw hK hc i pins s σ H E I hf st hg
  subst hP hw hK
  obtain ⟨xs,hq,hx⟩:=hg
  obtain ⟨its,rv,p,hz⟩:=I.tuple hq
  obtain ⟨f0,f1,f2,f3,f4,f5⟩:=hf it (by simp)
  have hl:=rv.length
  exact wpAny_pyNext_tuple_end (I.ok.hd hc) st (show s.heap.IsTuple a its.toArray from p) (by simp;omega) fun h' eb=>⟨rfl,I.turned (t':=s.toks) (fun b o hb e=>eb b o hb e) f0 f1 f3 f4 f5⟩
 self:=fun _ _ _ _ _ st h=>wpAny_pyIter_tupleiter st h
theorem qep {P:Program} {w:World} {K:PySem.W.Frag} {tg:Expr} (it:Addr) (lo:Int) (n:Nat):Turn P w K tg (Itr lo n) [it] it (fun i h=>IsRangeIter h it (lo+(i:Nat) * 1) ((n:Int) - (i:Nat)) 1) where
 mem:=by simp
 obj:=fun i h st b hb=>by
  have e:b=it:=by simpa using hb
  subst e
  exact ⟨_,st,fun v z=>by
   have z':Data.fields _=Data.cell v:=z
   cases z'⟩
 keep:=fun i h h' st k=>k it (by simp) _ st
 item:=by
  intro X hP hw hK hc i pins s σ H E I hf st hg
  subst hP hw hK
  obtain ⟨f0,f1,f2,f3,f4,f5⟩:=hf it (by simp)
  have W:=Walks.range (prog:=X.prog) (w:=X.w) (I.ok.hd hc) it lo 1 n
  refine W.item i s _ _ hg st fun v h' tk hv st' kk=>?_
  obtain ⟨t,rfl⟩:=hv
  have I1:Inv X pins σ H { s with heap:=h',toks:=tk }:=I.turned (fun b o hb e=>kk b o (by simpa using hb) e) f0 f1 f3 f4 f5
  refine ⟨_,rfl,qfV (s:={ s with heap:=h',toks:=tk }) (n:= "range_iterator") st' rfl rfl (by decide) ⟨.int (lo+i),H,I1,⟨t,?_⟩,⟨rfl,rfl⟩,st',fun b hb=>(hf b hb).1⟩⟩
  rw [Int.mul_one]
 done:=by
  intro X hP hw hK hc i pins s σ H E I hf st hg
  subst hP hw hK
  obtain ⟨f0,f1,f2,f3,f4,f5⟩:=hf it (by simp)
  exact wpAny_pyNext_range_end (I.ok.hd hc) st (by have:n<=i:=hg;omega) fun h' eb=>⟨rfl,I.turned (t':=s.toks) (fun b o hb e=>eb b o hb e) f0 f1 f3 f4 f5⟩
 self:=fun _ _ _ _ _ st h=>wpAny_pyIter_rangeiter st h
end L2
namespace L2
open PySem PySem.Spec PyProof.Rows
section
variable {X:Cx} {tg:Expr}
def qnV (K:PySem.W.Frag) (tl:TE):TI:=fun σ H R=>tl σ H fun x H1=>∃ a,x = .ref a/\(∃ xs,SqT K H1 a xs)/\R (Itt K a) H1
theorem qfv {l:Expr} {tl:TE} (hl:PE X l tl):PI X tg l (qnV X.K tl):=by
 intro pins s σ H R I h
 refine thn (hl pins s σ H _ I h) fun v s1 ⟨x,H1,I1,r1,q1⟩=>?_
 obtain ⟨a,e,⟨xs,hq⟩,q⟩:=q1
 subst e
 cases r1
 obtain ⟨its,rv,p,hz⟩:=I1.tuple hq
 refine wpAny_pyIter_tuple (show s1.heap.IsTuple a its.toArray from p) ?_
 refine ⟨s1.heap.objs.size,[s1.heap.objs.size],_,_,H1,rfl,I1.kept (t':=s1.toks) fun b o e=>Heap.get?_push_of_some _ e,qeo a _,⟨_,Heap.get?_push_size _ rfl,rfl,rfl⟩,fun b hb=>?_,q⟩
 have e:b=s1.heap.objs.size:=by simpa using hb
 subst e
 exact I1.fpOk (Nat.le_refl _) (I1.hok.fresh (Nat.le_refl _))
theorem qgH {pins:List (Addr×Obj)} {σ:St} {H:Hp} {s:Shared} {R:It->Hp->Prop} {E:Value->Shared->Prop} {lo hi:Int} {t u v:Tok} {tk:Nat} (I:Inv X pins σ H s) (h1 : -(2 ^ 62)<=lo) (h2:lo < 2 ^ 62) (h3 : -(2 ^ 62)<=hi) (h4:hi < 2 ^ 62)
  (q:R (Itr lo (hi - lo).toNat) H):wpAny (model X.prog X.w) X.A (pyIter (.ref s.heap.objs.size)) (PIE X pins σ tg R) E { s with heap:=s.heap.push { cls:=.type "range",data:=.fields #[.int lo t,.int hi u,.int 1 v] },toks:=tk }:=by
 refine wpAny_pyIter_range (IsRange.new ..) (small_one h1 h2 h3 h4) ?_
 have I1:Inv X pins σ H { s with heap:=s.heap.push { cls:=.type "range",data:=.fields #[.int lo t,.int hi u,.int 1 v] },toks:=tk }:=I.kept fun b o e=>Heap.get?_push_of_some _ e
 refine ⟨(s.heap.push { cls:=.type "range",data:=.fields #[.int lo t,.int hi u,.int 1 v] }).objs.size,[(s.heap.push { cls:=.type "range",data:=.fields #[.int lo t,.int hi u,.int 1 v] }).objs.size],_,_,H,rfl,
  I1.kept (t':=tk) fun b o e=>Heap.get?_push_of_some _ e,qep _ lo (hi - lo).toNat,?_,fun b hb=>?_,q⟩
 ·have e1:lo+((0:Nat):Int) * 1=lo:=by simp
  have e2:(((hi - lo).toNat:Nat):Int) - ((0:Nat):Int)=Builtin.Range.rangeSize lo hi 1:=by rw [rangeSize_one];split<;>omega
  show IsRangeIter _ _ (lo+((0:Nat):Int) * 1) ((((hi - lo).toNat:Nat):Int) - ((0:Nat):Int)) 1
  rw [e1,e2]
  exact Heap.get?_push_size _ rfl
 ·have e:b=(s.heap.push { cls:=.type "range",data:=.fields #[.int lo t,.int hi u,.int 1 v] }).objs.size:=by simpa using hb
  subst e
  exact I1.fpOk (Nat.le_refl _) (I1.hok.fresh (Nat.le_refl _))
def qni (wi:TI) (g:TG) (tb:TS):TS:=fun D σ H=>wi σ H fun J H1=>∃ W:Nat->Nat->St->Hp->Prop,(∃ m,W 0 m σ H1)/\∀ i m σ H,W i m σ H →
 (J.stop i H/\D.nx σ H)\/(J.go i H/\∃ N:St->Hp->Prop,(∀ σ' H',N σ' H'->∃ m',m' < m/\W (i+1) m' σ' H')/\∀ x H',J.yld i H x H'->g x σ H' fun σ2 H2=>tb { D with nx:=N,ct:=N,bk:=D.nx } σ2 H2)
def qb9 (fp:List Addr) (h:Heap):List (Addr×Obj):=fp.filterMap fun b=>(h.get? b).map fun o=>(b,o)
theorem qaH {fp:List Addr} {h:Heap} {b:Addr} {o:Obj} (hb:b∈fp) (e:h.get? b=some o):(b,o)∈qb9 fp h:=List.mem_filterMap.mpr ⟨b,hb,by rw [e];rfl⟩
theorem qfF {fp:List Addr} {h:Heap} {p:Addr×Obj} (hp:p∈qb9 fp h):p.1∈fp/\h.get? p.1=some p.2:=by
 obtain ⟨b,hb,e⟩:=List.mem_filterMap.mp hp
 cases q:h.get? b with
 | none=>rw [q] at e;cases e
 | some o=>
  rw [q] at e
  have e':(b,o)=p:=oI_ e
  subst e'
  exact ⟨hb,q⟩
theorem Inv.pinned {pins:List (Addr×Obj)} {σ:St} {H:Hp} {s:Shared} {fp:List Addr} (I:Inv X pins σ H s) (hf:∀ b∈fp,qdK X pins H b) (ho:∀ b∈fp,∃ o,s.heap.get? b=some o/\∀ v,o.data≠.cell v):Inv X (pins++qb9 fp s.heap) σ H s:=
 I.pins_of fun p hp=>(mA_ hp).elim (fun z=>I.pin p (List.mem_append_right _ z)) fun z=>by
  obtain ⟨hb,e⟩:=qfF z
  obtain ⟨f0,f1,f2,_⟩:=hf p.1 hb
  obtain ⟨o,e',d⟩:=ho p.1 hb
  rw [e] at e';cases e'
  exact ⟨e,f0,f1,f2,d⟩
theorem Inv.unpinned {pins pl:List (Addr×Obj)} {σ:St} {H:Hp} {s:Shared} (I:Inv X (pins++pl) σ H s):Inv X pins σ H s:=I.pins_of fun p hp=>I.pin p (List.mem_append_right _ (List.mem_append_left _ hp))
theorem qkO {iter:Expr} {body:List Stmt} {wi:TI} {g:TG} {tb:TS} {pos:Pos} (hp:PassesOwn (model X.prog X.w) X.A X.env X.xe) (hc:X.calm=true) (hi:PI X tg iter wi) (hg:PG X tg g) (hb:PSs X body tb)
  (hs:∀ x,foldedSetIterable iter X.env x=pure x:=by intro _;rfl):PS X (.For tg iter body [] pos) (qni wi g tb):=by
 intro pins s σ H D I h
 refine wpAny_For (thn (hi pins s σ H _ I h) fun v s1 h1=>thn h1 fun itv s2 h2=>?_) hs
 obtain ⟨it,fp,tn,J,H2,e,I2,T,st2,f2,W,⟨m0,w0⟩,turn⟩:=h2
 subst e
 have stat:∀ {H':Hp},(∀ b∈fp,H' b=none)->∀ b∈fp,qdK X pins H' b:=fun hn b hb=>⟨hn b hb,(f2 b hb).2⟩
 refine codeAny_forLoop_any (fun n s'=>∃ i σ' H',Inv X pins σ' H' s'/\tn i s'.heap/\(∀ b∈fp,H' b=none)/\W i n σ' H') ?_ m0 ⟨0,σ,H2,I2,st2,fun b hb=>(f2 b hb).1,w0⟩
 rintro n s3 ⟨i,σ3,H3,I3,st3,fr3,w3⟩
 rcases turn i n σ3 H3 w3 with ⟨stop,qn⟩ | ⟨go,N,hN,step⟩
 ·refine wpAny_passesOwn hp (thn (T.done X rfl rfl rfl hc i pins s3 σ3 H3 X.xe I3 (stat fr3) st3 stop) fun r s4 ⟨hr,I4⟩=>?_)
  subst hr
  exact wpAny_execs_nil ⟨σ3,H3,I4,qn⟩
 ·refine wpAny_passesOwn hp (thn (T.item X rfl rfl rfl hc i pins s3 σ3 H3 X.xe I3 (stat fr3) st3 go) fun r s4 ⟨u,hr,h4⟩=>?_)
  subst hr
  refine wpAny_passesOwn hp (thn h4 fun _ s5 ⟨x,H5,I5,r5,y5,st5,fr5⟩=>?_)
  have I5':=I5.pinned (stat fr5) (T.obj _ _ st5)
  refine wpAny_passesOwn hp (thn (hg _ s5 σ3 H5 x u _ I5' r5 (step x H5 y5)) fun _ s6 ⟨σ6,H6,I6,q6⟩=>?_)
  refine wpAny_passesOwn hp (thn (hb _ s6 σ6 H6 _ I6 q6) fun f s7 q7=>?_)
  have again:∀ {σ7:St} {H7:Hp},Inv X (pins++qb9 fp s5.heap) σ7 H7 s7->N σ7 H7->∃ m,m < n/\∃ i σ' H',Inv X pins σ' H' s7/\tn i s7.heap/\(∀ b∈fp,H' b=none)/\W i m σ' H':=fun {σ7 H7} I7 n7=>by
   obtain ⟨m',hm,w7⟩:=hN σ7 H7 n7
   refine ⟨m',hm,i+1,σ7,H7,I7.unpinned,T.keep _ _ _ st5 fun b hb o e=>(I7.pin (b,o) (List.mem_append_right _ (List.mem_append_right _ (qaH hb e)))).1,fun b hb=>?_,w7⟩
   obtain ⟨o,e,d⟩:=T.obj _ _ st5 b hb
   exact (I7.pin (b,o) (List.mem_append_right _ (List.mem_append_right _ (qaH hb e)))).2.1
  cases f with
  | next=>obtain ⟨σ7,H7,I7,n7⟩:=q7;exact again I7 n7
  | cont=>obtain ⟨σ7,H7,I7,n7⟩:=q7;exact again I7 n7
  | brk=>obtain ⟨σ7,H7,I7,q7⟩:=q7;exact ⟨σ7,H7,I7.unpinned,q7⟩
  | ret v=>obtain ⟨x7,σ7,H7,I7,r7,q7⟩:=q7;exact ⟨x7,σ7,H7,I7.unpinned,r7,q7⟩
end
end L2
namespace L2
open PySem PySem.Spec PyProof.Rows
abbrev R2:=V->V->Hp->VK->Prop
def OpR (X:Cx) (f:Value->Value->Sem Value) (r:R2):Prop:=
 ∀ (pins:List (Addr×Obj)) (s:Shared) (σ:St) (H:Hp) (x y:V) (v u:Value) (Q:VK),Inv X pins σ H s->RelV x v->RelV y u->r x y H Q →
  wpAny (model X.prog X.w) X.A (f v u) (EP X pins σ Q) X.xe s
def UnR (X:Cx) (f:Value->Sem Value) (r:V->Hp->VK->Prop):Prop:=
 ∀ (pins:List (Addr×Obj)) (s:Shared) (σ:St) (H:Hp) (x:V) (v:Value) (Q:VK),Inv X pins σ H s->RelV x v->r x H Q →
  wpAny (model X.prog X.w) X.A (f v) (EP X pins σ Q) X.xe s
def CallR (X:Cx) (f:Value) (r:List V->Hp->VK->Prop):Prop:=
 ∀ (pins:List (Addr×Obj)) (s:Shared) (σ:St) (H:Hp) (xs:List V) (us:List Value) (Q:VK),Inv X pins σ H s->Vals xs us->r xs H Q →
  wpAny (model X.prog X.w) X.A (call f us) (EP X pins σ Q) X.xe s
def qn6 (X:Cx) (r:V->Hp->(Bool->Hp->Prop)->Prop):Prop:=
 ∀ (pins:List (Addr×Obj)) (s:Shared) (σ:St) (H:Hp) (x:V) (v:Value) (Q:Bool->Hp->Prop),Inv X pins σ H s->RelV x v->r x H Q →
  wpAny (model X.prog X.w) X.A (truthy v) (TP X pins σ Q) X.xe s
def tOp (r:R2) (ta tb:TE):TE:=fun σ H Q=>ta σ H fun x H1=>tb σ H1 fun y H2=>r x y H2 Q
def tUn (r:V->Hp->VK->Prop) (ta:TE):TE:=fun σ H Q=>ta σ H fun x H1=>r x H1 Q
def rI (C:Int->Int->Prop) (g:Int->Int->V):R2:=fun x y H Q=>∃ i j,x = .int i/\y = .int j/\C i j/\Q (g i j) H
def rI0 (g:Int->Int->V):R2:=fun x y H Q=>∃ i j,x = .int i/\y = .int j/\Q (g i j) H
def rU (g:Int->V):V->Hp->VK->Prop:=fun x H Q=>∃ i,x = .int i/\Q (g i) H
section
variable {X:Cx} {a b c:Expr} {ta tb tc:TE} {pos:Pos}
theorem qnb (ha:PE X a ta) (hb:PE X b tb) {pins:List (Addr×Obj)} {s:Shared} {σ:St} {H:Hp} {R:V->V->Hp->Prop} (I:Inv X pins σ H s)
  (h:ta σ H fun x H1=>tb σ H1 fun y H2=>R x y H2) {Q:Value->Shared->Prop} {f:Value->Value->Sem Value}
  (hf:∀ v u s2 x y H2,Inv X pins σ H2 s2->RelV x v->RelV y u->R x y H2->wpAny (model X.prog X.w) X.A (f v u) Q X.xe s2) :
  wpAny (model X.prog X.w) X.A (eval a X.env) (fun v s₁=>wpAny (model X.prog X.w) X.A (eval b X.env) (fun u s₂=>wpAny (model X.prog X.w) X.A (f v u) Q X.xe s₂) X.xe s₁) X.xe s:=by
 refine thn (ha pins s σ H _ I h) fun v s1 ⟨x,H1,I1,r1,q1⟩=>?_
 refine thn (hb pins s1 σ H1 _ I1 q1) fun u s2 ⟨y,H2,I2,r2,q2⟩=>?_
 exact hf v u s2 x y H2 I2 r1 r2 q2
theorem qkY {op:Operator} {r:R2} (ho:OpR X (binaryOp op) r) (ha:PE X a ta) (hb:PE X b tb):PE X (.BinOp a op b pos) (tOp r ta tb):=by
 intro pins s σ H Q I h
 exact wpAny_BinOp (qnb ha hb I h fun v u s2 x y H2 I2 rx ry q=>ho pins s2 σ H2 x y v u Q I2 rx ry q)
theorem qmO {op:UnaryOp} {r:V->Hp->VK->Prop} (ho:UnR X (unaryOp op) r) (ha:PE X a ta):PE X (.UnaryOp op a pos) (tUn r ta):=by
 intro pins s σ H Q I h
 exact UnaryOp_ (thn (ha pins s σ H _ I h) fun v s1 ⟨x,H1,I1,r1,q1⟩=>ho pins s1 σ H1 x v Q I1 r1 q1)
theorem opI {f:Value->Value->Sem Value} {C:Int->Int->Prop} {g:Int->Int->Int}
  (rule:∀ (i j:Int) (t u:Tok) (s:Shared) (Q:Value->Shared->Prop) (E:Value->Shared->Prop),C i j->Q (.int (g i j) s.toks) { s with toks:=s.toks+1 }->wpAny (model X.prog X.w) X.A (f (.int i t) (.int j u)) Q E s) :
  OpR X f (rI C fun i j=>.int (g i j)):=by
 intro pins s σ H x y v u Q I rx ry h
 obtain ⟨i,j,rfl,rfl,hc,q⟩:=h
 obtain ⟨t,rfl⟩:=rx
 obtain ⟨t',rfl⟩:=ry
 exact rule i j t t' s _ _ hc ⟨.int (g i j),H,I.tok _,⟨_,rfl⟩,q⟩
theorem qmQ {f:Value->Value->Sem Value} {g:Int->Int->Int}
  (rule:∀ (i j:Int) (t u:Tok) (s:Shared) (Q:Value->Shared->Prop) (E:Value->Shared->Prop),Q (.int (g i j) s.toks) { s with toks:=s.toks+1 }->wpAny (model X.prog X.w) X.A (f (.int i t) (.int j u)) Q E s) :
  OpR X f (rI0 fun i j=>.int (g i j)):=by
 intro pins s σ H x y v u Q I rx ry h
 obtain ⟨i,j,rfl,rfl,q⟩:=h
 obtain ⟨t,rfl⟩:=rx
 obtain ⟨t',rfl⟩:=ry
 exact rule i j t t' s _ _ ⟨.int (g i j),H,I.tok _,⟨_,rfl⟩,q⟩
theorem qmf {f:Value->Value->Sem Value} {g:Int->Int->Bool}
  (rule:∀ (i j:Int) (t u:Tok) (s:Shared) (Q:Value->Shared->Prop) (E:Value->Shared->Prop),Q (.bool (g i j)) s->wpAny (model X.prog X.w) X.A (f (.int i t) (.int j u)) Q E s) :
  OpR X f (rI0 fun i j=>.bl (g i j)):=by
 intro pins s σ H x y v u Q I rx ry h
 obtain ⟨i,j,rfl,rfl,q⟩:=h
 obtain ⟨t,rfl⟩:=rx
 obtain ⟨t',rfl⟩:=ry
 exact rule i j t t' s _ _ ⟨.bl (g i j),H,I,rfl,q⟩
def qn8 (i j:Int):Prop:=0 < j/\j < 1073741824
def qnv (i j:Int):Prop:=0<=j/\j<=1000000/\i.natAbs < 2 ^ 64
def CMul (i j:Int):Prop:=(-(2 ^ 64) < i/\i < 2 ^ 64)\/(-(2 ^ 64) < j/\j < 2 ^ 64)
theorem CMul.ok {i j:Int} (h:CMul i j):IntMulOk i j:=by
 rcases h with ⟨h1,h2⟩ | ⟨h1,h2⟩
 ·exact .of_left (intBits_le_64 h1 h2)
 ·exact .of_right (intBits_le_64 h1 h2)
theorem qen (k:Nat):(0:Int)<=2 ^ k:=by
 rw [two_pow_cast]
 exact Int.natCast_nonneg _
theorem op_add:OpR X (binaryOp .Add) (rI0 fun i j=>.int (i+j)):=qmQ fun _ _ _ _ _ _ _ q=>add_int q
theorem op_sub:OpR X (binaryOp .Sub) (rI0 fun i j=>.int (i - j)):=qmQ fun _ _ _ _ _ _ _ q=>sub_int q
theorem op_mul:OpR X (binaryOp .Mult) (rI CMul fun i j=>.int (i * j)):=opI fun _ _ _ _ _ _ _ hc q=>mul_int q hc.ok
theorem op_fdiv:OpR X (binaryOp .FloorDiv) (rI qn8 fun i j=>.int (i / j)):=opI fun i j _ _ _ _ _ hc q=>by
 have h1:(0:Int) < j:=hc.1
 have h2:j < 1073741824:=hc.2
 exact floordiv_int (by omega) (by rw [Int.fdiv_eq_ediv_of_nonneg i (by omega)];exact q) (.inl (PyProof.noPylong_small (by omega)))
theorem op_mod:OpR X (binaryOp .Mod) (rI (fun _ j=>0 < j) fun i j=>.int (i % j)):=opI fun i j _ _ _ _ _ hc q=>by
 have h1:(0:Int) < j:=hc
 exact mod_int' (by omega) (by rw [Int.fmod_eq_emod_of_nonneg i (by omega)];exact q)
theorem op_pow:OpR X (binaryOp .Pow) (rI qnv fun i j=>.int (i ^ j.toNat)):=opI fun _ _ _ _ _ _ _ hc q=>pow_int_small hc.1 hc.2.1 hc.2.2 q
theorem op_shl:OpR X (binaryOp .LShift) (rI qnv fun i j=>.int (i * 2 ^ j.toNat)):=opI fun _ _ _ _ _ _ _ hc q=>lshift_int_small hc.1 hc.2.1 hc.2.2 q
theorem op_shr:OpR X (binaryOp .RShift) (rI (fun _ j=>0<=j) fun i j=>.int (i / 2 ^ j.toNat)):=opI fun i j _ _ _ _ _ hc q=>
 rshift_int hc (by rw [Int.fdiv_eq_ediv_of_nonneg i (qen _)];exact q)
theorem op_and:OpR X (binaryOp .BitAnd) (rI0 fun i j=>.int (Builtin.bitAnd i j)):=qmQ fun _ _ _ _ _ _ _ q=>and_int q
theorem unI {f:Value->Sem Value} {g:Int->Int}
  (rule:∀ (i:Int) (t:Tok) (s:Shared) (Q:Value->Shared->Prop) (E:Value->Shared->Prop),Q (.int (g i) s.toks) { s with toks:=s.toks+1 }->wpAny (model X.prog X.w) X.A (f (.int i t)) Q E s) :
  UnR X f (rU fun i=>.int (g i)):=by
 intro pins s σ H x v Q I rx h
 obtain ⟨i,rfl,q⟩:=h
 obtain ⟨t,rfl⟩:=rx
 exact rule i t s _ _ ⟨.int (g i),H,I.tok _,⟨_,rfl⟩,q⟩
theorem qkd:UnR X (unaryOp .USub) (rU fun i=>.int (-i)):=unI fun _ _ _ _ _ q=>neg_int q
end
def qnk:V->V->Bool
 | .non,.non=>true | .non,.int _=>true | .int _,.non=>true | .non,.bl _=>true | .bl _,.non=>true | .non,.str _=>true | .str _,.non=>true
 | .int _,.int _=>true | .bl _,.bl _=>true | .str _,.str _=>true | .byt _,.byt _=>true
 | .int _,.str _=>true | .str _,.int _=>true | .bl _,.str _=>true | .str _,.bl _=>true
 | _,_=>false
def rEq:R2:=fun x y H Q=>qnk x y=true/\Q (.bl (decide (x=y))) H
def rNe:R2:=fun x y H Q=>qnk x y=true/\Q (.bl (!decide (x=y))) H
theorem qf5 {i j:Int}:decide (V.int i=V.int j)=(i == j):=by
 rw [Bool.eq_iff_iff]
 simp
theorem qhY {i j:Bool}:decide (V.bl i=V.bl j)=(i == j):=by
 rw [Bool.eq_iff_iff]
 simp
theorem qf4 {i j:Str}:decide (V.str i=V.str j)=(i == j):=by
 rw [Bool.eq_iff_iff]
 simp
theorem qf6 {i j:Array UInt8}:decide (V.byt i=V.byt j)=(i.toList == j.toList):=by
 rw [Bool.eq_iff_iff]
 cases i
 cases j
 simp
section
variable {X:Cx} {a b c:Expr} {ta tb tc:TE} {pos:Pos}
theorem qal {pins:List (Addr×Obj)} {σ:St} {H:Hp} {s:Shared} {Q:VK} {k k':Bool} (I:Inv X pins σ H s) (q:Q (.bl k) H) (e:k=k'):EP X pins σ Q (.bool k') s:=by
 subst e
 exact ⟨.bl k,H,I,rfl,q⟩
theorem op_eq:OpR X (compareOp .Eq) rEq:=by
 intro pins s σ H x y v u Q I rx ry h
 obtain ⟨hs,q⟩:=h
 cases x with
 | non=>
  cases rx
  cases y with
  | non=>cases ry;exact PySem.EqNone.eq_none_none (qal I q (by simp))
  | bl j=>cases ry;exact PySem.EqNone.eq_none_bool (qal I q (by simp))
  | int j=>obtain ⟨t',rfl⟩:=ry;exact PySem.EqNone.eq_none_int (qal I q (by simp))
  | str j=>obtain ⟨t',rfl⟩:=ry;exact PySem.EqNone.eq_none_str (qal I q (by simp))
  | _=>exact absurd (show false=true from hs) Bool.false_ne_true
 | bl i=>
  cases rx
  cases y with
  | non=>cases ry;exact PySem.EqNone.eq_bool_none (qal I q (by simp))
  | bl j=>cases ry;exact eq_bool (qal I q qhY)
  | str j=>obtain ⟨t',rfl⟩:=ry;exact PySem.EqMixed.eq_bool_str (qal I q (by simp))
  | _=>exact absurd (show false=true from hs) Bool.false_ne_true
 | int i=>
  obtain ⟨t,rfl⟩:=rx
  cases y with
  | non=>cases ry;exact PySem.EqNone.eq_int_none (qal I q (by simp))
  | int j=>obtain ⟨t',rfl⟩:=ry;exact eq_int (qal I q qf5)
  | str j=>obtain ⟨t',rfl⟩:=ry;exact PySem.EqMixed.eq_int_str (qal I q (by simp))
  | _=>exact absurd (show false=true from hs) Bool.false_ne_true
 | str i=>
  obtain ⟨t,rfl⟩:=rx
  cases y with
  | non=>cases ry;exact PySem.EqNone.eq_str_none (qal I q (by simp))
  | bl j=>cases ry;exact PySem.EqMixed.eq_str_bool (qal I q (by simp))
  | int j=>obtain ⟨t',rfl⟩:=ry;exact PySem.EqMixed.eq_str_int (qal I q (by simp))
  | str j=>obtain ⟨t',rfl⟩:=ry;exact eq_str (qal I q qf4)
  | _=>exact absurd (show false=true from hs) Bool.false_ne_true
 | byt i=>
  obtain ⟨t,rfl⟩:=rx
  cases y with
  | byt j=>obtain ⟨t',rfl⟩:=ry;exact PySem.W.eq_bytes (qal I q qf6)
  | _=>exact absurd (show false=true from hs) Bool.false_ne_true
 | _=>cases y<;>exact absurd (show false=true from hs) Bool.false_ne_true
theorem op_ne:OpR X (compareOp .NotEq) rNe:=by
 intro pins s σ H x y v u Q I rx ry h
 obtain ⟨hs,q⟩:=h
 cases x with
 | non=>
  cases rx
  cases y with
  | non=>cases ry;exact PySem.EqNone.ne_none_none (qal I q (by simp))
  | bl j=>cases ry;exact PySem.EqNone.ne_none_bool (qal I q (by simp))
  | int j=>obtain ⟨t',rfl⟩:=ry;exact PySem.EqNone.ne_none_int (qal I q (by simp))
  | str j=>obtain ⟨t',rfl⟩:=ry;exact PySem.EqNone.ne_none_str (qal I q (by simp))
  | _=>exact absurd (show false=true from hs) Bool.false_ne_true
 | bl i=>
  cases rx
  cases y with
  | non=>cases ry;exact PySem.EqNone.ne_bool_none (qal I q (by simp))
  | bl j=>cases ry;exact ne_bool (qal I q (congrArg not qhY))
  | str j=>obtain ⟨t',rfl⟩:=ry;exact PySem.EqMixed.ne_bool_str (qal I q (by simp))
  | _=>exact absurd (show false=true from hs) Bool.false_ne_true
 | int i=>
  obtain ⟨t,rfl⟩:=rx
  cases y with
  | non=>cases ry;exact PySem.EqNone.ne_int_none (qal I q (by simp))
  | int j=>obtain ⟨t',rfl⟩:=ry;exact ne_int (qal I q (congrArg not qf5))
  | str j=>obtain ⟨t',rfl⟩:=ry;exact PySem.EqMixed.ne_int_str (qal I q (by simp))
  | _=>exact absurd (show false=true from hs) Bool.false_ne_true
 | str i=>
  obtain ⟨t,rfl⟩:=rx
  cases y with
  | non=>cases ry;exact PySem.EqNone.ne_str_none (qal I q (by simp))
  | bl j=>cases ry;exact PySem.EqMixed.ne_str_bool (qal I q (by simp))
  | int j=>obtain ⟨t',rfl⟩:=ry;exact PySem.EqMixed.ne_str_int (qal I q (by simp))
  | str j=>obtain ⟨t',rfl⟩:=ry;exact ne_str (qal I q (congrArg not qf4))
  | _=>exact absurd (show false=true from hs) Bool.false_ne_true
 | byt i=>
  obtain ⟨t,rfl⟩:=rx
  cases y with
  | byt j=>obtain ⟨t',rfl⟩:=ry;exact PySem.W.ne_bytes (qal I q (congrArg not qf6))
  | _=>exact absurd (show false=true from hs) Bool.false_ne_true
 | _=>cases y<;>exact absurd (show false=true from hs) Bool.false_ne_true
theorem op_lt:OpR X (compareOp .Lt) (rI0 fun i j=>.bl (decide (i < j))):=qmf fun _ _ _ _ _ _ _ q=>lt_int q
theorem op_le:OpR X (compareOp .LtE) (rI0 fun i j=>.bl (decide (i<=j))):=qmf fun _ _ _ _ _ _ _ q=>le_int q
theorem op_gt:OpR X (compareOp .Gt) (rI0 fun i j=>.bl (decide (j < i))):=qmf fun _ _ _ _ _ _ _ q=>gt_int q
theorem op_ge:OpR X (compareOp .GtE) (rI0 fun i j=>.bl (decide (j<=i))):=qmf fun _ _ _ _ _ _ _ q=>ge_int q
theorem op_in_str:OpR X (compareOp .In) (fun x y H Q=>∃ i j,x = .str i/\y = .str j/\Q (.bl (!(Builtin.Str.occurrences j i 0 j.length 1).isEmpty)) H):=by
 intro pins s σ H x y v u Q I rx ry h
 obtain ⟨i,j,rfl,rfl,q⟩:=h
 obtain ⟨t,rfl⟩:=rx
 obtain ⟨t',rfl⟩:=ry
 exact in_str (qal I q rfl)
theorem op_isN:OpR X (compareOp .Is) (fun x y H Q=>y = .non/\Q (.bl (decide (x = .non))) H):=by
 intro pins s σ H x y v u Q I rx ry h
 obtain ⟨rfl,q⟩:=h
 cases ry
 refine is_none_gen (qal I q ?_)
 cases x<;>first
  | (cases rx;rfl)
  | (obtain ⟨t,rfl⟩:=rx;rfl)
theorem op_notN:OpR X (compareOp .IsNot) (fun x y H Q=>y = .non/\Q (.bl (!decide (x = .non))) H):=by
 intro pins s σ H x y v u Q I rx ry h
 obtain ⟨rfl,q⟩:=h
 cases ry
 refine isnot_none_gen (qal I q ?_)
 cases x<;>first
  | (cases rx;rfl)
  | (obtain ⟨t,rfl⟩:=rx;rfl)
theorem OpR.or {f:Value->Value->Sem Value} {r r':R2} (h:OpR X f r) (h':OpR X f r'):OpR X f (fun x y H Q=>r x y H Q\/r' x y H Q):=by
 intro pins s σ H x y v u Q I rx ry q
 rcases q with q | q
 ·exact h pins s σ H x y v u Q I rx ry q
 ·exact h' pins s σ H x y v u Q I rx ry q
theorem qi9 {op:CmpOp} {r:R2} (ho:OpR X (compareOp op) r) (ha:PE X a ta) (hb:PE X b tb) (hm:behindInMarks op b=false):PE X (.Compare a [op] [b] pos) (tOp r ta tb):=by
 intro pins s σ H Q I h
 exact wpAny_Compare1 (qnb ha hb I h fun v u s2 x y H2 I2 rx ry q=>ho pins s2 σ H2 x y v u Q I2 rx ry q) hm
def qn5 (K:PySem.W.Frag) (x:V) (H:Hp) (k:Bool):Prop:=
 match x with
 | .non=>k=false
 | .bl b=>k=b
 | .int i=>k=(i != 0)
 | .str y=>y.length<=sizeLine/\k=((y.length:Int) != 0)
 | .byt y=>y.size<=sizeLine/\k=((y.size:Int) != 0)
 | .ref p=>(∃ xs,SqL K H p xs/\k=!xs.isEmpty)\/(∃ xs,SqT K H p xs/\k=!xs.isEmpty)\/∃ kvs,H p=some (.dK kvs)/\k=!kvs.isEmpty
 | _=>False
theorem qeD {κ:Type} {kvs:List (κ×V)} {vs:List (κ×Value)} (r:KV kvs vs):(!vs.isEmpty)=!kvs.isEmpty:=by
 cases r<;>rfl
theorem qca {xs:List V} {its:List Value} (r:Vals xs its):(!its.toArray.isEmpty)=!xs.isEmpty:=by
 cases r<;>simp
theorem qbR:(sizeLine:Nat) < 2 ^ 63:=by rw [sizeLine_eq];decide
theorem qeT:qn6 X (fun x H Q=>∃ k,qn5 X.K x H k/\Q k H):=by
 intro pins s σ H x v Q I rx h
 obtain ⟨k,e,q⟩:=h
 have hl:=qbR
 have hs:sizeLine=16777216:=sizeLine_eq
 cases x with
 | non=>
  cases rx
  have e':k=false:=e
  subst e'
  exact truthy_none ⟨H,I,q⟩
 | bl b=>
  cases rx
  have e':k=b:=e
  subst e'
  exact wpAny_truthy_bool ⟨H,I,q⟩
 | int i=>
  obtain ⟨t,rfl⟩:=rx
  have e':k=(i != 0):=e
  subst e'
  exact PySem.P.truthy_int ⟨H,I,q⟩
 | str y=>
  obtain ⟨t,rfl⟩:=rx
  obtain ⟨hy,e'⟩ : y.length<=sizeLine/\k=((y.length:Int) != 0):=e
  subst e'
  exact PySem.P.truthy_str (by omega) ⟨H,I.tok _,q⟩
 | byt y=>
  obtain ⟨t,rfl⟩:=rx
  obtain ⟨hy,e'⟩ : y.size<=sizeLine/\k=((y.size:Int) != 0):=e
  subst e'
  exact PySem.W.truthy_bytes (by omega) ⟨H,I.tok _,q⟩
 | ref p=>
  cases rx
  have e':(∃ xs,SqL X.K H p xs/\k=!xs.isEmpty)\/(∃ xs,SqT X.K H p xs/\k=!xs.isEmpty)\/∃ kvs,H p=some (.dK kvs)/\k=!kvs.isEmpty:=e
  rcases e' with ⟨xs,hx,e'⟩ | ⟨xs,hx,e'⟩ | ⟨kvs,hx,e'⟩
  ·subst e'
   obtain ⟨its,r,pl,hz⟩:=I.list hx
   have hlen:=r.length
   exact wpAny_truthy_list pl.isList (by simp only [List.size_toArray];omega) ⟨H,I.tok _,by rw [qca r];exact q⟩
  ·subst e'
   obtain ⟨its,r,pl,hz⟩:=I.tuple hx
   have hlen:=r.length
   exact truthy_tuple pl (by simp only [List.size_toArray];omega) ⟨H,I.tok _,by rw [qca r];exact q⟩
  ·subst e'
   obtain ⟨hz,hS,vs,r,m⟩ : kvs.length<=sizeLine/\(p == sysModules)=false/\∃ vs,KV kvs vs/\s.heap.DictOf (qap X.prog X.w) p vs:=I.hok p _ hx
   have hlen:kvs.length=vs.length:=Paired.length r
   exact wpAny_truthy_dict hS m (by omega) ⟨H,I.tok _,by rw [qeD r];exact q⟩
 | _=>exact (show False from e).elim
theorem op_add_str:OpR X (binaryOp .Add) (fun x y H Q=>∃ i j,x = .str i/\y = .str j/\i.length+j.length<=sizeLine/\Q (.str (i++j)) H):=by
 intro pins s σ H x y v u Q I rx ry h
 obtain ⟨i,j,rfl,rfl,hz,q⟩:=h
 obtain ⟨t,rfl⟩:=rx
 obtain ⟨t',rfl⟩:=ry
 exact add_str (fun t' tk=>⟨.str (i++j),H,I.tok _,⟨_,rfl⟩,q⟩) hz
theorem qaP {x:V} {us:List Value} (r:Vals [x] us):∃ u,us=[u]/\RelV x u:=by
 cases r with
 | cons r1 r2=>cases r2;exact ⟨_,rfl,r1⟩
theorem qh3 {x y:V} {us:List Value} (r:Vals [x,y] us):∃ u w',us=[u,w']/\RelV x u/\RelV y w':=by
 cases r with
 | cons r1 r2=>
  cases r2 with
  | cons r3 r4=>cases r4;exact ⟨_,_,rfl,r1,r3⟩
theorem call_abs:CallR X (.builtin "abs") (fun xs H Q=>∃ i,xs=[.int i]/\Q (.int (if i < 0 then -i else i)) H):=by
 intro pins s σ H xs us Q I r h
 obtain ⟨i,rfl,q⟩:=h
 obtain ⟨u,rfl,t,rfl⟩:=qaP r
 exact call_abs_int fun u tk=>⟨.int (if i < 0 then -i else i),H,I.tok _,⟨_,rfl⟩,q⟩
theorem qgg (hc:X.calm=true):CallR X (.builtin "max") (fun xs H Q=>∃ i j,xs=[.int i,.int j]/\Q (.int (if j > i then j else i)) H):=by
 intro pins s σ H xs us Q I r h
 obtain ⟨i,j,rfl,q⟩:=h
 obtain ⟨u,w',rfl,⟨t,rfl⟩,⟨t',rfl⟩⟩:=qh3 r
 refine max_two_ints (I.ok.hd hc) fun h' tk k=>⟨_,H,I.kept k,?_,q⟩
 by_cases hj:j > i
 ·rw [if_pos hj,if_pos hj];exact ⟨_,rfl⟩
 ·rw [if_neg hj,if_neg hj];exact ⟨_,rfl⟩
theorem qge (hc:X.calm=true):CallR X (.builtin "min") (fun xs H Q=>∃ i j,xs=[.int i,.int j]/\Q (.int (if j < i then j else i)) H):=by
 intro pins s σ H xs us Q I r h
 obtain ⟨i,j,rfl,q⟩:=h
 obtain ⟨u,w',rfl,⟨t,rfl⟩,⟨t',rfl⟩⟩:=qh3 r
 refine min_two_ints (I.ok.hd hc) fun h' tk k=>⟨_,H,I.kept k,?_,q⟩
 by_cases hj:j < i
 ·rw [if_pos hj,if_pos hj];exact ⟨_,rfl⟩
 ·rw [if_neg hj,if_neg hj];exact ⟨_,rfl⟩
theorem call_int1:CallR X (.type "int") (fun xs H Q=>(∃ i,xs=[.int i]/\Q (.int i) H)\/∃ k,xs=[.bl k]/\Q (.int (if k then 1 else 0)) H):=by
 intro pins s σ H xs us Q I r h
 rcases h with ⟨i,rfl,q⟩ | ⟨k,rfl,q⟩
 ·obtain ⟨u,rfl,t,rfl⟩:=qaP r
  exact call_int_int ⟨.int i,H,I,⟨_,rfl⟩,q⟩
 ·obtain ⟨u,rfl,r1⟩:=qaP r
  cases r1
  exact call_int_bool ⟨.int (if k then 1 else 0),H,I.tok _,⟨_,rfl⟩,q⟩
end
end L2
namespace L2
open PySem PySem.Spec PyProof.Rows
section
variable {prog:Program} {w:World} {A:Around} {E:Value->Shared->Prop} {s:Shared} {K:PySem.W.Frag} {x dx C f:Addr} {mA:Str->Option Value} {name:Str} {v:Value}
end
theorem RelO.some_of {v:V} {o:Option Value} (r:RelO (some v) o):∃ u,o=some u/\RelV v u:=by
 cases o with
 | none=>exact (show False from r).elim
 | some u=>exact ⟨u,rfl,r⟩
section
variable {P:Program} {w:World} {H H':Hp} {h h':Heap} {a C dx:Addr} {fs fs':List (Str×V)}
end
section
variable {X:Cx} {pins:List (Addr×Obj)} {σ:St} {H:Hp} {s:Shared} {a C dx:Addr} {fs:List (Str×V)} {f:Str} {v:V} {A:Around} {E:Value->Shared->Prop}
end
section
variable {X:Cx} {o e value:Expr} {f:Str} {pos pos' tpos:Pos} {ta tv:TE}
end
section
variable {X:Cx} {pins:List (Addr×Obj)} {σ:St} {H:Hp} {s:Shared} {A:Around} {E:Value->Shared->Prop} {Q:Value->Shared->Prop} {c:Value} {b:Bool}
end
end L2
namespace L2
open PySem PySem.Spec PyProof.Rows
structure Room (k:Nat) (A:Around):Prop where
 hd:A.handled=none
 dp:A.depth+3 * k+5 < recursionLimit
 un:A.units+16 * k+200 < cLine
theorem Room.mono {j k:Nat} {A:Around} (r:Room k A) (h:j<=k):Room j A:=⟨r.hd,by have:=r.dp;omega,by have:=r.un;omega⟩
theorem Room.deeper {k:Nat} {A:Around} (r:Room (k+1) A) (env:Env):Room k (A.deeper env):=
 ⟨r.hd,by have:=r.dp;show A.depth+1+3 * k+5 < _;omega,by have:=r.un;show A.units+3+16 * k+200 < _;omega⟩
theorem Room.depth {k:Nat} {A:Around} (r:Room k A):A.depth < recursionLimit:=by have:=r.dp;omega
theorem Room.units {k:Nat} {A:Around} (r:Room k A):A.units+64 < cLine:=by have:=r.un;omega
def qmp:TA:=fun _ H Q=>Q [] H
def qkq (ta:TE) (tr:TA):TA:=fun σ H Q=>ta σ H fun x H1=>tr σ H1 fun xs H2=>Q (x :: xs) H2
section
variable {X:Cx} {e:Expr} {es:List Expr} {te:TE} {t:TA} {pos:Pos}
theorem qk9:PA X [] qmp:=fun _ _ _ _ H Q I h=>Calls.spliced_nil ⟨[],H,I,.nil,h⟩
theorem qjf (ha:PE X e te) (hr:PA X es t) (hs:starEach (e :: es) X.env=(false,eval e X.env) :: starEach es X.env:=by rfl):PA X (e :: es) (qkq te t):=by
 intro pos pins s σ H Q I h
 rw [hs]
 show wpAny _ _ (spliced ((false,eval e X.env) :: backTo pos (starEach es X.env))) _ _ s
 refine Calls.spliced_cons (thn (ha pins s σ H _ I h) fun u s1 ⟨x,H1,I1,r1,q1⟩=>?_)
 exact thn (hr pos pins s1 σ H1 _ I1 q1) fun us s2 ⟨xs,H2,I2,r2,q2⟩=>⟨x :: xs,H2,I2,.cons r1 r2,q2⟩
def qny (t:TA):TE:=fun σ H Q=>t σ H fun xs H1=>xs.length<=sizeLine/\∀ p,H1 p=none->Q (.ref p) (upd H1 p (.tup xs))
def qnD (t:TA):TE:=fun σ H Q=>t σ H fun xs H1=>xs.length<=sizeLine/\∀ p,H1 p=none->Q (.ref p) (upd H1 p (.lst xs))
theorem qhI {x1} (h:PA X es t):PE X (.Tuple es x1 pos) (qny t):=by
 intro pins s σ H Q I hq
 refine wpAny_Tuple_spliced (thn (h pos pins s σ H _ I hq) fun us s1 ⟨xs,H1,I1,r,z,q⟩=>⟨by rw [<-r.length];exact z,?_⟩)
 have hf:H1 s1.heap.objs.size=none:=I1.hok.fresh (Nat.le_refl _)
 refine ⟨.ref s1.heap.objs.size,upd H1 s1.heap.objs.size (.tup xs),I1.laid (t':=s1.toks) (fun b u e=>Heap.get?_push_of_some _ e) (Nat.le_refl _) ?_,rfl,q _ hf⟩
 exact ⟨z,us,r,⟨_,Heap.get?_push_size _ rfl,rfl,_,rfl⟩⟩
theorem qk3 (h:PA X es t):PE X (.List es pos) (qnD t):=by
 intro pins s σ H Q I hq
 refine wpAny_List_spliced (thn (h pos pins s σ H _ I hq) fun us s1 ⟨xs,H1,I1,r,z,q⟩=>⟨by rw [<-r.length];exact z,?_⟩)
 have hf:H1 s1.heap.objs.size=none:=I1.hok.fresh (Nat.le_refl _)
 refine ⟨.ref s1.heap.objs.size,upd H1 s1.heap.objs.size (.lst xs),I1.laid (t':=s1.toks) (fun b u e=>Heap.get?_push_of_some _ e) (Nat.le_refl _) ?_,rfl,q _ hf⟩
 exact ⟨z,us,0,r,Heap.get?_push_size _ rfl⟩
end
abbrev Sp:=List V->Hp->VK->XK->Prop
abbrev CXT:=List Env->Hp->Shared->XK->Value->Shared->Prop
structure Env0 (P:Program) (w:World) (K:PySem.W.Frag) (mg:Str->Option Value) (base:Heap) (A:Around) (outer:List Env) (s:Shared) (H:Hp):Prop where
 frames:A.frames=some outer
 mod:Mod K mg base
 bs:∀ b o,base.get? b=some o->s.heap.get? b=some o/\H b=none
 bsz:base.objs.size<=s.heap.objs.size
 funs:s.heap.FunFrames base outer
 frf:∀ b∈frs outer,H b=none
 hok:HOk P w H s.heap
 bare:AllBare s.gens
def CE (outer:List Env) (P:Program) (w:World) (H:Hp) (s:Shared) (Q:VK) (u:Value) (s':Shared):Prop:=
 ∃ v H',s'.os=s.os/\AllBare s'.gens/\Un (frs outer) [] H H' s.heap s'.heap/\HOk P w H' s'.heap/\RelV v u/\Q v H'
def CR (CX:CXT) (outer:List Env) (P:Program) (w:World) (H:Hp) (s:Shared) (Q:VK) (E:XK) (r:Result) (s':Shared):Prop:=
 match r with
 | .ok (.ret u)=>CE outer P w H s Q u s'
 | .ok _=>False
 | .error e=>CX outer H s E e s'
structure FnOk (P:Program) (w:World) (K:PySem.W.Frag) (mg:Str->Option Value) (base:Heap) (CX:CXT) (k:Nat) (f:Addr) (fd:FuncData) (ps:List Str) (sp:Sp):Prop where
 len:∀ vs H Q E,sp vs H Q E->vs.length=ps.length
 run:∀ (A:Around) (outer:List Env) (s:Shared) (H:Hp) (args:Args) (us:List Value) (vs:List V) (Q:VK) (E:XK),Room k A->Env0 P w K mg base A outer s H->BindsTo s fd args (ps.zip us)->Vals vs us->sp vs H Q E →
  codeAny (model P w) A (.call (.ref f) args) (CR CX outer P w H s Q E) s
section
variable {X:Cx} {pins:List (Addr×Obj)} {σ:St} {H:Hp} {s s':Shared}
theorem Inv.env0 (I:Inv X pins σ H s):Env0 X.prog X.w X.K X.mg X.base X.A X.stack s H:=
 ⟨I.ok.frames,I.ok.mod,I.bs,Nat.le_trans I.ok.bsz I.sz,I.stack,I.stkFree,I.hok,I.bare⟩
theorem Inv.after {Q:VK} {u:Value} (I:Inv X pins σ H s) (h:CE X.stack X.prog X.w H s Q u s'):EP X pins σ Q u s':=by
 obtain ⟨v,H',os,bare,un,hok,r,q⟩:=h
 obtain ⟨hh,g,d,t,os'⟩:=s'
 obtain rfl:os'=s.os:=os
 exact ⟨v,H',I.call (h':=hh) (g':=g) (d':=d) (t':=t) (ch:=[]) un hok bare (fun b z=>absurd z (by simp)),r,q⟩
end
def qig (sp:Sp) (dvs:List V) (E:XK) (t:TA):TE:=fun σ H Q=>t σ H fun vs H1=>sp (vs++dvs) H1 Q E
def Binds (K:PySem.W.Frag) (fd:FuncData) (ps:List Str) (ds:List Value):Prop:=
 ∀ (s:Shared) (us:List Value),K.In s.heap->(us++ds).length=ps.length->BindsTo s fd ⟨us,[]⟩ (ps.zip (us++ds))
theorem Binds.all {K:PySem.W.Frag} {fd:FuncData} {ps:List Str} (h:∀ us:List Value,us.length=ps.length->bindArgs fd ⟨us,[]⟩=pure (ps.zip us)):Binds K fd ps []:=fun s us _ hl=>by
 rw [List.append_nil] at hl ⊢
 exact .of_eq (h us hl)
def qgp (CX:CXT) (X:Cx) (E:XK):Prop:=∀ (pins:List (Addr×Obj)) (σ:St) (H:Hp) (s:Shared) (e:Value) (s':Shared),Inv X pins σ H s->CX X.stack H s E e s'->X.xe e s'
section
variable {X:Cx} {CX:CXT} {k:Nat} {f C:Addr} {fd:FuncData} {ps:List Str} {sp:Sp} {dvs:List V} {ds:List Value} {E:XK} {x m:Str} {p pos apos:Pos} {e o:Expr} {es:List Expr} {ta:TE} {t:TA}
theorem qhz {pins:List (Addr×Obj)} {σ:St} {H:Hp} {s:Shared} {Q:VK} {us:List Value} {vs:List V} (F:FnOk X.prog X.w X.K X.mg X.base CX k f fd ps sp) (hr:Room k X.A) (hb:Binds X.K fd ps ds) (hd:Vals dvs ds) (hx:qgp CX X E)
  (I:Inv X pins σ H s) (r:Vals vs us) (h:sp (vs++dvs) H Q E):wpAny (model X.prog X.w) X.A (call (.ref f) us) (EP X pins σ Q) X.xe s:=by
 have r2:Vals (vs++dvs) (us++ds):=r.append hd
 have hl:(us++ds).length=ps.length:=by rw [<-r2.length];exact F.len _ _ _ _ h
 refine wpAny_call (codeAny_mono (F.run X.A X.stack s H ⟨us,[]⟩ (us++ds) (vs++dvs) Q E hr I.env0 (hb s us I.kIn hl) r2 h) fun r s' hq=>?_)
 cases r with
 | error e=>exact hx pins σ H s e s' I hq
 | ok fl=>
  cases fl with
  | ret u=>exact I.after hq
  | next=>exact False.elim hq
  | brk=>exact False.elim hq
  | cont=>exact False.elim hq
theorem qja (F:FnOk X.prog X.w X.K X.mg X.base CX k f fd ps sp) (hr:Room k X.A) (hg:Gl X x) (hm:X.mg x=some (.ref f)) (hk:PySem.W.keepIn X.K (.ref f)=true) (hb:Binds X.K fd ps ds) (hd:Vals dvs ds) (hx:qgp CX X E)
  (ha:PA X (e :: es) t) (hdb:(x == ("__debug__" : Str))=false:=by decide) (he:starEach (e :: es) X.env=(false,eval e X.env) :: starEach es X.env:=by rfl) (hpl:(backTo pos (starEach es X.env)).any (·.1)=false:=by rfl) :
  PE X (.Call (.Name x p) (e :: es) [] pos) (qig sp dvs E t):=by
 intro pins s σ H Q I h
 refine wpAny_Call_Name_kw (qdz I hg hm ?_ hdb)
 refine PySem.W.callWith_K (h₀:=X.base) I.ok.mod.kin hk (thn (ha pos pins s σ H _ I h) fun us s1 ⟨vs,H1,I1,r,q⟩=>⟨I1.kIn,?_⟩) he hpl
 exact qhz F hr hb hd hx I1 r q
end
section
variable {X:Cx} {CX:CXT} {k:Nat} {f C:Addr} {fd:FuncData} {ps ks:List Str} {sp:Sp} {E:XK} {x m:Str} {p pos apos kpos:Pos} {e o:Expr} {es:List Expr} {kws:List Keyword} {te ta:TE} {t tk:TA} {nm:Option Str}
variable {g:List Value->List Value->List Value} {gV:List V->List V->List V}
end
structure FnScope (N P:List Str) (sc:Scope):Prop where
 kind:sc.kind = .function
 co:sc.isCoroutine=false
 gen:sc.isGenerator=false
 nd:N.Nodup
 pre:N.take P.length=P
 par:∀ x∈P,sc.names.lookup x=some .local\/sc.names.lookup x=some .cell
 nofree:∀ y∈sc.names,y.2≠.free
theorem qc8 {kindOf:Str->Option NameKind} {x:Str}:∀ {binds:List (Str×Value)} {m:Str->Option Value},(∀ v,(x,v) ∉ binds)->bindL kindOf binds m x=m x
 | [],_,_=>rfl
 | (n,v) :: r,m,h=>by
  unfold bindL
  rw [qc8 fun w hw=>h w (mC_ _ hw)]
  split
  ·have:x≠n:=by rintro rfl;exact h v List.mem_cons_self
   simp [this]
  ·rfl
theorem qda {kindOf:Str->Option NameKind} {x:Str}:∀ {binds:List (Str×Value)} {m:Str->Option Value},(∀ v,(x,v) ∉ binds)->bindC kindOf binds m x=m x
 | [],_,_=>rfl
 | (n,v) :: r,m,h=>by
  unfold bindC
  rw [qda fun w hw=>h w (mC_ _ hw)]
  split
  ·rfl
  ·have:x≠n:=by rintro rfl;exact h v List.mem_cons_self
   simp [this]
theorem qc9 {kindOf:Str->Option NameKind} {x:Str} {v:Value}:∀ {P:List Str} {vs:List Value} {i:Nat} {m:Str->Option Value},P.Nodup->P[i]? = some x->vs[i]? = some v->kindOf x=some .local →
  bindL kindOf (P.zip vs) m x=some v
 | [],_,_,_,_,h,_,_=>by simp at h
 | _ :: _,[],_,_,_,_,h,_=>by simp at h
 | p :: P,w :: vs,0,m,nd,h1,h2,hk=>by
  simp at h1 h2;subst h1;subst h2
  show bindL kindOf ((p,w) :: P.zip vs) m p=_
  unfold bindL
  rw [qc8 fun v hv=>(List.nodup_cons.mp nd).1 (List.of_mem_zip hv).1,if_pos hk]
  simp
 | p :: P,w :: vs,i+1,m,nd,h1,h2,hk=>by
  show bindL kindOf ((p,w) :: P.zip vs) m x=_
  unfold bindL
  exact qc9 (i:=i) (List.nodup_cons.mp nd).2 (by simpa using h1) (by simpa using h2) hk
theorem qdb {kindOf:Str->Option NameKind} {x:Str} {v:Value}:∀ {P:List Str} {vs:List Value} {i:Nat} {m:Str->Option Value},P.Nodup->P[i]? = some x->vs[i]? = some v->kindOf x≠some .local →
  bindC kindOf (P.zip vs) m x=some v
 | [],_,_,_,_,h,_,_=>by simp at h
 | _ :: _,[],_,_,_,_,h,_=>by simp at h
 | p :: P,w :: vs,0,m,nd,h1,h2,hk=>by
  simp at h1 h2;subst h1;subst h2
  show bindC kindOf ((p,w) :: P.zip vs) m p=_
  unfold bindC
  rw [qda fun v hv=>(List.nodup_cons.mp nd).1 (List.of_mem_zip hv).1,if_neg hk]
  simp
 | p :: P,w :: vs,i+1,m,nd,h1,h2,hk=>by
  show bindC kindOf ((p,w) :: P.zip vs) m x=_
  unfold bindC
  exact qdb (i:=i) (List.nodup_cons.mp nd).2 (by simpa using h1) (by simpa using h2) hk
def start (N:List Str) (vs:List V):St:=vs.map some++List.replicate (N.length - vs.length) none
def qhZ (CX:CXT) (P:Program) (w:World) (K:PySem.W.Frag) (mg:Str->Option Value) (base:Heap) (N:List Str) (qual:Str) (scope:Scope) (f:Addr) (cd:Value) (A:Around) (outer:List Env) (s:Shared) (H:Hp) (E:XK):Cx where
 prog:=P
 w:=w
 K:=K
 mg:=mg
 base:=base
 A:=A.deeper (envOfC qual scope s.heap.objs.size f cd)
 N:=N
 s₀:=s
 H₀:=H
 env:=envOfC qual scope s.heap.objs.size f cd
 outer:=outer
 stack:=envOfC qual scope s.heap.objs.size f cd :: outer
 ex:=[]
 calm:=true
 fn:=fun _=>true
 pn:=[]
 xe:=fun e s'=>wpAny (model P w) (A.deeper (envOfC qual scope s.heap.objs.size f cd)) (leaving (envOfC qual scope s.heap.objs.size f cd) e) (fun _ s''=>CX outer H s E e s'') (fun e' s''=>CX outer H s E e' s'') s'
theorem qek {sc:Scope} {n:Nat} {x:Str} (h:sc.names.lookup x=some .cell):∃ c,(cellsFrom n sc.names []).lookup x=some c:=by
 have q:=PySem.W.cellsFrom_some sc.names n [] (.inl h)
 exact Option.isSome_iff_exists.mp q
theorem qfQ {CX:CXT} {P:Program} {w:World} {K:PySem.W.Frag} {mg:Str->Option Value} {base:Heap} {N ps:List Str} {qual:Str} {scope:Scope} {f:Addr} {cd:Value} {A:Around} {outer:List Env} {s s1:Shared} {H:Hp} {E:XK} {us:List Value} {vs:List V}
  (S:FnScope N ps scope) (hd:A.handled=none) (e0:Env0 P w K mg base A outer s H) (hl:vs.length=ps.length) (r:Vals vs us)
  (x:InCallC s s.heap.objs.size (bindL (envOfC qual scope s.heap.objs.size f cd).kindOf (ps.zip us) fun _=>none) (cellsFrom (s.heap.objs.size+1) scope.names []) (bindC (envOfC qual scope s.heap.objs.size f cd).kindOf (ps.zip us) fun _=>none) s1) :
  Inv (qhZ CX P w K mg base N qual scope f cd A outer s H E) [] (start N vs) H s1:=by
 have hpl:ps.length<=N.length:=by have:=congrArg List.length S.pre;rw [List.length_take] at this;omega
 obtain ⟨h1,tk,rfl,hk⟩:=x.done
 have noA:∀ b:Addr,b ∉ (qhZ CX P w K mg base N qual scope f cd A outer s H E).ex:=fun b z=>absurd (show b∈([]:List Addr) from z) (by simp)
 refine ⟨⟨e0.mod,S.kind,rfl,rfl,Nat.le_refl _,fun y z c h1 h2=>?_,fun y hy=>?_,fun y c _ h=>?_,fun _=>hd,Around.frames_deeper e0.frames,.inr ⟨rfl,rfl⟩,fun b z=>absurd z (noA b),e0.bs,e0.bsz,fun b _ _=>noA b,fun b z=>absurd z (noA b),e0.funs,e0.frf⟩,
  rfl,e0.bare,Un.kept hk,⟨_,x.toInCall.ns,fun i y v h1 h2 h3=>?_⟩,fun y c h=>⟨_,x.cell y c h⟩,e0.hok.fresh (Nat.le_refl _),fun y c h=>?_,fun p hp=>absurd (show p∈([]:List (Addr×Obj)) from hp) (by simp),e0.hok.kept hk,?_⟩
 ·exact name_of_addr x.apart (PySem.mem_of_lookup h1) (PySem.mem_of_lookup h2)
 ·have hy:scope.names.lookup y=some .cell\/scope.names.lookup y=some .free:=hy
  rcases hy with hy | hy
  ·exact qek hy
  ·exact absurd rfl (S.nofree _ (PySem.mem_of_lookup hy))
 ·exact Nat.le_of_lt (x.above y c (PySem.mem_of_lookup h))
 ·have hi:i < vs.length:=by
   unfold start at h2
   by_cases hi:i < vs.length
   ·exact hi
   ·rw [List.getElem?_append_right (by simpa using hi)] at h2
    rw [List.getElem?_replicate] at h2
    split at h2<;>cases h2
  have ha:vs[i]? = some v:=by
   unfold start at h2
   rw [List.getElem?_append_left (by simpa using hi),gM_] at h2
   cases e:vs[i]? with
   | none=>rw [e] at h2;cases h2
   | some a=>rw [e] at h2;cases h2;rfl
  obtain ⟨u,hu,rv⟩:=r.get ha
  have hp:ps[i]? = some y:=by
   rw [<-S.pre,List.getElem?_take_of_lt (by omega)];exact h1
  have ndP:ps.Nodup:=by rw [<-S.pre];exact S.nd.sublist (List.take_sublist _ _)
  refine ⟨u,rv,?_⟩
  rcases S.par y (mO_ hp) with k | k
  ·exact .inl ⟨k,qc9 ndP hp hu k⟩
  ·obtain ⟨c,e⟩:=qek (n:=s.heap.objs.size+1) k
   refine .inr ⟨.inl k,c,e,?_⟩
   have q:=x.cell y c e
   rw [qdb ndP hp hu (by show scope.names.lookup y≠_;rw [k];decide)] at q
   exact q
 ·exact e0.hok.fresh (Nat.le_of_lt (x.above y c (PySem.mem_of_lookup h)))
 ·unfold start
  show _=N.length
  rw [lA_,lM_,List.length_replicate]
  omega
theorem qlN {CX:CXT} {P:Program} {w:World} {K:PySem.W.Frag} {mg:Str->Option Value} {base:Heap} {k:Nat} {f:Addr} {name qual:Str} {params:Arguments} {body:List Stmt} {scope:Scope} {dV kV doc pm cdv ct oc:Value} {an od:Option Addr}
  {osl:Array (Option Value)} {N ps:List Str} {sp:Sp} (lk:K.lookup f=some ⟨oc,od,.func (PySem.W.fnOf name qual params body scope dV kV doc pm an cdv ct),osl⟩) (hcd:PySem.W.codeIn K cdv qual=true) (S:FnScope N ps scope)
  (len:∀ vs H Q E,sp vs H Q E->vs.length=ps.length)
  (hbody:∀ (A:Around) (outer:List Env) (s:Shared) (H:Hp) (vs:List V) (Q:VK) (E:XK),Room k (A.deeper (envOfC qual scope s.heap.objs.size f cdv))->sp vs H Q E →
   ∃ t,PSs (qhZ CX P w K mg base N qual scope f cdv A outer s H E) body t/\t { nx:=fun _ H'=>Q .non H',rt:=Q } (start N vs) H) :
  FnOk P w K mg base CX (k+1) f (PySem.W.fnOf name qual params body scope dV kV doc pm an cdv ct) ps sp:=by
 refine ⟨len,fun A outer s H args us vs Q E hr e0 hb r hsp=>?_⟩
 have hl:=len _ _ _ _ hsp
 have KX:K.In s.heap:=e0.mod.kin.keeps fun b o e=>(e0.bs b o e).1
 have lim:s.heap.NoLimit:=e0.mod.nolimit.keeps fun b o e=>(e0.bs b o e).1
 have hkind:∀ y∈ps.zip us,scope.names.lookup y.1=some .local\/(scope.names.lookup y.1=some .cell/\((cellsFrom (s.heap.objs.size+1) scope.names []).lookup y.1).isSome=true):=fun ⟨n,v⟩ hy=>by
  rcases S.par n (List.of_mem_zip hy).1 with q | q
  ·exact .inl q
  ·exact .inr ⟨q,PySem.W.cellsFrom_some _ _ _ (.inl q)⟩
 refine codeAny_call_function hr.depth (KX _ _ lk) rfl S.co S.gen rfl (PySem.W.codeRec_of KX hcd) (hb _ _ _ _ ?_)
 refine wpAny_newFunctionEnv_cells S.kind hkind fun env he s1 x=>?_
 subst he
 refine ⟨lim.keeps x.toInCall.keep,codeAny_func ?_⟩
 obtain ⟨t,ht,hq⟩:=hbody A outer s H vs Q E (hr.deeper _) hsp
 have I:Inv (qhZ CX P w K mg base N qual scope f cdv A outer s H E) [] (start N vs) H s1:=qfQ S hr.hd e0 hl r x
 refine wpAny_mono (ht [] s1 (start N vs) H _ I hq) (fun fl s' hs=>?_) fun e s' hs=>hs
 have fin:∀ {σ':St} {H':Hp} {v:V} {u:Value},Inv (qhZ CX P w K mg base N qual scope f cdv A outer s H E) [] σ' H' s'->RelV v u->Q v H'->CE outer P w H s Q u s':=
  fun {σ' H' v u} J rv q=>⟨v,H',J.os,J.bare,J.base,J.hok,rv,q⟩
 cases fl with
 | ret u=>
  obtain ⟨v,σ',H',J,rv,q⟩:=hs
  exact fin J rv q
 | next=>
  obtain ⟨σ',H',J,q⟩:=hs
  exact fin (v:=V.non) (u:=Value.none) J rfl q
 | brk=>
  obtain ⟨_,_,_,q⟩:=hs
  exact False.elim q
 | cont=>
  obtain ⟨_,_,_,q⟩:=hs
  exact False.elim q
end L2
namespace L2
open PySem PySem.Spec PyProof.Rows
section
variable {X:Cx} {x:Str} {p pos:Pos} {e:Expr} {es:List Expr} {t:TA} {id T:String} {r:List V->Hp->VK->Prop}
def tCB (r:List V->Hp->VK->Prop) (t:TA):TE:=fun σ H Q=>t σ H fun vs H1=>r vs H1 Q
theorem qaB (hc:CallR X (.builtin id) r) (hg:Gl X x) (hm:X.mg x=none) (hv:bootBuiltins x=some (.builtin id)) (ha:PA X (e :: es) t) (hn:x≠"__name__" := by decide) (hdb:(x == ("__debug__" : Str))=false:=by decide)
  (he:starEach (e :: es) X.env=(false,eval e X.env) :: starEach es X.env:=by rfl) (hpl:(backTo pos (starEach es X.env)).any (·.1)=false:=by rfl):PE X (.Call (.Name x p) (e :: es) [] pos) (tCB r t):=by
 intro pins s σ H Q I h
 refine wpAny_Call_Name_kw (qbs I hg hm hv ?_ hn hdb)
 exact PyProof.Rows.callWith_builtin1 (thn (ha pos pins s σ H _ I h) fun us s1 ⟨vs,H1,I1,r1,q1⟩=>hc pins s1 σ H1 vs us Q I1 r1 q1) he hpl
theorem qbP (hc:CallR X (.type T) r) (hg:Gl X x) (hm:X.mg x=none) (hv:bootBuiltins x=some (.type T)) (ha:PA X (e :: es) t) (hn:x≠"__name__" := by decide) (hdb:(x == ("__debug__" : Str))=false:=by decide)
  (he:starEach (e :: es) X.env=(false,eval e X.env) :: starEach es X.env:=by rfl) (hpl:(backTo pos (starEach es X.env)).any (·.1)=false:=by rfl):PE X (.Call (.Name x p) (e :: es) [] pos) (tCB r t):=by
 intro pins s σ H Q I h
 refine wpAny_Call_Name_kw (qbs I hg hm hv ?_ hn hdb)
 exact PyProof.Rows.callWith_type1 (thn (ha pos pins s σ H _ I h) fun us s1 ⟨vs,H1,I1,r1,q1⟩=>hc pins s1 σ H1 vs us Q I1 r1 q1) he hpl
end
end L2
namespace HT
open PySem PyProof.Rows
section
open PySem.SeqAt
open PySem.AutoSeq1 (wpAny_loadPart')
open PySem.MeetsSeq PySem.MeetsSeq2 PySem.MeetsSeq3
end
section
variable {prog:Program} {w:World} {A:Around} {E:Value->Shared->Prop} {s:Shared}
def sIx (n d:Nat):Option Int->Nat
 | none=>d
 | some v=>if v < 0 then (v+(n:Int)).toNat else min v.toNat n
theorem qkB (n d:Nat) (hd:d<=n) (o:Option Int):sIx n d o<=n:=by
 cases o with
 | none=>exact hd
 | some v=>
  show (if v < 0 then (v+(n:Int)).toNat else min v.toNat n)<=n
  by_cases hv:v < 0
  ·rw [if_pos hv];omega
  ·rw [if_neg hv];exact Nat.min_le_right _ _
theorem qgc (v:Int) (n d:Nat):(if v < 0 then max (v+(n:Int)) 0 else min v (n:Int))=((sIx n d (some v):Nat):Int):=by
 show (if v < 0 then max (v+(n:Int)) 0 else min v (n:Int))=(((if v < 0 then (v+(n:Int)).toNat else min v.toNat n):Nat):Int)
 by_cases hv:v < 0
 ·simp only [if_pos hv];omega
 ·simp only [if_neg hv];omega
theorem qeM (lo hi:Option Int) (n:Nat):Builtin.Slice.sliceAdjust lo hi 1 (n:Int)=(((sIx n 0 lo:Nat):Int),((sIx n n hi:Nat):Int)):=by
 have h1:¬ ((1:Int) < 0):=by omega
 unfold Builtin.Slice.sliceAdjust
 simp only [h1,if_false]
 refine Prod.ext ?_ ?_
 ·cases lo with
  | none=>rfl
  | some v=>exact qgc v n 0
 ·cases hi with
  | none=>rfl
  | some v=>exact qgc v n n
theorem qew (i j:Nat):Builtin.Slice.slicePlaces (i:Int) (j:Int) 1=j - i:=by
 unfold Builtin.Slice.slicePlaces
 have h1:(1:Int) > 0:=by omega
 simp only [h1,if_true,Int.ediv_one]
 split<;>omega
theorem qb7 {v:Value} {o:Option Int} {Q:Option Int->Shared->Prop} (p:IsPart v o) (h:Q o s):wpAny (model prog w) A (Builtin.Slice.slicePartIndex v) Q E s:=by
 cases p with
 | none=>exact slicePart_none h
 | int i t=>exact slicePart_int h
theorem qbz {sl:Addr} {vl vu:Value} {lo hi:Option Int} {n:Nat} {Q:Int×Int×Nat->Shared->Prop} (hs:s.heap.IsSliceOf sl vl vu .none) (pl:IsPart vl lo) (pu:IsPart vu hi)
  (h:Q (((sIx n 0 lo:Nat):Int),1,sIx n n hi - sIx n 0 lo) s):wpAny (model prog w) A (Builtin.Slice.sliceApplied (.ref sl) (pure (n:Int))) Q E s:=by
 obtain ⟨os,hos,hcs,hds⟩:=id hs
 unfold Builtin.Slice.sliceApplied Builtin.Slice.sliceFields
 refine wpAny_bind (wpAny_bind (wpAny_field hos hds (x:=vl) rfl (wpAny_bind (wpAny_field hos hds (x:=vu) rfl (wpAny_bind (wpAny_field hos hds (x:=.none) rfl (wpAny_pure ?_)))))))
 refine wpAny_bind (slicePart_none ?_)
 show wpAny _ _ (if ((1:Int) == 0)=true then _ else _) _ _ s
 rw [if_neg (by decide)]
 refine wpAny_bind (qb7 pl (wpAny_bind (qb7 pu (wpAny_bind (wpAny_pure ?_)))))
 show wpAny _ _ (match Builtin.Slice.sliceAdjust lo hi 1 (n:Int) with | (lo,hi)=>pure (lo,(1:Int),Builtin.Slice.slicePlaces lo hi 1)) _ _ s
 rw [qeM lo hi n]
 show wpAny _ _ (pure (((sIx n 0 lo:Nat):Int),(1:Int),Builtin.Slice.slicePlaces ((sIx n 0 lo:Nat):Int) ((sIx n n hi:Nat):Int) 1)) _ _ s
 rw [qew]
 exact wpAny_pure h
theorem qgQ (xs:Array Value) (i k:Nat):((List.range k).filterMap fun (m:Nat)=>xs[((i:Int)+(m:Int) * 1).toNat]?).toArray=((xs.toList.drop i).take k).toArray:=by
 have e:(fun (m:Nat)=>xs[((i:Int)+(m:Int) * 1).toNat]?)=fun m=>xs[i+m]?:=by
  funext m
  have:((i:Int)+(m:Int) * 1).toNat=i+m:=by omega
  rw [this]
 rw [e]
 have:=pick_run xs i k
 rw [List.filterMap_map] at this
 have e2:((fun x=>xs[x]?) ∘ fun x=>i+x)=fun m=>xs[i+m]?:=rfl
 rw [e2] at this
 rw [this]
theorem getItem_tuple_cut {t sl:Addr} {items:Array Value} {vl vu:Value} {lo hi:Option Int} {Q:Value->Shared->Prop} (ht:IsTup s.heap t items) (hs:s.heap.IsSliceOf sl vl vu .none) (pl:IsPart vl lo) (pu:IsPart vu hi)
  (hw:¬ (sIx items.size 0 lo=0/\sIx items.size items.size hi=items.size))
  (h:Q (.ref s.heap.objs.size) { s with heap:=s.heap.push { cls:=.type "tuple",data:=.seq ((items.toList.drop (sIx items.size 0 lo)).take (sIx items.size items.size hi - sIx items.size 0 lo)).toArray } })
  (hsz:items.size<=sizeLine):wpAny (model prog w) A (getItem (.ref t) (.ref sl)) Q E s:=by
 have htake:sizeOk (.seq ((items.toList.drop (sIx items.size 0 lo)).take (sIx items.size items.size hi - sIx items.size 0 lo)).toArray):=by
  show ((items.toList.drop (sIx items.size 0 lo)).take (sIx items.size items.size hi - sIx items.size 0 lo)).toArray.size<=sizeLine
  rw [List.size_toArray,List.length_take,List.length_drop,Array.length_toList]
  omega
 have hj:sIx items.size items.size hi<=items.size:=qkB _ _ (Nat.le_refl _) hi
 obtain ⟨os,hos,hcs,hds⟩:=id hs
 have hTs:s.TypeIs (.ref sl) "slice" := ⟨os,hos,hcs⟩
 unfold getItem
 try with_reducible refine wpAny_holding ?_
 first | refine wpAny_bind (wpAny_pure ?_) | skip
 refine wpAny_bind (wpAny_sequenceKey ht.typeIs (by decide) ?_)
 refine wpAny_bind (wpAny_callSpecial?_slot (name:=Str.ofString "__getitem__") ht.typeIs PyProof.Rows.slot_tuple_getitem
  (wpAny_call_entry PyProof.Rows.slot_tuple_getitem ht.typeIs entry_tuple_getitem ?_ (args_tuple_getitem _ _)))
 show wpAny _ _ (Builtin.Tuple.tupleItemsOf (.ref t) >>= _) _ _ s
 refine wpAny_bind (tupleItemsOf_ ht ?_)
 refine wpAny_bind (wpAny_typeOf hTs ?_)
 rw [if_pos (by decide)]
 refine wpAny_bind (qbz hs pl pu ?_)
 have hno:¬ ((((sIx items.size 0 lo:Nat):Int) == 0 && (1:Int) == 1 && (sIx items.size items.size hi - sIx items.size 0 lo) == items.size)=true):=by
  intro q
  rw [Bool.and_eq_true,Bool.and_eq_true] at q
  have q1:((sIx items.size 0 lo:Nat):Int)=0:=eq_of_beq q.1.1
  have q2:sIx items.size items.size hi - sIx items.size 0 lo=items.size:=eq_of_beq q.2
  exact hw ⟨by omega,by omega⟩
 show wpAny _ _ (if (((sIx items.size 0 lo:Nat):Int) == 0 && (1:Int) == 1 && (sIx items.size items.size hi - sIx items.size 0 lo) == items.size)=true then _ else _) _ _ s
 rw [if_neg hno,qgQ]
 first
  | exact wpAny_bind (m:=Builtin.Tuple.tupleExact _) (wpAny_newObj_type (wpAny_pure ⟨_,rfl,wpAny_pure h⟩) htake)
  | exact wpAny_bind (m:=Builtin.Tuple.tupleExact _) (wpAny_newObj_type (wpAny_bind (wpAny_pure (wpAny_pure ⟨_,rfl,wpAny_pure h⟩))) htake)
  | exact wpAny_bind (wpAny_bind (m:=Builtin.Tuple.tupleExact _) (wpAny_newObj_type (wpAny_pure (wpAny_pure ⟨_,rfl,wpAny_pure h⟩)) htake))
  | exact wpAny_bind (wpAny_bind (m:=Builtin.Tuple.tupleExact _) (wpAny_newObj_type (wpAny_pure ⟨_,rfl,wpAny_pure h⟩) htake))
end
end HT
namespace L2
open PySem PySem.Spec PyProof.Rows
abbrev TO:=St->Hp->(Option Int->Hp->Prop)->Prop
def PO (X:Cx) (e:Option Expr) (t:TO):Prop:=
 ∀ (pins:List (Addr×Obj)) (s:Shared) (σ:St) (H:Hp) (Q:Option Int->Hp->Prop),Inv X pins σ H s->t σ H Q →
  wpAny (model X.prog X.w) X.A (evalPart e X.env) (fun u s'=>∃ o H',Inv X pins σ H' s'/\IsPart u o/\Q o H') X.xe s
def qie:TO:=fun _ H Q=>Q none H
section
variable {X:Cx} {e:Expr} {te:TE} {lo hi:Option Expr} {tl th:TO} {pos p2:Pos}
theorem qiZ:PO X none qie:=by
 intro pins s σ H Q I h
 rw [evalPart_none]
 exact wpAny_pure ⟨none,H,I,.none,h⟩
def SlR (X:Cx) (r:V->Option Int->Option Int->Hp->VK->Prop):Prop:=
 ∀ (pins:List (Addr×Obj)) (s:Shared) (σ:St) (H:Hp) (x:V) (v vl vu:Value) (lo hi:Option Int) (sl:Addr) (Q:VK),Inv X pins σ H s->RelV x v->s.heap.IsSliceOf sl vl vu .none->IsPart vl lo->IsPart vu hi->r x lo hi H Q →
  ∃ T id,typeLookup (.type T) "__getitem__" = pure (some (.builtin id))/\s.TypeIs v T/\wpAny (model X.prog X.w) X.A (getItem v (.ref sl)) (EP X pins σ Q) X.xe s
theorem SlR.or {r r':V->Option Int->Option Int->Hp->VK->Prop} (h:SlR X r) (h':SlR X r'):SlR X (fun x lo hi H Q=>r x lo hi H Q\/r' x lo hi H Q):=by
 intro pins s σ H x v vl vu lo hi sl Q I rx hs pl pu q
 rcases q with q | q
 ·exact h pins s σ H x v vl vu lo hi sl Q I rx hs pl pu q
 ·exact h' pins s σ H x v vl vu lo hi sl Q I rx hs pl pu q
def tSl (r:V->Option Int->Option Int->Hp->VK->Prop) (te:TE) (tl th:TO):TE:=fun σ H Q=>te σ H fun x H1=>tl σ H1 fun l H2=>th σ H2 fun u H3=>r x l u H3 Q
theorem qct {r:V->Option Int->Option Int->Hp->VK->Prop} (hr:SlR X r) (he:PE X e te) (hl:PO X lo tl) (hu:PO X hi th):PE X (.Subscript e (.Slice lo hi none p2) pos) (tSl r te tl th):=by
 intro pins s σ H Q I h
 refine Subscript_ (thn (he pins s σ H _ I h) fun v s1 ⟨x,H1,I1,r1,q1⟩=>?_)
 refine wpAny_Slice (thn (hl pins s1 σ H1 _ I1 q1) fun vl s2 ⟨l,H2,I2,pl,q2⟩=>thn (hu pins s2 σ H2 _ I2 q2) fun vu s3 ⟨u,H3,I3,pu,q3⟩=>?_)
 rw [evalPart_none]
 refine wpAny_pure ?_
 have I4:Inv X pins σ H3 { s3 with heap:=s3.heap.push { cls:=.type "slice",data:=.fields #[vl,vu,.none] } }:=I3.kept (t':=s3.toks) fun b ob q=>Heap.get?_push_of_some _ q
 obtain ⟨T,id,hT,ht,hg⟩:=hr pins { s3 with heap:=s3.heap.push { cls:=.type "slice",data:=.fields #[vl,vu,.none] } } σ H3 x v vl vu l u s3.heap.objs.size Q I4 r1 (Heap.IsSliceOf.new ..) pl pu q3
 show wpAny (model X.prog X.w) X.A (subscriptTail e (.Slice lo hi none p2) v (.ref s3.heap.objs.size)) (EP X pins σ Q) X.xe { s3 with heap:=s3.heap.push { cls:=.type "slice",data:=.fields #[vl,vu,.none] } }
 exact tail_any (ops:=[.ref s3.heap.objs.size,v]) ht hT hg (by with_unfolding_all rfl)
def cutV (xs:List V) (lo hi:Option Int):List V:=(xs.drop (HT.sIx xs.length 0 lo)).take (HT.sIx xs.length xs.length hi - HT.sIx xs.length 0 lo)
theorem qaK (xs:List V) (lo hi:Option Int):(cutV xs lo hi).length<=xs.length:=by
 unfold cutV
 rw [List.length_take,List.length_drop]
 omega
def qnK (K:PySem.W.Frag):V->Option Int->Option Int->Hp->VK->Prop:=fun x lo hi H Q=>∃ a xs,x = .ref a/\SqT K H a xs ∧
 ¬ (HT.sIx xs.length 0 lo=0/\HT.sIx xs.length xs.length hi=xs.length)/\∀ p,H p=none->Q (.ref p) (upd H p (.tup (cutV xs lo hi)))
theorem qkw:SlR X (qnK X.K):=by
 intro pins s σ H x v vl vu lo hi sl Q I rx hs pl pu h
 obtain ⟨a,xs,rfl,hx,hw,q⟩:=h
 cases rx
 obtain ⟨its,r,ht,hz⟩:=I.tuple hx
 have hlen:its.toArray.size=xs.length:=by rw [List.size_toArray];exact r.length.symm
 refine ⟨"tuple",_,PyProof.Rows.slot_tuple_getitem.lookup,ht.typeIs,?_⟩
 refine HT.getItem_tuple_cut ht hs pl pu (by rw [hlen];exact hw) ?_ (by rw [hlen];exact hz)
 rw [hlen]
 refine ⟨.ref s.heap.objs.size,_,I.laid (t':=s.toks) (o:=.tup (cutV xs lo hi)) (fun b ob q=>Heap.get?_push_of_some _ q) (Nat.le_refl _) ?_,rfl,q _ (I.hok.fresh (Nat.le_refl _))⟩
 exact ⟨Nat.le_trans (qaK xs lo hi) hz,_,(r.drop (HT.sIx xs.length 0 lo)).take (HT.sIx xs.length xs.length hi - HT.sIx xs.length 0 lo),IsTup.new _ _⟩
end
end L2
namespace L2
open PySem PySem.Spec PyProof.Rows
def ixN (n:Nat) (i:Int):Option Nat:=if 0<=i then (if i < n then some i.toNat else none) else if -(n:Int)<=i then some (i+n).toNat else none
def atI {α:Type} (xs:List α) (i:Int):Option α:=(ixN xs.length i).bind fun j=>xs[j]?
theorem qfO {n:Nat} {i:Int} {j:Nat} (h:ixN n i=some j):seqIndex? i n=some j/\j < n/\-(n:Int)<=i/\i < n:=by
 unfold ixN at h
 by_cases h0:0<=i
 ·rw [if_pos h0] at h
  by_cases h1:i < n
  ·rw [if_pos h1] at h
   have e:i.toNat=j:=oI_ h
   exact ⟨by rw [seqIndex_of h0 h1,e],by omega,by omega,h1⟩
  ·rw [if_neg h1] at h;cases h
 ·rw [if_neg h0] at h
  by_cases h1 : -(n:Int)<=i
  ·rw [if_pos h1] at h
   have e:(i+n).toNat=j:=oI_ h
   exact ⟨by rw [seqIndex_neg (by omega) h1,e],by omega,h1,by omega⟩
  ·rw [if_neg h1] at h;cases h
theorem qdI {α:Type} {xs:List α} {i:Int} {v:α} (h:atI xs i=some v):∃ j,seqIndex? i xs.length=some j/\xs[j]? = some v/\j < xs.length/\-(xs.length:Int)<=i/\i < xs.length:=by
 unfold atI at h
 cases e:ixN xs.length i with
 | none=>rw [e] at h;cases h
 | some j=>
  rw [e] at h
  obtain ⟨h1,h2,h3,h4⟩:=qfO e
  exact ⟨j,h1,h,h2,h3,h4⟩
theorem qj5 {α:Type} {xs:List α} {j:Nat} {v:α} (h:xs[j]? = some v):atI xs (j:Int)=some v:=by
 have hj:j < xs.length:=(gS_ h).1
 have e:ixN xs.length (j:Int)=some j:=by
  unfold ixN
  rw [if_pos (by omega),if_pos (by omega)];simp
 unfold atI;rw [e];exact h
def qj7 (b:Expr):Prop:=∀ o i,subscripted b false o i=operate [o,i] (getItem o i)
def IxR (X:Cx) (r:R2):Prop:=
 ∀ (value slice:Expr) (pins:List (Addr×Obj)) (s:Shared) (σ:St) (H:Hp) (x y:V) (v u:Value) (Q:VK),Inv X pins σ H s->RelV x v->RelV y u->r x y H Q →
  subscripted slice false v u=operate [v,u] (getItem v u)->wpAny (model X.prog X.w) X.A (subscriptTail value slice v u) (EP X pins σ Q) X.xe s
section
variable {X:Cx} {a b:Expr} {ta tb:TE} {pos:Pos}
theorem IxR.or {r r':R2} (h:IxR X r) (h':IxR X r'):IxR X (fun x y H Q=>r x y H Q\/r' x y H Q):=by
 intro value slice pins s σ H x y v u Q I rx ry q hs
 rcases q with q | q
 ·exact h value slice pins s σ H x y v u Q I rx ry q hs
 ·exact h' value slice pins s σ H x y v u Q I rx ry q hs
theorem qk5 {r:R2} (hr:IxR X r) (ha:PE X a ta) (hb:PE X b tb) (hs:qj7 b):PE X (.Subscript a b pos) (tOp r ta tb):=by
 intro pins s σ H Q I h
 exact Subscript_ (qnb ha hb I h fun v u s2 x y H2 I2 rx ry q=>hr a b pins s2 σ H2 x y v u Q I2 rx ry q (hs _ _))
def qnr (K:PySem.W.Frag):R2:=fun x y H Q=>∃ p xs i v,x = .ref p/\y = .int i/\SqL K H p xs/\atI xs i=some v/\Q v H
def qnp (K:PySem.W.Frag):R2:=fun x y H Q=>∃ p xs i v,x = .ref p/\y = .int i/\SqT K H p xs/\atI xs i=some v/\Q v H
def qnq:R2:=fun x y H Q=>∃ z i c,x = .str z/\y = .int i/\z.length<=sizeLine/\atI z.cps.toList i=some c/\Q (.str ⟨#[c]⟩) H
theorem ix_list:IxR X (qnr X.K):=by
 intro value slice pins s σ H x y v u Q I rx ry h hs
 obtain ⟨p,xs,i,z,rfl,rfl,hq,he,q⟩:=h
 cases rx
 obtain ⟨t,rfl⟩:=ry
 obtain ⟨its,r,pl,hz⟩:=I.list hq
 obtain ⟨j,h1,h2,h3,h4,h5⟩:=qdI he
 obtain ⟨w,ew,rw'⟩:=r.get h2
 have hl:=r.length
 have hn:=qbR
 have fin:EP X pins σ Q w s:=⟨z,H,I,rw',q⟩
 by_cases h0:0<=i
 ·have hj:i.toNat=j:=by
   rw [seqIndex_of h0 h5] at h1
   exact oI_ h1
  exact item_listR pl.isList h0 (by omega) (by rw [hj];simpa using ew) fin hs
 ·have hj:(i+(its.toArray.size:Int)).toNat=j:=by
   rw [seqIndex_neg (by omega) h4] at h1
   rw [List.size_toArray,<-hl]
   exact oI_ h1
  exact subscriptTail_builtinR (x:=w) pl.isList.typeIs slot_list_getitem.lookup
   (wpAny_getItem_list_neg (Q:=fun r s'=>r=w/\EP X pins σ Q r s') pl.isList (by omega) (by rw [List.size_toArray]<;>omega) (by omega) (by rw [hj];simpa using ew) ⟨rfl,fin⟩) hs
theorem ix_tup:IxR X (qnp X.K):=by
 intro value slice pins s σ H x y v u Q I rx ry h hs
 obtain ⟨p,xs,i,z,rfl,rfl,hq,he,q⟩:=h
 cases rx
 obtain ⟨t,rfl⟩:=ry
 obtain ⟨its,r,pl,hz⟩:=I.tuple hq
 obtain ⟨j,h1,h2,h3,h4,h5⟩:=qdI he
 obtain ⟨w,ew,rw'⟩:=r.get h2
 have hl:=r.length
 have hn:=qbR
 have fin:EP X pins σ Q w s:=⟨z,H,I,rw',q⟩
 exact subscriptTail_builtinR (x:=w) pl.typeIs slot_tuple_getitem.lookup
  (getItem_tuple (j:=j) (Q:=fun r s'=>r=w/\EP X pins σ Q r s') pl (by omega) (by omega) (by rw [List.size_toArray,<-hl];exact h1) (by simpa using ew) ⟨rfl,fin⟩) hs
theorem qlF:IxR X qnq:=by
 intro value slice pins s σ H x y v u Q I rx ry h hs
 obtain ⟨z,i,c,rfl,rfl,hz,he,q⟩:=h
 obtain ⟨t,rfl⟩:=rx
 obtain ⟨t',rfl⟩:=ry
 obtain ⟨j,h1,h2,h3,h4,h5⟩:=qdI he
 have hl:z.cps.toList.length=z.length:=by simp [Str.length]
 rw [hl] at h1 h4 h5
 have hn:=qbR
 exact tail_any (typeIs_str s z t) slot_str_getitem.lookup (getItem_str (c:=c) (by
  have e1:decide (i < -(2 ^ 63:Int))=false:=decide_eq_false (by omega)
  have e2:decide (i ≥ 2 ^ 63)=false:=decide_eq_false (by omega)
  rw [e1,e2,Bool.or_false]) (by rw [h1];simpa using h2) ⟨.str ⟨#[c]⟩,H,I.tok _,⟨_,rfl⟩,q⟩) hs
def rIx (K:PySem.W.Frag):R2:=fun x y H Q=>qnr K x y H Q\/qnp K x y H Q\/qnq x y H Q
theorem qlG:IxR X (rIx X.K):=ix_list.or (ix_tup.or qlF)
theorem qeA (its:List Value) (n j:Nat) (u:Value):Obj.mapSeq (·.setIfInBounds j u) { cls:=.type "list",data:=.seq its.toArray n }={ cls:=.type "list",data:=.seq (its.set j u).toArray n }:=by
 simp [Obj.mapSeq]
theorem Inv.lst {pins:List (Addr×Obj)} {σ:St} {H:Hp} {s:Shared} {p:Addr} {xs:List V} (I:Inv X pins σ H s) (h:H p=some (.lst xs)) :
  ∃ (its:List Value) (n:Nat),Vals xs its/\s.heap.get? p=some { cls:=.type "list",data:=.seq its.toArray n }/\xs.length<=sizeLine:=by
 obtain ⟨z,its,n,r,e⟩:=I.hok p _ h
 exact ⟨its,n,r,e,z⟩
theorem Inv.lstUpd {pins:List (Addr×Obj)} {σ:St} {H:Hp} {s:Shared} {p:Addr} {xs ys:List V} {its its':List Value} {n n':Nat} {f:Obj->Obj} (I:Inv X pins σ H s) (h:H p=some (.lst xs))
  (ho:s.heap.get? p=some { cls:=.type "list",data:=.seq its.toArray n }) (hf:f { cls:=.type "list",data:=.seq its.toArray n }={ cls:=.type "list",data:=.seq its'.toArray n' }) (r:Vals ys its') (hz:ys.length<=sizeLine) (t:Nat) :
  Inv X pins σ (upd H p (.lst ys)) { s with heap:=s.heap.update p f,toks:=t }:=by
 have e:(s.heap.update p f).get? p=some { cls:=.type "list",data:=.seq its'.toArray n' }:=by
  rw [Heap.get?_update_self f ho (by rw [hf]<;>rfl),hf]
 refine I.write (x:=p) (e:=p) (by rw [h];trivial) (.inl rfl) (fun b u hb q=>(Heap.get?_update_other _ _ (Ne.symm hb)).trans q) ⟨_,e⟩ ?_
 exact ⟨hz,its',n',r,e⟩
def qmH:V->V->V->Hp->(Hp->Prop)->Prop:=fun o i v H Q=>∃ p xs k j,o = .ref p/\i = .int k/\H p=some (.lst xs)/\ixN xs.length k=some j/\Q (upd H p (.lst (xs.set j v)))
theorem qgC:qmi X qmH:=by
 intro pins s σ H o i v ov iv u Q I ro ri rv h
 obtain ⟨p,xs,k,j,rfl,rfl,hp,hj,q⟩:=h
 cases ro
 obtain ⟨t,rfl⟩:=ri
 obtain ⟨its,n,r,ho,hz⟩:=I.lst hp
 obtain ⟨h1,h2,h3,h4⟩:=qfO hj
 have hl:=r.length
 have hn:=qbR
 have I':Inv X pins σ (upd H p (.lst (xs.set j v))) { s with heap:=s.heap.update p (Obj.mapSeq (·.setIfInBounds j u)) }:=
  I.lstUpd hp ho (qeA its n j u) (r.set rv j) (by rw [List.length_set];exact hz) s.toks
 by_cases h0:0<=k
 ·have hk:k.toNat=j:=by
   rw [seqIndex_of h0 h4] at h1
   exact oI_ h1
  exact PySem.W.ki_setAt ho h0 (by omega) (by rw [List.size_toArray,<-hl];exact h4) (by rw [hk];exact ⟨_,I',q⟩)
 ·have hk:(k+(its.toArray.size:Int)).toNat=j:=by
   rw [seqIndex_neg (by omega) h3] at h1
   rw [List.size_toArray,<-hl]
   exact oI_ h1
  exact PySem.W.ki_setBack ho (by omega) (by rw [List.size_toArray,<-hl];exact h3) (by omega) (by rw [hk];exact ⟨_,I',q⟩)
theorem qcQ (lo hi:Option Int) (n:Nat):(sliceBounds lo hi none n).1=((HT.sIx n 0 lo:Nat):Int)/\(sliceBounds lo hi none n).2.1=((HT.sIx n n hi:Nat):Int)/\(sliceBounds lo hi none n).2.2=1:=by
 refine ⟨?_,?_,rfl⟩
 ·cases lo with
  | none=>simp [sliceBounds,HT.sIx]
  | some i=>
   simp only [sliceBounds,HT.sIx,Option.getD_none,show (1:Int) > 0 by decide,if_true]
   by_cases h:i < 0
   ·simp only [h,if_true]<;>omega
   ·simp only [h,if_false]<;>omega
 ·cases hi with
  | none=>simp [sliceBounds,HT.sIx]
  | some i=>
   simp only [sliceBounds,HT.sIx,Option.getD_none,show (1:Int) > 0 by decide,if_true]
   by_cases h:i < 0
   ·simp only [h,if_true]<;>omega
   ·simp only [h,if_false]<;>omega
theorem qco (its:List Value) (lo hi:Option Int):slicePick its.toArray lo hi none=((its.drop (HT.sIx its.length 0 lo)).take (HT.sIx its.length its.length hi - HT.sIx its.length 0 lo)).toArray:=by
 obtain ⟨h1,h2,h3⟩:=qcQ lo hi its.toArray.size
 unfold slicePick
 rw [h1,h2,h3]
 simp only [sliceRange_one,pick_run,List.size_toArray]<;>rfl
def qnM (K:PySem.W.Frag):V->Option Int->Option Int->Hp->VK->Prop:=fun x lo hi H Q=>∃ a xs,x = .ref a/\SqL K H a xs/\∀ p,H p=none->Q (.ref p) (upd H p (.lst (cutV xs lo hi)))
theorem sl_list:SlR X (qnM X.K):=by
 intro pins s σ H x v vl vu lo hi sl Q I rx hs pl pu h
 obtain ⟨a,xs,rfl,hx,q⟩:=h
 cases rx
 obtain ⟨its,r,ht,hz⟩:=I.list hx
 have hlen:=r.length
 refine ⟨"list",_,slot_list_getitem.lookup,ht.isList.typeIs,?_⟩
 refine wpAny_getItem_list_slice ht.isList hs pl pu .none (by simp) ?_ (by rw [List.size_toArray]<;>omega)
 rw [qco,<-hlen]
 refine ⟨.ref s.heap.objs.size,_,I.laid (t':=s.toks) (o:=.lst (cutV xs lo hi)) (fun b ob q=>Heap.get?_push_of_some _ q) (Nat.le_refl _) ?_,rfl,q _ (I.hok.fresh (Nat.le_refl _))⟩
 exact ⟨Nat.le_trans (qaK xs lo hi) hz,_,0,(r.drop (HT.sIx xs.length 0 lo)).take (HT.sIx xs.length xs.length hi - HT.sIx xs.length 0 lo),Heap.get?_push_size _ rfl⟩
def qcB:V->Bool
 | .non=>true
 | .bl _=>true
 | .int _=>true
 | .str _=>true
 | _=>false
def eqV:V->V->Bool
 | .non,.non=>true
 | .bl a,.bl b=>a == b
 | .bl a,.int b=>(if a then 1 else 0) == b
 | .int a,.bl b=>a == (if b then 1 else 0)
 | .int a,.int b=>a == b
 | .str a,.str b=>a == b
 | _,_=>false
theorem qlV {A:Around} {s:Shared} {y x:V} {u v:Value} (ry:RelV y u) (rx:RelV x v) (fy:qcB y=true) (fx:qcB x=true):SeqAt.EqAt A s u v (eqV y x):=by
 cases y with
 | non=>
  cases ry
  cases x with
  | non=>cases rx;exact SeqAt.EqAt.same _
  | bl b=>cases rx;exact SeqAt.EqAt.none_bool b
  | int b=>obtain ⟨t,rfl⟩:=rx;exact SeqAt.EqAt.none_int b t
  | str b=>obtain ⟨t,rfl⟩:=rx;exact SeqAt.EqAt.none_str b t
  | _=>exact absurd (show false=true from fx) Bool.false_ne_true
 | bl a=>
  cases ry
  cases x with
  | non=>cases rx;exact SeqAt.EqAt.bool_none a
  | bl b=>cases rx;exact SeqAt.EqAt.bool_bool a b
  | int b=>obtain ⟨t,rfl⟩:=rx;exact SeqAt.EqAt.bool_int a b t
  | str b=>obtain ⟨t,rfl⟩:=rx;exact SeqAt.EqAt.bool_str a b t
  | _=>exact absurd (show false=true from fx) Bool.false_ne_true
 | int a=>
  obtain ⟨t',rfl⟩:=ry
  cases x with
  | non=>cases rx;exact SeqAt.EqAt.int_none a t'
  | bl b=>cases rx;exact SeqAt.EqAt.int_bool a t' b
  | int b=>obtain ⟨t,rfl⟩:=rx;exact SeqAt.EqAt.int_int a t' b t
  | str b=>obtain ⟨t,rfl⟩:=rx;exact SeqAt.EqAt.int_str a t' b t
  | _=>exact absurd (show false=true from fx) Bool.false_ne_true
 | str a=>
  obtain ⟨t',rfl⟩:=ry
  cases x with
  | non=>cases rx;exact SeqAt.EqAt.str_none a t'
  | bl b=>cases rx;exact SeqAt.EqAt.str_bool a t' b
  | int b=>obtain ⟨t,rfl⟩:=rx;exact SeqAt.EqAt.str_int a t' b t
  | str b=>obtain ⟨t,rfl⟩:=rx;exact SeqAt.EqAt.str_str a t' b t
  | _=>exact absurd (show false=true from fx) Bool.false_ne_true
 | _=>exact absurd (show false=true from fy) Bool.false_ne_true
def eqU (x:V) (u:Value):Bool:=match u with
 | .none=>eqV .non x
 | .bool b=>eqV (.bl b) x
 | .int i _=>eqV (.int i) x
 | .str z _=>eqV (.str z) x
 | _=>false
theorem qhV {x y:V} {u:Value} (r:RelV y u) (f:qcB y=true):eqU x u=eqV y x:=by
 cases y with
 | non=>cases r;rfl
 | bl b=>cases r;rfl
 | int i=>obtain ⟨t,rfl⟩:=r;rfl
 | str z=>obtain ⟨t,rfl⟩:=r;rfl
 | _=>exact absurd (show false=true from f) Bool.false_ne_true
theorem qdJ {x:V}:∀ {xs:List V} {us:List Value},Vals xs us->xs.all qcB=true->us.any (eqU x)=xs.any fun y=>eqV y x
 | _,_,.nil,_=>rfl
 | y :: xs,u :: us,.cons r t,f=>by
  rw [List.all_cons,Bool.and_eq_true] at f
  rw [List.any_cons,List.any_cons,qhV r f.1,qdJ t f.2]
theorem qcw {A:Around} {s:Shared} {x:V} {v:Value} (rx:RelV x v) (fx:qcB x=true):∀ {xs:List V} {us:List Value},Vals xs us->xs.all qcB=true->∀ u∈us,SeqAt.EqAt A s u v (eqU x u)
 | _,_,.nil,_=>fun u hu=>by cases hu
 | y :: xs,u :: us,.cons r t,f=>fun u' hu=>by
  rw [List.all_cons,Bool.and_eq_true] at f
  rcases List.mem_cons.mp hu with rfl | hu
  ·rw [qhV r f.1];exact qlV r rx f.1 fx
  ·exact qcw rx fx t f.2 u' hu
def inV (x:V) (xs:List V):Bool:=xs.any fun y=>eqV y x
def rIn (K:PySem.W.Frag) (neg:Bool):R2:=fun x y H Q=>∃ p xs,y = .ref p/\(SqL K H p xs\/SqT K H p xs)/\qcB x=true/\xs.all qcB=true/\Q (.bl (if neg then !inV x xs else inV x xs)) H
theorem op_notIn_seq:OpR X (compareOp .NotIn) (rIn X.K true):=by
 intro pins s σ H x y v u Q I rx ry h
 obtain ⟨p,xs,rfl,hq,fx,fs,q⟩:=h
 cases ry
 rcases hq with hq | hq
 ·obtain ⟨its,r,pl,hz⟩:=I.list hq
  refine SeqAt.notIn_listAt (eqU x) pl.isList (fun w hw=>qcw rx fx r fs w (by simpa using hw)) ⟨.bl _,H,I,rfl,?_⟩
  rw [show its.toArray.any (eqU x)=its.any (eqU x) by simp,qdJ r fs]
  exact q
 ·obtain ⟨its,r,pl,hz⟩:=I.tuple hq
  refine SeqAt.notIn_tupleAt (eqU x) pl (fun w hw=>qcw rx fx r fs w (by simpa using hw)) ⟨.bl _,H,I,rfl,?_⟩
  rw [show its.toArray.any (eqU x)=its.any (eqU x) by simp,qdJ r fs]
  exact q
theorem call_len_seq:CallR X (.builtin "len") (fun xs H Q=>∃ p ys,xs=[.ref p]/\(SqL X.K H p ys\/SqT X.K H p ys)/\Q (.int ys.length) H):=by
 intro pins s σ H xs us Q I r h
 obtain ⟨p,ys,rfl,hq,q⟩:=h
 obtain ⟨u,rfl,rx⟩:=qaP r
 cases rx
 have hn:=qbR
 rcases hq with hq | hq
 ·obtain ⟨its,r',pl,hz⟩:=I.list hq
  have hlen:=r'.length
  exact Calls.call_len_list pl.isList (by simp only [List.size_toArray]<;>omega) ⟨.int ys.length,H,I.tok _,⟨s.toks+1,by rw [List.size_toArray,hlen]⟩,q⟩
 ·obtain ⟨its,r',pl,hz⟩:=I.tuple hq
  have hlen:=r'.length
  exact len_tuple pl (by simp only [List.size_toArray]<;>omega) ⟨.int ys.length,H,I.tok _,⟨s.toks+1,by rw [List.size_toArray,hlen]⟩,q⟩
theorem qc4:CallR X (.builtin "len") (fun xs H Q=>∃ z,xs=[.str z]/\z.length<=sizeLine/\Q (.int z.length) H):=by
 intro pins s σ H xs us Q I r h
 obtain ⟨z,rfl,hz,q⟩:=h
 obtain ⟨u,rfl,t,rfl⟩:=qaP r
 have hn:=qbR
 exact len_str (by omega) ⟨.int z.length,H,I.tok _,⟨_,rfl⟩,q⟩
theorem CallR.or {f:Value} {r r':List V->Hp->VK->Prop} (h:CallR X f r) (h':CallR X f r'):CallR X f (fun xs H Q=>r xs H Q\/r' xs H Q):=by
 intro pins s σ H xs us Q I rs q
 rcases q with q | q
 ·exact h pins s σ H xs us Q I rs q
 ·exact h' pins s σ H xs us Q I rs q
theorem call_list_of:CallR X (.type "list") (fun xs H Q=>∃ p ys,xs=[.ref p]/\(SqL X.K H p ys\/SqT X.K H p ys)/\∀ l,H l=none->Q (.ref l) (upd H l (.lst ys))):=by
 intro pins s σ H xs us Q I r h
 obtain ⟨p,ys,rfl,hq,q⟩:=h
 obtain ⟨u,rfl,rx⟩:=qaP r
 cases rx
 have fin:∀ (its:List Value),Vals ys its->ys.length<=sizeLine->∀ (h':Heap) (c':Nat),(∀ b o',s.heap.get? b=some o'->h'.get? b=some o') →
   h'.get? s.heap.objs.size=some { cls:=.type "list",dict:=none,data:=.seq its.toArray c',slots:=#[] }->EP X pins σ Q (.ref s.heap.objs.size) { s with heap:=h' }:=fun its r' hz h' c' kp e=>
  ⟨.ref s.heap.objs.size,_,I.laid (t':=s.toks) kp (Nat.le_refl _) (show ObjOk X.prog X.w _ h' _ (.lst ys) from ⟨hz,its,c',r',e⟩),rfl,q _ (I.hok.fresh (Nat.le_refl _))⟩
 rcases hq with hq | hq
 ·obtain ⟨its,r',pl,hz⟩:=I.list hq
  have hlen:=r'.length
  obtain ⟨o,ho,hc,n,hd⟩:=pl.isList
  exact call_list_seq p (.inl rfl) ho hc hd (fun h' c' kp e=>fin its r' hz h' c' kp e) (by simp only [List.size_toArray]<;>omega)
 ·obtain ⟨its,r',pl,hz⟩:=I.tuple hq
  have hlen:=r'.length
  obtain ⟨o,ho,hc,n,hd⟩:=pl
  exact call_list_seq p (.inr rfl) ho hc hd (fun h' c' kp e=>fin its r' hz h' c' kp e) (by simp only [List.size_toArray]<;>omega)
def tyV (K:PySem.W.Frag) (T:String) (x:V) (H:Hp):Prop:=match x with
 | .str _=>T = "str"
 | .int _=>T = "int"
 | .ref p=>(T = "list"/\∃ xs,SqL K H p xs)\/(T = "tuple"/\∃ o,K.lookup p=some o/\o.cls = .type "tuple"/\o.dict=none) ∨
   (T = "dict"/\((∃ kvs,H p=some (.dK kvs))\/∃ kvs,H p=some (.dT kvs)))\/(T = "set"/\∃ S n,H p=some (.set S n))
 | _=>False
theorem qeR {pins:List (Addr×Obj)} {σ:St} {H:Hp} {s:Shared} {T:String} {x:V} {v:Value} (I:Inv X pins σ H s) (r:RelV x v) (ty:tyV X.K T x H) :
  s.TypeIs v T/\∀ a,v = .ref a->∃ ob,s.heap.get? a=some ob/\ob.dict=none:=by
 cases x with
 | str z=>
  obtain ⟨t,rfl⟩:=r
  cases (show T = "str" from ty)
  exact ⟨typeIs_str s z t,fun _ e=>nomatch e⟩
 | int i=>
  obtain ⟨t,rfl⟩:=r
  cases (show T = "int" from ty)
  exact ⟨typeIs_int s i t,fun _ e=>nomatch e⟩
 | ref p=>
  cases r
  rcases ty with ⟨rfl,xs,hq⟩ | ⟨rfl,o,hk,hc,hd⟩ | ⟨rfl,hk⟩ | ⟨rfl,S,n,hk⟩
  ·obtain ⟨its,_,pl,_⟩:=I.list hq
   refine ⟨pl.isList.typeIs,fun a e=>?_⟩
   cases e
   obtain ⟨o,n,e,c,hd,_⟩:=pl
   exact ⟨o,e,hd⟩
  ·refine ⟨⟨o,I.kIn p o hk,hc⟩,fun a e=>?_⟩
   cases e
   exact ⟨o,I.kIn _ o hk,hd⟩
  ·have z:∃ o,s.heap.get? p=some o/\o.ExactDict:=by
    rcases hk with ⟨kvs,hk⟩ | ⟨kvs,hk⟩
    ·obtain ⟨_,_,_,_,o,_,_,e,ex,_⟩:=I.hok p _ hk
     exact ⟨o,e,ex⟩
    ·obtain ⟨_,_,_,_,o,_,_,e,ex,_⟩:=I.hok p _ hk
     exact ⟨o,e,ex⟩
   obtain ⟨o,e,ex⟩:=z
   refine ⟨⟨o,e,ex.1⟩,fun a e2=>?_⟩
   cases e2
   exact ⟨o,e,ex.2.1⟩
  ·obtain ⟨o,_,_,_,e,ex,_⟩:=I.hok p _ hk
   refine ⟨⟨o,e,ex.1⟩,fun a e2=>?_⟩
   cases e2
   exact ⟨o,e,ex.2.1⟩
 | _=>exact False.elim ty
variable {o e:Expr} {es:List Expr} {to:TE} {t:TA} {name:Str} {apos cpos:Pos} {T id:String} {r:V->List V->Hp->VK->Prop}
/- xs.append(e),list.index on a module's tuple .. are MtR facts of 06m -/
end
end L2
namespace L2
open PySem PySem.Spec PyProof.Rows
def MtM (X:Cx) (id:String) (r:V->List V->Hp->VK->Prop):Prop:=
 ∀ (pins:List (Addr×Obj)) (s:Shared) (σ:St) (H:Hp) (x:V) (xs:List V) (v:Value) (us:List Value) (Q:VK),Inv X pins σ H s->RelV x v->Vals xs us->r x xs H Q →
  wpAny (model X.prog X.w) X.A (call (.builtin id) (v :: us)) (EP X pins σ Q) X.xe s
theorem Vals.one:∀ {x:V} {us:List Value},Vals [x] us->∃ u,us=[u]/\RelV x u
 | _,_,.cons r .nil=>⟨_,rfl,r⟩
theorem Vals.zero:∀ {us:List Value},Vals [] us->us=[]
 | _,.nil=>rfl
theorem Vals.rep {xs:List V} {us:List Value} (h:Vals xs us):∀ k:Nat,Vals (List.replicate k xs).flatten (List.replicate k us).flatten
 | 0=>.nil
 | k+1=>by
  rw [List.replicate_succ,List.replicate_succ,List.flatten_cons,List.flatten_cons]
  exact Vals.append h (Vals.rep h k)
theorem qcY (its:List Value):∀ (k:Nat) (acc:List Value),
  List.foldl (fun x1 x2=>x1++x2) acc.toArray (List.replicate k its.toArray)=(acc++(List.replicate k its).flatten).toArray
 | 0,acc=>by simp
 | k+1,acc=>by
  have e:acc.toArray++its.toArray=(acc++its).toArray:=by simp
  have e2:(acc++its)++(List.replicate k its).flatten=acc++(List.replicate (k+1) its).flatten:=by
   rw [List.replicate_succ,List.flatten_cons,List.append_assoc]
  rw [<-e2,<-qcY its k (acc++its),<-e,List.replicate_succ,List.foldl_cons]
section
variable {X:Cx} {pins:List (Addr×Obj)} {σ:St} {H:Hp} {s:Shared} {l b:Addr} {xs ys zs:List V}
theorem Inv.lset {its its':List Value} {n:Nat} {f:Array Value->Array Value} {t':Nat} (I:Inv X pins σ H s) (hH:H l=some (.lst xs))
  (e:s.heap.get? l=some { cls:=.type "list",data:=.seq its.toArray n }) (hf:f its.toArray=its'.toArray) (hv:Vals ys its') (hz:ys.length<=sizeLine) :
  Inv X pins σ (upd H l (.lst ys)) { s with heap:=s.heap.update l (Obj.mapSeq f),toks:=t' }:=by
 have q:=PySem.IsL.update e f
 rw [hf] at q
 refine I.write (x:=l) (e:=l) (by rw [hH];exact trivial) (.inl rfl) (fun b' u hb hu=>(Heap.get?_update_other s.heap (Obj.mapSeq f) (Ne.symm hb)).trans hu) ⟨_,q⟩ ?_
 exact ⟨hz,its',_,hv,q⟩
theorem Inv.lnew {its:List Value} {t':Nat} (I:Inv X pins σ H s) (hv:Vals ys its) (hz:ys.length<=sizeLine) :
  Inv X pins σ (upd H s.heap.objs.size (.lst ys)) { s with heap:=s.heap.push { cls:=.type "list",data:=.seq its.toArray },toks:=t' }:=
 I.laid (fun _ _ q=>Heap.get?_push_of_some _ q) (Nat.le_refl _) ⟨hz,its,0,hv,Heap.get?_push_size _ rfl⟩
theorem Inv.fresh (I:Inv X pins σ H s):H s.heap.objs.size=none:=I.hok.fresh (Nat.le_refl _)
theorem Inv.lstM (I:Inv X pins σ H s) (hH:H l=some (.lst xs)):xs.length<=sizeLine/\∃ (its:List Value) (n:Nat),Vals xs its/\xs.length=its.length/\s.heap.get? l=some { cls:=.type "list",data:=.seq its.toArray n }:=by
 obtain ⟨z,its,n,r,e⟩:=I.hok l _ hH
 exact ⟨z,its,n,r,r.length,e⟩
theorem qg6 {n:Nat} (h:n<=sizeLine):Builtin.List.listTooLong n=false:=by
 unfold Builtin.List.listTooLong
 exact decide_eq_false (by omega)
end
section
variable {X:Cx}
def qiR:V->List V->Hp->VK->Prop:=fun x vs H Q=>∃ l xs y,x = .ref l/\vs=[y]/\H l=some (.lst xs)/\xs.length < sizeLine/\Q .non (upd H l (.lst (xs++[y])))
theorem mt_append:MtM X "list.append" qiR:=by
 intro pins s σ H x vs v us Q I rx rv h
 obtain ⟨l,xs,y,rfl,rfl,hH,hz,q⟩:=h
 cases rx
 obtain ⟨u,rfl,ru⟩:=rv.one
 obtain ⟨z,its,n,r,hl,e⟩:=I.lstM hH
 refine call_meets F.slot_list_append ⟨_,e,rfl⟩ F.entry_list_append (F.args_list_append_2 _ _) (PySem.list_append l its.toArray n u (by rw [List.size_toArray];omega)) ⟨e,?_⟩
 refine ⟨.non,_,I.lset (its':=its++[u]) hH e (by simp) (r.append (.cons ru .nil)) ?_,rfl,q⟩
 rw [lA_,List.length_singleton]
 omega
def qnR:R2:=fun x y H Q=>∃ l b xs zs,x = .ref l/\y = .ref b/\H l=some (.lst xs)/\H b=some (.lst zs)/\xs.length+zs.length<=sizeLine/\∀ p,H p=none->Q (.ref p) (upd H p (.lst (xs++zs)))
theorem qli:OpR X (binaryOp .Add) qnR:=by
 intro pins s σ H x y v u Q I rx ry h
 obtain ⟨l,b,xs,zs,rfl,rfl,hH,hB,hz,q⟩:=h
 cases rx
 cases ry
 obtain ⟨z,its,n,r,hl,e⟩:=I.lstM hH
 obtain ⟨z2,its2,n2,r2,hl2,e2⟩:=I.lstM hB
 refine PySem.P.add_list e e2 ?_ (by rw [List.size_toArray,List.size_toArray];omega)
 have ea:its.toArray++its2.toArray=(its++its2).toArray:=by simp
 rw [ea]
 exact ⟨.ref _,_,I.lnew (t':=s.toks) (r.append r2) (by rw [lA_];omega),rfl,q _ I.fresh⟩
def qnO:R2:=fun x y H Q=>∃ l k xs,x = .ref l/\y = .int k/\H l=some (.lst xs)/\-(2 ^ 63)<=k/\k < 2 ^ 63/\xs.length * k.toNat<=sizeLine ∧
 ∀ p,H p=none->Q (.ref p) (upd H p (.lst (List.replicate k.toNat xs).flatten))
theorem qjK {α:Type} (xs:List α) (k:Nat):(List.replicate k xs).flatten.length=k * xs.length:=by
 induction k with
 | zero=>simp
 | succ k ih=>rw [List.replicate_succ,List.flatten_cons,lA_,ih,Nat.succ_mul,Nat.add_comm]
theorem qla:OpR X (binaryOp .Mult) qnO:=by
 intro pins s σ H x y v u Q I rx ry h
 obtain ⟨l,k,xs,rfl,rfl,hH,h1,h2,hz,q⟩:=h
 cases rx
 obtain ⟨t,rfl⟩:=ry
 obtain ⟨z,its,n,r,hl,e⟩:=I.lstM hH
 have hlen:its.toArray.size * k.toNat<=sizeLine:=by rw [List.size_toArray,<-hl];exact hz
 have hcap:¬ its.toArray.size * k.toNat > (2 ^ 63 - 1) / 8:=by
  have:(sizeLine:Nat)<=(2 ^ 63 - 1) / 8:=by decide
  omega
 have hfit:¬ (!Builtin.List.listFitsIndex k)=true:=by
  rw [fitsIndex_both h1 h2]
  exact Bool.false_ne_true
 have hlong:¬ Builtin.List.listTooLong (its.toArray.size * k.toNat)=true:=by
  rw [qg6 hlen]
  exact Bool.false_ne_true
 have hnew:List.foldl (fun x1 x2=>x1++x2) #[] (List.replicate (if its.toArray.isEmpty=true then 0 else k.toNat) its.toArray)=(List.replicate k.toNat its).flatten.toArray:=by
  have f0:∀ m:Nat,List.foldl (fun x1 x2=>x1++x2) #[] (List.replicate m its.toArray)=(List.replicate m its).flatten.toArray:=fun m=>by
   have:=qcY its m []
   rw [List.nil_append] at this
   exact this
  rw [f0]
  cases its with
  | nil=>simp
  | cons a r'=>rw [if_neg (by simp)]
 refine wpAny_binaryOp_repeat_ref (T:= "list") (U:= "int") (by decide) ⟨_,e,rfl⟩ (fun s'=>typeIs_int s' k t) noFill_list_mul F.fills_int_mul F.slot_int_rmul repeat_list F.slot_int_index.lookup
  (call_meets F.slot_int_rmul (typeIs_int s k t) F.entry_int_rmul (F.args_int_rmul_2 _ _) (int___rmul___int_list k t l its.toArray n)
   ⟨e,rfl,⟨_,e,rfl⟩,call_meets F.slot_list_mul ⟨_,e,rfl⟩ F.entry_list_mul (F.args_list_mul_2 _ _) (AutoListH.list___mul___list_int_3 l its.toArray n k t hfit hcap hlong) ⟨e,?_⟩⟩)
 rw [hnew]
 exact ⟨.ref _,_,I.lnew (t':=s.toks) (r.rep k.toNat) (by rw [qjK,Nat.mul_comm];exact hz),rfl,q _ I.fresh⟩
end
section
variable {prog:Program} {w:World} {A:Around} {E:Value->Shared->Prop} {s:Shared}
set_option maxRecDepth 100000 in
end
section
variable {X:Cx}
end
end L2
namespace Att
open PySem PySem.W PySem.Calls PyProof.Rows
theorem qbX {P:Params} {h:Heap}:∀ (ns:List Int) (vs:List Value),WellAll P h vs (ns.map WData.int)->IntsAre vs ns:=by
 intro ns
 induction ns with
 | nil=>
  intro vs w
  rw [List.map_nil] at w
  cases w
  exact .nil
 | cons n ns ih=>
  intro vs w
  rw [List.map_cons] at w
  cases w with
  | cons a b=>
   cases a
   exact .cons _ _ (ih _ b)
theorem qfg {l:OpenLaw} {n:Nat} (hn:l.most=some n) {P:Params} {h:Heap} {args:List WData} {vals:List Value}
  (hpre:l.row.toRowW.claim.pre args=true) (hwl:WellAll P h vals args) :
  ∃ a vs ns,vals=[Value.ref a]/\args=[WData.list (ns.map WData.int)]/\h.get? a=some { cls:=.type "list",data:=.seq vs.toArray }/\IntsAre vs ns/\ns.length<=n:=by
 have hsh:WShape.hasAll [] args [.list .int]=true:=(pre_splitW hpre).1
 have hc:l.pre.holds [] { args:=args }=true:=(pre_splitW hpre).2
 obtain ⟨d,r,rfl,h1,h2⟩:=hasAllW_cons hsh
 obtain rfl:=hasAllW_nil h2
 obtain ⟨xs,rfl,h3⟩:=hasW_list h1
 obtain ⟨ns,rfl⟩:=items_int h3
 have hlen:ns.length<=n:=by
  unfold OpenLaw.pre at hc
  have h4:(WTm.not (.lt (.lit (.int (n:Int))) (.len (.arg 0)))).holds [] { args:=[.list (ns.map .int)] }=true:=by
   have h4:=(holds_andW hc).1
   rw [hn] at h4
   exact h4
  have h5:=condW_of h4 (w_not (w_lt w_lit (w_len_list (w_arg rfl))))
  rw [lM_] at h5
  refine Nat.le_of_not_lt fun q=>?_
  have q':(n:Int) < ((ns.length:Nat):Int):=by omega
  first
   | (rw [decide_eq_true q'] at h5;exact absurd h5 (by decide))
   | (simp at h5;omega)
 cases hwl with
 | cons w1 w2=>
  cases w2
  cases w1 with
  | list ho hall=>exact ⟨_,_,ns,rfl,rfl,ho,qbX ns _ hall,hlen⟩
theorem qfu (l:OpenLaw) (args:List WData):l.row.toRowW.claim.post args (.bool true) args=true:=
 postW_of (r:=l.row.toRowW) (X:=(true == true))
  (show WShape.has [] (.bool true) .bool=true by first | rfl | decide | simp [WShape.has,WShape.arms,WShape.armsAll])
  (show (WTm.eq .res (.lit (.bool true))).value [] { args:=args,res:=some (.bool true),after:=args }=some (.bool (true == true)) from w_eq_bool (w_res rfl) w_lit) rfl
theorem attach_call {l:OpenLaw} {n:Nat} {q:Program} {loose:List Str} {XP:(Str->Option Value)->Heap->Prop} {YP:World->Heap->Prop} {d:DefRec}
  (hn:l.most=some n) (hdf:d.params.defaults=[])
  (call:∀ (w:World) (s₀ s₁:Shared) (mg mb:Str->Option Value) (fa:Addr) (o:Obj) (pm cd doc:Value) (a:Addr) (vs:List Value) (ns:List Int),
   Ground q loose [] XP w s₀ mg mb s₁.heap->YP w s₁.heap →
   s₁.heap.get? fa=some o->o.data = .func (docDef d.name d.params d.body d.scope pm cd doc)->s₁.heap.CodeRec cd d.name->mg d.name=some (.ref fa) →
   s₁.heap.get? a=some { cls:=.type "list",data:=.seq vs.toArray }->IntsAre vs ns->ns.length<=n->s₁.gens = #[] →
   codeAny (model l.prog w) callerA (.call (.ref fa) ⟨[.ref a],[]⟩) (fun r s'=>r = .ok (.ret (.bool true))/\OldK s₁.heap s'.heap/\s'.os=s₁.os/\AllBare s'.gens) s₁) :
  WalkO q loose XP YP l.row.toRowW d [] (fun f vs=>PySem.call f vs):=by
 intro w s₀ s₁ mg mb G Y fa o pm cd doc dV kV ho hd hcd hD hmg hg args vals as hpre hlay hrd hwl hlo
 obtain rfl:dV = .none:=Dflts.none hD hdf
 obtain rfl:kV = .none:=Dflts.noKw hD
 obtain ⟨a,vs,ns,rfl,rfl,hobj,hints,hlen⟩:=qfg hn hpre hwl
 refine enter_call (codeAny_mono (call w s₀ s₁ mg mb fa o pm cd doc a vs ns G Y ho (fd_plain hd) hcd hmg hobj hints hlen hg) fun r s' hq=>?_)
 obtain ⟨rfl,h2,h3,h4⟩:=hq
 exact ⟨.inl ⟨.bool true,.bool true,[],rfl,fun _=>rfl,.bool true,qfu l _,fun _=>⟨List.Pairwise.nil,fun _ hm=>(nomatch hm)⟩⟩,h2,h3,h4⟩
section
variable {prog:Program} {w:World} {A:Around} {E:Value->Shared->Prop} {s:Shared} {K:Frag}
end
end Att
namespace L2
open PySem PySem.Spec PyProof.Rows
theorem qcH:∀ {vs:List Value} {ns:List Int},IntsAre vs ns->Vals (ns.map V.int) vs
 | _,_,.nil=>.nil
 | _,_,.cons n t h=>.cons ⟨t,rfl⟩ (qcH h)
end L2
namespace L2
open PySem PySem.Spec PyProof.Rows
end L2
/- THE LAST THEOREM (shape;LID,My.* are yours):
   My.Adr: a structure of the addresses that your layer names (classes,functions);My.Txt K t: a structure (Prop) of the equations over K;
   My.txt_mk:{K} {implicit addresses ..} (e1:nsIn K mainGlobals "law" = some (some (.ref f))) (e2:K.lookup f=some ⟨oc,od,.func (fnOf "law" "law" params body scope dV kV doc pm an cdv ct),sl⟩) (e3:codeIn K cdv "law" = true) .. : ∃ t,My.Txt K t
set_option maxRecDepth 100000 in
set_option maxHeartbeats 0 in
theorem PySem.Challenge.cw_LID_holds : PySem.Challenge.rw_LID.Holds := by
 w_on;o_law;k_head;(case hw=>w_witness2)
 k_fill
 refine L2.walk_of (l:=PySem.Challenge.rw_LID) (n:=63) (k:=40) (x:= "script") (CX:=fun w=>..) (sp:=fun _=>My.sp_law) rfl (by decide) rfl ⟨rfl,by decide,by decide⟩ (fun w h Y=>PySem.W.kIn_of Y) ?F ?S ?C
 case F=>
  intro w mg fa h KX G hmg
  have T:∃ t,My.Txt (L2.KOf KX) t:=by
   dsimp only [L2.KOf]                          -- K must stand as «<heap const> w.params» for k_is
   refine' My.txt_mk ?e1 ?e2 ?e3 ..
   (case e1=>PySem.W.k_is)                    -- in the order: a name -> its address -> its object -> its parts
   (case e2=>PySem.W.k_is)
   ..
  obtain ⟨t,T⟩:=T
  have e0:=hmg.symm.trans (PySem.W.mg_of KX G T.law)
  cases e0                                       -- fa is the law's own address
  exact ⟨_,fun s u=>.of_eq rfl,fun base kb nb=>My.law_fn T kb nb⟩     -- if «.of_eq rfl» comes too early: refine' ⟨_,?b,fun base kb nb=>My.law_fn T kb nb⟩;exact fun s u=>.of_eq rfl
 case S=>exact fun w H a ns hl hO hS=>..
 case C=>exact ..
(the tactic k_is has no namespace: write k_is) -/
namespace L2
open PySem PySem.Spec PyProof.Rows
def qaw (s:Stmt):Arguments:=match s with
 | .FunctionDef _ a _ _ _ _ _ _ _ _=>a
 | _=>{ posonlyargs:=[],args:=[],vararg:=none,kwonlyargs:=[],kw_defaults:=[],kwarg:=none,defaults:=[] }
def qar (s:Stmt):List Stmt:=match s with
 | .FunctionDef _ _ b _ _ _ _ _ _ _=>b
 | _=>[]
def qad (s:Stmt):Scope:=match s with
 | .FunctionDef _ _ _ _ _ _ sc _ _ _=>sc
 | _=>{ kind:=.function,names:=[],isGenerator:=false,isCoroutine:=false }
abbrev CX0:CXT:=fun _ _ _ _ _ _=>False
abbrev E0:XK:=fun _ _ _=>False
theorem qk8 {X:Cx}:qgp CX0 X E0:=fun _ _ _ _ _ _ _ h=>h.elim
structure Fun (K:PySem.W.Frag) (x qual:Str) (st:Stmt) (f:Addr) (fd:FuncData):Prop where
 ex:∃ (oc:Value) (od:Option Addr) (kV doc pm:Value) (an:Option Addr) (cdv ct:Value) (osl:Array (Option Value)),
  fd=PySem.W.fnOf x qual (qaw st) (qar st) (qad st) .none kV doc pm an cdv ct/\K.lookup f=some ⟨oc,od,.func fd,osl⟩/\PySem.W.codeIn K cdv qual=true
 kp:PySem.W.keepIn K (.ref f)=true
section
variable {P:Program} {w:World} {K:PySem.W.Frag} {mg:Str->Option Value} {base:Heap}
theorem Fun.ok {x qual:Str} {st:Stmt} {f:Addr} {fd:FuncData} {N ps:List Str} {k:Nat} {sp:Sp} (F:Fun K x qual st f fd) (S:FnScope N ps (qad st)) (len:∀ vs H Q E,sp vs H Q E->vs.length=ps.length)
  (hbody:∀ (cdv:Value) (A:Around) (outer:List Env) (s:Shared) (H:Hp) (vs:List V) (Q:VK) (E:XK),Room k (A.deeper (envOfC qual (qad st) s.heap.objs.size f cdv))->sp vs H Q E →
   ∃ t,PSs (qhZ CX0 P w K mg base N qual (qad st) f cdv A outer s H E).nox (qar st) t/\t { nx:=fun _ H'=>Q .non H',rt:=Q } (start N vs) H):FnOk P w K mg base CX0 (k+1) f fd ps sp:=by
 obtain ⟨oc,od,kV,doc,pm,an,cdv,ct,osl,rfl,lk,hcd⟩:=F.ex
 refine qlN lk hcd S len fun A outer s H vs Q E hr hsp=>?_
 obtain ⟨t,h,q⟩:=hbody cdv A outer s H vs Q E hr hsp
 exact ⟨t,h.nox,q⟩
theorem Fun.binds {x qual:Str} {st:Stmt} {f:Addr} {fd:FuncData} {ps:List Str} (F:Fun K x qual st f fd)
  (h:∀ (kV doc pm:Value) (an:Option Addr) (cdv ct:Value) (us:List Value),us.length=ps.length->bindArgs (PySem.W.fnOf x qual (qaw st) (qar st) (qad st) .none kV doc pm an cdv ct) ⟨us,[]⟩=pure (ps.zip us)):Binds K fd ps []:=by
 obtain ⟨oc,od,kV,doc,pm,an,cdv,ct,osl,rfl,lk,hcd⟩:=F.ex
 exact .all (h kV doc pm an cdv ct)
theorem qhT {x qual:Str} {st:Stmt} {f:Addr} {oc:Value} {od an:Option Addr} {osl:Array (Option Value)} {kV doc pm cdv ct:Value} (l:K.lookup f=some ⟨oc,od,.func (PySem.W.fnOf x qual (qaw st) (qar st) (qad st) .none kV doc pm an cdv ct),osl⟩)
  (c:PySem.W.codeIn K cdv qual=true) (k:PySem.W.keepIn K (.ref f)=true):Fun K x qual st f (PySem.W.fnOf x qual (qaw st) (qar st) (qad st) .none kV doc pm an cdv ct):=⟨⟨oc,od,kV,doc,pm,an,cdv,ct,osl,rfl,l,c⟩,k⟩
end
section
variable {X:Cx}
end
theorem qaJ {c A B:Prop} [Decidable c] (h1:c->A) (h2:¬ c->B):if c then A else B:=by
 by_cases h:c
 ·rw [if_pos h]
  exact h1 h
 ·rw [if_neg h]
  exact h2 h
def Same (H H':Hp):Prop:=∀ b o,H b=some o->H' b=some o
theorem Same.refl (H:Hp):Same H H:=fun _ _ h=>h
theorem Same.trans {H H1 H2:Hp} (a:Same H H1) (b:Same H1 H2):Same H H2:=fun c o h=>b c o (a c o h)
theorem Same.free {H H':Hp} (e:Same H H') {l:Addr} (h:H' l=Option.none):H l=Option.none:=by
 cases q:H l with
 | none=>rfl
 | some o=>
  rw [e l o q] at h
  cases h
theorem Same.seq {K:PySem.W.Frag} {H H':Hp} {a:Addr} {xs:List V} (e:Same H H') (h:SqL K H a xs):SqL K H' a xs:=by
 rcases h with (h | ⟨o,h⟩) | h
 ·exact .inl (.inl (e _ _ h))
 ·exact .inl (.inr ⟨o,e _ _ h⟩)
 ·exact .inr h
end L2
section
namespace L2
open PySem
section
variable {prog:Program} {w:World} {A:Around} {R:Result->Shared->Prop} {s:Shared}
theorem qbt {elt target iter:Expr} {ifs:List Expr} {scope:Scope} {pos:Pos} {it acc:Value} {env:Env} (I:Nat->Shared->Prop)
  (turn:∀ n s,I n s->wpAny (model prog w) A (pyNext it) (fun r s₁=>match r with
   | none=>R (.ok .next) s₁
   | some v=>wpAny (model prog w) A (letOwnedTupleGo target it v) (fun _ s₁'=>wpAny (model prog w) A (assign target env v) (fun _ s₂=>
     wpAny (model prog w) A (forIn ifs true fun c r=>if r=true then do let ok <-isTrue c env (eval c env);pure (ForInStep.yield ok) else pure (ForInStep.yield r)) (fun ok s₃=>
      if ok=true then wpAny (model prog w) A (eval elt env) (fun x s₄=>
       wpAny (model prog w) A (call (.builtin "list.append") [acc,x]) (fun _ s₅=>∃ m,m < n/\I m s₅) (fun _ _=>False) s₄) (fun _ _=>False) s₃
      else ∃ m,m < n/\I m s₃) (fun _ _=>False) s₂) (fun _ _=>False) s₁') (fun _ _=>False) s₁) (fun _ _=>False) s)
  (n:Nat) (h:I n s) :
  codeAny (model prog w) A (.compLoop (.ListComp elt [⟨target,iter,ifs,0⟩] scope pos) 0 it acc env) R s:=by
 refine codeAny_loop rfl I (fun n s hI=>?_) n h
 show wpAny _ A ((compTurn (.ListComp elt [⟨target,iter,ifs,0⟩] scope pos) 0 it acc env).onRaise (fun x=>do noteFrame x env;theTreesLotGoes x)) _ _ s
 refine wpAny_noted ?_
 rw [compTurn_list]
 refine wpAny_bind (wpAny_standAt (wpAny_bind (wpAny_mono (turn n s hI) (fun r s₁ h₁=>?_) fun _ _ h'=>h'.elim)))
 cases r with
 | none=>exact wpAny_pure h₁
 | some v=>
  refine wpAny_bind (wpAny_mono h₁ (fun _ s₁' h₁'=>?_) fun _ _ h'=>h'.elim)
  refine wpAny_bind (wpAny_mono h₁' (fun _ s₂ h₂=>wpAny_bind (wpAny_mono h₂ (fun ok s₃ h₃=>?_) fun _ _ h'=>h'.elim)) fun _ _ h'=>h'.elim)
  cases ok with
  | false=>exact wpAny_pure ⟨rfl,h₃⟩
  | true=>
   exact wpAny_bind (wpAny_bind (wpAny_mono h₃ (fun x s₄ h₄=>wpAny_bind (wpAny_mono h₄ (fun _ s₅ h₅=>wpAny_pure (wpAny_pure ⟨rfl,h₅⟩)) fun _ _ h'=>h'.elim)) fun _ _ h'=>h'.elim))
end
theorem qa4 {env:Env}:∀ (names:List (Str×NameKind)) (acc:List (Str×Addr)),(∀ y∈names,y.2 = .free->∃ c,env.cells.lookup y.1=some c)->(∀ x c,acc.lookup x=some c->env.cells.lookup x=some c) →
  ∃ cl:List (Str×Addr),(forIn names acc fun (x:Str×NameKind) (r:List (Str×Addr))=>(match x with | (name,kind)=>if (kind == NameKind.free)=true then do let a <-cellOf env name;pure (ForInStep.yield ((name,a) :: r)) else pure (ForInStep.yield r):Sem (ForInStep (List (Str×Addr)))))=pure cl ∧
   (∀ x c,cl.lookup x=some c->env.cells.lookup x=some c)/\(∀ y∈names,y.2 = .free->∃ c,cl.lookup y.1=some c)/\∀ x c,acc.lookup x=some c->∃ c',cl.lookup x=some c'
 | [],acc,_,h=>⟨acc,rfl,h,(fun y z=>by cases z),fun _ c e=>⟨c,e⟩⟩
 | (name,kind) :: r,acc,hf,h=>by
  by_cases hk:kind = .free
  ·subst hk
   obtain ⟨c,hc⟩:=hf (name,.free) List.mem_cons_self rfl
   have h2:∀ x d,((name,c) :: acc).lookup x=some d->env.cells.lookup x=some d:=fun x d e=>by
    rw [List.lookup_cons] at e
    cases hx:x == name with
    | true=>rw [hx] at e;cases e;rw [eq_of_beq hx];exact hc
    | false=>rw [hx] at e;exact h x d e
   obtain ⟨cl,e,h3,h4,h5⟩:=qa4 r ((name,c) :: acc) (fun y hy=>hf y (mC_ _ hy)) h2
   refine ⟨cl,?_,h3,fun y hy hyf=>?_,fun x d hx=>?_⟩
   ·rw [List.forIn_cons]
    simp only [beq_self_eq_true,if_true,cellOf,hc,pure_bind]
    exact e
   ·rcases List.mem_cons.mp hy with rfl | hy
    ·exact h5 name c (by simp [List.lookup_cons])
    ·exact h4 y hy hyf
   ·cases hxn:x == name with
    | true=>exact h5 x c (by rw [List.lookup_cons,hxn])
    | false=>exact h5 x d (by rw [List.lookup_cons,hxn];exact hx)
  ·obtain ⟨cl,e,h3,h4,h5⟩:=qa4 r acc (fun y hy=>hf y (mC_ _ hy)) h
   have hb:(kind == NameKind.free)=false:=by simpa using hk
   refine ⟨cl,?_,h3,fun y hy hyf=>?_,h5⟩
   ·rw [List.forIn_cons]
    simp only [hb,Bool.false_eq_true,if_false,pure_bind]
    exact e
   ·rcases List.mem_cons.mp hy with rfl | hy
    ·exact absurd hyf hk
    ·exact h4 y hy hyf
theorem qa8 {env:Env} {scope:Scope} (hf:∀ y∈scope.names,y.2 = .free->∃ c,env.cells.lookup y.1=some c) :
  ∃ cl,closureFor scope env=pure cl/\(∀ x c,cl.lookup x=some c->env.cells.lookup x=some c)/\∀ y∈scope.names,y.2 = .free->∃ c,cl.lookup y.1=some c:=by
 obtain ⟨cl,e,h1,h2,_⟩:=qa4 (env:=env) scope.names [] hf (fun x c e=>by simp at e)
 refine ⟨cl,?_,h1,h2⟩
 unfold closureFor
 exact (congrArg (· >>= pure) e).trans (pure_bind _ _)
end L2
end
section
namespace L2
open PySem PySem.Spec PyProof.Rows
abbrev Cx.block (X:Cx) (scope:Scope) (cl:List (Str×Addr)) (C:Addr) (N:List Str) (s:Shared) (H:Hp) (fp:List Addr):Cx:=
 { X with N:=N,s₀:=s,H₀:=H,env:=compEnvC scope cl C X.env,outer:=X.stack,ex:=fp,fn:=fun _=>false,pn:=[],xe:=fun _ _=>False }
def qcd (osc:Scope) (oN:List Str) (sc:Scope) (N:List Str) (js:List Nat):Bool:=
 sc.names.all (fun y=>y.2 != .cell) && (sc.names.all (fun y=>y.2 != .local || sc.names.lookup y.1 == some .local) && (decide (js.length<=N.length) &&
  (sc.names.all (fun y=>y.2 != .free || (osc.names.lookup y.1 == some .cell || osc.names.lookup y.1 == some .free)) &&
   (List.range js.length).all (fun i=>match N[N.length - js.length+i]?,oN[js.getD i 0]? with | some x,some y=>x == y && sc.names.lookup x == some .free | _,_=>false))))
structure CompSc (osc:Scope) (oN:List Str) (sc:Scope) (N:List Str) (js:List Nat):Prop where
 nocell:∀ y∈sc.names,y.2≠.cell
 names:∀ y∈sc.names,y.2 = .local->sc.names.lookup y.1=some .local
 len:js.length<=N.length
 tk:∀ y∈sc.names,y.2 = .free->osc.names.lookup y.1=some .cell\/osc.names.lookup y.1=some .free
 fr:∀ (i j:Nat),js[i]? = some j->∃ x,N[N.length - js.length+i]? = some x/\oN[j]? = some x/\sc.names.lookup x=some .free
theorem qc1 {osc:Scope} {oN:List Str} {sc:Scope} {N:List Str} {js:List Nat} (h:qcd osc oN sc N js=true):CompSc osc oN sc N js:=by
 unfold qcd at h
 simp only [Bool.and_eq_true] at h
 obtain ⟨h1,h2,h3,h4,h5⟩:=h
 refine ⟨fun y hy=>?_,fun y hy hl=>?_,of_decide_eq_true h3,fun y hy hf=>?_,fun i j hj=>?_⟩
 ·have:=List.all_eq_true.mp h1 y hy
  simpa using this
 ·have:=List.all_eq_true.mp h2 y hy
  rw [hl] at this
  simpa using this
 ·have:=List.all_eq_true.mp h4 y hy
  rw [hf] at this
  simpa using this
 ·have hi:i < js.length:=(gS_ hj).1
  have:=List.all_eq_true.mp h5 i (List.mem_range.mpr hi)
  have e:js.getD i 0=j:=by rw [List.getD_eq_getElem?_getD,hj];rfl
  rw [e] at this
  split at this
  ·rename_i x y e1 e2
   simp only [Bool.and_eq_true,beq_iff_eq] at this
   obtain ⟨rfl,h⟩:=this
   exact ⟨x,e1,e2,h⟩
  ·cases this
def blk (n:Nat) (js:List Nat) (σ:St):St:=List.replicate n none++js.map fun j=>(σ[j]?).join
theorem qgm {n:Nat} {js:List Nat} {σ:St} {i:Nat} {v:V} (h:(blk n js σ)[i]? = some (some v)):∃ k j,i=n+k/\js[k]? = some j/\σ[j]? = some (some v):=by
 unfold blk at h
 by_cases hi:i < n
 ·rw [List.getElem?_append_left (by simpa using hi),List.getElem?_replicate] at h
  split at h<;>cases h
 ·rw [List.getElem?_append_right (by simpa using hi),List.length_replicate,gM_] at h
  cases e:js[i - n]? with
  | none=>rw [e] at h;cases h
  | some j=>
   rw [e] at h
   refine ⟨i - n,j,by omega,e,?_⟩
   have h':(σ[j]?).join=some v:=by simpa using h
   cases q:σ[j]? with
   | none=>rw [q] at h';cases h'
   | some o=>
    rw [q] at h'
    have:o=some v:=h'
    rw [this]
theorem qaQ {env:Env}:∀ {names:List (Str×NameKind)} {x:Str} {k:NameKind},
  (names.map fun (n,k)=>if (k == NameKind.free && env.scope.kind == .function && env.kindOf n == some .cell) then (n,NameKind.cell) else (n,k)).lookup x=some k->k = .cell\/k = .free->(∀ y∈names,y.2≠.cell)->(x,NameKind.free)∈names
 | [],_,_,h,_,_=>by simp at h
 | (n,k1) :: r,x,k,h,hk,hc=>by
  have ih:=@qaQ env r x k
  have hc':∀ y∈r,y.2≠.cell:=fun y hy=>hc y (mC_ _ hy)
  have h1:k1≠.cell:=hc (n,k1) List.mem_cons_self
  have h:List.lookup x ((if (k1 == NameKind.free && env.scope.kind == .function && env.kindOf n == some .cell)=true then (n,NameKind.cell) else (n,k1)) :: _)=some k:=h
  by_cases c:(k1 == NameKind.free && env.scope.kind == .function && env.kindOf n == some .cell)=true
  ·rw [if_pos c,List.lookup_cons] at h
   cases hx:x == n with
   | true=>
    have e:k1 = .free:=by simp only [Bool.and_eq_true,beq_iff_eq] at c;exact c.1.1
    rw [eq_of_beq hx,e]
    exact List.mem_cons_self
   | false=>rw [hx] at h;exact mC_ _ (ih h hk hc')
  ·rw [if_neg c,List.lookup_cons] at h
   cases hx:x == n with
   | true=>
    rw [hx] at h
    have e:k1=k:=oI_ h
    have e2:k1 = .free:=by
     rcases hk with z | z
     ·exact absurd (e.trans z) h1
     ·exact e.trans z
    rw [eq_of_beq hx,e2]
    exact List.mem_cons_self
   | false=>rw [hx] at h;exact mC_ _ (ih h hk hc')
theorem qa0 {env:Env}:∀ {names:List (Str×NameKind)} {x:Str},names.lookup x=some .free →
  (names.map fun (n,k)=>if (k == NameKind.free && env.scope.kind == .function && env.kindOf n == some .cell) then (n,NameKind.cell) else (n,k)).lookup x=some .cell ∨
  (names.map fun (n,k)=>if (k == NameKind.free && env.scope.kind == .function && env.kindOf n == some .cell) then (n,NameKind.cell) else (n,k)).lookup x=some .free
 | [],_,h=>by simp at h
 | (n,k1) :: r,x,h=>by
  have ih:=@qa0 env r x
  show List.lookup x ((if (k1 == NameKind.free && env.scope.kind == .function && env.kindOf n == some .cell)=true then (n,NameKind.cell) else (n,k1)) :: _)=_\/List.lookup x ((if (k1 == NameKind.free && env.scope.kind == .function && env.kindOf n == some .cell)=true then (n,NameKind.cell) else (n,k1)) :: _)=_
  rw [List.lookup_cons] at h
  by_cases c:(k1 == NameKind.free && env.scope.kind == .function && env.kindOf n == some .cell)=true
  ·rw [if_pos c,List.lookup_cons]
   cases hx:x == n with
   | true=>exact .inl rfl
   | false=>rw [hx] at h;exact ih h
  ·rw [if_neg c,List.lookup_cons]
   cases hx:x == n with
   | true=>rw [hx] at h;exact .inr h
   | false=>rw [hx] at h;exact ih h
def PF (X:Cx) (ifs:List Expr) (t:TT):Prop:=
 ∀ (pins:List (Addr×Obj)) (s:Shared) (σ:St) (H:Hp) (Q:Bool->Hp->Prop),Inv X pins σ H s->t σ H Q →
  wpAny (model X.prog X.w) X.A (forIn ifs true fun c r=>if r=true then do let ok <-isTrue c X.env (eval c X.env);pure (ForInStep.yield ok) else pure (ForInStep.yield r)) (TP X pins σ Q) X.xe s
def qnw:TT:=fun _ H Q=>Q true H
theorem qkV {X:Cx}:PF X [] qnw:=fun _ _ _ H _ I h=>wpAny_tests_nil ⟨H,I,h⟩
theorem qhH {X:Cx} {c:Expr} {t:TT} (h:PT X c t):PF X [c] t:=fun pins s σ H Q I hw=>wpAny_tests_one (h pins s σ H Q I hw)
def qeq (n:Nat) (js:List Nat) (wi:TI) (g:TG) (tt:TT) (te:TE):TE:=fun σ H Q=>wi σ H fun J H1=>∀ D,H1 D=none->∃ W:Nat->Nat->St->Hp->List V->Prop,
 (∃ m,W 0 m (blk n js σ) (upd H1 D (.lst [])) [])/\∀ i m τ H2 ys,W i m τ H2 ys->H2 D=some (.lst ys) ∧
  ((J.stop i H2/\Q (.ref D) H2)\/(J.go i H2/\ys.length < sizeLine/\∃ N:St->Hp->List V->Prop,(∀ τ' H' ys',N τ' H' ys'->∃ m',m' < m/\W (i+1) m' τ' H' ys')/\∀ x H3,J.yld i H2 x H3->g x τ H3 fun τ4 H4=>tt τ4 H4 fun b H5=>
   if b=true then te τ4 H5 fun y H6=>H6 D=some (.lst ys)/\N τ4 (upd H6 D (.lst (ys++[y]))) (ys++[y])
   else N τ4 H5 ys))
section
variable {X:Cx}
theorem qgl {pins:List (Addr×Obj)} {σ:St} {H:Hp} {s:Shared} {h₁:Heap} {tk:Nat} {scope:Scope} {N:List Str} {js:List Nat} {cl:List (Str×Addr)} {fp:List Addr}
  (I:Inv X pins σ H s) (hk:scope.kind = .function) (hN:N.Nodup) (S:CompSc X.env.scope X.N scope N js) (hcl:∀ x c,cl.lookup x=some c->X.env.cells.lookup x=some c) (hcl2:∀ y∈scope.names,y.2 = .free->∃ c,cl.lookup y.1=some c)
  (hf:∀ b∈fp,b < s.heap.objs.size/\b≠X.env.locals/\b ∉ X.fs/\(b∈X.ex\/X.s₀.heap.objs.size<=b)/\(∀ x c,X.env.cells.lookup x=some c->c≠b))
  (hns:h₁.Ns s.heap.objs.size fun _=>none) (old:∀ b o,s.heap.get? b=some o->h₁.get? b=some o) :
  Inv (X.block scope cl s.heap.objs.size N s H fp) [] (blk (N.length - js.length) js σ) H { s with heap:=h₁,toks:=tk }:=by
 have look:∀ x,((relabel scope X.env).names.lookup x=some .cell\/(relabel scope X.env).names.lookup x=some .free)->∃ c,cl.lookup x=some c:=fun x hx=>by
  have hm:(x,NameKind.free)∈scope.names:=by
   rcases hx with z | z
   ·exact qaQ z (.inl rfl) S.nocell
   ·exact qaQ z (.inr rfl) S.nocell
  exact hcl2 _ hm rfl
 refine ⟨⟨I.ok.mod,hk,I.ok.glob,I.ok.blt,Nat.le_refl _,fun x y c h1 h2=>I.ok.inj x y c (hcl x c h1) (hcl y c h2),look,fun x c h=>(by cases h),I.ok.hd,I.ok.frames,.inl rfl,fun b hb=>?_,I.bs,Nat.le_trans I.ok.bsz I.sz,fun b o e hb=>?_,fun b hb z=>?_,I.stack,I.stkFree⟩,
  rfl,I.bare,Un.kept old,⟨_,hns,fun i x v h1 h2 h3=>?_⟩,fun x c h=>?_,I.hok.fresh (Nat.le_refl _),fun x c h=>I.freeC x c (hcl x c h),fun p hp=>absurd (show p∈([]:List (Addr×Obj)) from hp) (by simp),I.hok.kept old,?_⟩
 ·exact ⟨Nat.ne_of_lt (hf b hb).1,fun x c h=>(hf b hb).2.2.2.2 x c (hcl x c h)⟩
 ·rcases (hf b hb).2.2.2.1 with z | z
  ·exact I.ok.noex b o e z
  ·exact absurd (Nat.lt_of_lt_of_le (Heap.lt_size e) (Nat.le_trans I.ok.bsz z)) (Nat.lt_irrefl _)
 ·rcases List.mem_cons.mp (I.stkSub b z) with q | q
  ·exact (hf b hb).2.1 q
  ·exact (hf b hb).2.2.1 q
 ·obtain ⟨k,j,rfl,hj,hσ⟩:=qgm h2
  obtain ⟨x',e1,e2,e3⟩:=S.fr k j hj
  rw [e1] at h1
  have ex:x'=x:=oI_ h1
  subst ex
  have ok:=S.tk _ (PySem.mem_of_lookup e3) rfl
  obtain ⟨m,_,hl⟩:=I.loc
  obtain ⟨u,r,l⟩:=hl j x' v e2 hσ (.inr ok)
  refine ⟨u,r,?_⟩
  rcases l with ⟨hk',_⟩ | ⟨_,c,hc,hcell⟩
  ·have hk2:X.env.scope.names.lookup x'=some .local:=hk'
   rcases ok with z | z<;>(rw [hk2] at z;cases z)
  ·obtain ⟨c',hc'⟩:=hcl2 _ (PySem.mem_of_lookup e3) rfl
   have:c'=c:=oI_ ((hcl _ _ hc').symm.trans hc)
   subst this
   obtain ⟨o,ho,hd⟩:=hcell
   exact .inr ⟨qa0 e3,c',hc',⟨o,old _ _ ho,hd⟩⟩
 ·obtain ⟨v,o,ho,hd⟩:=I.cell x c (hcl x c h)
  exact ⟨v,o,old _ _ ho,hd⟩
 ·show (blk (N.length - js.length) js σ).length=N.length
  unfold blk
  rw [lA_,List.length_replicate,lM_]
  have:=S.len
  omega
theorem qcc {pins:List (Addr×Obj)} {σ:St} {H:Hp} {s:Shared} {elt target iter:Expr} {ifs:List Expr} {scope:Scope} {pos:Pos} {N:List Str} {js:List Nat} {cl:List (Str×Addr)} {J:It} {fp:List Addr} {it:Addr} {tn:Nat->Heap->Prop}
  {g:TG} {tt:TT} {te:TE} {E:Value->Shared->Prop} {RR:Value->Addr->Result->Shared->Prop} {Q:VK}
  (hc:X.calm=true) (I:Inv X pins σ H s) (T:Turn X.prog X.w X.K target J fp it tn) (st:tn 0 s.heap) (hf:∀ b∈fp,qdK X pins H b)
  (hk:scope.kind = .function) (hN:N.Nodup) (S:CompSc X.env.scope X.N scope N js) (hcl:∀ x c,cl.lookup x=some c->X.env.cells.lookup x=some c) (hcl2:∀ y∈scope.names,y.2 = .free->∃ c,cl.lookup y.1=some c)
  (hg:∀ cl C s H fp,PG (X.block scope cl C N s H fp) target g) (ht:∀ cl C s H fp,PF (X.block scope cl C N s H fp) ifs tt) (he:∀ cl C s H fp,PE (X.block scope cl C N s H fp) elt te)
  (h:∀ D,H D=none->∃ W:Nat->Nat->St->Hp->List V->Prop,(∃ m,W 0 m (blk (N.length - js.length) js σ) (upd H D (.lst [])) [])/\∀ i m τ H2 ys,W i m τ H2 ys->H2 D=some (.lst ys) ∧
   ((J.stop i H2/\Q (.ref D) H2)\/(J.go i H2/\ys.length < sizeLine/\∃ N:St->Hp->List V->Prop,(∀ τ' H' ys',N τ' H' ys'->∃ m',m' < m/\W (i+1) m' τ' H' ys')/\∀ x H3,J.yld i H2 x H3->g x τ H3 fun τ4 H4=>tt τ4 H4 fun b H5=>
    if b=true then te τ4 H5 fun y H6=>H6 D=some (.lst ys)/\N τ4 (upd H6 D (.lst (ys++[y]))) (ys++[y])
    else N τ4 H5 ys)))
  (hend:∀ D C H' s',(∃ m,s'.heap.Ns C m)->qdK X pins H' C->Inv X pins σ H' s'->Q (.ref D) H'->RR (.ref D) C (.ok .next) s') :
  wpAny (model X.prog X.w) X.A (newList []) (fun acc s₃=>wpAny (model X.prog X.w) X.A (newFunctionEnv scope X.env.globals cl [] X.env.qual none .none (some X.env)) (fun cenv s₄=>
   codeAny (model X.prog X.w) X.A (.compStart (.ListComp elt [⟨target,iter,ifs,0⟩] scope pos) 0 (.ref it) acc { cenv with scope:=relabel scope X.env }) (RR acc cenv.locals) s₄) E s₃) E s:=by
 obtain ⟨W,⟨m0,w0⟩,turn⟩:=h s.heap.objs.size I.fresh
 refine wpAny_newObj_type (wpAny_newFunctionEnv S.nocell (by intro y hy;simp at hy) (fun h₁ hns₁ hsb₁=>?_) hk)
 have I3:Inv X pins σ (upd H s.heap.objs.size (.lst [])) { s with heap:=s.heap.push { cls:=.type "list",dict:=none,data:=.seq ([]:List Value).toArray } }:=I.lnew (its:=[]) (ys:=[]) (t':=s.toks) .nil (Nat.zero_le _)
 have hF3:∀ b∈fp,b < s.heap.objs.size:=fun b hb=>by
  obtain ⟨o,e,_⟩:=T.obj 0 s.heap st b hb
  exact Heap.lt_size e
 have st3:tn 0 (s.heap.push { cls:=.type "list",dict:=none,data:=.seq ([]:List Value).toArray }):=T.keep 0 _ _ st fun b hb o e=>Heap.get?_push_of_some _ e
 generalize hs3:({ s with heap:=s.heap.push { cls:=.type "list",dict:=none,data:=.seq ([]:List Value).toArray } }:Shared)=s3 at I3 hns₁ hsb₁ ⊢
 have e3:s3.heap=s.heap.push { cls:=.type "list",dict:=none,data:=.seq ([]:List Value).toArray }:=by rw [<-hs3]
 rw [<-e3] at st3
 have z3:s.heap.objs.size<=s3.heap.objs.size:=by rw [e3,Heap.size_push];exact Nat.le_succ _
 have old:∀ b o,s3.heap.get? b=some o->h₁.get? b=some o:=fun b o e=>hsb₁.extBut b o (Nat.ne_of_lt (Heap.lt_size e)) (Heap.get?_push_of_some _ e)
 have hf3:∀ b∈fp,b < s3.heap.objs.size/\b≠X.env.locals/\b ∉ X.fs/\(b∈X.ex\/X.s₀.heap.objs.size<=b)/\(∀ x c,X.env.cells.lookup x=some c->c≠b):=fun b hb=>
  let ⟨_,q1,q2,q3,q4,_⟩:=hf b hb
  ⟨Nat.lt_of_lt_of_le (hF3 b hb) z3,q1,q2,q3,q4⟩
 have nD:∀ b∈fp,upd H s.heap.objs.size (.lst []) b=none:=fun b hb=>by
  rw [qac (Nat.ne_of_lt (hF3 b hb))]
  exact (hf b hb).1
 have I4:Inv (X.block scope cl s3.heap.objs.size N s3 (upd H s.heap.objs.size (.lst [])) fp) [] (blk (N.length - js.length) js σ) (upd H s.heap.objs.size (.lst [])) { s3 with heap:=h₁,toks:=s3.toks+([]:List (Str×Value)).length }:=
  qgl I3 hk hN S hcl hcl2 hf3 hns₁ old
 have st4:tn 0 h₁:=T.keep 0 _ _ st3 fun b hb o e=>old b o e
 have hg':=hg cl s3.heap.objs.size s3 (upd H s.heap.objs.size (.lst [])) fp
 have ht':=ht cl s3.heap.objs.size s3 (upd H s.heap.objs.size (.lst [])) fp
 have he':=he cl s3.heap.objs.size s3 (upd H s.heap.objs.size (.lst [])) fp
 have stat:∀ {H':Hp},(∀ b∈fp,H' b=none)->∀ b∈fp,qdK (X.block scope cl s3.heap.objs.size N s3 (upd H s.heap.objs.size (.lst [])) fp) [] H' b:=fun hn b hb=>
  ⟨hn b hb,(I4.ok.exf b hb).1,I4.ok.exfs b hb,.inl hb,(I4.ok.exf b hb).2,fun p hp=>absurd (show p∈([]:List (Addr×Obj)) from hp) (by simp)⟩
 have loop:codeAny (model X.prog X.w) X.A (.compLoop (.ListComp elt [⟨target,iter,ifs,0⟩] scope pos) 0 (.ref it) (.ref s.heap.objs.size) (compEnvC scope cl s3.heap.objs.size X.env)) (RR (.ref s.heap.objs.size) s3.heap.objs.size) { s3 with heap:=h₁,toks:=s3.toks+([]:List (Str×Value)).length }:=by
  refine qbt (fun n s'=>∃ i τ H' ys,Inv (X.block scope cl s3.heap.objs.size N s3 (upd H s.heap.objs.size (.lst [])) fp) [] τ H' s'/\tn i s'.heap/\(∀ b∈fp,H' b=none)/\W i n τ H' ys) ?_ m0 ⟨0,_,_,[],I4,st4,nD,w0⟩
  rintro n s5 ⟨i,τ,H5,ys,I5,st5,fr5,w5⟩
  obtain ⟨hD,hw⟩:=turn i n τ H5 ys w5
  rcases hw with ⟨stop,qn⟩ | ⟨go,hz,M,hM,step⟩
  ·refine thn (T.done (X.block scope cl s3.heap.objs.size N s3 (upd H s.heap.objs.size (.lst [])) fp) rfl rfl rfl hc i [] s5 τ H5 (fun _ _=>False) I5 (stat fr5) st5 stop) fun r s6 ⟨hr,I6⟩=>?_
   subst hr
   refine hend _ _ H5 s6 (let ⟨m,hn,_⟩:=I6.loc;⟨m,hn⟩) (I3.fpOk (Nat.le_refl _) I6.free) ?_ qn
   exact I3.call' (ch:=fp) I6.os I6.base I6.hok I6.bare fun b hb=>⟨(hf b hb).2.2.2.1,(hf b hb).2.1,(hf b hb).2.2.2.2.1,(hf b hb).2.2.2.2.2⟩
  ·refine thn (T.item (X.block scope cl s3.heap.objs.size N s3 (upd H s.heap.objs.size (.lst [])) fp) rfl rfl rfl hc i [] s5 τ H5 (fun _ _=>False) I5 (stat fr5) st5 go) fun r s6 ⟨u,hr,h6⟩=>?_
   subst hr
   refine thn h6 fun _ s7 ⟨x,H7,I7,r7,y7,st7,fr7⟩=>?_
   have I7':=I7.pinned (stat fr7) (T.obj _ _ st7)
   refine thn (hg' _ s7 τ H7 x u _ I7' r7 (step x H7 y7)) fun _ s8 ⟨τ8,H8,I8,q8⟩=>?_
   refine thn (ht' _ s8 τ8 H8 _ I8 q8) fun b s9 ⟨H9,I9,q9⟩=>?_
   have again:∀ {τ':St} {H':Hp} {s':Shared} {ys':List V},Inv (X.block scope cl s3.heap.objs.size N s3 (upd H s.heap.objs.size (.lst [])) fp) ([]++qb9 fp s7.heap) τ' H' s'->M τ' H' ys' →
     ∃ m,m < n/\∃ i τ H' ys,Inv (X.block scope cl s3.heap.objs.size N s3 (upd H s.heap.objs.size (.lst [])) fp) [] τ H' s'/\tn i s'.heap/\(∀ b∈fp,H' b=none)/\W i m τ H' ys:=fun {τ' H' s' ys'} I' hm'=>by
    obtain ⟨m',hm,w'⟩:=hM _ _ _ hm'
    refine ⟨m',hm,i+1,τ',H',ys',I'.unpinned,T.keep _ _ _ st7 fun b hb o e=>(I'.pin (b,o) (List.mem_append_right _ (List.mem_append_right _ (qaH hb e)))).1,fun b hb=>?_,w'⟩
    obtain ⟨o,e,d⟩:=T.obj _ _ st7 b hb
    exact (I'.pin (b,o) (List.mem_append_right _ (List.mem_append_right _ (qaH hb e)))).2.1
   cases b with
   | false=>exact again I9 q9
   | true=>
    refine thn (he' _ s9 τ8 H9 _ I9 q9) fun y s10 ⟨v10,H10,I10,r10,hD10,q10⟩=>?_
    refine thn (mt_append (X:=X.block scope cl s3.heap.objs.size N s3 (upd H s.heap.objs.size (.lst [])) fp) _ s10 τ8 H10 (.ref s.heap.objs.size) [v10] (.ref s.heap.objs.size) [y] (fun _ H'=>M τ8 H' (ys++[v10])) I10 rfl (.cons r10 .nil) ⟨_,ys,v10,rfl,rfl,hD10,hz,q10⟩) fun _ s11 ⟨_,H11,I11,_,q11⟩=>?_
    exact again I11 q11
 exact codeAny_compStart_list loop (T.self X.A 0 _ _ _ st4 loop)
variable {elt target iter:Expr} {ifs:List Expr} {scope:Scope} {pos spos:Pos} {wi:TI} {g:TG} {tt:TT} {te:TE}
theorem qi7 (N:List Str) (js:List Nat) (hok:qcd X.env.scope X.N scope N js=true) (hN:N.Nodup) (hc:X.calm=true) (hi:PI X target iter wi)
  (hg:∀ cl C s H fp,PG (X.block scope cl C N s H fp) target g) (ht:∀ cl C s H fp,PF (X.block scope cl C N s H fp) ifs tt) (he:∀ cl C s H fp,PE (X.block scope cl C N s H fp) elt te)
  (hk:scope.kind = .function:=by rfl) (hs:∀ x,foldedSetIterable iter X.env x=pure x:=by intro _;rfl) :
  PE X (.ListComp elt [⟨target,iter,ifs,0⟩] scope pos) (qeq (N.length - js.length) js wi g tt te):=by
 intro pins s σ H Q I h
 have S:=qc1 hok
 obtain ⟨cl,hclos,hcl,hcl2⟩:=qa8 (env:=X.env) (scope:=scope) fun y hy hf=>I.ok.has _ (S.tk y hy hf)
 rw [eval_ListComp]
 refine wpAny_comprehension_free (use:=none) rfl hs hclos hk S.names (thn (hi pins s σ H _ I h) fun v s1 h1=>thn h1 fun itv s2 h2=>?_)
 obtain ⟨it,fp,tn,J,H2,e,I2,T,st2,f2,hw⟩:=h2
 subst e
 refine qcc (RR:=fun acc C=>compPost (model X.prog X.w) X.A X.xe none (EP X pins σ Q) acc C) (Q:=Q) hc I2 T st2 f2 hk hN S hcl hcl2 hg ht he hw ?_
 rintro D C H' s' ⟨m,hn⟩ ⟨c0,c1,c2,c3,c4,c5⟩ I' q
 exact ⟨m,hn,fun h' hs'=>⟨.ref D,H',I'.turned (t':=s'.toks) (fun b o hb e=>(hs'.2 b hb).trans e) c0 c1 c3 c4 c5,rfl,q⟩⟩
theorem qev {i:Nat} {y:Str} {py:Pos} (N:List Str) (js:List Nat) (hok:qcd X.env.scope X.N scope N js=true) (hN:N.Nodup) (hc:X.calm=true) (hXN:X.N.Nodup) (hyi:X.N[i]? = some y) (hy:Loc X.env.scope y) (hi:PI X target iter wi)
  (hg:∀ cl C s H fp,PG (X.block scope cl C N s H fp) target g) (ht:∀ cl C s H fp,PF (X.block scope cl C N s H fp) ifs tt) (he:∀ cl C s H fp,PE (X.block scope cl C N s H fp) elt te)
  (hsw:swapsWith (.ListComp elt [⟨target,iter,ifs,0⟩] scope pos) (some (.Name y py)) spos.line X.env=pure true:=by rfl)
  (hk:scope.kind = .function:=by rfl) (hs:∀ x,foldedSetIterable iter X.env x=pure x:=by intro _;rfl) (hf:X.fn y=true\/X.env.scope.names.lookup y=some .local:=by first | exact .inl rfl | exact .inr rfl | assumption) :
  PS X (.Assign [.Name y py] (.ListComp elt [⟨target,iter,ifs,0⟩] scope pos) spos) (qj9 (qeq (N.length - js.length) js wi g tt te) (qah i)):=by
 intro pins s σ H D I h
 have S:=qc1 hok
 obtain ⟨cl,hclos,hcl,hcl2⟩:=qa8 (env:=X.env) (scope:=scope) fun y hy hf=>I.ok.has _ (S.tk y hy hf)
 rw [exec_Assign_Name_used _ _ _ _ hsw]
 refine wpAny_bind (wpAny_standAt (wpAny_bind ?_))
 show wpAny _ X.A (do let _ <-comprehension (.ListComp elt [⟨target,iter,ifs,0⟩] scope pos) scope X.env _ (newList []) false (eval iter X.env) (some (assign (.Name y py) X.env))) _ _ s
 refine wpAny_bind (wpAny_mono (wpAny_comprehension_free (use:=some (assign (.Name y py) X.env)) (Q:=fun _ s'=>SP X pins D .next s') rfl hs hclos hk S.names
  (thn (hi pins s σ H _ I h) fun v s1 h1=>thn h1 fun itv s2 h2=>?_)) (fun _ s' hq=>wpAny_pure (wpAny_pure hq)) fun _ _ e=>e)
 obtain ⟨it,fp,tn,J,H2,e,I2,T,st2,f2,hw⟩:=h2
 subst e
 refine qcc (RR:=fun acc C=>compPost (model X.prog X.w) X.A X.xe (some (assign (.Name y py) X.env)) (fun _ s'=>SP X pins D .next s') acc C) (Q:=fun v H'=>D.nx (σ.set i (some v)) H') hc I2 T st2 f2 hk hN S hcl hcl2 hg ht he hw ?_
 rintro E C H' s' ⟨m,hn⟩ ⟨c0,c1,c2,c3,c4,c5⟩ I' q
 show wpAny _ X.A (assign (.Name y py) X.env (.ref E)) _ _ _
 obtain ⟨oC,es,ep,hoC,hdC,hrC⟩:=id hn
 have I2':Inv X (pins++[(C,oC)]) σ H' s':=I'.pins_of fun p hp=>(mA_ hp).elim (fun z=>I'.pin p (List.mem_append_right _ z)) fun z=>by
  have e:p=(C,oC):=by simpa using z
  subst e
  exact ⟨hoC,c0,c1,c2,fun v z=>by rw [hdC] at z;cases z⟩
 refine wpAny_assign_Name (qbC I2' hXN hyi hy (v:=.ref E) rfl (fun s'' I''=>?_) hf)
 have hC2:=(I''.pin (C,oC) (List.mem_append_right _ (List.mem_append_right _ (by simp)))).1
 have I3:Inv X pins (σ.set i (some (.ref E))) H' s'':=I''.unpinned
 exact ⟨m,⟨oC,es,ep,hC2,hdC,hrC⟩,fun h' hs'=>⟨_,H',I3.turned (t':=s''.toks) (fun b o hb e=>(hs'.2 b hb).trans e) c0 c1 c3 c4 c5,q⟩⟩
end
structure ItOk (J:It) (xs:List V) (ok:Hp->Prop):Prop where
 stop:∀ H,ok H->J.stop xs.length H
 go:∀ i H,ok H->i < xs.length->J.go i H
 yld:∀ i H x H',ok H->i < xs.length->J.yld i H x H'->H'=H/\xs[i]? = some x
theorem qag (K:PySem.W.Frag) (a:Addr) (xs:List V):ItOk (Itl K a) xs fun H=>SqL K H a xs:=
 ⟨fun H h=>⟨xs,h,Nat.le_refl _⟩,fun i H h hi=>⟨xs,xs[i],h,by simp [hi]⟩,fun i H x H' h hi y=>⟨y.1,y.2 xs h⟩⟩
theorem qhR (K:PySem.W.Frag) (a:Addr) (xs:List V):ItOk (Itt K a) xs fun H=>SqT K H a xs:=
 ⟨fun H h=>⟨xs,h,Nat.le_refl _⟩,fun i H h hi=>⟨xs,xs[i],h,by simp [hi]⟩,fun i H x H' h hi y=>⟨y.1,y.2 xs h⟩⟩
theorem qaC (lo:Int) (n:Nat):ItOk (Itr lo n) ((List.range n).map fun i=>V.int (lo+(i:Nat))) fun _=>True:=
 ⟨fun H _=>by show n<=_;simp,fun i H _ hi=>(by show i < n;simpa using hi),fun i H x H' _ hi y=>⟨y.1,by
  have hi':i < n:=by simpa using hi
  obtain ⟨_,rfl⟩:=y
  simp [hi']⟩⟩
theorem qaE {J:It} {D:Addr} {xs:List V} {ok:Hp->Prop} {g:TG} {tt:TT} {te:TE} {Q:Hp->Prop} {τ:St} {H:Hp} (IO:ItOk J xs ok) (Pv:Nat->St->Hp->List V->Prop) (hz:xs.length<=sizeLine) (h0:Pv 0 τ H [])
  (hl:∀ i τ H ys,i<=xs.length->Pv i τ H ys->ok H/\H D=some (.lst ys)/\ys.length<=i)
  (hs:∀ i x τ H ys,i < xs.length->xs[i]? = some x->Pv i τ H ys->g x τ H fun τ4 H4=>tt τ4 H4 fun b H5=>
   if b=true then te τ4 H5 fun y H6=>H6 D=some (.lst ys)/\Pv (i+1) τ4 (upd H6 D (.lst (ys++[y]))) (ys++[y]) else Pv (i+1) τ4 H5 ys)
  (hd:∀ τ H ys,Pv xs.length τ H ys->Q H) :
  ∃ W:Nat->Nat->St->Hp->List V->Prop,(∃ m,W 0 m τ H [])/\∀ i m τ H2 ys,W i m τ H2 ys->H2 D=some (.lst ys) ∧
   ((J.stop i H2/\Q H2)\/(J.go i H2/\ys.length < sizeLine/\∃ N:St->Hp->List V->Prop,(∀ τ' H' ys',N τ' H' ys'->∃ m',m' < m/\W (i+1) m' τ' H' ys')/\∀ x H3,J.yld i H2 x H3->g x τ H3 fun τ4 H4=>tt τ4 H4 fun b H5=>
    if b=true then te τ4 H5 fun y H6=>H6 D=some (.lst ys)/\N τ4 (upd H6 D (.lst (ys++[y]))) (ys++[y])
    else N τ4 H5 ys)):=by
 refine ⟨fun i m τ H ys=>m=xs.length - i/\i<=xs.length/\Pv i τ H ys,⟨xs.length,by simp,Nat.zero_le _,h0⟩,?_⟩
 rintro i m τ H ys ⟨rfl,hi,p⟩
 obtain ⟨q,hD,hy⟩:=hl i τ H ys hi p
 refine ⟨hD,?_⟩
 by_cases hlt:i < xs.length
 ·refine .inr ⟨IO.go i H q hlt,by omega,Pv (i+1),fun τ' H' ys' p'=>⟨xs.length - (i+1),by omega,rfl,hlt,p'⟩,fun x H' y=>?_⟩
  obtain ⟨e,hx⟩:=IO.yld i H x H' q hlt y
  subst e
  exact hs i x τ _ ys hlt hx p
 ·have e:i=xs.length:=by omega
  subst e
  exact .inl ⟨IO.stop H q,hd τ H ys p⟩
theorem qam {J:It} {xs:List V} {ok:Hp->Prop} {g:TG} {tb:TS} {D:Ends} {σ:St} {H:Hp} (IO:ItOk J xs ok) (Pv:Nat->St->Hp->Prop) (h0:Pv 0 σ H) (hl:∀ i σ H,i<=xs.length->Pv i σ H->ok H)
  (hs:∀ i x σ H,i < xs.length->xs[i]? = some x->Pv i σ H->g x σ H fun σ2 H2=>tb { D with nx:=Pv (i+1),ct:=Pv (i+1),bk:=D.nx } σ2 H2) (hd:∀ σ H,Pv xs.length σ H->D.nx σ H) :
  ∃ W:Nat->Nat->St->Hp->Prop,(∃ m,W 0 m σ H)/\∀ i m σ H,W i m σ H →
   (J.stop i H/\D.nx σ H)\/(J.go i H/\∃ N:St->Hp->Prop,(∀ σ' H',N σ' H'->∃ m',m' < m/\W (i+1) m' σ' H')/\∀ x H',J.yld i H x H'->g x σ H' fun σ2 H2=>tb { D with nx:=N,ct:=N,bk:=D.nx } σ2 H2):=by
 refine ⟨fun i m σ H=>m=xs.length - i/\i<=xs.length/\Pv i σ H,⟨xs.length,by simp,Nat.zero_le _,h0⟩,?_⟩
 rintro i m σ H ⟨rfl,hi,p⟩
 have q:=hl i σ H hi p
 by_cases hlt:i < xs.length
 ·refine .inr ⟨IO.go i H q hlt,Pv (i+1),fun σ' H' p'=>⟨xs.length - (i+1),by omega,rfl,hlt,p'⟩,fun x H' y=>?_⟩
  obtain ⟨e,hx⟩:=IO.yld i H x H' q hlt y
  subst e
  exact hs i x σ _ hlt hx p
 ·have e:i=xs.length:=by omega
  subst e
  exact .inl ⟨IO.stop H q,hd σ H p⟩
end L2
end
section
namespace L2
open PySem PySem.Spec PyProof.Rows
section
variable {X:Cx}
def tyN (H:Hp):V->Option String
 | .non=>some "NoneType"
 | .bl _=>some "bool"
 | .int _=>some "int"
 | .str _=>some "str"
 | .ref a=>match H a with
  | some (.lst _)=>some "list"
  | some (.tup _)=>some "tuple"
  | some (.dK _)=>some "dict"
  | _=>none
 | _=>none
theorem call_isinst:CallR X (.builtin "isinstance") (fun xs H Q=>∃ x T Tx,xs=[x,.ty T]/\tyN H x=some Tx/\T∈["int","bool","list","tuple","str"]/\Q (.bl (Tx == T || (Tx == "bool" && T == "int"))) H):=by
 intro pins s σ H xs us Q I r h
 obtain ⟨x,T,Tx,rfl,hT,hm,q⟩:=h
 obtain ⟨u,w',rfl,r1,r2⟩:=qh3 r
 obtain rfl:w' = .type T:=r2
 have no:∀ {b:Bool},b=(Tx == T || (Tx == "bool" && T == "int"))->∀ tk,EP X pins σ Q (.bool b) { s with toks:=tk }:=fun {b} hb tk=>⟨.bl b,H,I.tok _,rfl,by rw [hb];exact q⟩
 have ye:∀ {b:Bool},b=(Tx == T || (Tx == "bool" && T == "int"))->EP X pins σ Q (.bool b) s:=fun {b} hb=>⟨.bl b,H,I,rfl,by rw [hb];exact q⟩
 simp only [List.mem_cons,List.not_mem_nil,or_false] at hm
 cases x with
 | int i=>
  obtain ⟨t,rfl⟩:=r1
  cases hT
  rcases hm with rfl | rfl | rfl | rfl | rfl
  ·exact IsiPair.int_int (ye (by decide))
  ·exact IsiPair.int_bool (no (by decide) _)
  ·exact IsiPair.int_list (no (by decide) _)
  ·exact IsiPair.int_tuple (no (by decide) _)
  ·exact IsiPair.int_str (no (by decide) _)
 | str i=>
  obtain ⟨t,rfl⟩:=r1
  cases hT
  rcases hm with rfl | rfl | rfl | rfl | rfl
  ·exact IsiPair.str_int (no (by decide) _)
  ·exact IsiPair.str_bool (no (by decide) _)
  ·exact IsiPair.str_list (no (by decide) _)
  ·exact IsiPair.str_tuple (no (by decide) _)
  ·exact IsiPair.str_str (ye (by decide))
 | bl i=>
  cases r1
  cases hT
  rcases hm with rfl | rfl | rfl | rfl | rfl
  ·exact IsiPair.bool_int (ye (by decide))
  ·exact IsiPair.bool_bool (ye (by decide))
  ·exact IsiPair.bool_list (no (by decide) _)
  ·exact IsiPair.bool_tuple (no (by decide) _)
  ·exact IsiPair.bool_str (no (by decide) _)
 | ref a=>
  cases r1
  cases hH:H a with
  | none=>simp [tyN,hH] at hT
  | some o=>
   cases o with
   | lst ys=>
    simp [tyN,hH] at hT
    subst hT
    obtain ⟨_,its,n,_,e⟩:=I.hok a _ hH
    have hx:∃ o,s.heap.get? a=some o/\o.cls = .type "list" := ⟨_,e,rfl⟩
    rcases hm with rfl | rfl | rfl | rfl | rfl
    ·exact call_isinstance (isinstance_false_list (by decide +kernel) F.isi_meta_int F.sub_list_int) ⟨hx,no (by decide) _⟩
    ·exact call_isinstance (isinstance_false_list (by decide +kernel) F.isi_meta_bool F.sub_list_bool) ⟨hx,no (by decide) _⟩
    ·exact call_isinstance (isinstance_true (Tx:= "list") F.isi_meta_list F.sub_list_list) ⟨⟨_,e,rfl⟩,ye (by decide)⟩
    ·exact call_isinstance (isinstance_false_list (by decide +kernel) F.isi_meta_tuple F.sub_list_tuple) ⟨hx,no (by decide) _⟩
    ·exact call_isinstance (isinstance_false_list (by decide +kernel) F.isi_meta_str F.sub_list_str) ⟨hx,no (by decide) _⟩
   | tup ys=>
    simp [tyN,hH] at hT
    subst hT
    obtain ⟨_,its,_,o,e,hc,_⟩:=I.hok a _ hH
    have hx:∃ o,s.heap.get? a=some o/\o.cls = .type "tuple" := ⟨_,e,hc⟩
    rcases hm with rfl | rfl | rfl | rfl | rfl
    ·exact call_isinstance (isinstance_false_tuple (by decide +kernel) F.isi_meta_int F.sub_tuple_int) ⟨hx,no (by decide) _⟩
    ·exact call_isinstance (isinstance_false_tuple (by decide +kernel) F.isi_meta_bool F.sub_tuple_bool) ⟨hx,no (by decide) _⟩
    ·exact call_isinstance (isinstance_false_tuple (by decide +kernel) F.isi_meta_list F.sub_tuple_list) ⟨hx,no (by decide) _⟩
    ·exact call_isinstance (isinstance_true (Tx:= "tuple") F.isi_meta_tuple F.sub_tuple_tuple) ⟨⟨_,e,hc⟩,ye (by decide)⟩
    ·exact call_isinstance (isinstance_false_tuple (by decide +kernel) F.isi_meta_str F.sub_tuple_str) ⟨hx,no (by decide) _⟩
   | dK ys=>
    simp [tyN,hH] at hT
    subst hT
    obtain ⟨_,_,vs,_,dd⟩:=I.hok a _ hH
    obtain ⟨o,es,ep,e,hc,_⟩:=dd
    have hx:∃ o,s.heap.get? a=some o/\o.cls = .type "dict" := ⟨o,e,hc.1⟩
    rcases hm with rfl | rfl | rfl | rfl | rfl
    ·exact call_isinstance (isinstance_false_dict (by decide +kernel) F.isi_meta_int F.sub_dict_int) ⟨hx,no (by decide) _⟩
    ·exact call_isinstance (isinstance_false_dict (by decide +kernel) F.isi_meta_bool F.sub_dict_bool) ⟨hx,no (by decide) _⟩
    ·exact call_isinstance (isinstance_false_dict (by decide +kernel) F.isi_meta_list F.sub_dict_list) ⟨hx,no (by decide) _⟩
    ·exact call_isinstance (isinstance_false_dict (by decide +kernel) F.isi_meta_tuple F.sub_dict_tuple) ⟨hx,no (by decide) _⟩
    ·exact call_isinstance (isinstance_false_dict (by decide +kernel) F.isi_meta_str F.sub_dict_str) ⟨hx,no (by decide) _⟩
   | _=>simp [tyN,hH] at hT
 | non=>
  cases r1
  cases hT
  rcases hm with rfl | rfl | rfl | rfl | rfl
  ·exact IsiPair.NoneType_int (no (by decide) _)
  ·exact IsiPair.NoneType_bool (no (by decide) _)
  ·exact IsiPair.NoneType_list (no (by decide) _)
  ·exact IsiPair.NoneType_tuple (no (by decide) _)
  ·exact IsiPair.NoneType_str (no (by decide) _)
 | _=>cases hT
theorem qb5:∀ {bs:List Bool} {us:List Value},Vals (bs.map V.bl) us->us=bs.map Value.bool
 | [],us,r=>by cases r;rfl
 | b :: bs,us,r=>by
  cases r with
  | cons r1 r2=>
   cases r1
   rw [qb5 r2];rfl
theorem qgo (bs:List Bool):(List.range bs.length).all (fun i=>bs.getD i true)=bs.all id:=by
 rw [Bool.eq_iff_iff,List.all_eq_true,List.all_eq_true]
 constructor
 ·intro h b hb
  obtain ⟨i,hi,rfl⟩:=List.mem_iff_getElem.mp hb
  have:=h i (List.mem_range.mpr hi)
  rw [List.getD_eq_getElem?_getD,gE_ hi] at this
  exact this
 ·intro h i hi
  have hi:=List.mem_range.mp hi
  rw [List.getD_eq_getElem?_getD,gE_ hi]
  exact h _ (List.getElem_mem hi)
theorem qhp (hc:X.calm=true):CallR X (.builtin "all") (fun xs H Q=>∃ (p:Addr) (bs:List Bool),xs=[.ref p]/\H p=some (.lst (bs.map V.bl))/\Q (.bl (bs.all id)) H):=by
 intro pins s σ H xs us Q I r h
 obtain ⟨p,bs,rfl,hH,q⟩:=h
 obtain ⟨u,rfl,r1⟩:=qaP r
 cases r1
 obtain ⟨z,its,n,rv,e⟩:=I.hok p _ hH
 have ei:=qb5 rv
 subst ei
 have hl:s.heap.IsList p (bs.map Value.bool).toArray:=⟨_,e,rfl,_,rfl⟩
 have hp:p < s.heap.objs.size:=Heap.lt_size e
 refine call_all_walk (wpAny_pyIter_list hl ?_)
 refine ⟨s.heap.objs.size,_,[s.heap.objs.size],_,_,_,(fun i=>bs.getD i true),rfl,Walks.list (A:=X.A.in1) (I.ok.hd hc) s.heap.objs.size p (Nat.ne_of_lt hp) (bs.map Value.bool).toArray,⟨⟨_,Heap.get?_push_size _ rfl,rfl,rfl⟩,hl.push _⟩,?_,fun h' tk hk=>?_⟩
 ·intro i v s' Q' E' hP hQ
  have hP:(bs.map Value.bool).toArray[i]? = some v:=hP
  have hb:∃ b,bs[i]? = some b/\v = .bool b:=by
   rw [List.getElem?_toArray,gM_] at hP
   cases e:bs[i]? with
   | none=>rw [e] at hP;cases hP
   | some b=>rw [e] at hP;exact ⟨b,rfl,(oI_ hP).symm⟩
  obtain ⟨b,hb,rfl⟩:=hb
  have e:bs.getD i true=b:=by rw [List.getD_eq_getElem?_getD,hb];rfl
  dsimp only at hQ
  rw [e] at hQ
  exact wpAny_truthy_bool hQ
 ·have hn:(bs.map Value.bool).toArray.size=bs.length:=by simp
  rw [hn,qgo]
  exact ⟨.bl (bs.all id),H,I.kept fun b o e=>hk b o (fun hm=>by
   have:b=s.heap.objs.size:=by simpa using hm
   exact absurd (this ▸ Heap.lt_size e) (Nat.lt_irrefl _)) (Heap.get?_push_of_some _ e),rfl,q⟩
theorem qcF:∀ {ws:List Str} {us:List Value},Vals (ws.map V.str) us->StrsAre us ws
 | [],us,r=>by cases r;exact .nil
 | w :: ws,us,r=>by
  cases r with
  | cons r1 r2=>
   obtain ⟨t,rfl⟩:=r1
   exact .cons w t (qcF r2)
theorem mt_join:MtM X "str.join" (fun x vs H Q=>∃ (sep:Str) (p:Addr) (ws:List Str),x = .str sep/\vs=[.ref p]/\H p=some (.lst (ws.map V.str))/\(ws.map (·.length)).sum+ws.length * sep.length<=16777216/\Q (.str (Txt.join sep ws)) H):=by
 intro pins s σ H x vs v us Q I rx rv h
 obtain ⟨sep,p,ws,rfl,rfl,hH,hz,q⟩:=h
 obtain ⟨t,rfl⟩:=rx
 obtain ⟨u,rfl,ru⟩:=rv.one
 cases ru
 obtain ⟨z,its,n,r,e⟩:=I.hok p _ hH
 exact join_list (items:=its.toArray) ⟨_,e,rfl,_,rfl⟩ (qcF r) hz fun t' k=>⟨.str _,H,I.tok _,⟨_,rfl⟩,q⟩
theorem mt_strip:MtM X "str.strip" (fun x vs H Q=>∃ z y,x = .str z/\vs=[.str y]/\z.length<=sizeLine/\Q (.str (Txt.stripChars z y)) H):=by
 intro pins s σ H x vs v us Q I rx rv h
 obtain ⟨z,y,rfl,rfl,hz,q⟩:=h
 obtain ⟨t,rfl⟩:=rx
 obtain ⟨u,rfl,t',rfl⟩:=rv.one
 exact SC.stripChars (fun t' k=>⟨.str _,H,I.tok _,⟨_,rfl⟩,q⟩) hz
theorem qkx:SlR X (fun x lo hi H Q=>∃ z,x = .str z/\z.length<=sizeLine/\Q (.str (Txt.slice z lo hi)) H):=by
 intro pins s σ H x v vl vu lo hi sl Q I rx hs pl pu h
 obtain ⟨z,rfl,hz,q⟩:=h
 obtain ⟨t,rfl⟩:=rx
 have fin:∀ t' k,EP X pins σ Q (.str (Txt.slice z lo hi) t') { s with toks:=k }:=fun t' k=>⟨.str _,H,I.tok _,⟨_,rfl⟩,q⟩
 refine ⟨"str",_,F.slot_str_getitem.lookup,typeIs_str _ _ _,?_⟩
 cases pl with
 | none=>
  cases pu with
  | none=>exact wpAny_getItem_str_slice (l:=none) (u:=none) (st:=none) hs rfl (post_val_or_str ⟨Nat.le_trans (Txt.slice_le z _ _) hz,fin⟩)
  | int j uj=>exact wpAny_getItem_str_slice (l:=none) (u:=some (j,uj)) (st:=none) hs rfl (post_val_or_str ⟨Nat.le_trans (Txt.slice_le z _ _) hz,fin⟩)
 | int i ui=>
  cases pu with
  | none=>exact wpAny_getItem_str_slice (l:=some (i,ui)) (u:=none) (st:=none) hs rfl (post_val_or_str ⟨Nat.le_trans (Txt.slice_le z _ _) hz,fin⟩)
  | int j uj=>exact wpAny_getItem_str_slice (l:=some (i,ui)) (u:=some (j,uj)) (st:=none) hs rfl (post_val_or_str ⟨Nat.le_trans (Txt.slice_le z _ _) hz,fin⟩)
theorem qc6:CallR X (.type "int") (fun xs H Q=>∃ b:Bool,xs=[.str (if b then ("1" : Str) else "0")]/\Q (.int (if b then 1 else 0)) H):=by
 intro pins s σ H xs us Q I r h
 obtain ⟨b,rfl,q⟩:=h
 obtain ⟨u,rfl,t,rfl⟩:=qaP r
 cases b with
 | true=>exact PySem.W.KIN.call_text (x:=("1" : Str)) (n:=1) (by decide +kernel) (by decide +kernel) ⟨.int 1,H,I.tok _,⟨_,rfl⟩,q⟩
 | false=>exact PySem.W.KIN.call_text (x:=("0" : Str)) (n:=0) (by decide +kernel) (by decide +kernel) ⟨.int 0,H,I.tok _,⟨_,rfl⟩,q⟩
end
end L2
end
section
namespace L2
open PySem PySem.Spec PyProof.Rows
mutual
inductive DV (H:Hp):V->PyData->Prop
 | non:DV H .non .none
 | bl (b:Bool):DV H (.bl b) (.bool b)
 | int (i:Int):DV H (.int i) (.int i)
 | str (x:Str):DV H (.str x) (.str x)
 | lst {a:Addr} {xs:List V} {ds:List PyData}:H a=some (.lst xs)->DVs H xs ds->DV H (.ref a) (.list ds)
 | tup {a:Addr} {xs:List V} {ds:List PyData}:H a=some (.tup xs)->DVs H xs ds->DV H (.ref a) (.tuple ds)
 | dic {a:Addr}:H a=some (.dK [])->DV H (.ref a) (.dict [])
inductive DVs (H:Hp):List V->List PyData->Prop
 | nil:DVs H [] []
 | cons {x:V} {d:PyData} {xs:List V} {ds:List PyData}:DV H x d->DVs H xs ds->DVs H (x :: xs) (d :: ds)
end
mutual
theorem DV.mono {H H':Hp} (k:Same H H'):∀ {v:V} {d:PyData},DV H v d->DV H' v d
 | _,_,.non=>.non
 | _,_,.bl b=>.bl b
 | _,_,.int i=>.int i
 | _,_,.str x=>.str x
 | _,_,.lst h r=>.lst (k _ _ h) (DVs.mono k r)
 | _,_,.tup h r=>.tup (k _ _ h) (DVs.mono k r)
 | _,_,.dic h=>.dic (k _ _ h)
theorem DVs.mono {H H':Hp} (k:Same H H'):∀ {vs:List V} {ds:List PyData},DVs H vs ds->DVs H' vs ds
 | _,_,.nil=>.nil
 | _,_,.cons h r=>.cons (DV.mono k h) (DVs.mono k r)
end
section
variable {X:Cx} {pins:List (Addr×Obj)} {σ:St} {H:Hp} {s:Shared}
mutual
theorem DV.reads (I:Inv X pins σ H s):∀ {v:V} {d:PyData} {u:Value},DV H v d->d.canLay0=true->RelV v u->∃ as,Reads s.heap u d as
 | _,_,_,.non,_,r=>by cases r;exact ⟨_,.none⟩
 | _,_,_,.bl b,_,r=>by cases r;exact ⟨_,.bool b⟩
 | _,_,_,.int i,_,r=>by obtain ⟨t,rfl⟩:=r;exact ⟨_,.int i t⟩
 | _,_,_,.str x,_,r=>by obtain ⟨t,rfl⟩:=r;exact ⟨_,.str x t⟩
 | _,_,_,.lst h rr,c,r=>by
  cases r
  obtain ⟨_,its,n,rv,e⟩:=I.hok _ _ h
  obtain ⟨as,q⟩:=DVs.reads I rr (by simpa [PyData.canLay0] using c) rv
  exact ⟨_,.list e rfl rfl (by simpa using q)⟩
 | _,_,_,.tup h rr,c,r=>by
  cases r
  obtain ⟨_,its,rv,o,e,hc,n,hd⟩:=I.hok _ _ h
  obtain ⟨as,q⟩:=DVs.reads I rr (by simpa [PyData.canLay0] using c) rv
  exact ⟨_,.tuple e hc hd (by simpa using q)⟩
 | _,_,_,.dic h,c,r=>by simp [PyData.canLay0] at c
theorem DVs.reads (I:Inv X pins σ H s):∀ {vs:List V} {ds:List PyData} {us:List Value},DVs H vs ds->PyData.canLayAll0 ds=true->Vals vs us->∃ as,ReadsAll s.heap us ds as
 | _,_,_,.nil,_,r=>by cases r;exact ⟨_,.nil⟩
 | _,_,_,.cons h rr,c,r=>by
  have c':=by simpa [PyData.canLayAll0] using c
  cases r with
  | cons r1 r2=>
   obtain ⟨as,q⟩:=DV.reads I h c'.1 r1
   obtain ⟨bs,p⟩:=DVs.reads I rr c'.2 r2
   exact ⟨_,.cons q p⟩
end
end
section
variable {X:Cx}
theorem qlh (hu:X.A.units+64 < cLine):OpR X (compareOp .Eq) (fun x y H Q=>∃ d e,DV H x d/\DV H y e/\SeqAt.shaped d=true/\SeqAt.shaped e=true/\Q (.bl (PyData.eqv d e)) H):=by
 intro pins s σ H x y v u Q I rx ry h
 obtain ⟨d,e,hd,he,sd,se,q⟩:=h
 obtain ⟨as,ra⟩:=hd.reads I (SeqAt.canLay_of_shaped sd) rx
 obtain ⟨bs,rb⟩:=he.reads I (SeqAt.canLay_of_shaped se) ry
 exact eq_dataH ra rb sd se hu ⟨.bl _,H,I,rfl,q⟩
theorem qlc (hu:X.A.units+64 < cLine):OpR X (compareOp .NotEq) (fun x y H Q=>∃ d e,DV H x d/\DV H y e/\SeqAt.shaped d=true/\SeqAt.shaped e=true/\Q (.bl (!PyData.eqv d e)) H):=by
 intro pins s σ H x y v u Q I rx ry h
 obtain ⟨d,e,hd,he,sd,se,q⟩:=h
 obtain ⟨as,ra⟩:=hd.reads I (SeqAt.canLay_of_shaped sd) rx
 obtain ⟨bs,rb⟩:=he.reads I (SeqAt.canLay_of_shaped se) ry
 exact ne_dataH ra rb sd se hu ⟨.bl _,H,I,rfl,q⟩
end
def sg (b:Bool):Nat:=if b then 49 else 48
def bs (w:List Bool):Str:=⟨(w.map sg).toArray⟩
theorem qc7 (w:List Bool):(bs w).length=w.length:=by show ((w.map sg).toArray).size=_;simp
theorem qky {a b:Bool} (h:sg a=sg b):a=b:=by cases a<;>cases b<;>first | rfl | cases h
theorem qh0 {v w:List Bool} (h:bs v=bs w):v=w:=by
 have h1:(v.map sg).toArray=(w.map sg).toArray:=congrArg Str.cps h
 have h2:v.map sg=w.map sg:=by simpa using congrArg Array.toList h1
 clear h h1
 induction v generalizing w with
 | nil=>cases w<;>simp_all
 | cons a v ih=>
  cases w with
  | nil=>simp at h2
  | cons b w=>
   simp only [List.map_cons,List.cons.injEq] at h2
   rw [qky h2.1,ih h2.2]
theorem ql4 (v w:List Bool):bs v++bs w=bs (v++w):=by
 show (⟨(v.map sg).toArray++(w.map sg).toArray⟩ : Str)=⟨((v++w).map sg).toArray⟩
 simp
theorem qm6 (w:List Bool):PyData.strOk (bs w)=true:=by
 unfold PyData.strOk bs
 rw [Array.all_eq_true']
 intro x hx
 have hx:x∈w.map sg:=by simpa using hx
 obtain ⟨b,_,rfl⟩:=mM_ hx
 cases b<;>decide
theorem ql3 {w:List Bool} {i:Nat} {b:Bool} (h:w[i]? = some b):(bs w).cps[i]? = some (sg b):=by
 show ((w.map sg).toArray)[i]? = _
 simp [h]
theorem qm7 (b:Bool):bs [b]=(if b then ("1" : Str) else "0"):=by cases b<;>decide +kernel
end L2
end
section
namespace L2
open PySem PySem.Spec PyProof.Rows
section
variable {X:Cx} {a b c e o:Expr} {es:List Expr} {pos:Pos}
theorem PE.of {t t':TE} (h:PE X e t) (k:∀ σ H Q,t' σ H Q->t σ H Q):PE X e t':=fun pins s σ H Q I q=>h pins s σ H Q I (k _ _ _ q)
theorem OpR.of {f:Value->Value->Sem Value} {r r':R2} (h:OpR X f r) (k:∀ x y H Q,r' x y H Q->r x y H Q):OpR X f r':=fun pins s σ H x y v u Q I rx ry q=>h pins s σ H x y v u Q I rx ry (k _ _ _ _ q)
def tV (i:Nat):TE:=fun σ H Q=>match σ[i]? with
 | some (some v)=>Q v H
 | _=>False
theorem vr (i:Nat) {x:Str} (hN:X.N[i]? = some x:=by rfl) (hv:Vis X.env.scope x:=by first | exact Or.inl rfl | exact Or.inr (Or.inl rfl) | exact Or.inr (Or.inr rfl)) (hd:(x == ("__debug__" : Str))=false:=by decide)
  (hcd:(x == ("__classdict__" : Str))=false:=by decide):PE X (.Name x pos) (tV i):=(qkW hN hv hd hcd).of fun σ H Q q=>by
 unfold tV at q
 split at q
 ·exact ⟨_,by assumption,q⟩
 ·exact q.elim
def rN (C:Int->Int->Prop) (g:Int->Int->V):R2:=fun x y H Q=>match x,y with
 | .int i,.int j=>C i j/\Q (g i j) H
 | _,_=>False
def rN0 (g:Int->Int->V):R2:=fun x y H Q=>match x,y with
 | .int i,.int j=>Q (g i j) H
 | _,_=>False
theorem OpR.n {f:Value->Value->Sem Value} {C:Int->Int->Prop} {g:Int->Int->V} (h:OpR X f (rI C g)):OpR X f (rN C g):=h.of fun x y H Q q=>by
 unfold rN at q
 split at q
 ·exact ⟨_,_,rfl,rfl,q⟩
 ·exact q.elim
theorem OpR.n0 {f:Value->Value->Sem Value} {g:Int->Int->V} (h:OpR X f (rI0 g)):OpR X f (rN0 g):=h.of fun x y H Q q=>by
 unfold rN0 at q
 split at q
 ·exact ⟨_,_,rfl,rfl,q⟩
 ·exact q.elim
def qb4:R2:=fun x y H Q=>match x,y with
 | .int i,.int j=>Q (.int (i+j)) H
 | .str i,.str j=>i.length+j.length<=sizeLine/\Q (.str (i++j)) H
 | .ref p,.ref q=>∃ xs zs,H p=some (.lst xs)/\H q=some (.lst zs)/\xs.length+zs.length<=sizeLine/\∀ n,H n=none->Q (.ref n) (upd H n (.lst (xs++zs)))
 | _,_=>False
theorem qji:OpR X (binaryOp .Add) qb4:=(op_add.or (op_add_str.or qli)).of fun x y H Q q=>by
 unfold qb4 at q
 split at q
 ·exact .inl ⟨_,_,rfl,rfl,q⟩
 ·exact .inr (.inl ⟨_,_,rfl,rfl,q⟩)
 ·obtain ⟨xs,zs,h1,h2,h3,h4⟩:=q
  exact .inr (.inr ⟨_,_,xs,zs,rfl,rfl,h1,h2,h3,h4⟩)
 ·exact q.elim
def qkE:R2:=fun x y H Q=>match x,y with
 | .int i,.int j=>CMul i j/\Q (.int (i * j)) H
 | .ref p,.int k=>∃ xs,H p=some (.lst xs)/\-(2 ^ 63)<=k/\k < 2 ^ 63/\xs.length * k.toNat<=sizeLine/\∀ n,H n=none->Q (.ref n) (upd H n (.lst (List.replicate k.toNat xs).flatten))
 | _,_=>False
theorem qjg:OpR X (binaryOp .Mult) qkE:=(op_mul.or qla).of fun x y H Q q=>by
 unfold qkE at q
 split at q
 ·exact .inl ⟨_,_,rfl,rfl,q⟩
 ·obtain ⟨xs,h1,h2,h3,h4,h5⟩:=q
  exact .inr ⟨_,_,xs,rfl,rfl,h1,h2,h3,h4,h5⟩
 ·exact q.elim
def qka:R2:=fun x y H Q=>match x,y with
 | .int i,.int j=>Q (.bl (decide (i=j))) H
 | .str i,.str j=>Q (.bl (decide (i=j))) H
 | .bl i,.bl j=>Q (.bl (decide (i=j))) H
 | .ref p,.ref q=>∃ d e,DV H (.ref p) d/\DV H (.ref q) e/\SeqAt.shaped d=true/\SeqAt.shaped e=true/\Q (.bl (PyData.eqv d e)) H
 | _,_=>False
theorem qdN (i j:Int):decide (V.int i=V.int j)=decide (i=j):=by simp
theorem qdM (i j:Str):decide (V.str i=V.str j)=decide (i=j):=by simp
theorem qeQ (i j:Bool):decide (V.bl i=V.bl j)=decide (i=j):=by simp
theorem qlg (hu:X.A.units+64 < cLine):OpR X (compareOp .Eq) qka:=(op_eq.or (qlh hu)).of fun x y H Q q=>by
 unfold qka at q
 split at q
 ·exact .inl ⟨rfl,by rw [qdN];exact q⟩
 ·exact .inl ⟨rfl,by rw [qdM];exact q⟩
 ·exact .inl ⟨rfl,by rw [qeQ];exact q⟩
 ·exact .inr q
 ·exact q.elim
def qno:R2:=fun x y H Q=>qka x y H fun v H'=>match v with
 | .bl k=>Q (.bl (!k)) H'
 | _=>False
theorem qlb (hu:X.A.units+64 < cLine):OpR X (compareOp .NotEq) qno:=(op_ne.or (qlc hu)).of fun x y H Q q=>by
 unfold qno qka at q
 split at q
 ·exact .inl ⟨rfl,by rw [qdN];exact q⟩
 ·exact .inl ⟨rfl,by rw [qdM];exact q⟩
 ·exact .inl ⟨rfl,by rw [qeQ];exact q⟩
 ·exact .inr q
 ·exact q.elim
def qcb (H:Hp) (x:V) (i:Int):Option V:=match x with
 | .ref p=>match H p with
  | some (.lst xs)=>atI xs i
  | some (.tup xs)=>atI xs i
  | some (.frz _ (.lst xs))=>atI xs i
  | _=>none
 | .str z=>if z.length<=sizeLine then (atI z.cps.toList i).map fun c=>V.str ⟨#[c]⟩ else none
 | _=>none
theorem qef {H:Hp} {p:Addr} {xs:List V} {i:Int} (h:H p=some (.lst xs)):qcb H (.ref p) i=atI xs i:=by simp [qcb,h]
theorem qhh {H:Hp} {p:Addr} {xs:List V} {i:Int} (h:H p=some (.tup xs)):qcb H (.ref p) i=atI xs i:=by simp [qcb,h]
def qmb:R2:=fun x y H Q=>match y with
 | .int i=>∃ v,qcb H x i=some v/\Q v H
 | _=>False
theorem ixU:IxR X qmb:=by
 intro value slice pins s σ H x y v u Q I rx ry q hs
 refine qlG value slice pins s σ H x y v u Q I rx ry ?_ hs
 unfold qmb at q
 split at q
 ·obtain ⟨z,hz,q⟩:=q
  unfold qcb at hz
  split at hz
  ·split at hz
   ·rename_i xs hx
    exact .inl ⟨_,xs,_,z,rfl,rfl,SqL.of hx,hz,q⟩
   ·rename_i xs hx
    exact .inr (.inl ⟨_,xs,_,z,rfl,rfl,SqT.of hx,hz,q⟩)
   ·rename_i oo xs hx
    exact .inl ⟨_,xs,_,z,rfl,rfl,.inl (.inr ⟨_,hx⟩),hz,q⟩
   ·cases hz
  ·split at hz
   ·rename_i hl
    obtain ⟨c,hc,rfl⟩:=Option.map_eq_some_iff.mp hz
    exact .inr (.inr ⟨_,_,c,rfl,rfl,hl,hc,q⟩)
   ·cases hz
  ·cases hz
 ·exact q.elim
def qnl:V->Option Int->Option Int->Hp->VK->Prop:=fun x lo hi H Q=>match x with
 | .ref p=>∃ xs,H p=some (.lst xs)/\∀ n,H n=none->Q (.ref n) (upd H n (.lst (cutV xs lo hi)))
 | .str z=>z.length<=sizeLine/\Q (.str (Txt.slice z lo hi)) H
 | _=>False
theorem slU:SlR X qnl:=by
 intro pins s σ H x v vl vu lo hi sl Q I rx hs pl pu q
 refine (sl_list.or qkx) pins s σ H x v vl vu lo hi sl Q I rx hs pl pu ?_
 unfold qnl at q
 split at q
 ·obtain ⟨xs,h,q⟩:=q
  exact .inl ⟨_,xs,rfl,SqL.of h,q⟩
 ·exact .inr ⟨_,rfl,q⟩
 ·exact q.elim
def qkj (t:TE):TO:=fun σ H Q=>t σ H fun x H1=>match x with
 | .int i=>Q (some i) H1
 | _=>False
theorem qgP {te:TE} (h:PE X e te):PO X (some e) (qkj te):=by
 intro pins s σ H Q I hw
 rw [evalPart_some]
 refine thn (h pins s σ H _ I hw) fun u s1 ⟨x,H1,I1,r1,q1⟩=>?_
 dsimp only at q1
 split at q1
 ·obtain ⟨t,rfl⟩:=r1
  exact ⟨some _,H1,I1,.int _ t,q1⟩
 ·exact q1.elim
def tBU (t:TE):TT:=fun σ H Q=>t σ H fun x H1=>match x with
 | .bl c=>Q c H1
 | _=>False
theorem ql0 {Q:Bool->Hp->Prop} {x:V} {H1:Hp} (q:match x with | .bl c=>Q c H1 | _=>False):∃ c,x = .bl c/\Q c H1:=by
 split at q
 ·exact ⟨_,rfl,q⟩
 ·exact q.elim
theorem qiU {op:CmpOp} {r:R2} {ta tb:TE} (ho:OpR X (compareOp op) r) (ha:PE X a ta) (hb:PE X b tb) (hm:behindInMarks op b=false:=by first | exact nomark _ | rfl | (with_unfolding_all rfl)):PT X (.Compare a [op] [b] pos) (tBU (tOp r ta tb)):=by
 intro pins s σ H Q I h
 refine wpAny_isTrue_Compare1 (thn (ha pins s σ H _ I h) fun v s1 ⟨x,H1,I1,r1,q1⟩=>thn (hb pins s1 σ H1 _ I1 q1) fun u s2 ⟨y,H2,I2,r2,q2⟩=>
  thn (ho pins s2 σ H2 x y v u _ I2 r1 r2 q2) fun c s3 ⟨z,H3,I3,r3,q3⟩=>?_) hm
 obtain ⟨k,e,q3⟩:=ql0 q3
 subst e
 cases r3
 exact wpAny_truthy_bool ⟨H3,I3,q3⟩
theorem qi8 {op:CmpOp} {r:R2} {ta tb:TE} (ho:OpR X (compareOp op) r) (ha:PE X a ta) (hb:PE X b tb) (hm:behindInMarks op b=false:=by first | exact nomark _ | rfl | (with_unfolding_all rfl)):PE X (.Compare a [op] [b] pos) (tOp r ta tb):=qi9 ho ha hb hm
def qms (ta tb:TE):TE:=fun σ H Q=>ta σ H fun x H1=>match x with
 | .bl c=>if c=true then tb σ H1 Q else Q (.bl false) H1
 | _=>False
def qnB (ta tb:TE):TE:=fun σ H Q=>ta σ H fun x H1=>match x with
 | .bl c=>if c=true then Q (.bl true) H1 else tb σ H1 Q
 | _=>False
def qmn (ta:TE):TE:=fun σ H Q=>ta σ H fun x H1=>match x with
 | .bl c=>Q (.bl (!c)) H1
 | _=>False
variable {ta tb tc:TE} {rest:List Expr}
theorem qjc (ha:PE X a ta) (hb:PE X (.BoolOp .And (b :: rest) pos) tb):PE X (.BoolOp .And (a :: b :: rest) pos) (qms ta tb):=by
 intro pins s σ H Q I h
 refine BoolOp_and (thn (ha pins s σ H _ I h) fun v s1 ⟨x,H1,I1,r1,q1⟩=>?_)
 dsimp only at q1
 split at q1
 ·rename_i c
  cases r1
  refine wpAny_truthy_bool ?_
  cases c with
  | true=>exact hb pins s1 σ H1 Q I1 q1
  | false=>exact ⟨.bl false,H1,I1,rfl,q1⟩
 ·exact q1.elim
theorem qkX (ha:PE X a ta) (hb:PE X (.BoolOp .Or (b :: rest) pos) tb):PE X (.BoolOp .Or (a :: b :: rest) pos) (qnB ta tb):=by
 intro pins s σ H Q I h
 refine BoolOp_or (thn (ha pins s σ H _ I h) fun v s1 ⟨x,H1,I1,r1,q1⟩=>?_)
 dsimp only at q1
 split at q1
 ·rename_i c
  cases r1
  refine wpAny_truthy_bool ?_
  cases c with
  | false=>exact hb pins s1 σ H1 Q I1 q1
  | true=>exact ⟨.bl true,H1,I1,rfl,q1⟩
 ·exact q1.elim
theorem qi3 (ha:PE X a ta):PE X (.UnaryOp .Not a pos) (qmn ta):=by
 intro pins s σ H Q I h
 refine UnaryOp_ (thn (ha pins s σ H _ I h) fun v s1 ⟨x,H1,I1,r1,q1⟩=>?_)
 dsimp only at q1
 split at q1
 ·cases r1
  exact not_of (wpAny_truthy_bool ⟨.bl _,H1,I1,rfl,q1⟩)
 ·exact q1.elim
theorem CallR.of {f:Value} {r r':List V->Hp->VK->Prop} (h:CallR X f r) (k:∀ xs H Q,r' xs H Q->r xs H Q):CallR X f r':=fun pins s σ H xs us Q I rx q=>h pins s σ H xs us Q I rx (k _ _ _ q)
theorem MtM.of {id:String} {r r':V->List V->Hp->VK->Prop} (h:MtM X id r) (k:∀ x xs H Q,r' x xs H Q->r x xs H Q):MtM X id r':=fun pins s σ H x xs v us Q I rx rs q=>h pins s σ H x xs v us Q I rx rs (k _ _ _ _ q)
def lenV (H:Hp) (x:V):Option Nat:=match x with
 | .str z=>if z.length<=sizeLine then some z.length else none
 | .ref p=>match H p with
  | some (.lst xs)=>some xs.length
  | some (.tup xs)=>some xs.length
  | some (.frz _ (.lst xs))=>some xs.length
  | _=>none
 | _=>none
def qkH:List V->Hp->VK->Prop:=fun vs H Q=>match vs with
 | [x]=>∃ k:Nat,lenV H x=some k/\Q (.int k) H
 | _=>False
theorem qc5:CallR X (.builtin "len") qkH:=(call_len_seq.or qc4).of fun xs H Q q=>by
 unfold qkH at q
 split at q
 ·obtain ⟨k,hk,q⟩:=q
  unfold lenV at hk
  split at hk
  ·split at hk
   ·rename_i hl
    cases hk
    exact .inr ⟨_,rfl,hl,q⟩
   ·cases hk
  ·split at hk
   ·cases hk;exact .inl ⟨_,_,rfl,.inl (SqL.of (by assumption)),q⟩
   ·cases hk;exact .inl ⟨_,_,rfl,.inr (SqT.of (by assumption)),q⟩
   ·cases hk;exact .inl ⟨_,_,rfl,.inl (.inl (.inr ⟨_,by assumption⟩)),q⟩
   ·cases hk
  ·cases hk
 ·exact q.elim
def qbN:List V->Hp->VK->Prop:=fun vs H Q=>match vs with
 | [.ref p]=>∃ xs,(H p=some (.lst xs)\/H p=some (.tup xs))/\∀ l,H l=none->Q (.ref l) (upd H l (.lst xs))
 | _=>False
theorem qcg:CallR X (.type "list") qbN:=call_list_of.of fun xs H Q q=>by
 unfold qbN at q
 split at q
 ·obtain ⟨ys,h,q⟩:=q
  exact ⟨_,ys,rfl,h.elim (fun z=>.inl (SqL.of z)) (fun z=>.inr (SqT.of z)),q⟩
 ·exact q.elim
def qma:List V->Hp->VK->Prop:=fun vs H Q=>match vs with
 | [.int i,.int j]=>Q (.int (if j > i then j else i)) H
 | _=>False
theorem qgf (hc:X.calm=true):CallR X (.builtin "max") qma:=(qgg hc).of fun xs H Q q=>by
 unfold qma at q
 split at q
 ·exact ⟨_,_,rfl,q⟩
 ·exact q.elim
def ql9:List V->Hp->VK->Prop:=fun vs H Q=>match vs with
 | [.int i,.int j]=>Q (.int (if j < i then j else i)) H
 | _=>False
theorem qgd (hc:X.calm=true):CallR X (.builtin "min") ql9:=(qge hc).of fun xs H Q q=>by
 unfold ql9 at q
 split at q
 ·exact ⟨_,_,rfl,q⟩
 ·exact q.elim
def qd0:List V->Hp->VK->Prop:=fun vs H Q=>match vs with
 | [.int i]=>Q (.int i) H
 | [.bl k]=>Q (.int (if k then 1 else 0)) H
 | [.str z]=>∃ k:Bool,z=bs [k]/\Q (.int (if k then 1 else 0)) H
 | _=>False
theorem qgi:CallR X (.type "int") qd0:=(call_int1.or qc6).of fun xs H Q q=>by
 unfold qd0 at q
 split at q
 ·exact .inl (.inl ⟨_,rfl,q⟩)
 ·exact .inl (.inr ⟨_,rfl,q⟩)
 ·obtain ⟨k,h,q⟩:=q
  exact .inr ⟨k,by rw [h,qm7],q⟩
 ·exact q.elim
def qmd:List V->Hp->VK->Prop:=fun vs H Q=>match vs with
 | [x,.ty T]=>∃ Tx,tyN H x=some Tx/\T∈["int","bool","list","tuple","str"]/\Q (.bl (Tx == T || (Tx == "bool" && T == "int"))) H
 | _=>False
theorem qho:CallR X (.builtin "isinstance") qmd:=call_isinst.of fun xs H Q q=>by
 unfold qmd at q
 split at q
 ·obtain ⟨Tx,h1,h2,q⟩:=q
  exact ⟨_,_,Tx,rfl,h1,h2,q⟩
 ·exact q.elim
def qme:List V->Hp->VK->Prop:=fun vs H Q=>match vs with
 | [.ref p]=>∃ bl:List Bool,H p=some (.lst (bl.map V.bl))/\Q (.bl (bl.all id)) H
 | _=>False
theorem qgj (hc:X.calm=true):CallR X (.builtin "all") qme:=(qhp hc).of fun xs H Q q=>by
 unfold qme at q
 split at q
 ·obtain ⟨bl,h,q⟩:=q
  exact ⟨_,bl,rfl,h,q⟩
 ·exact q.elim
def qmJ:V->List V->Hp->VK->Prop:=fun x vs H Q=>match x,vs with
 | .ref l,[y]=>∃ xs,H l=some (.lst xs)/\xs.length < sizeLine/\Q .non (upd H l (.lst (xs++[y])))
 | _,_=>False
theorem qjE:MtM X "list.append" qmJ:=mt_append.of fun x xs H Q q=>by
 unfold qmJ at q
 split at q
 ·obtain ⟨ys,h1,h2,q⟩:=q
  exact ⟨_,ys,_,rfl,rfl,h1,h2,q⟩
 ·exact q.elim
def qiP:V->List V->Hp->VK->Prop:=fun x vs H Q=>match x,vs with
 | .str sep,[.ref p]=>∃ ws:List Str,H p=some (.lst (ws.map V.str))/\(ws.map (·.length)).sum+ws.length * sep.length<=16777216/\Q (.str (Txt.join sep ws)) H
 | _,_=>False
theorem qg7:MtM X "str.join" qiP:=mt_join.of fun x xs H Q q=>by
 unfold qiP at q
 split at q
 ·obtain ⟨ws,h1,h2,q⟩:=q
  exact ⟨_,_,ws,rfl,rfl,h1,h2,q⟩
 ·exact q.elim
def qfp:V->List V->Hp->VK->Prop:=fun x vs H Q=>match x,vs with
 | .str z,[.str y]=>z.length<=sizeLine/\Q (.str (Txt.stripChars z y)) H
 | _,_=>False
theorem qfH:MtM X "str.strip" qfp:=mt_strip.of fun x xs H Q q=>by
 unfold qfp at q
 split at q
 ·exact ⟨_,_,rfl,rfl,q⟩
 ·exact q.elim
def tyU (H:Hp) (T:String):V->Prop
 | .str _=>T = "str"
 | .int _=>T = "int"
 | .ref p=>∃ xs,T = "list"/\H p=some (.lst xs)
 | _=>False
theorem qkg {K:PySem.W.Frag} {H:Hp} {T:String} {x:V} (h:tyU H T x):tyV K T x H:=by
 cases x with
 | str z=>exact h
 | int z=>exact h
 | ref p=>obtain ⟨xs,h1,h2⟩:=h;exact .inl ⟨h1,xs,SqL.of h2⟩
 | _=>exact h.elim
end
theorem qaf {n:Nat} (h:n<=1000):n<=sizeLine:=Nat.le_trans h (by decide)
theorem qai {n:Nat} (h:n<=1000):n < sizeLine:=Nat.lt_of_le_of_lt h (by decide)
theorem Same.upd {H:Hp} {p:Addr} {o:HO} (h:H p=none):Same H (upd H p o):=fun b u e=>by rw [qac (qab e h)];exact e
theorem qdH {α:Type} {xs:List α} {i:Int} {v:α} (h0:0<=i) (h:xs[i.toNat]? = some v):atI xs i=some v:=by
 have e:i=(i.toNat:Int):=by omega
 rw [e]
 exact qj5 h
theorem gl {H:Hp} {p:Addr} {xs:List V} {i:Int} {v:V} (h:H p=some (.lst xs)) (h0:0<=i) (hv:xs[i.toNat]? = some v):qcb H (.ref p) i=some v:=by rw [qef h];exact qdH h0 hv
theorem gt {H:Hp} {p:Addr} {xs:List V} {i:Int} {v:V} (h:H p=some (.tup xs)) (h0:0<=i) (hv:xs[i.toNat]? = some v):qcb H (.ref p) i=some v:=by rw [qhh h];exact qdH h0 hv
theorem qcV {H:Hp} {p:Addr} {xs:List V} (h:H p=some (.lst xs)):lenV H (.ref p)=some xs.length:=by simp [lenV,h]
theorem gs {H:Hp} {w:List Bool} {i:Int} {b:Bool} (hz:w.length<=sizeLine) (h0:0<=i) (hv:w[i.toNat]? = some b):qcb H (.str (bs w)) i=some (.str (bs [b])):=by
 show (if (bs w).length<=sizeLine then (atI (bs w).cps.toList i).map fun c=>V.str ⟨#[c]⟩ else none)=_
 rw [if_pos (by rw [qc7];exact hz)]
 have:atI (bs w).cps.toList i=some (sg b):=qdH h0 (by show ((w.map sg).toArray.toList)[i.toNat]? = _;simp [hv])
 rw [this]
 rfl
theorem qnS {H:Hp} {w:List Bool} (hz:w.length<=sizeLine):lenV H (.str (bs w))=some w.length:=by
 show (if (bs w).length<=sizeLine then some (bs w).length else none)=_
 rw [if_pos (by rw [qc7];exact hz),qc7]
end L2
end
section
namespace L2
open PySem
end L2
end
section
namespace L2
open PySem PySem.Spec PyProof.Rows
def FnX (K:PySem.W.Frag) (mg:Str->Option Value) (x:Str) (st:Stmt) (ps:List Str):Prop:=∃ f fd,Fun K x x st f fd/\mg x=some (.ref f)/\Binds K fd ps []
def Can (P:Program) (w:World) (K:PySem.W.Frag) (mg:Str->Option Value) (base:Heap) (x:Str) (k:Nat) (ps:List Str) (sp:Sp):Prop:=
 ∃ f fd,FnOk P w K mg base CX0 k f fd ps sp/\mg x=some (.ref f)/\PySem.W.keepIn K (.ref f)=true/\Binds K fd ps []
section
variable {P:Program} {w:World} {K:PySem.W.Frag} {mg:Str->Option Value} {base:Heap}
theorem qak {x:Str} {st:Stmt} {N ps:List Str} {k:Nat} {sp:Sp} (D:FnX K mg x st ps) (S:FnScope N ps (qad st)) (len:∀ vs H Q E,sp vs H Q E->vs.length=ps.length)
  (hbody:∀ (f:Addr) (cdv:Value) (A:Around) (outer:List Env) (s:Shared) (H:Hp) (vs:List V) (Q:VK) (E:XK),Room k (A.deeper (envOfC x (qad st) s.heap.objs.size f cdv))->sp vs H Q E →
   ∃ t,PSs (qhZ CX0 P w K mg base N x (qad st) f cdv A outer s H E).nox (qar st) t/\t { nx:=fun _ H'=>Q .non H',rt:=Q } (start N vs) H):Can P w K mg base x (k+1) ps sp:=by
 obtain ⟨f,fd,F,hm,hb⟩:=D
 exact ⟨f,fd,F.ok S len fun cdv A outer s H vs Q E hr h=>hbody f cdv A outer s H vs Q E hr h,hm,F.kp,hb⟩
end
section
variable {X:Cx} {x:Str} {p pos apos:Pos} {e o:Expr} {es:List Expr} {t:TA} {te to ti:TE} {k:Nat} {ps:List Str} {sp:Sp}
def ql8 (sp:Sp) (t:TA):TE:=fun σ H Q=>t σ H fun vs H1=>sp vs H1 Q E0
theorem qk6 (C:Can X.prog X.w X.K X.mg X.base x k ps sp) (hr:Room k X.A) (ha:PA X (e :: es) t) (hg:Gl X x:=by rfl)
  (hdb:(x == ("__debug__" : Str))=false:=by decide) (he:starEach (e :: es) X.env=(false,eval e X.env) :: starEach es X.env:=by rfl) (hpl:(backTo pos (starEach es X.env)).any (·.1)=false:=by rfl) :
  PE X (.Call (.Name x p) (e :: es) [] pos) (ql8 sp t):=by
 obtain ⟨f,fd,F,hm,hk,hb⟩:=C
 have h:=qja (pos:=pos) (p:=p) F hr hg hm hk hb .nil qk8 ha hdb he hpl
 intro pins s σ H Q I q
 refine thn (h pins s σ H Q I ?_) fun _ _ z=>z
 have ee:qig sp [] E0 t=ql8 sp t:=by funext σ H Q;unfold qig ql8;simp only [List.append_nil]
 rw [ee]
 exact q
theorem qk4 (hm:X.mg "len" = none) (ha:PA X (e :: es) t) (hg:Gl X "len" := by rfl) (he:starEach (e :: es) X.env=(false,eval e X.env) :: starEach es X.env:=by rfl) (hpl:(backTo pos (starEach es X.env)).any (·.1)=false:=by rfl) :
  PE X (.Call (.Name "len" p) (e :: es) [] pos) (tCB qkH t):=qaB qc5 hg hm PySem.boot_len ha (he:=he) (hpl:=hpl)
theorem qfz (hm:X.mg "isinstance" = none) (ha:PA X (e :: es) t) (hg:Gl X "isinstance" := by rfl) (he:starEach (e :: es) X.env=(false,eval e X.env) :: starEach es X.env:=by rfl) (hpl:(backTo pos (starEach es X.env)).any (·.1)=false:=by rfl) :
  PE X (.Call (.Name "isinstance" p) (e :: es) [] pos) (tCB qmd t):=qaB qho hg hm PyProof.Rows.boot_isinstance ha (he:=he) (hpl:=hpl)
theorem qk7 (hc:X.calm=true) (hm:X.mg "all" = none) (ha:PA X (e :: es) t) (hg:Gl X "all" := by rfl) (he:starEach (e :: es) X.env=(false,eval e X.env) :: starEach es X.env:=by rfl) (hpl:(backTo pos (starEach es X.env)).any (·.1)=false:=by rfl) :
  PE X (.Call (.Name "all" p) (e :: es) [] pos) (tCB qme t):=qaB (qgj hc) hg hm PyProof.Rows.boot_all ha (he:=he) (hpl:=hpl)
theorem qk2 (hc:X.calm=true) (hm:X.mg "max" = none) (ha:PA X (e :: es) t) (hg:Gl X "max" := by rfl) (he:starEach (e :: es) X.env=(false,eval e X.env) :: starEach es X.env:=by rfl) (hpl:(backTo pos (starEach es X.env)).any (·.1)=false:=by rfl) :
  PE X (.Call (.Name "max" p) (e :: es) [] pos) (tCB qma t):=qaB (qgf hc) hg hm PyProof.Rows.boot_max ha (he:=he) (hpl:=hpl)
theorem qk1 (hc:X.calm=true) (hm:X.mg "min" = none) (ha:PA X (e :: es) t) (hg:Gl X "min" := by rfl) (he:starEach (e :: es) X.env=(false,eval e X.env) :: starEach es X.env:=by rfl) (hpl:(backTo pos (starEach es X.env)).any (·.1)=false:=by rfl) :
  PE X (.Call (.Name "min" p) (e :: es) [] pos) (tCB ql9 t):=qaB (qgd hc) hg hm PyProof.Rows.boot_min ha (he:=he) (hpl:=hpl)
theorem qi4 (hm:X.mg "int" = none) (ha:PA X (e :: es) t) (hg:Gl X "int" := by rfl) (he:starEach (e :: es) X.env=(false,eval e X.env) :: starEach es X.env:=by rfl) (hpl:(backTo pos (starEach es X.env)).any (·.1)=false:=by rfl) :
  PE X (.Call (.Name "int" p) (e :: es) [] pos) (tCB qd0 t):=qbP qgi hg hm PyProof.Rows.boot_int ha (he:=he) (hpl:=hpl)
theorem qgT (hm:X.mg "list" = none) (ha:PA X (e :: es) t) (hg:Gl X "list" := by rfl) (he:starEach (e :: es) X.env=(false,eval e X.env) :: starEach es X.env:=by rfl) (hpl:(backTo pos (starEach es X.env)).any (·.1)=false:=by rfl) :
  PE X (.Call (.Name "list" p) (e :: es) [] pos) (tCB qbN t):=qbP qcg hg hm PyProof.Rows.boot_list ha (he:=he) (hpl:=hpl)
theorem qfy {T:String} (hb:bootBuiltins x=some (.type T)) (hm:X.mg x=none) (hg:Gl X x:=by rfl) (hn:x≠"__name__" := by decide) (hd:(x == ("__debug__" : Str))=false:=by decide):PE X (.Name x pos) (tC (.ty T)):=qjb hg hm hb rfl hn hd
def tMt (T:String) (r:V->List V->Hp->VK->Prop) (to:TE) (t:TA):TE:=fun σ H Q=>to σ H fun x H1=>tyU H1 T x/\t σ H1 fun xs H2=>r x xs H2 Q
theorem qgS {T id:String} {name:Str} {cpos:Pos} {r:V->List V->Hp->VK->Prop} (pa:PlainAttrs T) (slot:Slot T name id) (hty:typeOf (.builtin id)=pure (.type "method_descriptor")) (hm:MtM X id r) (ho:PE X o to) (ha:PA X (e :: es) t)
  (hbase:attributeBase o name X.env (eval o X.env)=eval o X.env:=by rfl)
  (hfew:((backTo cpos (starEach (e :: es) X.env)).all (fun x=>!x.1) && (backToKw cpos (keywordEach [] X.env)).all (fun x=>x.1.isSome)
   && decide ((e :: es).length+([]:List Keyword).length+(if ([]:List Keyword).isEmpty then 0 else 1) < 30))=true:=by rfl)
  (hline:(apos.endLine == cpos.line)=true:=by rfl) (hs:starEach (e :: es) X.env=(false,eval e X.env) :: starEach es X.env:=by rfl) (hplain:(backTo cpos (starEach es X.env)).any (·.1)=false:=by rfl) :
  PE X (.Call (.Attribute o name apos) (e :: es) [] cpos) (tMt T r to t):=by
 intro pins s σ H Q I h
 refine wpAny_Call_method_late hbase hfew hline rfl (thn (ho pins s σ H _ I h) fun v s1 ⟨x,H1,I1,r1,ty,q1⟩=>?_)
 obtain ⟨h1,h2⟩:=qeR I1 r1 (qkg ty)
 refine ⟨T,id,pa,slot,hty,h1,h2,?_⟩
 have hA:=ha cpos pins s1 σ H1 _ I1 q1
 rw [hs] at hA ⊢
 refine Calls.callWith_builtin (by show (false || (backTo cpos (starEach es X.env)).any (·.1))=false;rw [hplain]<;>rfl) (Calls.evalArgs_plain ?_)
 exact thn hA fun us s2 ⟨vs,H2,I2,r2,q2⟩=>hm pins s2 σ H2 x vs v us Q I2 r1 r2 q2
def qiO:V->V->V->Hp->(Hp->Prop)->Prop:=fun o i v H Q=>match o,i with
 | .ref p,.int k=>∃ xs j,H p=some (.lst xs)/\ixN xs.length k=some j/\Q (upd H p (.lst (xs.set j v)))
 | _,_=>False
theorem qnI:qmi X qiO:=by
 intro pins s σ H o i v ov iv u Q I ro ri rv q
 refine qgC pins s σ H o i v ov iv u Q I ro ri rv ?_
 unfold qiO at q
 split at q
 ·obtain ⟨xs,j,h1,h2,q⟩:=q
  exact ⟨_,xs,_,j,rfl,rfl,h1,h2,q⟩
 ·exact q.elim
def qfX (t:TG) (u:TGs):TGs:=fun vs σ H Q=>match vs with
 | v :: r=>t v σ H fun σ' H'=>u r σ' H' Q
 | []=>False
theorem qfx {es:List Expr} {t:TG} {u:TGs} (h1:PG X e t) (h2:PGs X es u)
  (hs:(assignEach (e :: es) X.env).map (·.2)=assign e X.env :: (assignEach es X.env).map (·.2):=by rfl):PGs X (e :: es) (qfX t u):=by
 intro pins s σ H vs us Q I r hw
 refine qgR h1 h2 hs pins s σ H vs us Q I r ?_
 unfold qfX at hw
 split at hw
 ·exact ⟨_,_,rfl,hw⟩
 ·exact hw.elim
variable {tg:Expr}
def qnX (K:PySem.W.Frag) (tl:TE):TI:=fun σ H R=>tl σ H fun x H1=>match x with
 | .ref a=>(∃ xs,SqL K H1 a xs)/\R (Itl K a) H1
 | _=>False
theorem qkS {l:Expr} {tl:TE} (hl:PE X l tl):PI X tg l (qnX X.K tl):=by
 intro pins s σ H R I h
 refine thn (hl pins s σ H _ I h) fun v s1 ⟨x,H1,I1,r1,q1⟩=>?_
 dsimp only at q1
 split at q1
 ·rename_i a
  obtain ⟨⟨xs,hq⟩,q⟩:=q1
  cases r1
  obtain ⟨its,rv,p,hz⟩:=I1.list hq
  refine wpAny_pyIter_list p.isList ?_
  refine ⟨s1.heap.objs.size,[s1.heap.objs.size],_,_,H1,rfl,I1.kept (t':=s1.toks) fun b o e=>Heap.get?_push_of_some _ e,qcJ a _,⟨_,Heap.get?_push_size _ rfl,rfl,rfl⟩,fun b hb=>?_,q⟩
  have e:b=s1.heap.objs.size:=by simpa using hb
  subst e
  exact I1.fpOk (Nat.le_refl _) (I1.hok.fresh (Nat.le_refl _))
 ·exact q1.elim
def iR1 (ta:TA):TI:=fun σ H R=>ta σ H fun vs H1=>match vs with
 | [.int j]=>-(2 ^ 62)<=j/\j < 2 ^ 62/\R (Itr 0 j.toNat) H1
 | _=>False
theorem qmN {a:Expr} {ta:TA} (hm:X.mg "range" = none) (ha:PA X [a] ta) (hg:Gl X "range" := by rfl) (hs:starEach [a] X.env=[(false,eval a X.env)]:=by rfl):PI X tg (.Call (.Name "range" p) [a] [] pos) (iR1 ta):=by
 intro pins s σ H R I h
 refine Call_ (qbs I hg hm boot_range (PyProof.Rows.callWith_type1 (thn (ha pos pins s σ H _ I h) fun us s1 ⟨vs,H1,I1,r1,q1⟩=>?_) hs rfl))
 dsimp only at q1
 split at q1
 ·obtain ⟨q1,q2,q⟩:=q1
  obtain ⟨u,rfl,t,rfl⟩:=qaP r1
  exact call_range_1 (qgH I1 (by omega) (by omega) q1 q2 (by simpa using q))
 ·exact q1.elim
end
end L2
end
section
namespace L2
open PySem PySem.Spec PyProof.Rows
def qkb (sc:Scope) (x:Str):Bool:=(match sc.names.lookup x with
 | some .local=>true
 | some .cell=>true
 | some .free=>true
 | _=>false) && (!(x == ("__debug__" : Str)) && !(x == ("__classdict__" : Str)))
theorem qeP {sc:Scope} {x:Str} (h:qkb sc x=true):Vis sc x/\(x == ("__debug__" : Str))=false/\(x == ("__classdict__" : Str))=false:=by
 unfold qkb at h
 simp only [Bool.and_eq_true,Bool.not_eq_true'] at h
 obtain ⟨h1,h2,h3⟩:=h
 refine ⟨?_,h2,h3⟩
 split at h1
 ·exact .inl (by assumption)
 ·exact .inr (.inl (by assumption))
 ·exact .inr (.inr (by assumption))
 ·cases h1
def qjJ (sc:Scope) (x:Str):Bool:=match sc.names.lookup x with
 | some .local=>true
 | some .cell=>true
 | _=>false
theorem qea {sc:Scope} {x:Str} (h:qjJ sc x=true):Loc sc x:=by
 unfold qjJ at h
 split at h
 ·exact .inl (by assumption)
 ·exact .inr (by assumption)
 ·cases h
section
variable {X:Cx} {x:Str} {pos:Pos}
theorem vk (i:Nat) (hN:X.N[i]? = some x:=by rfl) (hv:qkb X.env.scope x=true:=by kernel_rfl):PE X (.Name x pos) (tV i):=
 vr i hN (qeP hv).1 (qeP hv).2.1 (qeP hv).2.2
theorem gk (i:Nat) (hN:X.N.Nodup) (hi:X.N[i]? = some x:=by rfl) (hx:qjJ X.env.scope x=true:=by kernel_rfl) (hf:(X.fn x || X.env.scope.names.lookup x == some .local)=true:=by kernel_rfl):PG X (.Name x pos) (qah i):=
 qi2 hN hi (qea hx) (by
  rw [Bool.or_eq_true] at hf
  exact hf.elim .inl fun z=>.inr (eq_of_beq z))
theorem vn (x:Str) (i:Nat) (hN:X.N[i]? = some x:=by with_unfolding_all rfl) (hv:qkb X.env.scope x=true:=by kernel_rfl):PE X (.Name x pos) (tV i):=vk i hN hv
theorem gn (x:Str) (i:Nat) (hN:X.N.Nodup) (hi:X.N[i]? = some x:=by with_unfolding_all rfl) (hx:qjJ X.env.scope x=true:=by kernel_rfl) (hf:(X.fn x || X.env.scope.names.lookup x == some .local)=true:=by kernel_rfl):PG X (.Name x pos) (qah i):=gk i hN hi hx hf
def gB (X:Cx) (x:Str):Bool:=X.env.scope.names.lookup x == some .globalImplicit
theorem qaD (h:gB X x=true):Gl X x:=eq_of_beq h
variable {p apos:Pos} {e o:Expr} {es:List Expr} {t:TA} {te to ti:TE} {k:Nat} {ps:List Str} {sp:Sp} {tg:Expr}
theorem qlS (x:Str) {P':Program} {w':World} {K':PySem.W.Frag} {mg':Str->Option Value} {base':Heap} (C:Can P' w' K' mg' base' x k ps sp) (hX:X.prog=P'/\X.w=w'/\X.K=K'/\X.mg=mg'/\X.base=base') (hr:Room k X.A) (ha:PA X (e :: es) t) (hg:gB X x=true:=by kernel_rfl)
  (hdb:(x == ("__debug__" : Str))=false:=by kernel_rfl) (he:starEach (e :: es) X.env=(false,eval e X.env) :: starEach es X.env:=by kernel_rfl) (hpl:(backTo pos (starEach es X.env)).any (·.1)=false:=by kernel_rfl) :
  PE X (.Call (.Name x p) (e :: es) [] pos) (ql8 sp t):=by
 obtain ⟨rfl,rfl,rfl,rfl,rfl⟩:=hX
 exact qk6 C hr ha (qaD hg) hdb he hpl
theorem qlQ {mg':Str->Option Value} (hm:mg' "len" = none) (hX:X.mg=mg') (ha:PA X (e :: es) t) (hg:gB X "len" = true:=by kernel_rfl) (he:starEach (e :: es) X.env=(false,eval e X.env) :: starEach es X.env:=by kernel_rfl) (hpl:(backTo pos (starEach es X.env)).any (·.1)=false:=by kernel_rfl) :
  PE X (.Call (.Name "len" p) (e :: es) [] pos) (tCB qkH t):=qk4 (by rw [hX];exact hm) ha (qaD hg) he hpl
theorem qfZ {mg':Str->Option Value} (hm:mg' "isinstance" = none) (hX:X.mg=mg') (ha:PA X (e :: es) t) (hg:gB X "isinstance" = true:=by kernel_rfl) (he:starEach (e :: es) X.env=(false,eval e X.env) :: starEach es X.env:=by kernel_rfl) (hpl:(backTo pos (starEach es X.env)).any (·.1)=false:=by kernel_rfl) :
  PE X (.Call (.Name "isinstance" p) (e :: es) [] pos) (tCB qmd t):=qfz (by rw [hX];exact hm) ha (qaD hg) he hpl
theorem qlT {mg':Str->Option Value} (hm:mg' "all" = none) (hX:X.mg=mg') (ha:PA X (e :: es) t) (hc:X.calm=true:=by kernel_rfl) (hg:gB X "all" = true:=by kernel_rfl) (he:starEach (e :: es) X.env=(false,eval e X.env) :: starEach es X.env:=by kernel_rfl) (hpl:(backTo pos (starEach es X.env)).any (·.1)=false:=by kernel_rfl) :
  PE X (.Call (.Name "all" p) (e :: es) [] pos) (tCB qme t):=qk7 hc (by rw [hX];exact hm) ha (qaD hg) he hpl
theorem qlP {mg':Str->Option Value} (hm:mg' "max" = none) (hX:X.mg=mg') (ha:PA X (e :: es) t) (hc:X.calm=true:=by kernel_rfl) (hg:gB X "max" = true:=by kernel_rfl) (he:starEach (e :: es) X.env=(false,eval e X.env) :: starEach es X.env:=by kernel_rfl) (hpl:(backTo pos (starEach es X.env)).any (·.1)=false:=by kernel_rfl) :
  PE X (.Call (.Name "max" p) (e :: es) [] pos) (tCB qma t):=qk2 hc (by rw [hX];exact hm) ha (qaD hg) he hpl
theorem qlO {mg':Str->Option Value} (hm:mg' "min" = none) (hX:X.mg=mg') (ha:PA X (e :: es) t) (hc:X.calm=true:=by kernel_rfl) (hg:gB X "min" = true:=by kernel_rfl) (he:starEach (e :: es) X.env=(false,eval e X.env) :: starEach es X.env:=by kernel_rfl) (hpl:(backTo pos (starEach es X.env)).any (·.1)=false:=by kernel_rfl) :
  PE X (.Call (.Name "min" p) (e :: es) [] pos) (tCB ql9 t):=qk1 hc (by rw [hX];exact hm) ha (qaD hg) he hpl
theorem qlR {mg':Str->Option Value} (hm:mg' "int" = none) (hX:X.mg=mg') (ha:PA X (e :: es) t) (hg:gB X "int" = true:=by kernel_rfl) (he:starEach (e :: es) X.env=(false,eval e X.env) :: starEach es X.env:=by kernel_rfl) (hpl:(backTo pos (starEach es X.env)).any (·.1)=false:=by kernel_rfl) :
  PE X (.Call (.Name "int" p) (e :: es) [] pos) (tCB qd0 t):=qi4 (by rw [hX];exact hm) ha (qaD hg) he hpl
theorem qjU {mg':Str->Option Value} (hm:mg' "list" = none) (hX:X.mg=mg') (ha:PA X (e :: es) t) (hg:gB X "list" = true:=by kernel_rfl) (he:starEach (e :: es) X.env=(false,eval e X.env) :: starEach es X.env:=by kernel_rfl) (hpl:(backTo pos (starEach es X.env)).any (·.1)=false:=by kernel_rfl) :
  PE X (.Call (.Name "list" p) (e :: es) [] pos) (tCB qbN t):=qgT (by rw [hX];exact hm) ha (qaD hg) he hpl
theorem qkf {mg':Str->Option Value} (hm:mg' "int" = none) (hX:X.mg=mg') (hg:gB X "int" = true:=by kernel_rfl):PE X (.Name "int" pos) (tC (.ty "int")):=qfy PyProof.Rows.boot_int (by rw [hX];exact hm) (qaD hg)
theorem qh7 {mg':Str->Option Value} (hm:mg' "bool" = none) (hX:X.mg=mg') (hg:gB X "bool" = true:=by kernel_rfl):PE X (.Name "bool" pos) (tC (.ty "bool")):=qfy PyProof.Rows.boot_bool (by rw [hX];exact hm) (qaD hg)
theorem qh6 {mg':Str->Option Value} (hm:mg' "list" = none) (hX:X.mg=mg') (hg:gB X "list" = true:=by kernel_rfl):PE X (.Name "list" pos) (tC (.ty "list")):=qfy PyProof.Rows.boot_list (by rw [hX];exact hm) (qaD hg)
theorem qgt {mg':Str->Option Value} (hm:mg' "tuple" = none) (hX:X.mg=mg') (hg:gB X "tuple" = true:=by kernel_rfl):PE X (.Name "tuple" pos) (tC (.ty "tuple")):=qfy PyProof.Rows.boot_tuple (by rw [hX];exact hm) (qaD hg)
theorem qke {mg':Str->Option Value} (hm:mg' "str" = none) (hX:X.mg=mg') (hg:gB X "str" = true:=by kernel_rfl):PE X (.Name "str" pos) (tC (.ty "str")):=qfy PyProof.Rows.boot_str (by rw [hX];exact hm) (qaD hg)
theorem qmU {a:Expr} {ta:TA} {mg':Str->Option Value} (hm:mg' "range" = none) (hX:X.mg=mg') (ha:PA X [a] ta) (hg:gB X "range" = true:=by kernel_rfl) (hs:starEach [a] X.env=[(false,eval a X.env)]:=by kernel_rfl):PI X tg (.Call (.Name "range" p) [a] [] pos) (iR1 ta):=qmN (by rw [hX];exact hm) ha (qaD hg) hs
theorem qlH {a b:Expr} {ta tb:TE} (ha:PE X a ta) (hb:PE X b tb) (hs:∀ o i,subscripted b false o i=operate [o,i] (getItem o i):=by intro _ _;kernel_rfl):PE X (.Subscript a b pos) (tOp qmb ta tb):=qk5 ixU ha hb hs
theorem ql5 {e:Expr} {es:List Expr} {te:TE} {t:TA} (ha:PE X e te) (hr:PA X es t) (hs:starEach (e :: es) X.env=(false,eval e X.env) :: starEach es X.env:=by kernel_rfl):PA X (e :: es) (qkq te t):=qjf ha hr hs
theorem qki {op:CmpOp} {r:R2} {a b:Expr} {ta tb:TE} (ho:OpR X (compareOp op) r) (ha:PE X a ta) (hb:PE X b tb) (hm:behindInMarks op b=false:=by kernel_rfl):PT X (.Compare a [op] [b] pos) (tBU (tOp r ta tb)):=qiU ho ha hb hm
theorem qm5 {op:CmpOp} {r:R2} {a b:Expr} {ta tb:TE} (ho:OpR X (compareOp op) r) (ha:PE X a ta) (hb:PE X b tb) (hm:behindInMarks op b=false:=by kernel_rfl):PE X (.Compare a [op] [b] pos) (tOp r ta tb):=qi8 ho ha hb hm
theorem qmz {tg e:Expr} {te:TE} {g:TG} (he:PE X e te) (hg:PG X tg g) (hs:swapsWithSole [tg] e pos.line X.env=pure false:=by kernel_rfl) (hw:swappedStores [tg] e X.env=pure none:=by kernel_rfl)
  (h1:(assignEach [tg] X.env).map (·.2)=[assign tg X.env]:=by kernel_rfl):PS X (.Assign [tg] e pos) (qj9 te g):=qkQ he hg hs hw h1
theorem qkz {e:Expr} {te:TE} (he:PE X e te) (hs:swapsWith e none pos.line X.env=pure false:=by kernel_rfl):PS X (.Expr e pos) (qkl te):=qiX he hs
theorem qiu {iter:Expr} {body:List Stmt} {wi:TI} {g:TG} {tb:TS} (hi:PI X tg iter wi) (hg:PG X tg g) (hb:PSs X body tb) (hp:PassesOwn (model X.prog X.w) X.A X.env X.xe:=by exact PassesOwn.never) (hc:X.calm=true:=by kernel_rfl)
  (hs:∀ x,foldedSetIterable iter X.env x=pure x:=by intro _;kernel_rfl):PS X (.For tg iter body [] pos) (qni wi g tb):=qkO hp hc hi hg hb hs
theorem qit {c:Expr} {body:List Stmt} {tc:TT} {tb:TS} (hc:PT X c tc) (hb:PSs X body tb) (hp:PassesOwn (model X.prog X.w) X.A X.env X.xe:=by exact PassesOwn.never):PS X (.While c body [] pos) (qhw tc tb):=qgN hp hc hb
theorem qjS {es:List Expr} {t:TG} {u:TGs} (h1:PG X e t) (h2:PGs X es u)
  (hs:(assignEach (e :: es) X.env).map (·.2)=assign e X.env :: (assignEach es X.env).map (·.2):=by kernel_rfl):PGs X (e :: es) (qfX t u):=qfx h1 h2 hs
theorem qha {cpos:Pos} (ho:PE X o to) (ha:PA X (e :: es) t)
  (hbase:attributeBase o "append" X.env (eval o X.env)=eval o X.env:=by kernel_rfl)
  (hfew:((backTo cpos (starEach (e :: es) X.env)).all (fun x=>!x.1) && (backToKw cpos (keywordEach [] X.env)).all (fun x=>x.1.isSome)
   && decide ((e :: es).length+([]:List Keyword).length+(if ([]:List Keyword).isEmpty then 0 else 1) < 30))=true:=by kernel_rfl)
  (hline:(apos.endLine == cpos.line)=true:=by kernel_rfl) (hs:starEach (e :: es) X.env=(false,eval e X.env) :: starEach es X.env:=by kernel_rfl) (hplain:(backTo cpos (starEach es X.env)).any (·.1)=false:=by kernel_rfl) :
  PE X (.Call (.Attribute o "append" apos) (e :: es) [] cpos) (tMt "list" qmJ to t):=qgS PySem.F.plainAttrs_list PySem.F.slot_list_append PySem.F.type_list_append qjE ho ha hbase hfew hline hs hplain
theorem qlv {cpos:Pos} (ho:PE X o to) (ha:PA X (e :: es) t)
  (hbase:attributeBase o "join" X.env (eval o X.env)=eval o X.env:=by kernel_rfl)
  (hfew:((backTo cpos (starEach (e :: es) X.env)).all (fun x=>!x.1) && (backToKw cpos (keywordEach [] X.env)).all (fun x=>x.1.isSome)
   && decide ((e :: es).length+([]:List Keyword).length+(if ([]:List Keyword).isEmpty then 0 else 1) < 30))=true:=by kernel_rfl)
  (hline:(apos.endLine == cpos.line)=true:=by kernel_rfl) (hs:starEach (e :: es) X.env=(false,eval e X.env) :: starEach es X.env:=by kernel_rfl) (hplain:(backTo cpos (starEach es X.env)).any (·.1)=false:=by kernel_rfl) :
  PE X (.Call (.Attribute o "join" apos) (e :: es) [] cpos) (tMt "str" qiP to t):=qgS PySem.F.plainAttrs_str PySem.F.slot_str_join PySem.F.type_str_join qg7 ho ha hbase hfew hline hs hplain
theorem qjF {cpos:Pos} (ho:PE X o to) (ha:PA X (e :: es) t)
  (hbase:attributeBase o "strip" X.env (eval o X.env)=eval o X.env:=by kernel_rfl)
  (hfew:((backTo cpos (starEach (e :: es) X.env)).all (fun x=>!x.1) && (backToKw cpos (keywordEach [] X.env)).all (fun x=>x.1.isSome)
   && decide ((e :: es).length+([]:List Keyword).length+(if ([]:List Keyword).isEmpty then 0 else 1) < 30))=true:=by kernel_rfl)
  (hline:(apos.endLine == cpos.line)=true:=by kernel_rfl) (hs:starEach (e :: es) X.env=(false,eval e X.env) :: starEach es X.env:=by kernel_rfl) (hplain:(backTo cpos (starEach es X.env)).any (·.1)=false:=by kernel_rfl) :
  PE X (.Call (.Attribute o "strip" apos) (e :: es) [] cpos) (tMt "str" qfp to t):=qgS PySem.F.plainAttrs_str PySem.F.slot_str_strip PySem.F.type_str_strip qfH ho ha hbase hfew hline hs hplain
theorem qaF (N:List Str) (js:List Nat) {elt target iter:Expr} {ifs:List Expr} {scope:Scope} {wi:TI} {g:TG} {tt:TT} {te:TE} (hN:N.Nodup) (hi:PI X target iter wi)
  (hg:∀ cl C s H fp,PG (X.block scope cl C N s H fp) target g) (ht:∀ cl C s H fp,PF (X.block scope cl C N s H fp) ifs tt) (he:∀ cl C s H fp,PE (X.block scope cl C N s H fp) elt te)
  (hok:qcd X.env.scope X.N scope N js=true:=by kernel_rfl) (hc:X.calm=true:=by kernel_rfl) (hk:scope.kind = .function:=by kernel_rfl) (hs:∀ x,foldedSetIterable iter X.env x=pure x:=by intro _;kernel_rfl) :
  PE X (.ListComp elt [⟨target,iter,ifs,0⟩] scope pos) (qeq (N.length - js.length) js wi g tt te):=qi7 N js hok hN hc hi hg ht he hk hs
theorem qfh (y:Str) (i:Nat) (N:List Str) (js:List Nat) {elt target iter:Expr} {ifs:List Expr} {scope:Scope} {wi:TI} {g:TG} {tt:TT} {te:TE} {py spos:Pos} (hN:N.Nodup) (hXN:X.N.Nodup) (hi:PI X target iter wi)
  (hg:∀ cl C s H fp,PG (X.block scope cl C N s H fp) target g) (ht:∀ cl C s H fp,PF (X.block scope cl C N s H fp) ifs tt) (he:∀ cl C s H fp,PE (X.block scope cl C N s H fp) elt te)
  (hyi:X.N[i]? = some y:=by with_unfolding_all rfl) (hy:qjJ X.env.scope y=true:=by kernel_rfl)
  (hok:qcd X.env.scope X.N scope N js=true:=by kernel_rfl) (hc:X.calm=true:=by kernel_rfl) (hk:scope.kind = .function:=by kernel_rfl) (hs:∀ x,foldedSetIterable iter X.env x=pure x:=by intro _;kernel_rfl)
  (hsw:swapsWith (.ListComp elt [⟨target,iter,ifs,0⟩] scope pos) (some (.Name y py)) spos.line X.env=pure true:=by kernel_rfl) (hf:(X.fn y || X.env.scope.names.lookup y == some .local)=true:=by kernel_rfl) :
  PS X (.Assign [.Name y py] (.ListComp elt [⟨target,iter,ifs,0⟩] scope pos) spos) (qj9 (qeq (N.length - js.length) js wi g tt te) (qah i)):=
 qev N js hok hN hc hXN hyi (qea hy) hi hg ht he hsw hk hs (by
  rw [Bool.or_eq_true] at hf
  exact hf.elim .inl fun z=>.inr (eq_of_beq z))
end
theorem qmg {c A B:Prop} [Decidable c] (hc:c) (h:A):if c then A else B:=by rw [if_pos hc];exact h
end L2
end
section
namespace L2
open PySem PySem.Spec PyProof.Rows
end L2
namespace L2
open PySem PySem.Spec PyProof.Rows
section
variable {H:Hp}
theorem DV.lst_inv {v:V} {ds:List PyData} (h:DV H v (.list ds)):∃ a xs,v = .ref a/\H a=some (.lst xs)/\DVs H xs ds:=by
 cases h with
 | lst h r=>exact ⟨_,_,rfl,h,r⟩
theorem DV.tup_inv {v:V} {ds:List PyData} (h:DV H v (.tuple ds)):∃ a xs,v = .ref a/\H a=some (.tup xs)/\DVs H xs ds:=by
 cases h with
 | tup h r=>exact ⟨_,_,rfl,h,r⟩
theorem DV.int_inv {v:V} {i:Int} (h:DV H v (.int i)):v = .int i:=by cases h;rfl
theorem DV.str_inv {v:V} {x:Str} (h:DV H v (.str x)):v = .str x:=by cases h;rfl
theorem DVs.length:∀ {xs:List V} {ds:List PyData},DVs H xs ds->xs.length=ds.length
 | _,_,.nil=>rfl
 | _,_,.cons _ r=>by rw [List.length_cons,List.length_cons,DVs.length r]
theorem DVs.get:∀ {xs:List V} {ds:List PyData} {i:Nat} {d:PyData},DVs H xs ds->ds[i]? = some d->∃ x,xs[i]? = some x/\DV H x d
 | _,_,_,_,.nil,h=>by simp at h
 | _,_,0,_,.cons h _,e=>by
  simp at e
  subst e
  exact ⟨_,rfl,h⟩
 | _,_,i+1,d,.cons _ r,e=>by
  obtain ⟨x,h1,h2⟩:=DVs.get (i:=i) (d:=d) r (by simpa using e)
  exact ⟨x,by simpa using h1,h2⟩
theorem DVs.app:∀ {xs ys:List V} {ds es:List PyData},DVs H xs ds->DVs H ys es->DVs H (xs++ys) (ds++es)
 | _,_,_,_,.nil,s=>s
 | _,_,_,_,.cons h r,s=>.cons h (DVs.app r s)
end
end L2
end
section
namespace Om
abbrev Rows:=List (List (List Bool×Nat))
structure CodeOk (k n:Nat) (rows:Rows):Prop where
 k1:1<=k
 k3:k<=3
 n1:1<=n
 n6:n<=6
 s1:1<=rows.length
 s8:rows.length<=8
 len:∀ st∈rows,st.length=2 ^ k
 row:∀ st∈rows,∀ r∈st,r.1.length=n/\r.2 < rows.length
end Om
end
section
namespace L2
open PySem PySem.Spec PyProof.Rows
theorem qj4 (ws:List (List Bool)):Txt.join ("" : Str) (ws.map bs)=bs ws.flatten:=by
 rw [eq_of_beq (join_plain_closes _ _)]
 have e0:("" : Str)=(⟨#[]⟩ : Str):=by decide +kernel
 rw [e0]
 induction ws with
 | nil=>rfl
 | cons w ws ih=>rw [List.map_cons,join_nil_cons,ih,ql4,List.flatten_cons]
def qdY (r:List Bool×Nat):PyData:=.tuple [.str (bs r.1),.int (r.2:Nat)]
def qaX (st:List (List Bool×Nat)):PyData:=.list (st.map qdY)
def qax (k n:Nat) (rows:Om.Rows):PyData:=.tuple [.int (k:Nat),.int (n:Nat),.list (rows.map qaX)]
end L2
namespace L2
open PySem PySem.Spec PyProof.Rows
theorem SqL.upd {K:PySem.W.Frag} {H:Hp} {a D:Addr} {xs:List V} {o:HO} (h:H a=some (.lst xs)) (hD:H D=none):SqL K (upd H D o) a xs:=SqL.of (Same.upd hD _ _ h)
end L2
end
section
namespace L2
open PySem PySem.Spec PyProof.Rows
section
variable {prog:Program} {w:World} {A:Around} {E:Value->Shared->Prop}
theorem qcZ {it l:Addr} {items:Array Value} (hne:l≠it):∀ (n i:Nat) (s:Shared) (Q:List Value->Shared->Prop),s.heap.IsListIter it l i->s.heap.IsList l items->i+n<=items.size →
  (∀ h',h'.IsListIter it l (i+n)->Heap.SameBut it s.heap h'->Q ((items.toList.drop i).take n) { s with heap:=h' })->wpAny (model prog w) A (draw (.ref it) n) Q E s
 | 0,i,s,Q,hit,_,_,hQ=>by
  show wpAny _ _ (pure []) Q E s
  exact wpAny_pure (by simpa using hQ s.heap hit (Heap.SameBut.refl ..))
 | n+1,i,s,Q,hit,ht,hle,hQ=>by
  have hlt:i < items.size:=by omega
  show wpAny _ _ (pyNext (.ref it) >>= _) Q E s
  refine wpAny_bind (wpAny_pyNext_list_item hit ht (x:=items[i]) (by simp [hlt]) fun h₁ hit₁ hs₁=>?_)
  refine wpAny_bind (wpAny_holding (qcZ hne n (i+1) _ _ hit₁ (ht.extBut hs₁.extBut hne) (by omega) fun h₂ hit₂ hs₂=>wpAny_pure ?_))
  have hd:items.toList.drop i=items[i] :: items.toList.drop (i+1):=by simp [List.drop_eq_getElem_cons,hlt]
  have:=hQ h₂ (by rw [show i+(n+1)=i+1+n by omega];exact hit₂) (hs₁.trans hs₂)
  rw [hd,List.take_succ_cons] at this
  exact this
theorem qby {s:Shared} {t:Addr} {items:Array Value} {Q:List Value->Shared->Prop} (hh:A.handled=none) (ht:s.heap.IsList t items)
  (hQ:∀ h',Heap.ExtBut s.heap.objs.size s.heap h'->Q items.toList { s with heap:=h' }):wpAny (model prog w) A (unpackItems (.ref t) items.size none) Q E s:=by
 have hlt:t≠s.heap.objs.size:=by obtain ⟨o,ho,_⟩:=ht;exact Nat.ne_of_lt (Heap.lt_size ho)
 unfold unpackItems
 refine wpAny_bind ?_
 ·unfold notIterableAtAll
  refine wpAny_bind (wpAny_specialOf ht.typeIs slot_list_iter.lookup ?_)
  refine wpAny_pure ?_
  simp only [Bool.false_eq_true,if_false]
  refine wpAny_bind (wpAny_holding (wpAny_pyIter_list ht ?_))
  refine wpAny_bind (wpAny_holding (qcZ hlt items.size 0 _ _ ⟨_,Heap.get?_push_size _ rfl,rfl,rfl⟩ (ht.push _) (by omega) fun h₁ hit₁ hs₁=>?_))
  have hall:List.take items.size (List.drop 0 items.toList)=items.toList:=by
   rw [List.drop_zero];exact List.take_of_length_le (by simp)
  rw [hall]
  rw [if_neg (by simp)]
  have ht₁:h₁.IsList t items:=(ht.push _).extBut hs₁.extBut hlt
  refine wpAny_bind (wpAny_holding (wpAny_pyNext_list_end hh hit₁ ht₁ (by simp) fun h₂ he₂=>?_))
  simp only [Option.isSome_none,Bool.false_eq_true,if_false]
  refine wpAny_pure (hQ h₂ fun b o hb e=>he₂ b o hb (hs₁.extBut b o hb (Heap.get?_push_of_some _ e)))
theorem qbq {s:Shared} {env:Env} {elts:List Expr} {x1} {pos:Pos} {t:Addr} {items:Array Value} {Q:Unit->Shared->Prop} (hh:A.handled=none) (ht:s.heap.IsList t items)
  (hn:(assignEach elts env).length=items.size) (hstar:(assignEach elts env).findIdx? (·.1)=none)
  (h:∀ h',Heap.ExtBut s.heap.objs.size s.heap h'->wpAny (model prog w) A (assignInOrder ((assignEach elts env).map (·.2)) items.toList) Q E { s with heap:=h' }) :
  wpAny (model prog w) A (assign (.Tuple elts x1 pos) env (.ref t)) Q E s:=by
 rw [assign_Tuple]
 refine wpAny_bind (wpAny_standAt ?_)
 unfold unpack
 rw [hn,hstar]
 exact wpAny_bind (wpAny_holding (qby hh ht h))
end
section
variable {X:Cx} {pos:Pos}
def qjT (K:PySem.W.Frag) (n:Nat) (t:TGs):TG:=fun v σ H Q=>match v with
 | .ref a=>∃ xs,(H a=some (.tup xs)\/H a=some (.lst xs))/\xs.length=n/\t xs σ H Q
 | _=>False
theorem qhS {es:List Expr} {k:Nat} {t:TGs} (h:PGs X es t) (hc:X.calm=true:=by kernel_rfl)
  (hst:(assignEach es X.env).findIdx? (·.1)=none:=by kernel_rfl):PG X (.Tuple es k pos) (qjT X.K (assignEach es X.env).length t):=by
 intro pins s σ H v u Q I r hw
 unfold qjT at hw
 split at hw
 ·obtain ⟨xs,h1 | h1,h2,hw⟩:=hw
  ·exact qkT hc h rfl hst pins s σ H _ u Q I r ⟨_,xs,rfl,SqT.of h1,h2,hw⟩
  ·cases r
   obtain ⟨its,rv,p,hz⟩:=I.list (SqL.of h1)
   refine qbq (I.ok.hd hc) p.isList (by simp [<-rv.length,h2]) hst fun h' hx=>?_
   have I1:Inv X pins σ H { s with heap:=h' }:=I.kept (t':=s.toks) fun b o e=>hx b o (Nat.ne_of_lt (Heap.lt_size e)) e
   exact h pins _ σ H xs _ Q I1 (by simpa using rv) hw
 ·exact hw.elim
theorem qle:OpR X (compareOp .Is) (fun x y H Q=>match x,y with
  | .bl a,.bl b=>Q (.bl (a == b)) H
  | _,_=>False):=by
 intro pins s σ H x y v u Q I rx ry h
 split at h
 ·cases rx
  cases ry
  exact is_bool ⟨.bl _,H,I,rfl,h⟩
 ·exact h.elim
end
section
variable {X:Cx}
def qnz (t:TE):TT:=fun σ H Q=>t σ H fun x H1=>match x with
 | .bl c=>Q c H1
 | .ref p=>∃ xs,H1 p=some (.lst xs)/\Q (!xs.isEmpty) H1
 | _=>False
theorem qmk {e:Expr} {t:TE} (h:PE X e t) (he:∀ whole,isTrue e X.env whole=(do let v <-whole;standAt e.pos;holding [v] (truthy v)):=by intro _;kernel_rfl):PT X e (qnz t):=by
 intro pins s σ H Q I hw
 refine isTrue_plain (thn (h pins s σ H _ I hw) fun v s1 ⟨x,H1,I1,r1,q1⟩=>?_) (he _)
 refine qeT pins s1 σ H1 x v Q I1 r1 ?_
 dsimp only at q1
 split at q1
 ·exact ⟨_,rfl,q1⟩
 ·obtain ⟨xs,h1,q⟩:=q1
  exact ⟨_,.inl ⟨xs,SqL.of h1,rfl⟩,q⟩
 ·exact q1.elim
end
section
variable {X:Cx}
def qnn:V->Hp->VK->Prop:=fun x H Q=>match x with
 | .int i=>Q (.int (-i)) H
 | _=>False
theorem qm4 {a:Expr} {ta:TE} {pos:Pos} (ha:PE X a ta):PE X (.UnaryOp .USub a pos) (tUn qnn ta):=by
 refine qmO (fun pins s σ H x v Q I rx q=>?_) ha
 unfold qnn at q
 split at q
 ·exact qkd pins s σ H _ v Q I rx ⟨_,rfl,q⟩
 ·exact q.elim
end
section
variable {H:Hp}
theorem qay {cv:V} {k n:Nat} {rows:Om.Rows} (h:DV H cv (qax k n rows)):∃ a b ss,cv = .ref a/\H a=some (.tup [.int k,.int n,.ref b])/\H b=some (.lst ss)/\DVs H ss (rows.map qaX):=by
 obtain ⟨a,xs,rfl,ha,hx⟩:=h.tup_inv
 cases hx with
 | cons h1 hx=>
  cases hx with
  | cons h2 hx=>
   cases hx with
   | cons h3 hx=>
    cases hx
    obtain rfl:=h1.int_inv
    obtain rfl:=h2.int_inv
    obtain ⟨b,ss,rfl,hb,hs⟩:=h3.lst_inv
    exact ⟨a,b,ss,rfl,ha,hb,hs⟩
theorem qaA {ss:List V} {rows:Om.Rows} (h:DVs H ss (rows.map qaX)) {s:Nat} {st:List (List Bool×Nat)} (hs:rows[s]? = some st):∃ q rs,ss[s]? = some (.ref q)/\H q=some (.lst rs)/\DVs H rs (st.map qdY):=by
 obtain ⟨x,hx,d⟩:=h.get (i:=s) (d:=qaX st) (by rw [gM_,hs];rfl)
 obtain ⟨q,rs,rfl,hq,hr⟩:=d.lst_inv
 exact ⟨q,rs,hx,hq,hr⟩
theorem qbr {rs:List V} {st:List (List Bool×Nat)} (h:DVs H rs (st.map qdY)) {l:Nat} {r:List Bool×Nat} (hl:st[l]? = some r):∃ p,rs[l]? = some (.ref p)/\H p=some (.tup [.str (bs r.1),.int (r.2:Nat)]):=by
 obtain ⟨x,hx,d⟩:=h.get (i:=l) (d:=qdY r) (by rw [gM_,hl];rfl)
 obtain ⟨p,xs,rfl,hp,hd⟩:=d.tup_inv
 cases hd with
 | cons h1 hd=>
  cases hd with
  | cons h2 hd=>
   cases hd
   obtain rfl:=h1.str_inv
   obtain rfl:=h2.int_inv
   exact ⟨p,hx,hp⟩
end
end L2
namespace Om
end Om
end
section
namespace L2
open PySem PySem.Spec PyProof.Rows
section
variable {X:Cx} {x:Str} {p pos:Pos} {e:Expr} {es:List Expr} {t:TA}
end
theorem qm9:("01" : Str)=bs [false,true]:=by decide +kernel
theorem qm8:("10" : Str)=bs [true,false]:=by decide +kernel
theorem g01 {H:Hp} {r:Int} (h0:0<=r) (h1:r < 2):qcb H (.str ("01" : Str)) r=some (.str (bs [decide (r=1)])):=by
 rw [qm9]
 refine gs (lZ_ rfl) h0 ?_
 have:r=0\/r=1:=by omega
 rcases this with rfl | rfl<;>rfl
theorem qj3 (w:List Bool):Txt.join ("" : Str) (w.map fun b=>bs [b])=bs w:=by
 have e:(w.map fun b=>bs [b])=(w.map fun b=>[b]).map bs:=by rw [List.map_map];rfl
 rw [e,qj4]
 congr 1
 clear e
 induction w with
 | nil=>rfl
 | cons a w ih=>rw [List.map_cons,List.flatten_cons,ih];rfl
end L2
end
section
namespace L2
open PySem PySem.Spec PyProof.Rows
theorem qbL {t u:TS} {D:Ends} {σ:St} {H:Hp} (M:St->Hp->Prop) (fin:∀ σ' H',M σ' H'->u D σ' H') (h:(∀ σ' H',M σ' H'->u D σ' H')->t { D with nx:=u D } σ H):qgr t u D σ H:=h fin
def WS (ws:List (List Bool)):HO:=.lst (ws.map fun w=>V.str (bs w))
theorem qht {ws:List (List Bool)}:(ws.map fun w=>V.str (bs w)).length=ws.length:=by simp
theorem qhu {ws:List (List Bool)} {i:Nat} {w:List Bool} (h:ws[i]? = some w):(ws.map fun w=>V.str (bs w))[i]? = some (.str (bs w)):=by rw [gM_,h];rfl
theorem qa2:∀ {ds:List PyData},(∀ d∈ds,d.canLay0=true)->PyData.canLayAll0 ds=true
 | [],_=>rfl
 | d :: ds,h=>by rw [PyData.canLayAll0,h d List.mem_cons_self,qa2 fun x hx=>h x (mC_ _ hx)];rfl
theorem qaU {k:Nat}:∀ {ds:List PyData},(∀ d∈ds,d.depth<=k)->PyData.depthAll ds<=k
 | [],_=>Nat.zero_le _
 | d :: ds,h=>by
  rw [PyData.depthAll]
  exact Nat.max_le.mpr ⟨h d List.mem_cons_self,qaU fun x hx=>h x (mC_ _ hx)⟩
theorem qbK {k:Nat} {ds:List PyData} (h1:∀ d∈ds,d.canLay0=true) (h2:∀ d∈ds,d.depth<=k) (hk:k < 64):SeqAt.shaped (.list ds)=true:=by
 unfold SeqAt.shaped
 rw [Bool.and_eq_true]
 refine ⟨by rw [PyData.canLay0];exact qa2 h1,decide_eq_true ?_⟩
 have:=qaU h2
 rw [PyData.depth]
 omega
theorem qes {k:Nat} {ds:List PyData} (h1:∀ d∈ds,d.canLay0=true) (h2:∀ d∈ds,d.depth<=k) (hk:k < 64):SeqAt.shaped (.tuple ds)=true:=by
 unfold SeqAt.shaped
 rw [Bool.and_eq_true]
 refine ⟨by rw [PyData.canLay0];exact qa2 h1,decide_eq_true ?_⟩
 have:=qaU h2
 rw [PyData.depth]
 omega
end L2
namespace L2
open PySem PySem.Spec PyProof.Rows
end L2
end
section
namespace L2
open PySem PySem.Spec PyProof.Rows
section
variable {F:Addr->Prop} {st p:Addr} {G H H':Hp} {o:HO}
end
end L2
end
section
namespace L2
open PySem PySem.Spec PyProof.Rows
theorem DVs.of_get {H:Hp}:∀ {xs:List V} {ds:List PyData},xs.length=ds.length->(∀ (i:Nat) (d:PyData),ds[i]? = some d->∃ x,xs[i]? = some x/\DV H x d)->DVs H xs ds
 | [],[],_,_=>.nil
 | [],_ :: _,h,_=>by simp at h
 | _ :: _,[],h,_=>by simp at h
 | x :: xs,d :: ds,h,k=>by
  obtain ⟨x',e,hd⟩:=k 0 d rfl
  have:x=x':=oI_ e
  subst this
  exact .cons hd (DVs.of_get (by simpa using h) fun i d' h'=>by
   obtain ⟨y,e1,e2⟩:=k (i+1) d' (by simpa using h')
   exact ⟨y,by simpa using e1,e2⟩)
def qlM (n:Nat) (t:TGs):TG:=fun v σ H Q=>match v with
 | .ref a=>∃ xs,(H a=some (.tup xs)\/H a=some (.lst xs))/\xs.length=n/\t xs σ H Q
 | _=>False
theorem qlL {X:Cx} {pos:Pos} {es:List Expr} {k:Nat} {t:TGs} (h:PGs X es t) (hc:X.calm=true:=by kernel_rfl)
  (hst:(assignEach es X.env).findIdx? (·.1)=none:=by kernel_rfl) (hn:(assignEach es X.env).length=es.length:=by kernel_rfl):PG X (.Tuple es k pos) (qlM es.length t):=by
 intro pins s σ H v u Q I r hw
 exact qhS h hc hst pins s σ H v u Q I r (by
  unfold qlM at hw
  unfold qjT
  split at hw
  ·exact hn ▸ hw
  ·exact hw.elim)
end L2
namespace Om
section
variable {ord:List Nat} {rows:Rows} {k n:Nat}
end
end Om
end
section
namespace L2
open PySem PySem.Spec PyProof.Rows
def qnf (w:List Bool) (s:Nat):PyData:=.tuple [.str (bs w),.int (s:Nat)]
theorem qgz (w:List Bool) (s:Nat):(qnf w s).canLay0=true:=by
 unfold qnf
 rw [PyData.canLay0]
 refine qa2 fun d hd=>?_
 rcases List.mem_cons.mp hd with rfl | hd
 ·exact qm6 w
 ·rw [mS_ hd];rfl
end L2
end
section
namespace L2
open PySem PySem.Spec PyProof.Rows
section
variable {X:Cx} {pins:List (Addr×Obj)} {σ:List (Option V)} {H:Hp} {s:Shared} {h':Heap}
theorem Inv.turnedL {t':Nat} {ch:List Addr} (I:Inv X pins σ H s) (hch:∀ b∈ch,qdK X pins H b) (k:∀ b o,b ∉ ch->s.heap.get? b=some o->h'.get? b=some o):Inv X pins σ H { s with heap:=h',toks:=t' }:=by
 have nit:∀ b u,H b=some u->b ∉ ch:=fun b u e z=>by rw [(hch b z).1] at e;cases e
 refine I.step (g':=s.gens) (d':=s.drawn) (ch:=ch) (fun b hb=>?_) (fun b o _ _ hc e _=>k b o hc e) (fun b o _ _ hc e _=>⟨o.slots,k b o hc e⟩) (fun _ _ _ _ n=>n)
  (fun b o hc e=>⟨o,k b o hc e⟩) (fun _ _ e=>e) (fun _ _ _ e=>e) (fun b ps e=>⟨#[],by rw [e];simp⟩) (fun m hm=>?_) (fun b u e=>?_) I.bare
 ·obtain ⟨_,q1,_,q3,q4,q5⟩:=hch b hb
  exact ⟨q3,q1,q4,q5⟩
 ·obtain ⟨o,es,ep,ho,r⟩:=hm
  exact ⟨o,es,ep,k _ o (fun z=>(hch _ z).2.1 rfl) ho,r⟩
 ·refine (I.hok b u e).stay (fun c v hc q=>k c v ?_ q) (fun _ q=>q) fun _ _ q=>q
  rcases hc with z | z
  ·rw [z];exact nit b u e
  ·exact nit c _ z
theorem Inv.turnLaid {t':Nat} {ch:List Addr} {a:Addr} {o':HO} (I:Inv X pins σ H s) (hch:∀ b∈ch,qdK X pins H b) (k:∀ b o,b ∉ ch->s.heap.get? b=some o->h'.get? b=some o)
  (hp:s.heap.objs.size<=a) (new:ObjOk X.prog X.w (upd H a o') h' a o'):Inv X pins σ (upd H a o') { s with heap:=h',toks:=t' }:=by
 have nit:∀ b u,H b=some u->b ∉ ch:=fun b u e z=>by rw [(hch b z).1] at e;cases e
 have ha:H a=none:=I.hok.fresh hp
 have na:∀ b o,s.heap.get? b=some o->b≠a:=fun b o e z=>absurd (Nat.lt_of_lt_of_le (Heap.lt_size e) hp) (by rw [z];exact Nat.lt_irrefl _)
 refine I.step (g':=s.gens) (d':=s.drawn) (ch:=ch) (fun b hb=>?_) (fun b o _ _ hc e _=>k b o hc e) (fun b o _ _ hc e _=>⟨o.slots,k b o hc e⟩) (fun b o _ e n=>by rw [qac (na b o e)];exact n)
  (fun b o hc e=>⟨o,k b o hc e⟩) (fun b xs e=>by rw [qac (qab e ha)];exact e) (fun b o u e=>by rw [qac (qab e ha)];exact e) (fun b ps e=>⟨#[],by rw [qac (qab e ha),e];simp⟩) (fun m hm=>?_) (fun b u e=>?_) I.bare
 ·obtain ⟨_,q1,_,q3,q4,q5⟩:=hch b hb
  exact ⟨q3,q1,q4,q5⟩
 ·obtain ⟨o,es,ep,ho,r⟩:=hm
  exact ⟨o,es,ep,k _ o (fun z=>(hch _ z).2.1 rfl) ho,r⟩
 ·by_cases hb:b=a
  ·subst hb
   rw [qaa] at e
   cases e
   exact new
  ·rw [qac hb] at e
   refine (I.hok b u e).stay (fun c v hc q=>k c v ?_ q) (fun c q=>by rw [qac (qab q ha)];exact q) fun c xs q=>by rw [qac (qab q ha)];exact q
   rcases hc with z | z
   ·rw [z];exact nit b u e
   ·exact nit c _ z
end
def Ite (K:PySem.W.Frag) (a:Addr):It:=
 ⟨fun i H=>∃ xs x,SqL K H a xs/\xs[i]? = some x,fun i H x H'=>∃ t y,(∀ xs,SqL K H a xs->xs[i]? = some y)/\H t=none/\x = .ref t/\H'=upd H t (.tup [.int (i:Nat),y]),fun i H=>∃ xs,SqL K H a xs/\xs.length<=i⟩
theorem qeS {P:Program} {w:World} {K:PySem.W.Frag} {es:List Expr} {k:Nat} {pos:Pos} (a it e:Addr) (hne:e≠it):Turn P w K (.Tuple es k pos) (Ite K a) [e,it] e (fun i h=>(∃ old,IsEnum h e it (i:Nat) old)/\h.IsListIter it a i) where
 mem:=by simp
 obj:=fun i h st b hb=>by
  obtain ⟨⟨old,he⟩,o,ho,c,d⟩:=st
  have hb':b=e\/b=it:=by simpa using hb
  rcases hb' with rfl | rfl
  ·exact ⟨_,he,fun v z=>by cases z⟩
  ·exact ⟨o,ho,fun v z=>by rw [d] at z;cases z⟩
 keep:=fun i h h' st k=>⟨let ⟨old,he⟩:=st.1;⟨old,k e (by simp) _ he⟩,st.2.at fun o e=>k it (by simp) o e⟩
 item:=by
  intro X hP hw hK hc i pins s σ H E I hf st hg
  subst hP hw hK
  obtain ⟨xs,x,hq,hx⟩:=hg
  obtain ⟨its,rv,p,hz⟩:=I.list hq
  obtain ⟨u,hu,ru⟩:=rv.get hx
  obtain ⟨⟨old,he⟩,hit⟩:=st
  have helt:e < s.heap.objs.size:=Heap.lt_size he
  have hilt:it < s.heap.objs.size:=by obtain ⟨_,x,_⟩:=hit;exact Heap.lt_size x
  have fT:=I.fresh
  refine wpAny_pyNext_enum_item he hit p.isList (x:=u) (by simpa using hu) hne fun h' ho hit' hT hsz hk=>⟨_,rfl,?_⟩
  refine wpAny_letOwnedTupleGo_enum ho fun h2 he2 hs2=>?_
  have hs2:Heap.SameBut e h' h2:=hs2
  have up:∀ b o,b ∉ [e,it]->s.heap.get? b=some o->h2.get? b=some o:=fun b o hb ee=>by
   have h1:b≠e:=fun z=>hb (by simp [z])
   have h2':b≠it:=fun z=>hb (by simp [z])
   exact (hs2.2 b h1).trans (hk b o h1 h2' ee)
  have hT2:h2.get? s.heap.objs.size=some { cls:=.type "tuple",data:=.seq #[.int (i:Nat) s.toks,u] }:=(hs2.2 _ (Nat.ne_of_gt helt)).trans hT
  refine ⟨.ref s.heap.objs.size,upd H s.heap.objs.size (.tup [.int (i:Nat),x]),?_,rfl,⟨_,x,fun ys hy=>by rw [I.list_inj hy hq];exact hx,fT,rfl,rfl⟩,⟨⟨_,by simpa using he2⟩,hit'.at fun o y=>(hs2.2 it hne.symm).trans y⟩,fun b hb=>?_⟩
  ·exact I.turnLaid (t':=s.toks+1) hf up (Nat.le_refl _) ⟨Nat.le_of_ble_eq_true rfl,[.int (i:Nat) s.toks,u],.cons ⟨_,rfl⟩ (.cons ru .nil),⟨_,hT2,rfl,0,rfl⟩⟩
  ·have hb':b=e\/b=it:=by simpa using hb
   rcases hb' with rfl | rfl
   ·rw [qac (Nat.ne_of_lt helt)];exact (hf _ hb).1
   ·rw [qac (Nat.ne_of_lt hilt)];exact (hf _ hb).1
 done:=by
  intro X hP hw hK hc i pins s σ H E I hf st hg
  subst hP hw hK
  obtain ⟨xs,hq,hx⟩:=hg
  obtain ⟨its,rv,p,hz⟩:=I.list hq
  have hl:=rv.length
  obtain ⟨⟨old,he⟩,hit⟩:=st
  exact wpAny_pyNext_enum_end (I.ok.hd hc) he hit p.isList (by simp;omega) fun h' eb=>⟨rfl,I.turnedL (t':=s.toks) hf fun b o hb e'=>eb b o (fun z=>hb (by simp [z])) e'⟩
 self:=fun _ _ _ _ _ st h=>let ⟨_,he⟩:=st.1;wpAny_pyIter_enum he h
section
variable {X:Cx} {p pos tpos:Pos} {a b:Expr} {es:List Expr} {tk:Nat}
def qmY (K:PySem.W.Frag) (ta:TA):TI:=fun σ H R=>ta σ H fun vs H1=>match vs with
 | [.ref l]=>(∃ xs,SqL K H1 l xs)/\R (Ite K l) H1
 | _=>False
theorem qfP {ta:TA} {mg':Str->Option Value} (hm:mg' "enumerate" = none) (hX:X.mg=mg') (ha:PA X [a] ta) (hg:gB X "enumerate" = true:=by kernel_rfl) (hs:starEach [a] X.env=[(false,eval a X.env)]:=by kernel_rfl) :
  PI X (.Tuple es tk tpos) (.Call (.Name "enumerate" p) [a] [] pos) (qmY X.K ta):=by
 intro pins s σ H R I h
 refine Call_ (qbs I (qaD hg) (by rw [hX];exact hm) boot_enumerate (PyProof.Rows.callWith_type1 (thn (ha pos pins s σ H _ I h) fun us s1 ⟨vs,H1,I1,r1,q1⟩=>?_) hs rfl))
 dsimp only at q1
 split at q1
 ·rename_i l
  obtain ⟨⟨xs,hq⟩,q⟩:=q1
  obtain ⟨u,rfl,r⟩:=qaP r1
  cases r
  obtain ⟨its,rv,pl,hz⟩:=I1.list hq
  refine call_enumerate_list pl.isList fun h' hE hI hsz hk=>wpAny_pyIter_enum hE ?_
  refine ⟨s1.heap.objs.size+1,[s1.heap.objs.size+1,s1.heap.objs.size],_,_,H1,rfl,I1.kept (t':=s1.toks) hk,qeS l s1.heap.objs.size (s1.heap.objs.size+1) (Nat.succ_ne_self _),⟨⟨_,hE⟩,hI⟩,fun c hc=>?_,q⟩
  have hb':c=s1.heap.objs.size+1\/c=s1.heap.objs.size:=by simpa using hc
  have hle:s1.heap.objs.size<=c:=by rcases hb' with rfl | rfl<;>first | exact Nat.le_refl _ | exact Nat.le_add_right _ _
  exact I1.fpOk hle (I1.hok.fresh hle)
 ·exact q1.elim
structure ItPr (J:It) (n:Nat) (row:Nat->List V) (ok:Hp->Prop):Prop where
 stop:∀ H,ok H->J.stop n H
 go:∀ i H,ok H->i < n->J.go i H
 yld:∀ i H x H',ok H->i < n->J.yld i H x H'->∃ t,H t=none/\x = .ref t/\H'=upd H t (.tup (row i))
theorem qhU {J:It} {n:Nat} {row:Nat->List V} {ok:Hp->Prop} {g:TG} {tb:TS} {D:Ends} {σ:St} {H:Hp} (IO:ItPr J n row ok) (Pv:Nat->St->Hp->Prop) (h0:Pv 0 σ H) (hl:∀ i σ H,i<=n->Pv i σ H->ok H)
  (hs:∀ i t σ H,i < n->Pv i σ H->H t=none->g (.ref t) σ (upd H t (.tup (row i))) fun σ2 H2=>tb { D with nx:=Pv (i+1),ct:=Pv (i+1),bk:=D.nx } σ2 H2) (hd:∀ σ H,Pv n σ H->D.nx σ H) :
  ∃ W:Nat->Nat->St->Hp->Prop,(∃ m,W 0 m σ H)/\∀ i m σ H,W i m σ H →
   (J.stop i H/\D.nx σ H)\/(J.go i H/\∃ N:St->Hp->Prop,(∀ σ' H',N σ' H'->∃ m',m' < m/\W (i+1) m' σ' H')/\∀ x H',J.yld i H x H'->g x σ H' fun σ2 H2=>tb { D with nx:=N,ct:=N,bk:=D.nx } σ2 H2):=by
 refine ⟨fun i m σ H=>m=n - i/\i<=n/\Pv i σ H,⟨n,by simp,Nat.zero_le _,h0⟩,?_⟩
 rintro i m σ H ⟨rfl,hi,p⟩
 have q:=hl i σ H hi p
 by_cases hlt:i < n
 ·refine .inr ⟨IO.go i H q hlt,Pv (i+1),fun σ' H' p'=>⟨n - (i+1),by omega,rfl,hlt,p'⟩,fun x H' y=>?_⟩
  obtain ⟨t,ht,rfl,rfl⟩:=IO.yld i H x H' q hlt y
  exact hs i t σ _ hlt p ht
 ·have e:i=n:=by omega
  subst e
  exact .inl ⟨IO.stop H q,hd σ H p⟩
theorem qbE (K:PySem.W.Frag) (a:Addr) (xs:List V):ItPr (Ite K a) xs.length (fun i=>[.int (i:Nat),xs.getD i .non]) fun H=>H a=some (.lst xs):=
 ⟨fun H h=>⟨xs,SqL.of h,Nat.le_refl _⟩,fun i H h hi=>⟨xs,xs[i],SqL.of h,by simp [hi]⟩,fun i H x H' h hi y=>by
  obtain ⟨t,y',hq,ht,e1,e2⟩:=y
  have hy:=hq xs (SqL.of h)
  have e3:xs.getD i .non=y':=by rw [List.getD_eq_getElem?_getD,hy];rfl
  exact ⟨t,ht,e1,by rw [e2,e3]⟩⟩
end
end L2
end
section
namespace L2
open PySem PySem.Spec PyProof.Rows
section
variable {X:Cx} {a b c d e o:Expr} {es:List Expr} {pos apos:Pos} {ta tb tc td te to:TE}
def qif (r r':R2) (ta tb tc:TE):TT:=fun σ H Q=>ta σ H fun x H1=>tb σ H1 fun y H2=>r x y H2 fun z H3=>match z with
 | .bl k=>if k=true then tc σ H3 fun w' H4=>r' y w' H4 fun z' H5=>match z' with
   | .bl k'=>Q k' H5
   | _=>False
  else Q false H3
 | _=>False
theorem qic {op op':CmpOp} {r r':R2} (ho:OpR X (compareOp op) r) (ho':OpR X (compareOp op') r') (ha:PE X a ta) (hb:PE X b tb) (hc:PE X c tc)
  (hm:lastMarks [op,op'] [b,c]=false:=by kernel_rfl):PT X (.Compare a [op,op'] [b,c] pos) (qif r r' ta tb tc):=by
 intro pins s σ H Q I h
 refine isTrue_chain (thn (ha pins s σ H _ I h) fun v s1 ⟨x,H1,I1,r1,q1⟩=>test_link (thn (hb pins s1 σ H1 _ I1 q1) fun u s2 ⟨y,H2,I2,r2,q2⟩=>
  thn (ho pins s2 σ H2 x y v u _ I2 r1 r2 q2) fun d s3 ⟨z,H3,I3,r3,q3⟩=>?_)) hm
 dsimp only at q3
 split at q3
 ·rename_i k
  cases r3
  refine wpAny_truthy_bool ?_
  cases k with
  | false=>exact ite_ff ⟨H3,I3,q3⟩
  | true=>
   refine ite_tt (test_last (thn (hc pins s3 σ H3 _ I3 q3) fun w' s4 ⟨z',H4,I4,r4,q4⟩=>thn (ho' pins s4 σ H4 y z' u w' _ I4 r2 r4 q4) fun d' s5 ⟨z5,H5,I5,r5,q5⟩=>?_))
   obtain ⟨k',e,q5⟩:=ql0 q5
   subst e
   cases r5
   exact wpAny_truthy_bool ⟨H5,I5,q5⟩
 ·exact q3.elim
def qmc:R2:=fun x y H Q=>match y with
 | .non=>Q (.bl (decide (x = .non))) H
 | .bl b=>match x with
  | .bl a=>Q (.bl (a == b)) H
  | _=>False
 | _=>False
theorem qld:OpR X (compareOp .Is) qmc:=(op_isN.or qle).of fun x y H Q q=>by
 unfold qmc at q
 split at q
 ·exact .inl ⟨rfl,q⟩
 ·split at q
  ·exact .inr q
  ·exact q.elim
 ·exact q.elim
def qcr:R2:=fun x y H Q=>match y with
 | .non=>Q (.bl (!decide (x = .non))) H
 | _=>False
theorem qfC:OpR X (compareOp .IsNot) qcr:=op_notN.of fun x y H Q q=>by
 unfold qcr at q
 split at q
 ·exact ⟨rfl,q⟩
 ·exact q.elim
theorem qg9:MtM X "str.count" (fun x vs H Q=>match x,vs with
  | .str z,[.str y]=>Q (.int (Txt.count z y)) H
  | _,_=>False):=by
 intro pins s σ H x vs v us Q I rx rv h
 split at h
 ·obtain ⟨t,rfl⟩:=rx
  obtain ⟨u,rfl,t',rfl⟩:=rv.one
  exact SC.count ⟨.int _,H,I.tok _,⟨_,rfl⟩,h⟩
 ·exact h.elim
def qkK:V->List V->Hp->VK->Prop:=fun x vs H Q=>match x,vs with
  | .str z,[.str y]=>Q (.int (Txt.count z y)) H
  | _,_=>False
theorem qjH {cpos:Pos} {t:TA} (ho:PE X o to) (ha:PA X (e :: es) t)
  (hbase:attributeBase o "count" X.env (eval o X.env)=eval o X.env:=by kernel_rfl)
  (hfew:((backTo cpos (starEach (e :: es) X.env)).all (fun x=>!x.1) && (backToKw cpos (keywordEach [] X.env)).all (fun x=>x.1.isSome)
   && decide ((e :: es).length+([]:List Keyword).length+(if ([]:List Keyword).isEmpty then 0 else 1) < 30))=true:=by kernel_rfl)
  (hline:(apos.endLine == cpos.line)=true:=by kernel_rfl) (hs:starEach (e :: es) X.env=(false,eval e X.env) :: starEach es X.env:=by kernel_rfl) (hplain:(backTo cpos (starEach es X.env)).any (·.1)=false:=by kernel_rfl) :
  PE X (.Call (.Attribute o "count" apos) (e :: es) [] cpos) (tMt "str" qkK to t):=qgS PySem.F.plainAttrs_str PySem.F.slot_str_count PySem.F.type_str_count qg9 ho ha hbase hfew hline hs hplain
end
theorem qc0 {J:It} {D:Addr} {xs:List V} {ok:Hp->Prop} {tt:TT} {te:TE} {Q:Hp->Prop} {v0:Option V} {fr:St} {H:Hp} (IO:ItOk J xs ok) (f:V->Bool) (hz:xs.length<=sizeLine) (hok:∀ o,ok (upd H D o))
  (ht:∀ (i:Nat) (x:V) (ys:List V),xs[i]? = some x->∀ C:Bool->Hp->Prop,C (f x) (upd H D (.lst ys))->tt (some x :: fr) (upd H D (.lst ys)) C)
  (hs:∀ (i:Nat) (x:V) (ys:List V),xs[i]? = some x->∀ C:VK,C x (upd H D (.lst ys))->te (some x :: fr) (upd H D (.lst ys)) C)
  (hd:Q (upd H D (.lst (xs.filter f)))) :
  ∃ W:Nat->Nat->St->Hp->List V->Prop,(∃ m,W 0 m (v0 :: fr) (upd H D (.lst [])) [])/\∀ i m τ H2 ys,W i m τ H2 ys->H2 D=some (.lst ys) ∧
   ((J.stop i H2/\Q H2)\/(J.go i H2/\ys.length < sizeLine/\∃ N:St->Hp->List V->Prop,(∀ τ' H' ys',N τ' H' ys'->∃ m',m' < m/\W (i+1) m' τ' H' ys')/\∀ x H3,J.yld i H2 x H3->qah 0 x τ H3 fun τ4 H4=>tt τ4 H4 fun b H5=>
    if b=true then te τ4 H5 fun y H6=>H6 D=some (.lst ys)/\N τ4 (upd H6 D (.lst (ys++[y]))) (ys++[y])
    else N τ4 H5 ys)):=by
 refine qaE IO (fun i τ H2 ys=>(∃ v,τ=v :: fr)/\H2=upd H D (.lst ys)/\ys=(xs.take i).filter f/\i<=xs.length) hz ⟨⟨v0,rfl⟩,rfl,rfl,Nat.zero_le _⟩ ?_ ?_ ?_
 ·rintro i τ H2 ys hi ⟨_,rfl,rfl,_⟩
  refine ⟨hok _,qaa,?_⟩
  have h1:=List.length_filter_le f (xs.take i)
  have h2:(xs.take i).length<=i:=by simp [List.length_take];omega
  omega
 ·rintro i x τ H2 ys hi hx ⟨⟨v,rfl⟩,rfl,rfl,_⟩
  refine ht i x _ hx _ ?_
  have e:(xs.take (i+1)).filter f=(xs.take i).filter f++(if f x=true then [x] else []):=by
   rw [List.take_add_one,hx,List.filter_append]
   congr 1
   show List.filter f [x]=_
   rw [List.filter_cons]
   rfl
  by_cases hf:f x=true
  ·rw [if_pos hf] at e ⊢
   refine hs i x _ hx _ ⟨qaa,⟨_,rfl⟩,qbI,?_,hi⟩
   rw [e]
  ·rw [if_neg hf] at e ⊢
   refine ⟨⟨_,rfl⟩,rfl,?_,hi⟩
   rw [e,List.append_nil]
 ·rintro τ H2 ys ⟨_,rfl,rfl,_⟩
  rw [List.take_length]
  exact hd
section
variable {H H' G:Hp} {a p:Addr} {o:HO}
theorem Same.own (h:Same G H) (hG:G p=none):Same G (L2.upd H p o):=fun b u e=>by rw [qac (qab e hG)];exact h b u e
end
end L2
end
section
namespace L2
open PySem PySem.Spec PyProof.Rows
section
variable {G H0 H H':Hp} {a p:Addr} {o:HO}
end
end L2
end
section
namespace L2
open PySem PySem.Spec PyProof.Rows
section
variable {G H0 H:Hp} {L p:Addr} {vs:List V} {o:HO}
end
end L2
end
section
namespace L2
open PySem PySem.Spec PyProof.Rows
section
variable {H H':Hp} {a l:Addr}
end
section
variable {G H H2 H3:Hp} {a T U L p:Addr} {xs ys:List Int} {vs:List V} {ps:List (Nat×Nat)} {m:Nat} {o:HO}
end
end L2
end
section
namespace Om
end Om
namespace L2
open PySem PySem.Spec PyProof.Rows
end L2
end
section
namespace L2
open PySem PySem.Spec PyProof.Rows
theorem qgG (r:List Bool×Nat):(qdY r).canLay0=true:=qgz r.1 r.2
theorem qet (r:List Bool×Nat):(qdY r).depth<=1:=by
 rw [qdY,PyData.depth]
 have:=qaU (k:=0) (ds:=[.str (bs r.1),.int (r.2:Nat)]) (fun d hd=>by
  rcases List.mem_cons.mp hd with rfl | hd
  ·exact Nat.le_refl _
  ·rw [mS_ hd];exact Nat.le_refl _)
 omega
theorem qer (st:List (List Bool×Nat)):(qaX st).canLay0=true:=by
 rw [qaX,PyData.canLay0]
 refine qa2 fun d hd=>?_
 obtain ⟨r,_,rfl⟩:=mM_ hd
 exact qgG r
theorem qcM (st:List (List Bool×Nat)):(qaX st).depth<=2:=by
 rw [qaX,PyData.depth]
 have:=qaU (k:=1) (ds:=st.map qdY) (fun d hd=>by
  obtain ⟨r,_,rfl⟩:=mM_ hd
  exact qet r)
 omega
theorem qb6 (rows:Om.Rows):PyData.canLay0 (.list (rows.map qaX))=true:=by
 rw [PyData.canLay0]
 refine qa2 fun d hd=>?_
 obtain ⟨r,_,rfl⟩:=mM_ hd
 exact qer r
theorem qcL (rows:Om.Rows):PyData.depth (.list (rows.map qaX))<=3:=by
 rw [PyData.depth]
 have:=qaU (k:=2) (ds:=rows.map qaX) (fun d hd=>by
  obtain ⟨r,_,rfl⟩:=mM_ hd
  exact qcM r)
 omega
theorem qgb (k n:Nat) (rows:Om.Rows):(qax k n rows).canLay0=true:=by
 rw [qax,PyData.canLay0]
 refine qa2 fun d hd=>?_
 rcases List.mem_cons.mp hd with rfl | hd
 ·rfl
 rcases List.mem_cons.mp hd with rfl | hd
 ·rfl
 ·rw [mS_ hd];exact qb6 rows
theorem qbv (k n:Nat) (rows:Om.Rows):SeqAt.shaped (qax k n rows)=true:=by
 refine qes (k:=3) (fun d hd=>?_) (fun d hd=>?_) (by decide)
 ·rcases List.mem_cons.mp hd with rfl | hd
  ·rfl
  rcases List.mem_cons.mp hd with rfl | hd
  ·rfl
  ·rw [mS_ hd];exact qb6 rows
 ·rcases List.mem_cons.mp hd with rfl | hd
  ·exact Nat.zero_le _
  rcases List.mem_cons.mp hd with rfl | hd
  ·exact Nat.zero_le _
  ·rw [mS_ hd];exact qcL rows
theorem qhn (k n:Nat) (rows:Om.Rows):PyData.eqv (qax k n rows) (qax k n rows)=true:=SeqAt.eqv_refl _ (qgb k n rows)
section
variable {G H0 H:Hp} {p:Addr}
end
section
variable {G H H':Hp} {a T U p:Addr} {xs ys:List Int} {m:Nat} {o:HO}
end
end L2
end
section
namespace L2
open PySem
def DefIn (K:PySem.W.Frag) (x:Str) (st:Stmt):Prop:=∃ (f:Addr) (oc:Value) (od an:Option Addr) (osl:Array (Option Value)) (kV dc pm cd ct:Value),PySem.W.nsIn K mainGlobals x=some (some (.ref f)) ∧
 K.lookup f=some ⟨oc,od,.func (PySem.W.fnOf x x (qaw st) (qar st) (qad st) .none kV dc pm an cd ct),osl⟩/\PySem.W.codeIn K cd x=true/\PySem.W.keepIn K (.ref f)=true
theorem DefIn.mk {K:PySem.W.Frag} {x:Str} {st:Stmt} {f:Addr} {oc:Value} {od an:Option Addr} {osl:Array (Option Value)} {kV dc pm cd ct:Value} (a:PySem.W.nsIn K mainGlobals x=some (some (.ref f)))
  (l:K.lookup f=some ⟨oc,od,.func (PySem.W.fnOf x x (qaw st) (qar st) (qad st) .none kV dc pm an cd ct),osl⟩) (c:PySem.W.codeIn K cd x=true) (k:PySem.W.keepIn K (.ref f)=true):DefIn K x st:=⟨f,oc,od,an,osl,kV,dc,pm,cd,ct,a,l,c,k⟩
theorem DefIn.fnX {K:PySem.W.Frag} {h:Heap} {mg:Str->Option Value} {x:Str} {st:Stmt} {ps:List Str} (D:DefIn K x st) (X:K.In h) (G:h.Ns mainGlobals mg)
  (hb:∀ (kV doc pm:Value) (an:Option Addr) (cdv ct:Value) (us:List Value),us.length=ps.length->bindArgs (PySem.W.fnOf x x (qaw st) (qar st) (qad st) .none kV doc pm an cdv ct) ⟨us,[]⟩=pure (ps.zip us)):FnX K mg x st ps:=by
 obtain ⟨f,oc,od,an,osl,kV,dc,pm,cd,ct,h1,h2,h3,h4⟩:=D
 have F:=qhT (st:=st) h2 h3 h4
 exact ⟨f,_,F,PySem.W.mg_of X G h1,F.binds hb⟩
end L2
end
section
namespace L2
open PySem PySem.Spec PyProof.Rows
section
variable {X:Cx} {p pos:Pos} {e:Expr} {es:List Expr} {t:TA}
theorem qbm:∀ {ns:List Int} {us:List Value},Vals (ns.map V.int) us->IntsAre us ns
 | [],us,r=>by cases r;exact .nil
 | n :: ns,us,r=>by
  cases r with
  | cons r1 r2=>
   obtain ⟨t,rfl⟩:=r1
   exact .cons n t (qbm r2)
theorem qbW:∀ {us:List Value} {ns:List Int},IntsAre us ns->Vals (ns.map V.int) us
 | _,_,.nil=>.nil
 | _,_,.cons n t r=>.cons ⟨t,rfl⟩ (qbW r)
def qcq:List V->Hp->VK->Prop:=fun vs H Q=>match vs with
 | [.ref p]=>∃ ns:List Int,H p=some (.lst (ns.map V.int))/\ns.length < 64/\∀ (l:Addr) (ns':List Int),H l=none->ns'.Perm ns->ns'.Pairwise (·<=·)->Q (.ref l) (upd H l (.lst (ns'.map V.int)))
 | _=>False
theorem qbw:CallR X (.builtin "sorted") qcq:=by
 intro pins s σ H xs us Q I r h
 unfold qcq at h
 split at h
 ·rename_i p
  obtain ⟨ns,hH,hl,q⟩:=h
  obtain ⟨u,rfl,r1⟩:=qaP r
  cases r1
  obtain ⟨z,its,n,rv,e⟩:=I.hok p _ hH
  have hI:=qbm rv
  have hlen:its.length=ns.length:=by have:=rv.length;simpa using this.symm
  refine sorted_ints (vs:=its) ⟨_,e,rfl,_,rfl⟩ hI (by omega) fun out ns' a1 a2 a3=>?_
  obtain ⟨ep,he⟩:=sortedAll_at s.heap its out
  have hz:(ns'.map V.int).length<=sizeLine:=by rw [lM_,a2.length_eq];exact qaf (by omega)
  refine ⟨.ref (s.heap.objs.size+1),upd H (s.heap.objs.size+1) (.lst (ns'.map V.int)),I.laid (t':=s.toks) (fun b u hb=>sortedAll_old hb) (Nat.le_succ _) ⟨hz,out.toList,ep,qbW a1,?_⟩,rfl,q _ _ (I.hok.fresh (Nat.le_succ _)) a2 a3⟩
  exact he
 ·exact h.elim
theorem qfY {mg':Str->Option Value} (hm:mg' "sorted" = none) (hX:X.mg=mg') (ha:PA X (e :: es) t) (hg:gB X "sorted" = true:=by kernel_rfl) (he:starEach (e :: es) X.env=(false,eval e X.env) :: starEach es X.env:=by kernel_rfl) (hpl:(backTo pos (starEach es X.env)).any (·.1)=false:=by kernel_rfl) :
  PE X (.Call (.Name "sorted" p) (e :: es) [] pos) (tCB qcq t):=qaB qbw (qaD hg) (by rw [hX];exact hm) PyProof.Rows.boot_sorted ha (he:=he) (hpl:=hpl)
def qnt (neg:Bool):R2:=fun x y H Q=>match x,y with
 | .int i,.ref p=>∃ ns:List Int,H p=some (.lst (ns.map V.int))/\Q (.bl (if neg then !decide (i∈ns) else decide (i∈ns))) H
 | _,_=>False
theorem qf1 (ns:List Int):(ns.map V.int).all qcB=true:=by
 rw [List.all_map,List.all_eq_true]
 intro x _
 rfl
theorem qhe (i:Int) (ns:List Int):inV (.int i) (ns.map V.int)=decide (i∈ns):=by
 unfold inV
 rw [Bool.eq_iff_iff,List.any_eq_true,decide_eq_true_eq]
 constructor
 ·rintro ⟨x,hx,e⟩
  obtain ⟨n,hn,rfl⟩:=mM_ hx
  have:n=i:=by simpa [eqV] using e
  rw [<-this];exact hn
 ·intro h
  exact ⟨.int i,List.mem_map_of_mem h,by simp [eqV]⟩
theorem qfB:OpR X (compareOp .NotIn) (qnt true):=op_notIn_seq.of fun x y H Q q=>by
 unfold qnt at q
 split at q
 ·obtain ⟨ns,h,q⟩:=q
  refine ⟨_,_,rfl,.inl (SqL.of h),rfl,qf1 ns,?_⟩
  simp only [if_true] at q ⊢
  rw [qhe];exact q
 ·exact q.elim
end
end L2
end
section
namespace L2
open PySem PySem.Spec PyProof.Rows
end L2
end
section
namespace Om
end Om
namespace L2
open PySem PySem.Spec PyProof.Rows
theorem qd9 {n:Nat} (h:n<=100000):n < sizeLine:=Nat.lt_of_le_of_lt h (by decide)
section
variable {F:Addr->Prop} {H0 H H':Hp} {a p:Addr} {ob:HO}
end
end L2
end
section
namespace L2
open PySem PySem.Spec PyProof.Rows
end L2
end
section
namespace Om
section
variable {most:Int} {ts bits:List Int}
end
end Om
end
section
namespace Om
section
variable {most:Int} {ts bits:List Int}
end
end Om
namespace L2
open PySem PySem.Spec PyProof.Rows
theorem qga {J:It} {D:Addr} {n:Nat} {row:Nat->List V} {ok:Hp->Prop} {g:TG} {tt:TT} {te:TE} {Q:Hp->Prop} {τ:St} {H:Hp} (IO:ItPr J n row ok) (Pv:Nat->St->Hp->List V->Prop) (hz:n<=sizeLine) (h0:Pv 0 τ H [])
  (hl:∀ i τ H ys,i<=n->Pv i τ H ys->ok H/\H D=some (.lst ys)/\ys.length<=i)
  (hs:∀ i t τ H ys,i < n->Pv i τ H ys->H t=none->g (.ref t) τ (upd H t (.tup (row i))) fun τ4 H4=>tt τ4 H4 fun b H5=>
   if b=true then te τ4 H5 fun y H6=>H6 D=some (.lst ys)/\Pv (i+1) τ4 (upd H6 D (.lst (ys++[y]))) (ys++[y]) else Pv (i+1) τ4 H5 ys)
  (hd:∀ τ H ys,Pv n τ H ys->Q H) :
  ∃ W:Nat->Nat->St->Hp->List V->Prop,(∃ m,W 0 m τ H [])/\∀ i m τ H2 ys,W i m τ H2 ys->H2 D=some (.lst ys) ∧
   ((J.stop i H2/\Q H2)\/(J.go i H2/\ys.length < sizeLine/\∃ N:St->Hp->List V->Prop,(∀ τ' H' ys',N τ' H' ys'->∃ m',m' < m/\W (i+1) m' τ' H' ys')/\∀ x H3,J.yld i H2 x H3->g x τ H3 fun τ4 H4=>tt τ4 H4 fun b H5=>
    if b=true then te τ4 H5 fun y H6=>H6 D=some (.lst ys)/\N τ4 (upd H6 D (.lst (ys++[y]))) (ys++[y])
    else N τ4 H5 ys)):=by
 refine ⟨fun i m τ H ys=>m=n - i/\i<=n/\Pv i τ H ys,⟨n,by simp,Nat.zero_le _,h0⟩,?_⟩
 rintro i m τ H ys ⟨rfl,hi,p⟩
 obtain ⟨q,hD,hy⟩:=hl i τ H ys hi p
 refine ⟨hD,?_⟩
 by_cases hlt:i < n
 ·refine .inr ⟨IO.go i H q hlt,by omega,Pv (i+1),fun τ' H' ys' p'=>⟨n - (i+1),by omega,rfl,hlt,p'⟩,fun x H' y=>?_⟩
  obtain ⟨t,ht,rfl,rfl⟩:=IO.yld i H x H' q hlt y
  exact hs i t τ _ ys hlt p ht
 ·have e:i=n:=by omega
  subst e
  exact .inl ⟨IO.stop H q,hd τ H ys p⟩
end L2
end
section
namespace L2
open PySem PySem.Spec PyProof.Rows
section
variable {κ:Type} [DecidableEq κ]
def qaL (kvs:List (κ×V)) (k:κ):Option V:=(kvs.find? fun kv=>decide (kv.1=k)).map (·.2)
def qaN (kvs:List (κ×V)) (k:κ) (v:V):List (κ×V):=
 if (kvs.any fun kv=>decide (kv.1=k))=true then kvs.map (fun kv=>if kv.1=k then (kv.1,v) else kv) else kvs++[(k,v)]
theorem qas {p:κ×V} {r:List (κ×V)} {k:κ} (e:p.1=k):qaL (p :: r) k=some p.2:=by simp [qaL,List.find?_cons,e]
theorem qat {p:κ×V} {r:List (κ×V)} {k:κ} (e:¬ p.1=k):qaL (p :: r) k=qaL r k:=by simp [qaL,List.find?_cons,e]
theorem qaV (k:κ):∀ kvs:List (κ×V),(kvs.any fun kv=>decide (kv.1=k))=(qaL kvs k).isSome
 | []=>rfl
 | p :: r=>by
  rw [List.any_cons]
  by_cases e:p.1=k
  ·simp only [qas e,decide_eq_true e,Bool.true_or,Option.isSome_some]
  ·rw [qat e,decide_eq_false e,Bool.false_or];exact qaV k r
theorem qdP (k j:κ) (y:V):∀ kvs:List (κ×V),qaL (kvs.map fun kv=>if kv.1=k then (kv.1,y) else kv) j=(qaL kvs j).map fun x=>if j=k then y else x
 | []=>rfl
 | p :: r=>by
  have ih:=qdP k j y r
  rw [List.map_cons]
  by_cases h:p.1=k
  ·rw [if_pos h]
   by_cases e:p.1=j
   ·rw [qas (p:=(p.1,y)) e,qas e,Option.map_some,if_pos (e.symm.trans h)]
   ·rw [qat (p:=(p.1,y)) e,qat e,ih]
  ·rw [if_neg h]
   by_cases e:p.1=j
   ·rw [qas (p:=p) e,qas e,Option.map_some,if_neg (fun z=>h (e.trans z))]
   ·rw [qat (p:=p) e,qat e,ih]
theorem qcI (k j:κ) (y:V):∀ kvs:List (κ×V),qaL kvs k=none->qaL (kvs++[(k,y)]) j=if j=k then some y else qaL kvs j
 | [],_=>by
  by_cases e:k=j
  ·rw [if_pos e.symm];exact qas (p:=(k,y)) e
  ·rw [if_neg (fun z=>e z.symm)];exact qat (p:=(k,y)) e
 | p :: r,hn=>by
  rw [List.cons_append]
  have hk:¬ p.1=k:=fun z=>by rw [qas z] at hn;cases hn
  rw [qat hk] at hn
  have ih:=qcI k j y r hn
  by_cases e:p.1=j
  ·rw [qas e,qas e,if_neg (fun z=>hk (e.trans z))]
  ·rw [qat e,qat e,ih]
theorem qaz (kvs:List (κ×V)) (k j:κ) (y:V):qaL (qaN kvs k y) j=if j=k then some y else qaL kvs j:=by
 unfold qaN
 by_cases a:(kvs.any fun kv=>decide (kv.1=k))=true
 ·rw [if_pos a,qdP]
  rw [qaV] at a
  by_cases e:j=k
  ·obtain ⟨x,hx⟩:=Option.isSome_iff_exists.mp a
   rw [if_pos e,e,hx,Option.map_some,if_pos rfl]
  ·rw [if_neg e]
   cases qaL kvs j with
   | none=>rfl
   | some x=>rw [Option.map_some,if_neg e]
 ·rw [if_neg a]
  refine qcI k j y kvs ?_
  rw [qaV] at a
  cases q:qaL kvs k with
  | none=>rfl
  | some x=>rw [q] at a;exact (a rfl).elim
theorem qaW (kvs:List (κ×V)) (k:κ) (v:V):(qaN kvs k v).length<=kvs.length+1:=by
 unfold qaN
 split
 ·rw [lM_];omega
 ·rw [lA_,List.length_cons,List.length_nil];omega
theorem qd1 {kvs:List (κ×V)} {k:κ} (v:V) (h:qaL kvs k=none):qaN kvs k v=kvs++[(k,v)]:=by
 unfold qaN
 rw [qaV,h]
 exact if_neg (by decide)
theorem RelO.isSome_eq {o:Option V} {u:Option Value} (r:RelO o u):o.isSome=u.isSome:=by
 cases o with
 | none=>cases u with
  | none=>rfl
  | some _=>exact (show False from r).elim
 | some _=>cases u with
  | none=>exact (show False from r).elim
  | some _=>rfl
theorem RelO.getD {o:Option V} {u:Option Value} {d:V} {d':Value} (r:RelO o u) (rd:RelV d d'):RelV (o.getD d) (u.getD d'):=by
 cases o with
 | none=>cases u with
  | none=>exact rd
  | some _=>exact (show False from r).elim
 | some _=>cases u with
  | none=>exact (show False from r).elim
  | some _=>exact r
theorem KV.val {kvs:List (κ×V)} {vs:List (κ×Value)} (r:KV kvs vs) (k:κ):RelO (qaL kvs k) (valueAt vs k):=by
 unfold KV at r
 induction r with
 | nil=>exact True.intro
 | @cons p q ps qs h t ih=>
  obtain ⟨h1,h2⟩:=h
  by_cases e:p.1=k
  ·have e':q.1=k:=h1.symm.trans e
   have b:valueAt (q :: qs) k=some q.2:=by simp [valueAt,List.find?_cons,e']
   rw [qas e,b];exact h2
  ·have e':¬ q.1=k:=fun z=>e (h1.trans z)
   have b:valueAt (q :: qs) k=valueAt qs k:=by simp [valueAt,List.find?_cons,e']
   rw [qat e,b];exact ih
theorem KV.any {kvs:List (κ×V)} {vs:List (κ×Value)} (r:KV kvs vs) (k:κ):(kvs.any fun kv=>decide (kv.1=k))=vs.any fun kv=>decide (kv.1=k):=by
 unfold KV at r
 induction r with
 | nil=>rfl
 | cons h t ih=>rw [List.any_cons,List.any_cons,ih,h.1]
theorem KV.repl {kvs:List (κ×V)} {vs:List (κ×Value)} (r:KV kvs vs) (k:κ) {y:V} {u:Value} (ry:RelV y u) :
  KV (kvs.map fun kv=>if kv.1=k then (kv.1,y) else kv) (vs.map fun kv=>if kv.1=k then (kv.1,u) else kv):=by
 unfold KV at r ⊢
 induction r with
 | nil=>exact .nil
 | @cons p q ps qs h t ih=>
  rw [List.map_cons,List.map_cons]
  refine .cons ?_ ih
  obtain ⟨h1,h2⟩:=h
  by_cases e:p.1=k
  ·rw [if_pos e,if_pos (h1.symm.trans e)];exact ⟨h1,ry⟩
  ·rw [if_neg e,if_neg (fun z=>e (h1.trans z))];exact ⟨h1,h2⟩
theorem KV.put {kvs:List (κ×V)} {vs:List (κ×Value)} (r:KV kvs vs) (k:κ) {y:V} {u:Value} (ry:RelV y u):KV (qaN kvs k y) (stored vs k u):=by
 unfold qaN stored
 rw [r.any k]
 by_cases e:(vs.any fun kv=>decide (kv.1=k))=true
 ·rw [if_pos e,if_pos e];exact r.repl k ry
 ·rw [if_neg e,if_neg e];exact Paired.snoc r ⟨rfl,ry⟩
theorem KV.length {kvs:List (κ×V)} {vs:List (κ×Value)} (r:KV kvs vs):kvs.length=vs.length:=Paired.length r
end
theorem qdA {P:Program} {w:World} {k:Key} {u:Value} (r:RelV (kV k) u):(qap P w).is k u=true:=by
 cases k with
 | inl i=>obtain ⟨t,e⟩:=(show ∃ t,u=Value.int i t from r);subst e;exact qdx P w i t
 | inr x=>obtain ⟨t,e⟩:=(show ∃ t,u=Value.str x t from r);subst e;exact qdw P w x t
theorem qcX {P:Program} {w:World}:∀ {ks:List Key} {us:List Value},Vals (ks.map kV) us->ItemsAre (qap P w) ks us
 | [],_,r=>by rw [List.map_nil] at r;cases r;exact .nil
 | k :: ks,_,r=>by
  rw [List.map_cons] at r
  cases r with
  | cons h t=>exact .cons (qdA h) (qcX t)
abbrev KT (H:Hp):List (List Key×V)->List (List Key×Addr×Value)->Prop:=Paired fun p q=>p.1=q.1/\H q.2.1=some (.tup (p.1.map kV))/\RelV p.2 q.2.2
theorem KT.val {H:Hp} {kvs:List (List Key×V)} {xs:List (List Key×Addr×Value)} (r:KT H kvs xs) (k:List Key):RelO (qaL kvs k) ((atKey xs k).map (·.2)):=by
 induction r with
 | nil=>exact True.intro
 | @cons p q ps qs h t ih=>
  obtain ⟨h1,_,h2⟩:=h
  by_cases e:p.1=k
  ·have e':q.1=k:=h1.symm.trans e
   have b:atKey (q :: qs) k=some q.2:=by simp [atKey,List.find?_cons,e']
   rw [qas e,b];exact h2
  ·have e':¬ q.1=k:=fun z=>e (h1.trans z)
   have b:atKey (q :: qs) k=atKey qs k:=by simp [atKey,List.find?_cons,e']
   rw [qat e,b];exact ih
theorem KT.repl {H:Hp} {kvs:List (List Key×V)} {xs:List (List Key×Addr×Value)} (r:KT H kvs xs) (k:List Key) {y:V} {u:Value} (ry:RelV y u) :
  KT H (kvs.map fun kv=>if kv.1=k then (kv.1,y) else kv) (xs.map (putAt k u)):=by
 induction r with
 | nil=>exact .nil
 | @cons p q ps qs h t ih=>
  rw [List.map_cons,List.map_cons]
  refine .cons ?_ ih
  obtain ⟨h1,h2,h3⟩:=h
  unfold putAt
  by_cases e:p.1=k
  ·rw [if_pos e,if_pos (h1.symm.trans e)];exact ⟨h1,h2,ry⟩
  ·rw [if_neg e,if_neg (fun z=>e (h1.trans z))];exact ⟨h1,h2,h3⟩
theorem KT.put {H:Hp} {kvs:List (List Key×V)} {xs:List (List Key×Addr×Value)} (r:KT H kvs xs) (k:List Key) {b:Addr} {y:V} {u:Value} (hb:H b=some (.tup (k.map kV))) (ry:RelV y u) :
  KT H (qaN kvs k y) (storedH xs k b u):=by
 have e:(kvs.any fun kv=>decide (kv.1=k))=(atKey xs k).isSome:=by
  rw [qaV,(r.val k).isSome_eq,Option.isSome_map]
 unfold qaN storedH
 rw [e]
 by_cases q:(atKey xs k).isSome=true
 ·rw [if_pos q,if_pos q];exact r.repl k ry
 ·rw [if_neg q,if_neg q];exact Paired.snoc r ⟨rfl,hb,ry⟩
theorem KT.keeps {H H':Hp} {kvs:List (List Key×V)} {xs:List (List Key×Addr×Value)} (r:KT H kvs xs) (ht:∀ b ys,H b=some (.tup ys)->H' b=some (.tup ys)):KT H' kvs xs:=
 Paired.mapP r fun _ _ z=>⟨z.1,ht _ _ z.2.1,z.2.2⟩
section
variable {P:Program} {w:World} {H:Hp} {h:Heap} {a:Addr}
theorem qiN {u:HO} (ok:HOk P w H h) (e:Rd H a u):ObjOk P w H h a u:=e.ok ok
theorem qbp {kvs:List (Key×V)} (ok:HOk P w H h) (e:Rd H a (.dK kvs)):kvs.length<=sizeLine/\(a == sysModules)=false/\∃ vs,KV kvs vs/\h.DictOf (qap P w) a vs:=
 show ObjOk P w H h a (.dK kvs) from qiN ok e
theorem qlX {kvs:List (Key×V)} (ok:HOk P w H h) (e:H a=some (.dK kvs)):kvs.length<=sizeLine/\(a == sysModules)=false/\∃ vs,KV kvs vs/\h.DictOf (qap P w) a vs:=qbp ok (.inl e)
theorem qbU {ks:List Key} (ok:HOk P w H h) (e:H a=some (.tup (ks.map kV))):(tupleKind (qap P w)).is h ks a:=by
 obtain ⟨_,its,r,o,h1,h2,n,h3⟩:=(show ObjOk P w H h a (.tup (ks.map kV)) from ok a _ e)
 exact ⟨o,its.toArray,n,h1,h2,h3,by simpa using qcX r⟩
theorem qbA {kvs:List (List Key×V)} (ok:HOk P w H h) (e:Rd H a (.dT kvs)):kvs.length<=sizeLine/\(a == sysModules)=false ∧
  ∃ xs,KT H kvs xs/\h.DictOfH (tupleKind (qap P w)) a xs:=by
 obtain ⟨z,y,xs,r,o,es,ep,h1,h2,h3,h4,h5⟩:=(show ObjOk P w H h a (.dT kvs) from qiN ok e)
 refine ⟨z,y,xs,r,o,es,ep,h1,h2,h3,h4,fun x hx=>?_,h5⟩
 have all:∀ {l:List (List Key×V)} {m:List (List Key×Addr×Value)},KT H l m->∀ x∈m,(tupleKind (qap P w)).is h x.1 x.2.1:=by
  intro l m q
  induction q with
  | nil=>intro x hx;exact nomatch hx
  | @cons p q ps qs hq t ih=>
   intro x hx
   rcases List.mem_cons.mp hx with e | hx
   ·subst e
    exact qbU ok (by rw [<-hq.1];exact hq.2.1)
   ·exact ih x hx
 exact all r x hx
theorem qjX {kvs:List (List Key×V)} (ok:HOk P w H h) (e:H a=some (.dT kvs)):kvs.length<=sizeLine/\(a == sysModules)=false ∧
  ∃ xs,KT H kvs xs/\h.DictOfH (tupleKind (qap P w)) a xs:=qbA ok (.inl e)
end
def DGet (H:Hp) (a:Addr) (y:V) (r:Option V):Prop:=
 (∃ kvs k,Rd H a (.dK kvs)/\y=kV k/\r=qaL kvs k)\/∃ kvs k b,Rd H a (.dT kvs)/\y = .ref b/\H b=some (.tup (k.map kV))/\r=qaL kvs k
def DPut (H:Hp) (a:Addr) (y v:V) (H':Hp):Prop:=
 (∃ kvs k,H a=some (.dK kvs)/\y=kV k/\kvs.length < sizeLine/\H'=upd H a (.dK (qaN kvs k v))) ∨
 ∃ kvs k b,H a=some (.dT kvs)/\y = .ref b/\H b=some (.tup (k.map kV))/\kvs.length < sizeLine/\H'=upd H a (.dT (qaN kvs k v))
theorem DGet.k {H:Hp} {a:Addr} {kvs:List (Key×V)} {k:Key} (e:H a=some (.dK kvs)):DGet H a (kV k) (qaL kvs k):=.inl ⟨kvs,k,.inl e,rfl,rfl⟩
theorem DGet.t {H:Hp} {a b:Addr} {kvs:List (List Key×V)} {k:List Key} (e:H a=some (.dT kvs)) (eb:H b=some (.tup (k.map kV))):DGet H a (.ref b) (qaL kvs k):=.inr ⟨kvs,k,b,.inl e,rfl,eb,rfl⟩
theorem DPut.k {H:Hp} {a:Addr} {kvs:List (Key×V)} {k:Key} {v:V} (e:H a=some (.dK kvs)) (hl:kvs.length < sizeLine):DPut H a (kV k) v (upd H a (.dK (qaN kvs k v))):=.inl ⟨kvs,k,e,rfl,hl,rfl⟩
theorem DPut.t {H:Hp} {a b:Addr} {kvs:List (List Key×V)} {k:List Key} {v:V} (e:H a=some (.dT kvs)) (eb:H b=some (.tup (k.map kV))) (hl:kvs.length < sizeLine) :
  DPut H a (.ref b) v (upd H a (.dT (qaN kvs k v))):=.inr ⟨kvs,k,b,e,rfl,eb,hl,rfl⟩
section
variable {X:Cx} {pins:List (Addr×Obj)} {σ:St} {H:Hp} {s:Shared} {a:Addr} {y v:V} {u r:Value} {o:Option V} {A:Around} {E:Value->Shared->Prop}
theorem Inv.big (I:Inv X pins σ H s):sysModules < s.heap.objs.size:=by
 have h:mainGlobals < s.heap.objs.size:=(I.mod.glob.keeps I.bk).lt
 exact Nat.lt_trans (by decide) h
theorem qf8 {Q:Value->Shared->Prop} (hu:A.units+1 < cLine) (I:Inv X pins σ H s) (g:DGet H a y (some v)) (ry:RelV y u) (h:∀ w' s',Inv X pins σ H s'->RelV v w'->Q w' s') :
  wpAny (model X.prog X.w) A (getItem (.ref a) u) Q E s:=by
 rcases g with ⟨kvs,k,e,ey,l⟩ | ⟨kvs,k,b,e,ey,eb,l⟩
 ·subst ey
  obtain ⟨z,hd,vs,rel,dd⟩:=qbp I.hok e
  obtain ⟨w',hw,rw'⟩:=RelO.some_of (v:=v) (o:=valueAt vs k) (by rw [l];exact rel.val k)
  exact wpAny_getItem_of (qdA ry) dd.mapOf hw (h w' _ (I.tok _) rw')
 ·subst ey
  cases (show u=Value.ref b from ry)
  obtain ⟨z,hd,xs,rel,dd⟩:=qbA I.hok e
  obtain ⟨w',hw,rw'⟩:=RelO.some_of (v:=v) (o:=(atKey xs k).map (·.2)) (by rw [l];exact rel.val k)
  obtain ⟨p,hp,hp2⟩:=Option.map_eq_some_iff.mp hw
  refine wpAny_getItem_heap (tupleKind_room_in1 hu) (qbU I.hok eb) dd hp ?_
  rw [hp2]
  exact h w' _ (I.tok _) rw'
theorem qn1 {Q:Value->Shared->Prop} (hu:A.units+1 < cLine) (I:Inv X pins σ H s) (g:DGet H a y o) (ry:RelV y u) (h:∀ s',Inv X pins σ H s'->Q (.bool o.isSome) s') :
  wpAny (model X.prog X.w) A (compareOp .In u (.ref a)) Q E s:=by
 rcases g with ⟨kvs,k,e,ey,l⟩ | ⟨kvs,k,b,e,ey,eb,l⟩
 ·subst ey
  obtain ⟨z,hd,vs,rel,dd⟩:=qbp I.hok e
  refine wpAny_in_of (qdA ry) hd dd.mapOf ?_
  rw [<-(rel.val k).isSome_eq,<-l]
  exact h _ (I.tok _)
 ·subst ey
  cases (show u=Value.ref b from ry)
  obtain ⟨z,hd,xs,rel,dd⟩:=qbA I.hok e
  refine wpAny_in_heap (tupleKind_room_in1 hu) (qbU I.hok eb) hd dd ?_
  have q:=(rel.val k).isSome_eq
  rw [Option.isSome_map] at q
  rw [<-q,<-l]
  exact h _ (I.tok _)
theorem qjZ {Q:Value->Shared->Prop} (hu:A.units+1 < cLine) (I:Inv X pins σ H s) (g:DGet H a y o) (ry:RelV y u) (h:∀ s',Inv X pins σ H s'->Q (.bool (!o.isSome)) s') :
  wpAny (model X.prog X.w) A (compareOp .NotIn u (.ref a)) Q E s:=by
 rcases g with ⟨kvs,k,e,ey,l⟩ | ⟨kvs,k,b,e,ey,eb,l⟩
 ·subst ey
  obtain ⟨z,hd,vs,rel,dd⟩:=qbp I.hok e
  refine wpAny_notIn_of (qdA ry) hd dd.mapOf ?_
  rw [<-(rel.val k).isSome_eq,<-l]
  exact h _ (I.tok _)
 ·subst ey
  cases (show u=Value.ref b from ry)
  obtain ⟨z,hd,xs,rel,dd⟩:=qbA I.hok e
  refine wpAny_notIn_heap (tupleKind_room_in1 hu) (qbU I.hok eb) hd dd ?_
  have q:=(rel.val k).isSome_eq
  rw [Option.isSome_map] at q
  rw [<-q,<-l]
  exact h _ (I.tok _)
theorem qb1 {h':Heap} {t':Nat} {ob:HO} (I:Inv X pins σ H s) (mu:Mut (H a)) (hs:Heap.SameBut a s.heap h') (he:∃ q,h'.get? a=some q) (new:ObjOk X.prog X.w (upd H a ob) h' a ob) :
  Inv X pins σ (upd H a ob) { s with heap:=h',toks:=t' }:=
 I.write (x:=a) (e:=a) mu (.inl rfl) (fun b q hb z=>(hs.2 b hb).trans z) he new
theorem qhX {P:Program} {w:World} {H':Hp} {h':Heap} {kvs:List (Key×V)} {vs:List (Key×Value)} (z:kvs.length<=sizeLine) (hd:(a == sysModules)=false) (rel:KV kvs vs) (dd:h'.DictOf (qap P w) a vs) :
  ObjOk P w H' h' a (.dK kvs):=⟨z,hd,vs,rel,dd⟩
theorem qf7 {H':Hp} {Q:Unit->Shared->Prop} (hu:A.units+1 < cLine) (I:Inv X pins σ H s) (g:DPut H a y v H') (ry:RelV y u) (rv:RelV v r) (h:∀ s',Inv X pins σ H' s'->Q () s') :
  wpAny (model X.prog X.w) A (setItem (.ref a) u r) Q E s:=by
 rcases g with ⟨kvs,k,e,ey,l,eH⟩ | ⟨kvs,k,b,e,ey,eb,l,eH⟩
 ·subst ey eH
  obtain ⟨z,hd,vs,rel,dd⟩:=qlX I.hok e
  have hz:vs.length<=sizeLine:=by rw [<-rel.length];exact z
  have hl:(qaN kvs k v).length<=sizeLine:=by have:=qaW kvs k v;omega
  refine wpAny_setItem_pairs (hsz:=hz) (qdA ry) dd fun h' dd' hs=>h _ ?_
  have he:∃ q,h'.get? a=some q:=let ⟨q,_,_,hq,_⟩:=dd';⟨q,hq⟩
  exact qb1 I (by rw [e];exact True.intro) hs he (qhX hl hd (rel.put k rv) dd')
 ·subst ey eH
  cases (show u=Value.ref b from ry)
  obtain ⟨z,hd,xs,rel,dd⟩:=qjX I.hok e
  have hz:xs.length<=sizeLine:=by rw [<-Paired.length rel];exact z
  have hl:(qaN kvs k v).length<=sizeLine:=by have:=qaW kvs k v;omega
  refine wpAny_setItem_heap (hsz:=hz) (tupleKind_room_in1 hu) (qbU I.hok eb) dd fun h' dd' hs=>h _ ?_
  obtain ⟨q,es,ep,hq,h2,h3,h4,_,h5⟩:=dd'
  refine qb1 I (by rw [e];exact True.intro) hs ⟨q,hq⟩ ⟨hl,hd,_,(rel.put k eb rv).keeps fun c ys ec=>?_,q,es,ep,hq,h2,h3,h4,h5⟩
  rw [qac (qaj ec e (fun z=>nomatch z))]
  exact ec
end
section
variable {X:Cx} {pins:List (Addr×Obj)} {σ:St} {H:Hp} {s:Shared} {a:Addr} {kvs:List (Key×V)} {k:Key} {u:Value} {A:Around} {E:Value->Shared->Prop}
theorem qjY {Q:Bool->Shared->Prop} (I:Inv X pins σ H s) (e:Rd H a (.dK kvs)) (h:∀ s',Inv X pins σ H s'->Q (!kvs.isEmpty) s'):wpAny (model X.prog X.w) A (truthy (.ref a)) Q E s:=by
 obtain ⟨z,hd,vs,rel,dd⟩:=qbp I.hok e
 refine wpAny_truthy_dict hd dd (by rw [<-rel.length];rw [sizeLine_eq] at z;omega) ?_
 have q:kvs.isEmpty=vs.isEmpty:=by cases rel<;>rfl
 rw [<-q]
 exact h _ (I.tok _)
end
theorem qdF {X:Cx} {pins:List (Addr×Obj)} {σ:St} {H:Hp} {s:Shared} {a:Addr} {y:V} {o:Option V} (I:Inv X pins σ H s) (g:DGet H a y o):s.TypeIs (.ref a) "dict" := by
 rcases g with ⟨kvs,k,e,_,_⟩ | ⟨kvs,k,b,e,_,_,_⟩
 ·obtain ⟨_,_,vs,_,dd⟩:=qbp I.hok e
  exact dd.typeIs
 ·obtain ⟨_,_,xs,_,dd⟩:=qbA I.hok e
  exact dd.typeIs
section
variable {X:Cx} {o i e value:Expr} {pos pos' tpos:Pos} {td ty tv:TE}
end
theorem qej {P:Program} {w:World} {H:Hp} (h:Heap) (hb:sysModules < h.objs.size):ObjOk P w H (h.push { cls:=.type "dict",data:=.dict #[] }) h.objs.size (.dK []):=
 ⟨Nat.zero_le _,beq_eq_false_iff_ne.mpr (Ne.symm (Nat.ne_of_lt hb)),[],.nil,Heap.DictOf.new h⟩
theorem qei {P:Program} {w:World} {H:Hp} (h:Heap) (hb:sysModules < h.objs.size):ObjOk P w H (h.push { cls:=.type "dict",data:=.dict #[] }) h.objs.size (.dT []):=
 ⟨Nat.zero_le _,beq_eq_false_iff_ne.mpr (Ne.symm (Nat.ne_of_lt hb)),[],.nil,_,#[],0,Heap.get?_push_size _ rfl,⟨rfl,rfl,rfl⟩,rfl,rfl,List.nodup_nil⟩
def qko:TE:=fun _ H Q=>∀ p,H p=none->Q (.ref p) (upd H p (.dK []))
def qkn:TE:=fun _ H Q=>∀ p,H p=none->Q (.ref p) (upd H p (.dT []))
section
variable {X:Cx} {pos:Pos}
theorem qcu:PE X (.Dict [] [] pos) qko:=fun pins s σ H Q I h=>
 wpAny_Dict_empty ⟨.ref s.heap.objs.size,_,I.laid (a:=s.heap.objs.size) (o:=.dK []) (t':=s.toks) (fun _ _ q=>Heap.get?_push_of_some _ q) (Nat.le_refl _) (qej s.heap I.big),rfl,h _ (I.hok.fresh (Nat.le_refl _))⟩
theorem qbg:PE X (.Dict [] [] pos) qkn:=fun pins s σ H Q I h=>
 wpAny_Dict_empty ⟨.ref s.heap.objs.size,_,I.laid (a:=s.heap.objs.size) (o:=.dT []) (t':=s.toks) (fun _ _ q=>Heap.get?_push_of_some _ q) (Nat.le_refl _) (qei s.heap I.big),rfl,h _ (I.hok.fresh (Nat.le_refl _))⟩
end
def qeV:List (TE×TE)->St->Hp->(List (V×V)->Hp->Prop)->Prop
 | [],_,H,Q=>Q [] H
 | (tk,tv) :: r,σ,H,Q=>tk σ H fun x H1=>tv σ H1 fun y H2=>qeV r σ H2 fun ps H3=>Q ((x,y) :: ps) H3
abbrev VV:List (V×V)->List (Value×Value)->Prop:=Paired fun p q=>RelV p.1 q.1/\RelV p.2 q.2
def PPs (X:Cx) (pos:Pos) (keys:List (Option Expr)) (values:List Expr) (trs:List (TE×TE)):Prop:=
 ∀ (pins:List (Addr×Obj)) (s:Shared) (σ:St) (H:Hp) (Q:List (V×V)->Hp->Prop),Inv X pins σ H s->qeV trs σ H Q →
  wpAny (model X.prog X.w) X.A (evalPairs (pairTrees keys values X.env pos)) (fun vs s'=>∃ ps H',Inv X pins σ H' s'/\VV ps vs/\Q ps H') X.xe s
theorem qiY {X:Cx} {pos:Pos}:PPs X pos [] [] []:=fun pins s σ H Q I h=>pairTrees_nil_walk ⟨[],H,I,.nil,h⟩
theorem qgO {X:Cx} {pos:Pos} {k v:Expr} {ks:List (Option Expr)} {vs:List Expr} {tk tv:TE} {trs:List (TE×TE)} (hk:PE X k tk) (hv:PE X v tv) (hr:PPs X pos ks vs trs) :
  PPs X pos (some k :: ks) (v :: vs) ((tk,tv) :: trs):=fun pins s σ H Q I h=>
 pairTrees_cons_walk (thn (hk pins s σ H _ I h) fun u s1 ⟨x,H1,I1,rx,q1⟩=>thn (hv pins s1 σ H1 _ I1 q1) fun w2 s2 ⟨y,H2,I2,ry,q2⟩=>
  thn (hr pins s2 σ H2 _ I2 q2) fun ws s3 ⟨ps,H3,I3,rel,q3⟩=>⟨(x,y) :: ps,H3,I3,.cons ⟨rx,ry⟩ rel,q3⟩)
def qcU (kvs more:List (Key×V)):List (Key×V):=more.foldl (fun acc kv=>qaN acc kv.1 kv.2) kvs
theorem KV.merge:∀ {more:List (Key×V)} {rs:List (Key×Value)} {kvs:List (Key×V)} {vs:List (Key×Value)},KV more rs->KV kvs vs->KV (qcU kvs more) (merged vs rs):=by
 intro more rs kvs vs r
 unfold KV at r
 induction r generalizing kvs vs with
 | nil=>intro q;exact q
 | @cons p q ps qs h t ih=>
  intro r0
  have e:KV (qaN kvs p.1 p.2) (stored vs q.1 q.2):=by
   have:=r0.put p.1 h.2
   rw [<-h.1];exact this
  exact ih e
theorem qbi:∀ (more kvs:List (Key×V)),(qcU kvs more).length<=kvs.length+more.length
 | [],kvs=>by show kvs.length<=kvs.length+0;omega
 | p :: r,kvs=>by
  have h1:=qbi r (qaN kvs p.1 p.2)
  have h2:=qaW kvs p.1 p.2
  show (qcU (qaN kvs p.1 p.2) r).length<=_
  rw [List.length_cons];omega
theorem qcf {P:Program} {w:World}:∀ {kvs:List (Key×V)} {ws:List (Value×Value)},VV (kvs.map fun kv=>(kV kv.1,kv.2)) ws->∃ rs,Carries (qap P w) ws rs/\KV kvs rs
 | [],_,r=>by rw [List.map_nil] at r;cases r;exact ⟨[],True.intro,.nil⟩
 | p :: kvs,_,r=>by
  rw [List.map_cons] at r
  cases r with
  | @cons a b as bs h t=>
   obtain ⟨rs,c,q⟩:=qcf (P:=P) (w:=w) t
   obtain ⟨b1,b2⟩:=b
   exact ⟨(p.1,b2) :: rs,⟨qdA h.1,rfl,c⟩,.cons ⟨rfl,h.2⟩ q⟩
def qmq (trs:List (TE×TE)):TE:=fun σ H Q=>∀ p,H p=none->qeV trs σ (upd H p (.dK [])) fun ps H2=>H2 p=some (.dK [])/\∃ kvs:List (Key×V),ps=kvs.map (fun kv=>(kV kv.1,kv.2))/\kvs.length<=15/\Q (.ref p) (upd H2 p (.dK (qcU [] kvs)))
theorem qi6 {X:Cx} {pos:Pos} {keys:List (Option Expr)} {values:List Expr} {trs:List (TE×TE)} (h:PPs X pos keys values trs) (hall:keys.all (·.isSome)=true) (hl:keys.length=values.length) (h0:keys≠[])
  (h15:keys.length<=15):PE X (.Dict keys values pos) (qmq trs):=by
 intro pins s σ H Q I q
 have hn:=I.hok.fresh (Nat.le_refl s.heap.objs.size)
 have I1:=I.laid (a:=s.heap.objs.size) (o:=.dK []) (h':=s.heap.push { cls:=.type "dict",data:=.dict #[] }) (t':=s.toks) (fun _ _ q=>Heap.get?_push_of_some _ q) (Nat.le_refl _) (qej s.heap I.big)
 refine wpAny_Dict_walk (knd:=qap X.prog X.w) hall hl h0 h15 (thn (h pins _ σ _ _ I1 (q _ hn)) fun ws s2 ⟨ps,H2,I2,rel,e,kvs,ep,lk,q2⟩=>?_)
 subst ep
 obtain ⟨rs,c,rk⟩:=qcf (P:=X.prog) (w:=X.w) rel
 obtain ⟨z,hd,vs0,r0,dd⟩:=qlX I2.hok e
 cases r0
 refine ⟨rs,c,dd,fun h' dd' hs=>⟨.ref s.heap.objs.size,_,?_,rfl,q2⟩⟩
 have hz:(qcU [] kvs).length<=sizeLine:=by
  have h1:=qbi kvs []
  rw [List.length_nil] at h1
  rw [sizeLine_eq];omega
 have he:∃ q,h'.get? s.heap.objs.size=some q:=let ⟨q,_,_,hq,_⟩:=dd';⟨q,hq⟩
 exact qb1 I2 (by rw [e];exact True.intro) hs he (qhX hz hd (rk.merge .nil) dd')
structure M2 (X:Cx) (o:Expr) (m:Str) (apos:Pos) (e f:Expr) (cpos:Pos):Prop where
 base:attributeBase o m X.env (eval o X.env)=eval o X.env
 few:((backTo cpos (starEach [e,f] X.env)).all (fun x=>!x.1) && (backToKw cpos (keywordEach [] X.env)).all (fun x=>x.1.isSome)
  && decide (([e,f]:List Expr).length+([]:List Keyword).length+(if ([]:List Keyword).isEmpty then 0 else 1) < 30))=true
 line:(apos.endLine == cpos.line)=true
 trees:backTo cpos (starEach [e,f] X.env)=[(false,eval e X.env),(false,eval f X.env)]
def IsD (H:Hp) (a:Addr):Prop:=(∃ kvs,Rd H a (.dK kvs))\/∃ kvs,Rd H a (.dT kvs)
theorem qlJ {X:Cx} {pins:List (Addr×Obj)} {σ:St} {H:Hp} {s:Shared} {a:Addr} (I:Inv X pins σ H s) (d:IsD H a) :
  s.TypeIs (.ref a) "dict"/\(∀ b,Value.ref a = .ref b->∃ ob,s.heap.get? b=some ob/\ob.dict=none)/\(a == sysModules)=false:=by
 rcases d with ⟨kvs,e⟩ | ⟨kvs,e⟩
 ·obtain ⟨_,hd,vs,_,dd⟩:=qbp I.hok e
  refine ⟨dd.typeIs,fun b q=>?_,hd⟩
  cases q
  obtain ⟨ob,_,_,h1,h2,_⟩:=dd
  exact ⟨ob,h1,h2.2.1⟩
 ·obtain ⟨_,hd,xs,_,dd⟩:=qbA I.hok e
  refine ⟨dd.typeIs,fun b q=>?_,hd⟩
  cases q
  obtain ⟨ob,_,_,h1,h2,_⟩:=dd
  exact ⟨ob,h1,h2.2.1⟩
section
variable {X:Cx} {pins:List (Addr×Obj)} {σ:St} {H:Hp} {s:Shared} {a:Addr} {y d:V} {u r:Value} {o:Option V} {A:Around} {E:Value->Shared->Prop}
theorem qlY {Q:Value->Shared->Prop} (hu:A.units+1 < cLine) (I:Inv X pins σ H s) (g:DGet H a y o) (ry:RelV y u) (rd:RelV d r) (h:∀ w' s',Inv X pins σ H s'->RelV (o.getD d) w'->Q w' s') :
  wpAny (model X.prog X.w) A (call (.builtin "dict.get") [.ref a,u,r]) Q E s:=by
 rcases g with ⟨kvs,k,e,ey,l⟩ | ⟨kvs,k,b,e,ey,eb,l⟩
 ·subst ey
  obtain ⟨z,hd,vs,rel,dd⟩:=qbp I.hok e
  refine call_meetsIn PySem.F.slot_dict_get dd.typeIs PySem.F.entry_dict_get (PySem.F.args_dict_get_3 _ _ _) (meets_dict_get_default (qap X.prog X.w) a (qdA ry) hd r) ⟨_,dd.mapOf,h _ _ (I.tok _) ?_⟩
  rw [l]
  exact (rel.val k).getD rd
 ·subst ey
  cases (show u=Value.ref b from ry)
  obtain ⟨z,hd,xs,rel,dd⟩:=qbA I.hok e
  refine call_meetsIn PySem.F.slot_dict_get dd.typeIs PySem.F.entry_dict_get (PySem.F.args_dict_get_3 _ _ _) (meetsH_dict_get_default (tupleKind (qap X.prog X.w)) a b hd r) ⟨tupleKind_room_in1 hu,k,xs,qbU I.hok eb,dd,h _ _ (I.tok _) ?_⟩
  rw [l]
  exact (rel.val k).getD rd
end
def qkp (td ty tx:TE):TE:=fun σ H Q=>td σ H fun x H1=>∃ a,x = .ref a/\IsD H1 a/\ty σ H1 fun y H2=>tx σ H2 fun z H3=>∃ o,DGet H3 a y o/\Q (o.getD z) H3
section
variable {X:Cx} {o e f:Expr} {apos cpos:Pos} {td ty tx:TE}
theorem qgW (hu:X.A.units+1 < cLine) (ho:PE X o td) (he:PE X e ty) (hf:PE X f tx) (m:M2 X o "get" apos e f cpos):PE X (.Call (.Attribute o "get" apos) [e,f] [] cpos) (qkp td ty tx):=by
 intro pins s σ H Q I h
 refine wpAny_Call_method m.base m.few m.line PySem.F.plainAttrs_dict PySem.F.slot_dict_get PySem.F.type_dict_get (thn (ho pins s σ H _ I h) fun u s1 ⟨x,H1,I1,rx,a,ex,d,q1⟩=>?_)
 subst ex
 obtain rfl:u=Value.ref a:=rx
 obtain ⟨t1,t2,_⟩:=qlJ I1 d
 refine ⟨t1,t2,?_⟩
 rw [m.trees]
 refine Calls.callWith_builtin rfl (Calls.evalArgs_plain (Calls.spliced_cons (thn (he pins s1 σ H1 _ I1 q1) fun iv s2 ⟨y,H2,I2,ry,q2⟩=>
  Calls.spliced_cons (thn (hf pins s2 σ H2 _ I2 q2) fun fv s3 ⟨z,H3,I3,rz,ov,g,q3⟩=>Calls.spliced_nil ?_))))
 exact qlY hu I3 g ry rz fun w' s4 I4 rw'=>⟨_,H3,I4,rw',q3⟩
end
section
variable {X:Cx} {pins:List (Addr×Obj)} {σ:St} {H:Hp} {s:Shared} {a:Addr} {kvs:List (Key×V)} {A:Around} {E:Value->Shared->Prop}
end
section
variable {X:Cx} {pins:List (Addr×Obj)} {σ:St} {H:Hp} {s:Shared} {a:Addr} {y:V} {u:Value} {A:Around} {E:Value->Shared->Prop}
end
end L2
end
section
namespace L2
open PySem PySem.Spec PyProof.Rows
section
variable {X:Cx} {pins:List (Addr×Obj)} {σ:St} {H:Hp} {s:Shared} {A:Around}
end
section
variable {X:Cx}
end
end L2
end
section
namespace L2
open PySem PySem.Spec PyProof.Rows
namespace Om
end Om
end L2
end
section
namespace L2
open PySem PySem.Spec PyProof.Rows
section
variable {X:Cx} {p pos:Pos} {e:Expr} {es:List Expr} {t:TA}
end
end L2
end
section
namespace L2
open PySem PySem.Spec PyProof.Rows
section
variable {prog:Program} {w:World} {A:Around} {E:Value->Shared->Prop} {s:Shared}
theorem qbV {d:Addr} {ep:Nat} {od:Obj} {es:Array DictEntry} {Q:Value->Shared->Prop} (hd:(d == sysModules)=false) (hT:s.TypeIs (.ref d) "dict") (ho:s.heap.get? d=some od) (hdat:od.data = .dict es ep)
  (hQ:Q (.ref s.heap.objs.size) { s with heap:=s.heap.push { cls:=.type "dict_keyiterator",data:=.fields #[.ref d,.int 0 0,.int es.size 0,.int ep 0] } }):wpAny (model prog w) A (pyIter (.ref d)) Q E s:=by
 refine wpAny_pyIter_slot hT F.slot_dict_iter (wpAny_call_entry F.slot_dict_iter hT F.entry_dict_iter ?_ (F.args_dict_iter_1 _))
 unfold Builtin.«dict.__iter__» Builtin.Dict.dictSlotNone
 refine wpAny_bind (wpAny_bind (wpAny_notOrdered_dict hT ?_))
 refine wpAny_pure ?_
 show wpAny _ _ (Builtin.Dict.showsAll d >>= _) _ _ s
 unfold Builtin.Dict.showsAll
 rw [if_neg (by rw [hd];exact Bool.false_ne_true)]
 refine wpAny_bind (wpAny_pure (wpAny_bind (wpAny_dictEntries ho hdat (wpAny_bind (wpAny_dictEpoch ho hdat ?_)))))
 refine wpAny_bind (wpAny_newObj_type (wpAny_pure ⟨_,rfl,"dict_keyiterator",_,⟨_,Heap.get?_push_size _ rfl,rfl⟩,F.slot_dict_keyiterator_next.lookup,?_⟩))
 simpa [rawInt] using hQ
theorem qfL {it d:Addr} {i ep:Nat} {od:Obj} {es:Array DictEntry} {e:DictEntry} {Q:Option Value->Shared->Prop} (hit:s.heap.IsKeyIter it d i es.size ep) (hod:s.heap.get? d=some od) (hdd:od.data = .dict es ep) (he:es[i]? = some e)
  (hQ:∀ h',h'.IsKeyIter it d (i+1) es.size ep->Heap.SameBut it s.heap h'->Q (some e.key) { s with heap:=h' }):wpAny (model prog w) A (pyNext (.ref it)) Q E s:=by
 obtain ⟨o,ho,hc,hd⟩:=id hit
 unfold pyNext
 refine wpAny_bind (wpAny_attempt (wpAny_callSpecial?_slot (name:=Str.ofString "__next__") hit.typeIs F.slot_dict_keyiterator_next
  (wpAny_call_entry F.slot_dict_keyiterator_next hit.typeIs F.entry_dict_keyiterator_next ?_ (F.args_dict_keyiterator_next_1 _))))
 refine wpAny_bind (wpAny_pure (wpAny_bind (wpAny_bind ?_)))
 first | refine wpAny_bind (wpAny_typeNameOfWhole_keyiter hit.typeIs (wpAny_pure ?_)) | refine wpAny_bind (wpAny_typeNameOf_keyiter hit.typeIs (wpAny_pure ?_))
 refine wpAny_bind (wpAny_fieldsOf ho hd ?_)
 simp only [show Builtin.Dict_items.ownsTuple "dict_keyiterator" = false from by decide,Bool.false_eq_true,if_false]
 show wpAny _ _ (if (Value.ref d == Value.none)=true then _ else _) _ _ s
 rw [if_neg (show ¬ ((Value.ref d == Value.none)=true) from Bool.false_ne_true)]
 refine wpAny_bind (wpAny_pure (wpAny_bind (wpAny_dictEntries hod hdd ?_)))
 rw [if_neg (by simp)]
 refine wpAny_bind (wpAny_pure (wpAny_bind (wpAny_dictEpoch hod hdd ?_)))
 rw [if_neg (by simp)]
 refine wpAny_pure ?_
 simp only [show ¬ ((i:Int) < 0) from by omega,if_false,Int.toNat_natCast,he]
 refine wpAny_bind ?_
 first | refine wpAny_bind (wpAny_typeNameOfWhole_keyiter hit.typeIs (wpAny_pure ?_)) | refine wpAny_bind (wpAny_typeNameOf_keyiter hit.typeIs (wpAny_pure ?_))
 refine wpAny_bind (wpAny_isOneOf_keyiter hit.typeIs ?_)
 show wpAny _ _ (setField (.ref it) 1 (rawInt ((i:Int)+1)) >>= _) _ _ s
 refine wpAny_bind (wpAny_setField ho hd (by simp) ?_)
 have hit':(s.heap.update it (Obj.mapFields (·.setIfInBounds 1 (rawInt ((i:Int)+1))))).IsKeyIter it d (i+1) es.size ep:=
  ⟨_,Heap.get?_update_self _ ho (Obj.isFreed_of_fields (Obj.data_mapFields hd _)),(Obj.cls_mapFields ..).trans hc,by rw [Obj.data_mapFields hd];simp [rawInt]⟩
 refine wpAny_bind (wpAny_holding ?_)
 refine wpAny_bind (wpAny_isOneOf_keyiter (s:={ s with heap:=s.heap.update it (Obj.mapFields (·.setIfInBounds 1 (rawInt ((i:Int)+1)))) }) hit'.typeIs ?_)
 show wpAny _ _ (pure e.key) _ _ _
 exact wpAny_pure (wpAny_pure ⟨_,rfl,wpAny_pure (hQ _ hit' (Heap.SameBut.update ..))⟩)
theorem qhP {it d:Addr} {i ep:Nat} {od:Obj} {es:Array DictEntry} {Q:Option Value->Shared->Prop} (hh:A.handled=none) (hit:s.heap.IsKeyIter it d i es.size ep) (hod:s.heap.get? d=some od) (hdd:od.data = .dict es ep) (hge:es.size<=i)
  (hQ:∀ h',Heap.ExtBut it s.heap h'->Q none { s with heap:=h' }):wpAny (model prog w) A (pyNext (.ref it)) Q E s:=by
 obtain ⟨o,ho,hc,hd⟩:=id hit
 unfold pyNext
 refine wpAny_bind (wpAny_attempt (wpAny_callSpecial?_slot (name:=Str.ofString "__next__") hit.typeIs F.slot_dict_keyiterator_next
  (wpAny_call_entry F.slot_dict_keyiterator_next hit.typeIs F.entry_dict_keyiterator_next ?_ (F.args_dict_keyiterator_next_1 _))))
 refine wpAny_bind (wpAny_pure (wpAny_bind (wpAny_bind ?_)))
 first | refine wpAny_bind (wpAny_typeNameOfWhole_keyiter hit.typeIs (wpAny_pure ?_)) | refine wpAny_bind (wpAny_typeNameOf_keyiter hit.typeIs (wpAny_pure ?_))
 refine wpAny_bind (wpAny_fieldsOf ho hd ?_)
 simp only [show Builtin.Dict_items.ownsTuple "dict_keyiterator" = false from by decide,Bool.false_eq_true,if_false]
 show wpAny _ _ (if (Value.ref d == Value.none)=true then _ else _) _ _ s
 rw [if_neg (show ¬ ((Value.ref d == Value.none)=true) from Bool.false_ne_true)]
 refine wpAny_bind (wpAny_pure (wpAny_bind (wpAny_dictEntries hod hdd ?_)))
 rw [if_neg (by simp)]
 refine wpAny_bind (wpAny_pure (wpAny_bind (wpAny_dictEpoch hod hdd ?_)))
 rw [if_neg (by simp)]
 refine wpAny_pure ?_
 simp only [show ¬ ((i:Int) < 0) from by omega,if_false,Int.toNat_natCast,Array.getElem?_eq_none hge]
 refine wpAny_bind ?_
 first | refine wpAny_bind (wpAny_typeNameOfWhole_keyiter hit.typeIs (wpAny_pure ?_)) | refine wpAny_bind (wpAny_typeNameOf_keyiter hit.typeIs (wpAny_pure ?_))
 show wpAny _ _ (setField (.ref it) 0 .none >>= _) _ _ s
 refine wpAny_bind (wpAny_setField ho hd (by simp) ?_)
 show wpAny _ _ (newExc (.type "StopIteration") [] >>= _) _ _ _
 refine wpAny_bind ?_
 simp only [newExc,newTuple]
 refine wpAny_bind (wpAny_newObj_type ?_ (by size_fits))
 refine wpAny_bind (m:=firstArgMember _ _) (wpAny_of_eq (a:=Value.none) (by first | rfl | (simp only [firstArgMember];rfl)) ?_)
 refine wpAny_newObj_type ?_ (by size_fits)
 simp only [raiseNew]
 refine wpAny_bind (wpAny_handled ?_)
 rw [show A.in1.handled=none from hh]
 refine wpAny_bind (wpAny_pure (wpAny_throw ?_))
 refine wpAny_bind (wpAny_isInstance (T:= "StopIteration") (b:=true) ⟨_,Heap.get?_push_size _ rfl,rfl⟩ isSubtype_stop ?_)
 exact wpAny_pure (hQ _ (((Heap.SameBut.update ..).extBut.push _).push _))
end
end L2
end
section
namespace L2
open PySem PySem.Spec PyProof.Rows
section
variable {X:Cx} {pins:List (Addr×Obj)} {σ:St} {H:Hp} {s:Shared} {a:Addr} {u:HO} {o:Obj}
theorem Inv.freeze (I:Inv X pins σ H s) (e:H a=some u) (mu:Mut (some u)) (ho:s.heap.get? a=some o):Inv X pins σ (upd H a (.frz o u)) s:=by
 have nown:∀ c y,H c=some (.own y)->c≠a:=fun c y r z=>by subst z;rw [r] at e;cases e;exact mu
 have ntup:∀ c xs,H c=some (.tup xs)->c≠a:=fun c xs r z=>by subst z;rw [r] at e;cases e;exact mu
 exact I.write (t':=s.toks) (h':=s.heap) (x:=a) (e:=a) (by rw [e];exact mu) (.inl rfl) (fun _ _ _ q=>q) ⟨o,ho⟩
  ⟨ho,(I.hok a u e).stay (fun _ _ _ q=>q) (fun b q=>by rw [qac (nown b a q)];exact q) fun b xs q=>by rw [qac (ntup b xs q)];exact q⟩
theorem Inv.frozen (I:Inv X pins σ H s) (e:H a=some (.frz o u)):s.heap.get? a=some o:=(I.hok a _ e).1
theorem Inv.obj (I:Inv X pins σ H s) (e:H a=some u):∃ o,s.heap.get? a=some o:=by
 have l:=(I.hok a u e).lt
 cases u with
 | lst xs=>obtain ⟨_,_,_,_,q⟩:=I.hok a _ e;exact ⟨_,q⟩
 | dK kvs=>obtain ⟨_,_,_,_,o,_,_,q,_⟩:=I.hok a _ e;exact ⟨_,q⟩
 | dT kvs=>obtain ⟨_,_,_,_,o,_,_,q,_⟩:=I.hok a _ e;exact ⟨_,q⟩
 | tup xs=>obtain ⟨_,_,_,o,q,_⟩:=I.hok a _ e;exact ⟨_,q⟩
 | set S n=>obtain ⟨o,_,_,_,q,_⟩:=I.hok a _ e;exact ⟨_,q⟩
 | ins C dx fs=>obtain ⟨_,_,_,q,_⟩:=I.hok a _ e;exact ⟨_,q⟩
 | own y=>obtain ⟨_,q⟩:=I.hok a _ e;exact ⟨_,q⟩
 | xd fs=>obtain ⟨_,⟨_,_,_,q,_⟩,_⟩:=I.hok a _ e;exact ⟨_,q⟩
 | rng lo hi=>obtain ⟨_,_,_,q⟩:=I.hok a _ e;exact ⟨_,q⟩
 | frz ob u=>obtain ⟨q,_⟩:=I.hok a _ e;exact ⟨_,q⟩
 | tbl ps=>exact ⟨_,I.hok a _ e⟩
 | met f y=>exact ⟨_,I.hok a _ e⟩
 | ext φ=>obtain ⟨_,q,_⟩:=I.hok a _ e;exact q
end
section
variable {X:Cx} {e:Expr} {te:TE} {pos:Pos}
def qmm (te:TE):TS:=fun D σ H=>te σ H fun x H1=>match x with
 | .ref a=>(∃ u,H1 a=some u/\Mut (some u)/\∀ o,D.rt (.ref a) (upd H1 a (.frz o u)))\/D.rt (.ref a) H1
 | x=>D.rt x H1
theorem qhy (he:PE X e te):PS X (.Return (some e) pos) (qmm te):=by
 intro pins s σ H D I h
 refine wpAny_Return_some (thn (he pins s σ H _ I h) fun v s1 ⟨x,H1,I1,r1,q1⟩=>?_)
 cases x with
 | ref a=>
  rcases q1 with ⟨u,e,mu,q⟩ | q
  ·obtain ⟨o,ho⟩:=I1.obj e
   exact ⟨.ref a,σ,_,I1.freeze e mu ho,r1,q o⟩
  ·exact ⟨.ref a,σ,H1,I1,r1,q⟩
 | _=>exact ⟨_,σ,H1,I1,r1,q1⟩
end
abbrev qbx (H:Hp):List (List Key×V)->List Addr->Prop:=Paired fun p b=>H b=some (.tup (p.1.map kV))
def Itk (a:Addr) (o:Obj) (xs:List V):It:=
 ⟨fun i H=>i < xs.length/\∃ u,H a=some (.frz o u),fun i H x H'=>H'=H/\xs[i]? = some x,fun i H=>xs.length<=i/\∃ u,H a=some (.frz o u)⟩
theorem qdB (a:Addr) (o:Obj) (xs:List V):ItOk (Itk a o xs) xs fun H=>∃ u,H a=some (.frz o u):=
 ⟨fun _ h=>⟨Nat.le_refl _,h⟩,fun _ _ h hi=>⟨hi,h⟩,fun _ _ _ _ _ _ y=>y⟩
theorem qbd {P:Program} {w:World} {K:PySem.W.Frag} {tg:Expr} {a it:Addr} {o:Obj} {es:Array DictEntry} {ep:Nat} {xs:List V} (hd:o.data = .dict es ep) (rel:Vals xs (es.toList.map (·.key))) :
  Turn P w K tg (Itk a o xs) [it] it (fun i h=>h.IsKeyIter it a i es.size ep) where
 mem:=by simp
 obj:=fun i h st b hb=>by
  have e:b=it:=by simpa using hb
  subst e
  obtain ⟨o,e,c,d⟩:=st
  exact ⟨o,e,fun v z=>by rw [d] at z;cases z⟩
 keep:=fun i h h' st k=>st.at fun o e=>k it (by simp) o e
 item:=by
  intro X hP hw hK hc i pins s σ H E I hf st hg
  subst hP hw hK
  obtain ⟨hi,u,hu⟩:=hg
  have hx:xs[i]? = some xs[i]:=by simp [hi]
  obtain ⟨v,hv,rv⟩:=rel.get hx
  obtain ⟨e,he,ev⟩ : ∃ e,es[i]? = some e/\e.key=v:=by
   rw [gM_] at hv
   obtain ⟨e,h1,h2⟩:=Option.map_eq_some_iff.mp hv
   exact ⟨e,by simpa using h1,h2⟩
  obtain ⟨f0,f1,f2,f3,f4,f5⟩:=hf it (by simp)
  refine qfL st (I.frozen hu) hd he fun h' st' sb=>?_
  have I1:Inv X pins σ H { s with heap:=h' }:=I.turned (t':=s.toks) (fun b o hb e=>(sb.2 b hb).trans e) f0 f1 f3 f4 f5
  refine ⟨e.key,rfl,letGo_keyiter st' ⟨xs[i],H,I1,by rw [ev];exact rv,⟨rfl,hx⟩,st',fun b hb=>(hf b hb).1⟩⟩
 done:=by
  intro X hP hw hK hc i pins s σ H E I hf st hg
  subst hP hw hK
  obtain ⟨hi,u,hu⟩:=hg
  have hl:es.size<=i:=by
   have:=rel.length
   simp at this
   omega
  obtain ⟨f0,f1,f2,f3,f4,f5⟩:=hf it (by simp)
  exact qhP (I.ok.hd hc) st (I.frozen hu) hd hl fun h' eb=>⟨rfl,I.turned (t':=s.toks) (fun b o hb e=>eb b o hb e) f0 f1 f3 f4 f5⟩
 self:=fun _ _ _ _ _ st h=>wpAny_pyIter_keyiter st h
section
variable {X:Cx} {tg:Expr}
def qmX (K:PySem.W.Frag) (tl:TE):TI:=fun σ H R=>tl σ H fun x H1=>match x with
 | .ref a=>((∃ xs,SqL K H1 a xs)/\R (Itl K a) H1)\/(∃ o kvs,H1 a=some (.frz o (.dT kvs))/\∀ bs,qbx H1 kvs bs->R (Itk a o (bs.map V.ref)) H1) ∨
   ∃ o kvs,H1 a=some (.frz o (.dK kvs))/\R (Itk a o (kvs.map fun p=>kV p.1)) H1
 | _=>False
theorem qcy {H:Hp} {kvs:List (List Key×V)} {xs:List (List Key×Addr×Value)} (r:KT H kvs xs):qbx H kvs (xs.map (·.2.1)):=by
 induction r with
 | nil=>exact .nil
 | cons h _ ih=>exact .cons h.2.1 ih
theorem qbj {P:Program} {w:World} {kvs:List (Key×V)}:∀ {es:List DictEntry} {vs:List (Key×Value)},KV kvs vs->Pairs (qap P w) es vs->Vals (kvs.map fun p=>kV p.1) (es.map (·.key)):=by
 intro es vs r q
 unfold KV at r
 induction r generalizing es with
 | nil=>cases q;exact .nil
 | @cons p v ps vs' h t ih=>
  cases q with
  | cons h1 h2 h3=>
   refine .cons ?_ (ih h3)
   dsimp only
   rw [h.1]
   rcases qaq h1 with ⟨i,t,e1,e2⟩ | ⟨x,t,e1,e2⟩
   ·rw [e1,e2];exact ⟨t,rfl⟩
   ·rw [e1,e2];exact ⟨t,rfl⟩
end
end L2
end
section
namespace L2
open PySem PySem.Spec PyProof.Rows
section
variable {X:Cx} {pos:Pos}
def qkJ:R2:=fun x y H Q=>∃ a v,x = .ref a/\DGet H a y (some v)/\Q v H
def qnQ:R2:=fun y x H Q=>∃ a o,x = .ref a/\DGet H a y o/\Q (.bl o.isSome) H
def qiQ:R2:=fun y x H Q=>∃ a o,x = .ref a/\DGet H a y o/\Q (.bl (!o.isSome)) H
def qkI:V->V->V->Hp->(Hp->Prop)->Prop:=fun o i v H Q=>∃ a H',o = .ref a/\DPut H a i v H'/\Q H'
theorem qjP (hu:X.A.units+64 < cLine):IxR X qkJ:=by
 intro value slice pins s σ H x y v u Q I rx ry ⟨a,z,ex,g,q⟩ hs
 subst ex
 obtain rfl:v=Value.ref a:=rx
 have hT:=qdF I g
 unfold subscriptTail
 refine wpAny_bind ?_
 rw [getitemInPython_of_ne hT.not_modules]
 refine wpAny_bind (wpAny_specialOf hT PySem.F.slot_dict_getitem.lookup ?_)
 have fin:wpAny (model X.prog X.w) X.A (subscripted slice false (.ref a) u) (fun r s₃=>wpAny (model X.prog X.w) X.A (letTemporaryGo value (.ref a) r >>= fun _=>pure r) (EP X pins σ Q) X.xe s₃) X.xe s:=by
  rw [hs]
  exact wpAny_operating (qf8 (by omega) I g ry fun w' s3 I3 rw'=>wpAny_bind (wpAny_letTemporaryGo (wpAny_pure ⟨z,H,I3,rw',q⟩)))
 first
  | exact wpAny_pure (wpAny_bind fin)
  | exact wpAny_bind (wpAny_pure (wpAny_bind fin))
  | exact wpAny_bind fin
theorem qfD (hu:X.A.units+64 < cLine):OpR X (compareOp .In) qnQ:=by
 intro pins s σ H y x u v Q I ry rx ⟨a,o,ex,g,q⟩
 subst ex
 obtain rfl:v=Value.ref a:=rx
 exact qn1 (by omega) I g ry fun s3 I3=>⟨.bl o.isSome,H,I3,rfl,q⟩
theorem qa1 (hu:X.A.units+64 < cLine):OpR X (compareOp .NotIn) qiQ:=by
 intro pins s σ H y x u v Q I ry rx ⟨a,o,ex,g,q⟩
 subst ex
 obtain rfl:v=Value.ref a:=rx
 exact qjZ (by omega) I g ry fun s3 I3=>⟨.bl (!o.isSome),H,I3,rfl,q⟩
theorem qgD (hu:X.A.units+64 < cLine):qmi X qkI:=by
 intro pins s σ H o i v ov iv u Q I ro ri rv ⟨a,H',eo,g,q⟩
 subst eo
 obtain rfl:ov=Value.ref a:=ro
 exact qf7 (by omega) I g ri rv fun s4 I4=>⟨H',I4,q⟩
def qnP:R2:=fun x y H Q=>qmb x y H Q\/qkJ x y H Q
def qmI:V->V->V->Hp->(Hp->Prop)->Prop:=fun o i v H Q=>qiO o i v H Q\/qkI o i v H Q
theorem qbk {a b:Expr} {ta tb:TE} (hu:X.A.units+64 < cLine) (ha:PE X a ta) (hb:PE X b tb) (hs:∀ o i,subscripted b false o i=operate [o,i] (getItem o i):=by intro _ _;kernel_rfl):PE X (.Subscript a b pos) (tOp qnP ta tb):=
 qk5 (ixU.or (qjP hu)) ha hb hs
theorem qa3 {o i:Expr} {to ti:TE} (hu:X.A.units+64 < cLine) (ho:PE X o to) (hi:PE X i ti) (ha:∀ v,assign (.Subscript o i pos) X.env v=(do
   let ov <-holding [v] (eval o X.env)
   let iv <-holding [v,ov] (eval i X.env)
   standAt pos
   holding [v,ov,iv] (setItem ov iv v)
   release [v,ov,iv] []):=by intro _;kernel_rfl):PG X (.Subscript o i pos) (qnu to ti qmI):=
 qkU ho hi (fun pins s σ H o i v ov iv u Q I ro ri rv q=>by
  rcases q with q | q
  ·exact qnI pins s σ H o i v ov iv u Q I ro ri rv q
  ·exact qgD hu pins s σ H o i v ov iv u Q I ro ri rv q) ha
end
section
variable {prog:Program} {w:World} {A:Around} {E:Value->Shared->Prop} {s:Shared}
theorem qb3 {d:Addr} {o:Obj} {es:Array DictEntry} {ep:Nat} {Q:Bool->Shared->Prop} (hd:(d == sysModules)=false) (hT:s.TypeIs (.ref d) "dict") (ho:s.heap.get? d=some o) (hdat:o.data = .dict es ep) (hfit:(es.size:Int) < 2 ^ 63)
  (h:Q (decide (es.size≠0)) { s with toks:=s.toks+1+1 }):wpAny (model prog w) A (truthy (.ref d)) Q E s:=by
 have hne:((es.size:Int) != 0)=decide (es.size≠0):=by
  by_cases z:es.size=0
  ·simp [z]
  ·simp [z]
 have len1:MeetsIn prog w (Builtin.«dict.__len__» ⟨[.ref d],[]⟩) (fun _ R s=>s.heap.get? d=some o/\R (.ok (.ret (.int es.size s.toks))) { s with toks:=s.toks+1 }):=
  .of_wp fun A R s ⟨ho,h⟩=>by
   show wpAny _ _ (dictSize d >>= _) _ _ s
   unfold dictSize
   refine wpAny_bind (wpAny_bind (wpAny_dictEntries ho hdat (wpAny_pure ?_)))
   show wpAny _ _ (Builtin.Dict.pendingCount d >>= _) _ _ s
   refine wpAny_bind (wpAny_pendingCount_other hd ?_)
   refine wpAny_ret_mkInt ?_
   rw [Nat.add_zero];exact h
 have key:wpAny (model prog w) A (runValue (.builtin "len" ⟨[.ref d],[]⟩)) (fun r s'=>r = .int es.size (s.toks+1)/\Q (decide (es.size≠0)) s') E s:=by
  refine wpAny_runValue (codeAny_builtin entry_len ?_)
  rw [Around.under_plainId plain_len _]
  unfold Builtin.«len»
  refine wpAny_bind (m:=oneArg "len" _) (wpAny_pure ?_)
  refine wpAny_bind (m:=callSpecial? (.ref d) (Str.ofString "__len__")) (wpAny_callSpecial?_slot (name:=Str.ofString "__len__") hT F.slot_dict_len
   (call_meetsIn F.slot_dict_len hT F.entry_dict_len (F.args_dict_len_1 _) len1 ⟨ho,?_⟩))
  show wpAny _ _ _ _ _ { s with toks:=s.toks+1 }
  refine wpAny_bind (wpAny_holding (wpAny_pure ?_))
  refine wpAny_bind (wpAny_letGo ?_)
  show wpAny _ _ (if ((es.size:Nat):Int) < 0 then _ else _) _ _ _
  rw [if_neg (by omega)]
  show wpAny _ _ (if ((es.size:Nat):Int) ≥ 2 ^ 63 then _ else _) _ _ _
  rw [if_neg (by omega)]
  exact wpAny_bind (wpAny_mkInt (wpAny_pure ⟨rfl,h⟩))
 unfold truthy
 first
  | refine wpAny_bind (wpAny_callSpecial?_none (name:=Str.ofString "__bool__") hT noBool_dict ?_)
  | refine wpAny_bind (wpAny_pure (wpAny_bind (wpAny_callSpecial?_none (name:=Str.ofString "__bool__") hT noBool_dict ?_)))
 first
  | refine wpAny_bind (wpAny_specialOf (name:=Str.ofString "__len__") hT F.slot_dict_len.lookup ?_)
  | refine wpAny_bind (wpAny_pure (wpAny_bind (wpAny_specialOf (name:=Str.ofString "__len__") hT F.slot_dict_len.lookup ?_)))
 first
  | exact wpAny_bind (wpAny_mono key (fun r s' h'=>by obtain ⟨rfl,hq⟩:=h';exact wpAny_pure (hne ▸ hq)) fun _ _ e=>e)
  | exact wpAny_bind (wpAny_pure (wpAny_bind (wpAny_mono key (fun r s' h'=>by obtain ⟨rfl,hq⟩:=h';exact wpAny_pure (hne ▸ hq)) fun _ _ e=>e)))
end
section
variable {X:Cx} {pins:List (Addr×Obj)} {σ:St} {H:Hp} {s:Shared} {a:Addr} {A:Around} {E:Value->Shared->Prop}
theorem qhl {kvs:List (List Key×V)} {Q:Bool->Shared->Prop} (I:Inv X pins σ H s) (e:Rd H a (.dT kvs)) (h:∀ s',Inv X pins σ H s'->Q (!kvs.isEmpty) s'):wpAny (model X.prog X.w) A (truthy (.ref a)) Q E s:=by
 obtain ⟨z,hd,xs,rel,dd⟩:=qbA I.hok e
 have hT:s.TypeIs (.ref a) "dict" := dd.typeIs
 obtain ⟨o,es,ep,h1,h2,h3,h4,_⟩:=dd
 have hl:es.size=kvs.length:=by
  have:=congrArg List.length h4
  simp at this
  rw [this,Paired.length rel]
 refine qb3 hd hT h1 h3 (by rw [hl];rw [sizeLine_eq] at z;omega) ?_
 have q:decide (es.size≠0)=!kvs.isEmpty:=by rw [hl];cases kvs<;>simp
 rw [q]
 exact h _ ((I.tok _).tok _)
end
section
variable {X:Cx} {pos:Pos}
def qgI (_K:PySem.W.Frag) (x:V) (H:Hp) (Q:Bool->Hp->Prop):Prop:=match x with
 | .bl c=>Q c H
 | .ref p=>(∃ xs,H p=some (.lst xs)/\Q (!xs.isEmpty) H)\/(∃ kvs,Rd H p (.dK kvs)/\Q (!kvs.isEmpty) H)\/∃ kvs,Rd H p (.dT kvs)/\Q (!kvs.isEmpty) H
 | _=>False
def qml (K:PySem.W.Frag) (t:TE):TT:=fun σ H Q=>t σ H fun x H1=>qgI K x H1 Q
theorem qng {pins:List (Addr×Obj)} {s:Shared} {σ:St} {H:Hp} {x:V} {v:Value} {Q:Bool->Hp->Prop} (I:Inv X pins σ H s) (rx:RelV x v) (q:qgI X.K x H Q) :
  wpAny (model X.prog X.w) X.A (truthy v) (fun b s'=>∃ H',Inv X pins σ H' s'/\Q b H') X.xe s:=by
 unfold qgI at q
 split at q
 ·exact qeT pins s σ H _ v Q I rx ⟨_,rfl,q⟩
 ·rcases q with ⟨xs,h1,q⟩ | ⟨kvs,h1,q⟩ | ⟨kvs,h1,q⟩
  ·exact qeT pins s σ H _ v Q I rx ⟨_,.inl ⟨xs,SqL.of h1,rfl⟩,q⟩
  ·obtain rfl:=(show v=Value.ref _ from rx)
   exact qjY I h1 fun s' I'=>⟨H,I',q⟩
  ·obtain rfl:=(show v=Value.ref _ from rx)
   exact qhl I h1 fun s' I'=>⟨H,I',q⟩
 ·exact q.elim
theorem qhv {e:Expr} {t:TE} (h:PE X e t) (he:∀ whole,isTrue e X.env whole=(do let v <-whole;standAt e.pos;holding [v] (truthy v)):=by intro _;kernel_rfl):PT X e (qml X.K t):=by
 intro pins s σ H Q I hw
 exact isTrue_plain (thn (h pins s σ H _ I hw) fun v s1 ⟨x,H1,I1,r1,q1⟩=>qng I1 r1 q1) (he _)
def qmo (K:PySem.W.Frag) (t:TE):TE:=fun σ H Q=>t σ H fun x H1=>qgI K x H1 fun b H2=>Q (.bl (!b)) H2
theorem qlW {a:Expr} {ta:TE} (ha:PE X a ta):PE X (.UnaryOp .Not a pos) (qmo X.K ta):=by
 intro pins s σ H Q I h
 refine UnaryOp_ (thn (ha pins s σ H _ I h) fun v s1 ⟨x,H1,I1,r1,q1⟩=>?_)
 exact not_of (thn (qng I1 r1 q1) fun b s2 ⟨H2,I2,q2⟩=>⟨.bl (!b),H2,I2,rfl,q2⟩)
end
section
variable {X:Cx} {o e:Expr} {es:List Expr} {to:TE} {t:TA} {apos:Pos}
def qnh (K:PySem.W.Frag) (T:String) (r:V->List V->Hp->VK->Prop) (to:TE) (t:TA):TE:=fun σ H Q=>to σ H fun x H1=>tyV K T x H1/\t σ H1 fun xs H2=>r x xs H2 Q
end
end L2
end
section
namespace L2
open PySem PySem.Spec PyProof.Rows
section
variable {X:Cx} {p pos:Pos} {a b e:Expr} {es:List Expr} {t:TA}
end
end L2
namespace Om
end Om
end
section
namespace Om
section
variable {k n:Nat} {rows:Rows}
end
end Om
end
section
namespace L2
open PySem PySem.Spec PyProof.Rows
section
variable {ks:List (Nat×Nat)} {kvs:List (List Key×V)} {p:Nat×Nat} {v:V}
end
section
variable {G H0 H:Hp} {D p:Addr} {kvs:List (List Key×V)} {o:HO}
end
end L2
end
section
namespace L2
open PySem PySem.Spec PyProof.Rows
section
variable {X:Cx} {a:Expr} {p pos:Pos} {ta:TA}
def qfr:List V->Hp->VK->Prop:=fun vs H Q=>match vs with
 | [.ref p]=>(∃ j:Nat,H p=some (.rng 0 j)/\j<=2 ^ 24/\∀ l,H l=none->Q (.ref l) (upd H l (.lst ((List.range j).map fun i=>V.int (i:Nat)))))\/qbN vs H Q
 | _=>False
theorem qdg:∀ {xs:List V} {us:List Value},xs.length=us.length->(∀ (i:Nat) (x:V) (u:Value),xs[i]? = some x->us[i]? = some u->RelV x u)->Vals xs us
 | [],[],_,_=>.nil
 | [],_ :: _,h,_=>by simp at h
 | _ :: _,[],h,_=>by simp at h
 | x :: xs,u :: us,h,r=>.cons (r 0 x u rfl rfl) (qdg (by simpa using h) fun i y v h1 h2=>r (i+1) y v (by simpa using h1) (by simpa using h2))
theorem qeC {acc:Array Value} {n:Nat} (h:ItemsOf (fun i v=>∃ t,v = .int (0+(i:Nat) * 1) t) acc n):Vals ((List.range n).map fun i=>V.int (i:Nat)) acc.toList:=by
 refine qdg (by simp [h.1]) fun i x u hx hu=>?_
 have hu':acc[i]? = some u:=by simpa using hu
 obtain ⟨t,rfl⟩:=h.2 i u hu'
 rw [gM_] at hx
 obtain ⟨j,h1,rfl⟩:=Option.map_eq_some_iff.mp hx
 have hj:j=i:=by
  have hlt:i < n:=by
   have:=gS_ h1
   obtain ⟨hl,_⟩:=this
   simpa using hl
  rw [List.getElem?_range hlt] at h1
  exact (oI_ h1).symm
 subst hj
 exact ⟨t,by simp⟩
theorem qeI (hc:X.calm=true):CallR X (.type "list") qfr:=by
 intro pins s σ H xs us Q I r h
 unfold qfr at h
 split at h
 ·rcases h with ⟨j,hp,hj,q⟩ | h
  ·obtain ⟨u,rfl,rx⟩:=qaP r
   cases rx
   obtain ⟨t,u,v,e⟩:=I.hok _ _ hp
   refine call_list_range (I.ok.hd hc) e (small_one (by omega) (by omega) (by omega) (by omega)) (n:=j) (by rw [rangeSize_one];split<;>omega) hj fun h' tk acc' c' kp e' it=>?_
   have hv:=qeC it
   have hl:((List.range j).map fun i=>V.int (i:Nat)).length<=sizeLine:=by rw [lM_,List.length_range,sizeLine_eq];omega
   exact ⟨.ref s.heap.objs.size,_,I.laid (t':=tk) kp (Nat.le_refl _) (show ObjOk X.prog X.w _ h' _ (.lst _) from ⟨hl,acc'.toList,c',hv,by simpa using e'⟩),rfl,q _ (I.hok.fresh (Nat.le_refl _))⟩
  ·exact qcg pins s σ H _ us Q I r h
 ·exact h.elim
end
end L2
end
section
namespace L2
open PySem PySem.Spec PyProof.Rows
end L2
end
section
namespace Om
section
variable {k n:Nat} {rows:Rows}
end
end Om
namespace L2
open PySem PySem.Spec PyProof.Rows
end L2
end
section
namespace L2
open PySem PySem.Spec PyProof.Rows
section
variable {prog:Program} {w:World} {A:Around} {E:Value->Shared->Prop} {s:Shared}
theorem qeO (hh:A.handled=none) (I d:Addr) (hne:d≠I) {od:Obj} {es:Array DictEntry} {ep:Nat} (hdat:od.data = .dict es ep) :
  Walks prog w A I [I,d] [I] es.size (fun i v=>∃ e,es[i]? = some e/\v=e.key) (fun i h=>h.IsKeyIter I d i es.size ep/\h.get? d=some od) where
 sub:=fun b hb=>by simp at hb;simp [hb]
 frame:=fun _ _ _ st hk=>⟨st.1.at fun o e=>hk I (by simp) o e,hk d (by simp) _ st.2⟩
 item:=fun i s Q E hi st hQ=>by
  have he:es[i]? = some es[i]:=by simp [hi]
  refine qfL st.1 st.2 hdat he fun h' hit' hs'=>?_
  exact hQ _ h' s.toks ⟨_,he,rfl⟩ ⟨hit',hs'.extBut d _ hne st.2⟩ fun b o hb e=>hs'.extBut b o (fun h=>hb (by simp [h])) e
 done:=fun s Q E st hQ=>qhP hh st.1 st.2 hdat (Nat.le_refl _) fun h' he'=>hQ h' s.toks fun b o hb e=>he' b o (fun h=>hb (by simp [h])) e
 self:=fun _ _ _ _ st hQ=>wpAny_pyIter_keyiter st.1 hQ
theorem qfT {d:Addr} {Q:Bool->Shared->Prop} (hT:s.TypeIs (.ref d) "dict") (h:Q false s):wpAny (model prog w) A (Builtin.List.listLengthHint (.ref d)) Q E s:=by
 unfold Builtin.List.listLengthHint
 refine wpAny_bind (wpAny_specialOf hT F.slot_dict_len.lookup ?_)
 generalize hid:("dict.__len__" : String)=id0
 wp_delta
 rw [show splitId id0=some ("dict","__len__") from by subst hid;decide +kernel]
 subst hid
 refine wpAny_bind (wpAny_isInstance (T:= "dict") (b:=true) hT (by rw [isSubtype_type];kernel_rfl) ?_)
 refine wpAny_ite_split (fun hab=>absurd hab (by decide)) (fun _=>?_)
 refine wpAny_ite_split (fun _=>?_) (fun hab=>absurd (by decide +kernel) hab)
 refine wpAny_bind (wpAny_typeOf (T:= "dict") hT ?_)
 exact wpAny_pure h
theorem qbZ {R:Result->Shared->Prop} {d:Addr} {od:Obj} {es:Array DictEntry} {ep:Nat} (hh:A.handled=none) (hd:(d == sysModules)=false) (hT:s.TypeIs (.ref d) "dict") (ho:s.heap.get? d=some od) (hdat:od.data = .dict es ep) (hlen:es.size<=sizeLine) (S:Addr) (res:Value) (c₀:Nat) (hS:s.heap.get? S=some { cls:=.type "list",data:=.seq #[] c₀ })
  (hR:∀ h' tk acc' c',(∀ b o,b≠S->s.heap.get? b=some o->h'.get? b=some o)->h'.get? S=some { cls:=.type "list",dict:=none,data:=.seq acc' c',slots:=#[] } →
   ItemsOf (fun i v=>∃ e,es[i]? = some e/\v=e.key) acc' es.size->R (.ok (.ret res)) { s with heap:=h',toks:=tk }) :
  wpAny (model prog w) A.in1 (Builtin.List.listExtendWith (.ref S) (.ref d) res)
   (fun fin s'=>match fin with | .done f=>R (.ok f) s' | .again c'=>c'.quiet=true/\codeAny (model prog w) A c' R s') (fun e s'=>R (.error e) s') s:=by
 have hSr:S≠d:=fun e=>by rw [e,ho] at hS;cases hS;cases hdat
 have hSlt:S < s.heap.objs.size:=Heap.lt_size hS
 have hSI:S≠s.heap.objs.size:=Nat.ne_of_lt hSlt
 have hdI:d≠s.heap.objs.size:=Nat.ne_of_lt (Heap.lt_size ho)
 have hSf:S ∉ [s.heap.objs.size,d]:=fun hm=>by simp at hm;rcases hm with h | h;exact hSI h;exact hSr h
 have W:=(qeO (prog:=prog) (w:=w) (A:=A.in1) hh s.heap.objs.size d hdI hdat).toS
 unfold Builtin.List.listExtendWith
 refine wpAny_bind (wpAny_typeOf (T:= "dict") hT ?_)
 have h1:Builtin.List.listSameRef (.ref S) (.ref d)=false:=by simp [Builtin.List.listSameRef,hSr]
 have h2:(Value.type "dict" == Value.type "list")=false:=by decide
 have h3:(Value.type "dict" == Value.type "tuple")=false:=by decide
 simp only [h1,h2,h3,Bool.or_false,Bool.false_eq_true,if_false]
 refine wpAny_bind (qbV hd hT ho hdat ?_)
 have hT1:(⟨s.heap.push { cls:=.type "dict_keyiterator",data:=.fields #[.ref d,.int 0 0,.int es.size 0,.int ep 0] },s.gens,s.drawn,s.toks,s.os⟩ : Shared).TypeIs (.ref d) "dict" := by
  obtain ⟨o,e1,e2⟩:=hT
  exact ⟨o,Heap.get?_push_of_some _ e1,e2⟩
 refine wpAny_bind (wpAny_holding (qfT hT1 ?_))
 have hit₁:(s.heap.push { cls:=.type "dict_keyiterator",data:=.fields #[.ref d,.int 0 0,.int es.size 0,.int ep 0] }).IsKeyIter s.heap.objs.size d 0 es.size ep:=⟨_,Heap.get?_push_size _ rfl,rfl,rfl⟩
 have hS₁:=Heap.get?_push_of_some { cls:=.type "dict_keyiterator",data:=.fields #[.ref d,.int 0 0,.int es.size 0,.int ep 0] } hS
 have hd₁:=Heap.get?_push_of_some { cls:=.type "dict_keyiterator",data:=.fields #[.ref d,.int 0 0,.int es.size 0,.int ep 0] } ho
 have key:∀ (h:Heap) (c₁ tk:Nat),h.IsKeyIter s.heap.objs.size d 0 es.size ep->h.get? d=some od->(∀ b o,b≠S->s.heap.get? b=some o->h.get? b=some o) →
   h.get? S=some { cls:=.type "list",data:=.seq #[] c₁ }->codeAny (model prog w) A (.builtin "list.extend.loop" ⟨[.ref S,.ref s.heap.objs.size,res],[]⟩) R { s with heap:=h,toks:=tk }:=by
  intro h c₁ tk hit hdd hk hS₁
  refine codeAny_extend_loopS W hlen S hSf res es.size 0 _ #[] c₁ rfl (Nat.zero_le _) ⟨hit,hdd⟩ hS₁ (ItemsOf.nil _) fun s' acc' c' hm hS' hacc=>?_
  rw [Moved.eq_with hm]
  refine hR s'.heap s'.toks acc' c' (fun b o hb e=>hm.heap b o (fun hmem=>?_) (hk b o hb e)) hS' hacc
  rcases List.mem_cons.mp hmem with e' | hmem
  ·exact hb e'
  ·exact absurd (Heap.lt_size e) (by rw [mS_ hmem];exact Nat.lt_irrefl _)
 refine wpAny_ite_split (fun _=>?_) (fun _=>wpAny_pure ⟨plainId_quiet F.plain_extend_loop _,key _ c₀ _ hit₁ hd₁ (fun b o _ e=>Heap.get?_push_of_some _ e) hS₁⟩)
 refine wpAny_bind (wpAny_rule ?_)
 refine wpAny_bind ?_
 show wpAny _ _ (updateSeq S (·.push .none) >>= fun _=>updateSeq S (·.pop)) _ _ _
 refine wpAny_bind (wpAny_updateSeq hS₁ rfl ?_)
 have hS₂:=Heap.get?_update_self (Obj.mapSeq (·.push Value.none)) hS₁ rfl
 refine wpAny_updateSeq (hz:=by seq_fits) hS₂ rfl ?_
 have hS₃:=Heap.get?_update_self (Obj.mapSeq (·.pop)) hS₂ rfl
 refine wpAny_pure ⟨plainId_quiet F.plain_extend_loop _,key _ _ _ ?_ ?_ (fun b o hb e=>?_) hS₃⟩
 ·exact hit₁.at fun o e=>(Heap.get?_update_other _ _ hSI).trans ((Heap.get?_update_other _ _ hSI).trans e)
 ·exact (Heap.get?_update_other _ _ hSr).trans ((Heap.get?_update_other _ _ hSr).trans hd₁)
 ·exact (Heap.get?_update_other _ _ (Ne.symm hb)).trans ((Heap.get?_update_other _ _ (Ne.symm hb)).trans (Heap.get?_push_of_some _ e))
theorem qaR {Q:Value->Shared->Prop} {d:Addr} {od:Obj} {es:Array DictEntry} {ep:Nat} (hh:A.handled=none) (hd:(d == sysModules)=false) (hT:s.TypeIs (.ref d) "dict") (ho:s.heap.get? d=some od) (hdat:od.data = .dict es ep) (hlen:es.size<=sizeLine)
  (hQ:∀ h' tk acc' c',(∀ b o,s.heap.get? b=some o->h'.get? b=some o) →
   h'.get? s.heap.objs.size=some { cls:=.type "list",dict:=none,data:=.seq acc' c',slots:=#[] }->ItemsOf (fun i v=>∃ e,es[i]? = some e/\v=e.key) acc' es.size->Q (.ref s.heap.objs.size) { s with heap:=h',toks:=tk }) :
  wpAny (model prog w) A (call (.type "list") [.ref d]) Q E s:=by
 refine callType_codes (Q₁:=fun obj s₁=>obj = .ref s.heap.objs.size/\s₁={ s with heap:=s.heap.push { cls:=.type "list",data:=.seq #[] } }) F.called_list (F.typeCall_list_1 _) F.entry_list_init
  (code_list_new _ ⟨rfl,rfl⟩) fun obj s₁ h₁=>?_
 obtain ⟨rfl,rfl⟩:=h₁
 have hS:(s.heap.push { cls:=.type "list",data:=.seq #[] }).get? s.heap.objs.size=some { cls:=.type "list",data:=.seq #[] }:=Heap.get?_push_size _ rfl
 have hSr:s.heap.objs.size≠d:=Nat.ne_of_gt (Heap.lt_size ho)
 refine ⟨⟨_,hS,rfl⟩,F.args_list_init_2 _ _,?_⟩
 show wpAny _ _ (do let old <-Builtin.List.listItems (.ref s.heap.objs.size);Builtin.List.listUpdate (.ref s.heap.objs.size) (fun _=>#[]);letGo old.toList.reverse;Builtin.List.listExtendWith (.ref s.heap.objs.size) (.ref d) .none) _ _ _
 refine wpAny_bind ?_
 unfold Builtin.List.listItems
 refine wpAny_bind (wpAny_seqItems hS rfl (wpAny_pure ?_))
 show wpAny _ _ (updateSeq s.heap.objs.size (fun _=>#[]) >>= fun _=>letGo (#[]:Array Value).toList.reverse >>= fun _=>Builtin.List.listExtendWith (.ref s.heap.objs.size) (.ref d) .none) _ _ _
 refine wpAny_bind (wpAny_updateSeq hS rfl ?_)
 have hS₂:=Heap.get?_update_self (Obj.mapSeq (fun _=>(#[]:Array Value))) hS rfl
 have oth:∀ b o,b≠s.heap.objs.size->(s.heap.push { cls:=.type "list",data:=.seq #[] }).get? b=some o->((s.heap.push { cls:=.type "list",data:=.seq #[] }).update s.heap.objs.size (Obj.mapSeq (fun _=>(#[]:Array Value)))).get? b=some o:=
  fun b o hb e=>(Heap.get?_update_other _ _ (Ne.symm hb)).trans e
 refine wpAny_bind (wpAny_letGo ?_)
 have ho2:=oth d _ (Ne.symm hSr) (Heap.get?_push_of_some _ ho)
 refine qbZ (A:=A.in1) hh hd ?_ ho2 hdat hlen _ .none _ hS₂ fun h' tk acc' c' hk hS' hacc=>?_
 ·obtain ⟨o,e1,e2⟩:=hT
  rw [ho] at e1;cases e1
  exact ⟨_,ho2,e2⟩
 ·exact ⟨rfl,hQ h' tk acc' c' (fun b o e=>hk b o (Nat.ne_of_lt (Heap.lt_size e)) (oth b o (Nat.ne_of_lt (Heap.lt_size e)) (Heap.get?_push_of_some _ e))) hS' hacc⟩
end
end L2
end
section
namespace L2
open PySem PySem.Spec PyProof.Rows
section
variable {X:Cx} {p pos:Pos}
theorem qa6 {es:Array DictEntry} {acc:Array Value} {xs:List V} (h:ItemsOf (fun i v=>∃ e,es[i]? = some e/\v=e.key) acc es.size) (r:Vals xs (es.toList.map (·.key))):Vals xs acc.toList:=by
 have:acc.toList=es.toList.map (·.key):=by
  apply List.ext_getElem?
  intro i
  rw [gM_]
  by_cases hi:i < es.size
  ·have hi':i < acc.size:=by rw [h.1];exact hi
   obtain ⟨e,e1,e2⟩:=h.2 i acc[i] (by simp [hi'])
   have e3:es.toList[i]? = some e:=by simpa using e1
   rw [e3]
   simp [hi',e2]
  ·have:¬ i < acc.size:=by rw [h.1];exact hi
   simp [Nat.le_of_not_lt hi,Nat.le_of_not_lt this]
 rw [this];exact r
def qfs:List V->Hp->VK->Prop:=fun vs H Q=>match vs with
 | [.ref p]=>(∃ kvs,H p=some (.dT kvs)/\∀ o bs l,qbx H kvs bs->H l=none->Q (.ref l) (upd (upd H p (.frz o (.dT kvs))) l (.lst (bs.map V.ref)))) ∨
   (∃ o kvs,H p=some (.frz o (.dT kvs))/\∀ bs l,qbx H kvs bs->H l=none->Q (.ref l) (upd H l (.lst (bs.map V.ref)))) ∨
   (∃ o kvs,H p=some (.frz o (.dK kvs))/\∀ l,H l=none->Q (.ref l) (upd H l (.lst (kvs.map fun p=>kV p.1))))\/qfr vs H Q
 | _=>False
theorem qeK (hc:X.calm=true):CallR X (.type "list") qfs:=by
 have hT2:∀ (pins:List (Addr×Obj)) (s:Shared) (σ:St) (H:Hp) (a:Addr) (Q:VK) (o:Obj) (kvs:List (List Key×V)),Inv X pins σ H s->H a=some (.frz o (.dT kvs)) →
   (∀ bs l,qbx H kvs bs->H l=none->Q (.ref l) (upd H l (.lst (bs.map V.ref))))->wpAny (model X.prog X.w) X.A (call (.type "list") [.ref a]) (EP X pins σ Q) X.xe s:=by
  intro pins s σ H a Q o kvs I hq q
  have ho:=I.frozen hq
  obtain ⟨_,z,hd,xs,r,o',es,ep,h1,h2,h3,h4,h5⟩:=I.hok a _ hq
  rw [ho] at h1;cases h1
  have hT:s.TypeIs (.ref a) "dict" := let ⟨_,_,_,_,dd⟩:=qbA I.hok (.inr ⟨o,hq⟩);dd.typeIs
  have rel:Vals ((xs.map (·.2.1)).map V.ref) (es.toList.map (·.key)):=by
   rw [h4]
   clear h4 h5 r
   induction xs with
   | nil=>exact .nil
   | cons x xs ih=>exact .cons rfl ih
  have le:es.size<=sizeLine:=by
   have e1:=congrArg List.length h4
   have e2:=Paired.length r
   simp at e1
   omega
  refine qaR (I.ok.hd hc) hd hT ho h3 le fun h' tk acc' c' kp e' it=>?_
  have hl:((xs.map (·.2.1)).map V.ref).length<=sizeLine:=by
   have:=rel.length
   simp at this ⊢
   omega
  exact ⟨.ref s.heap.objs.size,_,I.laid (t':=tk) kp (Nat.le_refl _) (show ObjOk X.prog X.w _ h' _ (.lst _) from ⟨hl,acc'.toList,c',qa6 it rel,by simpa using e'⟩),rfl,q _ _ (qcy r) (I.hok.fresh (Nat.le_refl _))⟩
 intro pins s σ H xs us Q I r h
 unfold qfs at h
 split at h
 ·rename_i a
  have r':=r
  obtain ⟨u,rfl,rx⟩:=qaP r
  cases rx
  rcases h with ⟨kvs,hq,q⟩ | ⟨o,kvs,hq,q⟩ | ⟨o,kvs,hq,q⟩ | h
  ·obtain ⟨o,ho⟩:=I.obj hq
   refine hT2 pins s σ _ a Q o kvs (I.freeze hq trivial ho) qaa fun bs l kb hl=>?_
   have hla:l≠a:=fun z=>by subst z;rw [qaa] at hl;cases hl
   rw [qac hla] at hl
   refine q o bs l ?_ hl
   refine Paired.mapP kb fun x b e=>?_
   have:b≠a:=fun z=>by subst z;rw [qaa] at e;cases e
   rw [qac this] at e;exact e
  ·exact hT2 pins s σ H a Q o kvs I hq q
  ·have ho:=I.frozen hq
   obtain ⟨_,z,hd,vs,r,o',es,ep,h1,h2,h3,h4,h5,h6⟩:=I.hok a _ hq
   rw [ho] at h1;cases h1
   have hT:s.TypeIs (.ref a) "dict" := let ⟨_,_,_,_,dd⟩:=qbp I.hok (.inr ⟨o,hq⟩);dd.typeIs
   have rel:=qbj r h5
   have le:es.size<=sizeLine:=by
    have e1:=rel.length
    simp at e1
    omega
   refine qaR (I.ok.hd hc) hd hT ho h3 le fun h' tk acc' c' kp e' it=>?_
   have hl:(kvs.map fun p=>kV p.1).length<=sizeLine:=by
    have:=rel.length
    simp at this ⊢
    omega
   exact ⟨.ref s.heap.objs.size,_,I.laid (t':=tk) kp (Nat.le_refl _) (show ObjOk X.prog X.w _ h' _ (.lst _) from ⟨hl,acc'.toList,c',qa6 it rel,by simpa using e'⟩),rfl,q _ (I.hok.fresh (Nat.le_refl _))⟩
  ·exact qeI hc pins s σ H _ _ Q I r' h
 ·exact h.elim
def qmW (K:PySem.W.Frag) (tl:TE):TI:=fun σ H R=>tl σ H fun x H1=>match x with
 | .ref a=>(∃ kvs,H1 a=some (.dT kvs)/\∀ o bs,qbx H1 kvs bs->R (Itk a o (bs.map V.ref)) (upd H1 a (.frz o (.dT kvs))))\/qmX K (fun _ H Q=>Q (.ref a) H) σ H1 R
 | _=>False
end
section
variable {prog:Program} {w:World} {A:Around} {E:Value->Shared->Prop} {s:Shared}
end
end L2
end
section
namespace L2
open PySem PySem.Spec PyProof.Rows
section
variable {X:Cx} {p pos:Pos}
theorem qfw {tg l:Expr} {tl:TE} (hl:PE X l tl):PI X tg l (qmW X.K tl):=by
 intro pins s σ H R I h
 refine thn (hl pins s σ H _ I h) fun v s1 ⟨x,H1,I1,r1,q1⟩=>?_
 dsimp only at q1
 split at q1
 ·rename_i a
  cases r1
  rcases q1 with ⟨kvs,hq,q⟩ | q
  ·obtain ⟨o,ho⟩:=I1.obj hq
   have J:=I1.freeze hq trivial ho
   have hq':upd H1 a (.frz o (.dT kvs)) a=some (.frz o (.dT kvs)):=qaa
   obtain ⟨_,z,hd,xs,r,o',es,ep,h1,h2,h3,h4,h5⟩:=J.hok a _ hq'
   rw [ho] at h1;cases h1
   have hT:s1.TypeIs (.ref a) "dict" := let ⟨_,_,_,_,dd⟩:=qbA J.hok (.inr ⟨o,hq'⟩);dd.typeIs
   have rel:Vals ((xs.map (·.2.1)).map V.ref) (es.toList.map (·.key)):=by
    rw [h4]
    clear h4 h5 r
    induction xs with
    | nil=>exact .nil
    | cons x xs ih=>exact .cons rfl ih
   refine qbV hd hT ho h3 ?_
   refine ⟨s1.heap.objs.size,[s1.heap.objs.size],_,_,_,rfl,J.kept (t':=s1.toks) fun b o e=>Heap.get?_push_of_some _ e,qbd h3 rel,⟨_,Heap.get?_push_size _ rfl,rfl,rfl⟩,fun b hb=>?_,q o _ ?_⟩
   ·have e:b=s1.heap.objs.size:=by simpa using hb
    subst e
    exact J.fpOk (Nat.le_refl _) (J.hok.fresh (Nat.le_refl _))
   ·refine Paired.mapP (qcy r) fun x b e=>?_
    have:b≠a:=fun z=>by subst z;rw [qaa] at e;cases e
    rw [qac this] at e;exact e
  ·obtain ⟨⟨xs,hq⟩,q⟩ | ⟨o,kvs,hq,q⟩ | ⟨o,kvs,hq,q⟩:=q
   ·obtain ⟨its,rv,p,hz⟩:=I1.list hq
    refine wpAny_pyIter_list p.isList ?_
    refine ⟨s1.heap.objs.size,[s1.heap.objs.size],_,_,H1,rfl,I1.kept (t':=s1.toks) fun b o e=>Heap.get?_push_of_some _ e,qcJ a _,⟨_,Heap.get?_push_size _ rfl,rfl,rfl⟩,fun b hb=>?_,q⟩
    have e:b=s1.heap.objs.size:=by simpa using hb
    subst e
    exact I1.fpOk (Nat.le_refl _) (I1.hok.fresh (Nat.le_refl _))
   ·have ho:=I1.frozen hq
    obtain ⟨_,z,hd,xs,r,o',es,ep,h1,h2,h3,h4,h5⟩:=I1.hok a _ hq
    rw [ho] at h1;cases h1
    have hT:s1.TypeIs (.ref a) "dict" := let ⟨_,_,_,_,dd⟩:=qbA I1.hok (.inr ⟨o,hq⟩);dd.typeIs
    have rel:Vals ((xs.map (·.2.1)).map V.ref) (es.toList.map (·.key)):=by
     rw [h4]
     clear h4 h5 r
     induction xs with
     | nil=>exact .nil
     | cons x xs ih=>exact .cons rfl ih
    refine qbV hd hT ho h3 ?_
    refine ⟨s1.heap.objs.size,[s1.heap.objs.size],_,_,H1,rfl,I1.kept (t':=s1.toks) fun b o e=>Heap.get?_push_of_some _ e,qbd h3 rel,⟨_,Heap.get?_push_size _ rfl,rfl,rfl⟩,fun b hb=>?_,q _ (qcy r)⟩
    have e:b=s1.heap.objs.size:=by simpa using hb
    subst e
    exact I1.fpOk (Nat.le_refl _) (I1.hok.fresh (Nat.le_refl _))
   ·have ho:=I1.frozen hq
    obtain ⟨_,z,hd,vs,r,o',es,ep,h1,h2,h3,h4,h5,h6⟩:=I1.hok a _ hq
    rw [ho] at h1;cases h1
    have hT:s1.TypeIs (.ref a) "dict" := let ⟨_,_,_,_,dd⟩:=qbp I1.hok (.inr ⟨o,hq⟩);dd.typeIs
    refine qbV hd hT ho h3 ?_
    refine ⟨s1.heap.objs.size,[s1.heap.objs.size],_,_,H1,rfl,I1.kept (t':=s1.toks) fun b o e=>Heap.get?_push_of_some _ e,qbd h3 (qbj r h5),⟨_,Heap.get?_push_size _ rfl,rfl,rfl⟩,fun b hb=>?_,q⟩
    have e:b=s1.heap.objs.size:=by simpa using hb
    subst e
    exact I1.fpOk (Nat.le_refl _) (I1.hok.fresh (Nat.le_refl _))
 ·exact q1.elim
end
end L2
end
section
namespace Om
end Om
namespace L2
open PySem PySem.Spec PyProof.Rows
end L2
end
section
namespace L2
open PySem PySem.Spec PyProof.Rows
section
variable {prog:Program} {w:World} {A:Around} {E:Value->Shared->Prop} {s:Shared}
theorem qbB {d:Addr} {o:Obj} {es:Array DictEntry} {ep:Nat} {Q:Value->Shared->Prop} (hd:(d == sysModules)=false) (hT:s.TypeIs (.ref d) "dict") (ho:s.heap.get? d=some o) (hdat:o.data = .dict es ep) (hfit:(es.size:Int) < 2 ^ 63)
  (h:Q (.int es.size (s.toks+1)) { s with toks:=s.toks+1+1 }):wpAny (model prog w) A (call (.builtin "len") [.ref d]) Q E s:=by
 have len1:MeetsIn prog w (Builtin.«dict.__len__» ⟨[.ref d],[]⟩) (fun _ R s=>s.heap.get? d=some o/\R (.ok (.ret (.int es.size s.toks))) { s with toks:=s.toks+1 }):=
  .of_wp fun A R s ⟨ho,h⟩=>by
   show wpAny _ _ (dictSize d >>= _) _ _ s
   unfold dictSize
   refine wpAny_bind (wpAny_bind (wpAny_dictEntries ho hdat (wpAny_pure ?_)))
   show wpAny _ _ (Builtin.Dict.pendingCount d >>= _) _ _ s
   refine wpAny_bind (wpAny_pendingCount_other hd ?_)
   refine wpAny_ret_mkInt ?_
   rw [Nat.add_zero];exact h
 refine Calls.call_function_entry kind_len plain_len entry_len (args_len1 _) ?_
 unfold Builtin.«len»
 refine wpAny_bind (m:=oneArg "len" _) (wpAny_pure ?_)
 refine wpAny_bind (m:=callSpecial? (.ref d) (Str.ofString "__len__")) (wpAny_callSpecial?_slot (name:=Str.ofString "__len__") hT F.slot_dict_len
  (call_meetsIn F.slot_dict_len hT F.entry_dict_len (F.args_dict_len_1 _) len1 ⟨ho,?_⟩))
 show wpAny _ _ _ _ _ { s with toks:=s.toks+1 }
 refine wpAny_bind (wpAny_holding (wpAny_pure ?_))
 refine wpAny_bind (wpAny_letGo ?_)
 show wpAny _ _ (if ((es.size:Nat):Int) < 0 then _ else _) _ _ _
 rw [if_neg (by omega)]
 show wpAny _ _ (if ((es.size:Nat):Int) ≥ 2 ^ 63 then _ else _) _ _ _
 rw [if_neg (by omega)]
 exact wpAny_bind (wpAny_mkInt (wpAny_pure ⟨_,rfl,h⟩))
end
section
variable {X:Cx} {p pos:Pos}
end
section
variable {G H0 H:Hp} {D q:Addr} {kvs:List (List Key×V)} {ks:List (Nat×Nat)} {c:Nat} {o:HO}
end
end L2
namespace Om
end Om
end
section
namespace L2
open PySem PySem.Spec PyProof.Rows
section
variable {prog:Program} {w:World} {A:Around} {E:Value->Shared->Prop} {s:Shared}
theorem qfS {R:Result->Shared->Prop} {d:Addr} {od:Obj} {es:Array DictEntry} {ep:Nat} (hh:A.handled=none) (hd:(d == sysModules)=false) (hT:s.TypeIs (.ref d) "dict") (ho:s.heap.get? d=some od) (hdat:od.data = .dict es ep) (hlen:es.size<=sizeLine) (S:Addr) (c₀:Nat) (hS:s.heap.get? S=some { cls:=.type "list",data:=.seq #[] c₀ })
  (hR:∀ h' tk acc' c',(∀ b o,b≠S->s.heap.get? b=some o->h'.get? b=some o)->h'.get? S=some { cls:=.type "list",dict:=none,data:=.seq acc' c',slots:=#[] } →
   ItemsOf (fun i v=>∃ e,es[i]? = some e/\v=e.key) acc' es.size->R (.ok (.ret (.ref S))) { s with heap:=h',toks:=tk }) :
  codeAny (model prog w) A (.builtin "list.__iadd__" ⟨[.ref S,.ref d],[]⟩) R s:=by
 refine codeAny_builtin entry_list_iadd' ?_
 rw [Around.under_plainId (by decide +kernel) _]
 exact qbZ hh hd hT ho hdat hlen S (.ref S) c₀ hS hR
theorem qbu {d:Addr} {od:Obj} {es:Array DictEntry} {ep:Nat} {Q:List Value->Shared->Prop} (hh:A.handled=none) (hd:(d == sysModules)=false) (hT:s.TypeIs (.ref d) "dict") (ho:s.heap.get? d=some od) (hdat:od.data = .dict es ep) (hlen:es.size<=sizeLine)
  (h:∀ (h':Heap) (tk:Tok) (acc:Array Value),(∀ b o,s.heap.get? b=some o->h'.get? b=some o)->s.heap.objs.size < h'.objs.size->ItemsOf (fun i v=>∃ e,es[i]? = some e/\v=e.key) acc es.size->Q acc.toList { s with heap:=h',toks:=tk }) :
  wpAny (model prog w) A (collect (.ref d)) Q E s:=by
 unfold collect
 refine wpAny_bind (wpAny_runValue (codeAny_builtin entry_proto_collect' ?_))
 show wpAny _ _ (do again (.builtin "list.__iadd__" ⟨[<-newList [],.ref d],[]⟩)) _ _ s
 refine wpAny_bind (wpAny_newList (wpAny_pure ⟨Code.quiet_builtin _ (by decide +kernel),?_⟩))
 have hT':(⟨s.heap.push (seqObj "list" #[] 0),s.gens,s.drawn,s.toks,s.os⟩ : Shared).TypeIs (.ref d) "dict" := by
  obtain ⟨o,e1,e2⟩:=hT
  exact ⟨o,Heap.get?_push_of_some _ e1,e2⟩
 refine qfS hh hd hT' (Heap.get?_push_of_some _ ho) hdat hlen s.heap.objs.size 0 (Heap.get?_push_size _ rfl) fun h' tk acc' c' hk hS' hacc=>?_
 show wpAny (model prog w) A (do
   let o <-load s.heap.objs.size
   match o.data with
   | .seq xs _=>pure xs.toList
   | _=>unsupported "internal:collect") Q E { s with heap:=h',toks:=tk }
 refine wpAny_bind (wpAny_load hS' ?_)
 exact wpAny_pure (h h' tk acc' (fun b o e=>hk b o (Nat.ne_of_lt (Heap.lt_size e)) (Heap.get?_push_of_some _ e)) (Heap.lt_size hS') hacc)
theorem qdp {d:Addr} {od:Obj} {es:Array DictEntry} {ep:Nat} {ns:List Int} {Q:Value->Shared->Prop} (hh:A.handled=none) (hd:(d == sysModules)=false) (hT:s.TypeIs (.ref d) "dict") (ho:s.heap.get? d=some od) (hdat:od.data = .dict es ep) (hI:IntsAre (es.toList.map (·.key)) ns) (h64:es.size < 64)
  (h:∀ (h':Heap) (tk:Tok) (l:Addr) (out:Array Value) (ns':List Int) (e:Nat),(∀ b o,s.heap.get? b=some o->h'.get? b=some o)->s.heap.objs.size<=l->h'.get? l=some (seqObj "list" out e)->IntsAre out.toList ns'->ns'.Perm ns->ns'.Pairwise (·<=·)->Q (.ref l) { s with heap:=h',toks:=tk }) :
  wpAny (model prog w) A (call (.builtin "sorted") [.ref d]) Q E s:=by
 refine Calls.call_function_entry kind_sorted plain_sorted entry_sorted (args_sorted1 _) ?_
 unfold Builtin.«sorted»
 refine wpAny_bind (m:=checkCount "sorted" 1 1 _) (wpAny_pure ?_)
 refine wpAny_bind (qbu hh hd hT ho hdat (by rw [sizeLine_eq];omega) fun h1 tk acc kp lt it=>?_)
 have ea:acc.toList=es.toList.map (·.key):=by
  apply List.ext_getElem?
  intro i
  rw [gM_]
  by_cases hi:i < es.size
  ·have hi':i < acc.size:=by rw [it.1];exact hi
   obtain ⟨e,e1,e2⟩:=it.2 i acc[i] (by simp [hi'])
   have e3:es.toList[i]? = some e:=by simpa using e1
   rw [e3]
   simp [hi',e2]
  ·have:¬ i < acc.size:=by rw [it.1];exact hi
   simp [Nat.le_of_not_lt hi,Nat.le_of_not_lt this]
 rw [ea]
 generalize hvs:es.toList.map (·.key)=vs at *
 have hv64:vs.length < 64:=by rw [<-hvs];simpa using h64
 refine wpAny_bind (wpAny_newList ?_)
 have hoL:(h1.push (seqObj "list" vs.toArray 0)).get? h1.objs.size=some (seqObj "list" vs.toArray 0):=Heap.get?_push_size _ rfl
 refine wpAny_bind (wpAny_holding (wpAny_call_entry slot_list_sort ⟨_,hoL,rfl⟩ entry_list_sort (list_sort_tree hoL hI hv64 fun out ns' a1 a2 a3=>⟨_,rfl,?_⟩) (args_list_sort _)))
 obtain ⟨e,he⟩:=sortedHeap_at (out:=out) hoL
 refine wpAny_pure ⟨_,rfl,h _ tk h1.objs.size out ns' e (fun b o hb=>?_) (Nat.le_of_lt lt) he a1 a2 a3⟩
 have hb1:=kp b o hb
 have bl:=Heap.lt_size hb1
 rw [sortedHeap_old (Nat.ne_of_lt bl) (by rw [size_push'];exact Nat.lt_succ_of_lt bl)]
 exact Heap.get?_push_of_some _ hb1
end
section
variable {X:Cx} {p pos:Pos}
def qdZ:List V->Hp->VK->Prop:=fun vs H Q=>(∃ (a:Addr) (kvs:List (Key×V)) (ns:List Int),vs=[.ref a]/\Rd H a (.dK kvs)/\kvs.map (·.1)=ns.map Sum.inl/\ns.length < 64 ∧
  ∀ (l:Addr) (ns':List Int),H l=none->ns'.Perm ns->ns'.Pairwise (·<=·)->Q (.ref l) (upd H l (.lst (ns'.map V.int))))\/qcq vs H Q
theorem qc3 (hc:X.calm=true):CallR X (.builtin "sorted") qdZ:=by
 intro pins s σ H xs us Q I r h
 rcases h with ⟨a,kvs,ns,rfl,rd,hk,hl,q⟩ | h
 ·obtain ⟨u,rfl,rx⟩:=qaP r
  cases rx
  obtain ⟨z,hd,vs,kv,o,es,ep,h1,h2,h3,h4,h5,h6⟩:=qbp I.hok rd
  have hT:s.TypeIs (.ref a) "dict" := ⟨o,h1,h2.1⟩
  have rel:=qbj kv h5
  have e1:(kvs.map fun p=>kV p.1)=ns.map V.int:=by
   have:(kvs.map fun p=>kV p.1)=(kvs.map (·.1)).map kV:=by rw [List.map_map];rfl
   rw [this,hk,List.map_map]
   rfl
  rw [e1] at rel
  have hI:=qbm rel
  have es64:es.size < 64:=by
   have:=rel.length
   simp at this
   omega
  refine qdp (I.ok.hd hc) hd hT h1 h3 hI es64 fun h' tk l out ns' e kp hl' he a1 a2 a3=>?_
  have hz:(ns'.map V.int).length<=sizeLine:=by rw [lM_,a2.length_eq];exact qaf (by omega)
  exact ⟨.ref l,upd H l (.lst (ns'.map V.int)),I.laid (t':=tk) kp hl' ⟨hz,out.toList,e,qbW a1,by simpa using he⟩,rfl,q _ _ (I.hok.fresh hl') a2 a3⟩
 ·exact qbw pins s σ H xs us Q I r h
theorem qeE {e:Expr} {es:List Expr} {t:TA} {mg':Str->Option Value} (hm:mg' "sorted" = none) (hX:X.mg=mg') (ha:PA X (e :: es) t) (hc:X.calm=true:=by kernel_rfl) (hg:gB X "sorted" = true:=by kernel_rfl) (he:starEach (e :: es) X.env=(false,eval e X.env) :: starEach es X.env:=by kernel_rfl) (hpl:(backTo pos (starEach es X.env)).any (·.1)=false:=by kernel_rfl) :
  PE X (.Call (.Name "sorted" p) (e :: es) [] pos) (tCB qdZ t):=qaB (qc3 hc) (qaD hg) (by rw [hX];exact hm) PyProof.Rows.boot_sorted ha (he:=he) (hpl:=hpl)
end
end L2
end
section
namespace L2
open PySem PySem.Spec PyProof.Rows
section
variable {X:Cx} {p pos p2:Pos} {a b e st:Expr} {es:List Expr} {t:TA} {te:TE} {ts:TO}
def qnN:V->Option Int->Hp->VK->Prop:=fun x k H Q=>k=some (-1)/\match x with
 | .ref p=>∃ xs,H p=some (.lst xs)/\∀ n,H n=none->Q (.ref n) (upd H n (.lst xs.reverse))
 | .str z=>z.length<=sizeLine/\∀ z':Str,z'.length<=z.length->Q (.str z') H
 | _=>False
theorem qdO:∀ {xs:List V} {us:List Value},Vals xs us->Vals xs.reverse us.reverse
 | [],us,r=>by cases r;exact .nil
 | x :: xs,us,r=>by
  cases r with
  | cons r1 r2=>
   rw [List.reverse_cons,List.reverse_cons]
   exact (qdO r2).append (.cons r1 .nil)
theorem qm3 (he:PE X e te) (hs:PO X (some st) ts):PE X (.Subscript e (.Slice none none (some st) p2) pos) (fun σ H Q=>te σ H fun x H1=>ts σ H1 fun k H2=>qnN x k H2 Q):=by
 intro pins s σ H Q I h
 refine Subscript_ (thn (he pins s σ H _ I h) fun v s1 ⟨x,H1,I1,r1,q1⟩=>?_)
 refine wpAny_Slice ?_
 rw [evalPart_none]
 refine wpAny_pure (wpAny_pure ?_)
 refine thn (hs pins s1 σ H1 _ I1 q1) fun vk s3 ⟨k,H3,I3,pk,q3⟩=>?_
 obtain ⟨ek,q3⟩:=q3
 subst ek
 have I4:Inv X pins σ H3 { s3 with heap:=s3.heap.push { cls:=.type "slice",data:=.fields #[.none,.none,vk] } }:=I3.kept (t':=s3.toks) fun b ob q=>Heap.get?_push_of_some _ q
 have hsl:(s3.heap.push { cls:=.type "slice",data:=.fields #[.none,.none,vk] }).IsSliceOf s3.heap.objs.size .none .none vk:=Heap.IsSliceOf.new ..
 show wpAny (model X.prog X.w) X.A (subscriptTail e (.Slice none none (some st) p2) v (.ref s3.heap.objs.size)) (EP X pins σ Q) X.xe { s3 with heap:=s3.heap.push { cls:=.type "slice",data:=.fields #[.none,.none,vk] } }
 generalize hs4:({ s3 with heap:=s3.heap.push { cls:=.type "slice",data:=.fields #[.none,.none,vk] } }:Shared)=s4 at I4
 have hsl4:s4.heap.IsSliceOf s3.heap.objs.size .none .none vk:=by rw [<-hs4];exact hsl
 cases x with
 | ref l=>
  obtain ⟨xs,hx,q⟩:=q3
  cases r1
  obtain ⟨its,r,ht,hz⟩:=I4.list (SqL.of hx)
  refine tail_any (ops:=[.ref l,.ref s3.heap.objs.size]) ht.isList.typeIs slot_list_getitem.lookup ?_ (by with_unfolding_all rfl)
  have hlen:=r.length
  refine wpAny_getItem_list_slice ht.isList hsl4 .none .none pk (by decide) ?_ (by rw [List.size_toArray];omega)
  rw [PySem.W.krv_pick]
  refine ⟨.ref s4.heap.objs.size,_,I4.laid (t':=s4.toks) (o:=.lst xs.reverse) (fun b ob q=>Heap.get?_push_of_some _ q) (Nat.le_refl _) ?_,rfl,q _ (I4.hok.fresh (Nat.le_refl _))⟩
  exact ⟨by rw [List.length_reverse];exact hz,_,0,qdO r,Heap.get?_push_size _ rfl⟩
 | str z=>
  obtain ⟨hz,q⟩:=q3
  obtain ⟨t,rfl⟩:=r1
  refine tail_any (ops:=[.str z t,.ref s3.heap.objs.size]) (typeIs_str _ _ _) F.slot_str_getitem.lookup ?_ (by with_unfolding_all rfl)
  cases pk with
  | int _ u=>
   have hle:(if (((some ((-1:Int),u)).map (·.1)).getD 1 == 1 && (slicePicked z none none (some ((-1:Int),u))).length == z.length)=true then z else ⟨((slicePicked z none none (some ((-1:Int),u))).filterMap (z.cps[·]?)).toArray⟩ : Str).length<=z.length:=by
    split
    ·exact Nat.le_refl _
    ·show (List.filterMap _ (Builtin.Str.strSliceIndices none none (-1) z.length)).toArray.size<=z.length
     rw [List.size_toArray,picked_rev]
     refine Nat.le_trans (List.length_filterMap_le _ _) ?_
     simp
   exact wpAny_getItem_str_slice (l:=none) (u:=none) (st:=some (-1,u)) hsl4 rfl (post_val_or_str ⟨Nat.le_trans hle hz,fun t' k=>⟨.str _,H3,I4.tok _,⟨_,rfl⟩,q _ hle⟩⟩)
 | _=>exact q3.elim
end
section
variable {H H':Hp} {n:Nat} {v:V} {a:Addr} {xs:List V}
end
section
variable {F:Addr->Prop} {H H':Hp} {b:Addr} {o:HO}
end
end L2
end
section
namespace L2
open PySem PySem.Spec PyProof.Rows
end L2
end
section
namespace L2
open PySem PySem.Spec PyProof.Rows
def CodeO (c:Addr) (q:Str):HO:=.ext fun h=>h.CodeRec (.ref c) q
theorem CodeO.mk {P:Program} {w:World} {H:Hp} {h:Heap} {c:Addr} {q:Str} (x:h.CodeRec (.ref c) q):ObjOk P w H h c (CodeO c q):=by
 refine ⟨x,?_,fun h1 h2 x1 k=>?_⟩
 ·obtain ⟨c',o,vs,t,e,g,r⟩:=x
  cases e
  exact ⟨o,g⟩
 ·obtain ⟨c',o,vs,t,e,g,r⟩:=x1
  cases e
  exact ⟨_,o,vs,t,rfl,k o g,r⟩
theorem CodeO.at {P:Program} {w:World} {H:Hp} {h:Heap} {c:Addr} {q:Str} (ok:HOk P w H h) (e:H c=some (CodeO c q)):h.CodeRec (.ref c) q:=(ok c _ e).1
def qhs (h:Heap) (f:Addr) (params:Arguments) (body:Expr) (scope:Scope) (qual:Str) (c:Addr) (F:List Str) (fvs:List V):Prop:=
 ∃ (pm ctv:Value) (clos:List (Str×Addr)),h.get? f=some (PySem.W.kla_obj "<lambda>" qual params body scope clos pm c ctv) ∧
  (∀ x y d,clos.lookup x=some d->clos.lookup y=some d->x=y) ∧
  (∀ y∈scope.names,y.2 = .free->∃ d,clos.lookup y.1=some d) ∧
  (∀ x d,clos.lookup x=some d->∃ v,h.IsCell d v) ∧
  ∀ (i:Nat) x v,F[i]? = some x->fvs[i]? = some v->∃ d u,clos.lookup x=some d/\h.IsCell d (some u)/\RelV v u
structure LamSc (p:Str) (F:List Str) (sc:Scope):Prop where
 kind:sc.kind = .function
 co:sc.isCoroutine=false
 gen:sc.isGenerator=false
 par:sc.names.lookup p=some .local
 fre:∀ x∈F,sc.names.lookup x=some .free
 nocell:∀ y∈sc.names,y.2≠.cell
def qj0 (CX:CXT) (P:Program) (w:World) (K:PySem.W.Frag) (mg:Str->Option Value) (base:Heap) (N:List Str) (qual:Str) (scope:Scope) (f:Addr) (cd:Value) (clos:List (Str×Addr)) (A:Around) (outer:List Env) (s:Shared) (H:Hp) (E:XK):Cx where
 prog:=P
 w:=w
 K:=K
 mg:=mg
 base:=base
 A:=A.deeper (PySem.W.envX qual scope s.heap.objs.size f cd clos)
 N:=N
 s₀:=s
 H₀:=H
 env:=PySem.W.envX qual scope s.heap.objs.size f cd clos
 outer:=outer
 stack:=PySem.W.envX qual scope s.heap.objs.size f cd clos :: outer
 ex:=[]
 calm:=true
 fn:=fun _=>false
 pn:=[]
 xe:=fun e s'=>wpAny (model P w) (A.deeper (PySem.W.envX qual scope s.heap.objs.size f cd clos)) (leaving (PySem.W.envX qual scope s.heap.objs.size f cd clos) e) (fun _ s''=>CX outer H s E e s'') (fun e' s''=>CX outer H s E e' s'') s'
theorem qjR {CX:CXT} {P:Program} {w:World} {K:PySem.W.Frag} {mg:Str->Option Value} {base:Heap} {p:Str} {F:List Str} {fvs:List V} {qual:Str} {scope:Scope} {f:Addr} {cd:Value} {clos:List (Str×Addr)} {A:Around} {outer:List Env} {s:Shared} {H:Hp} {E:XK}
  {u:Value} {v:V} {h':Heap} {tk:Nat} (S:LamSc p F scope) (hd:A.handled=none) (e0:Env0 P w K mg base A outer s H) (rv:RelV v u) (hl:F.length=fvs.length)
  (inj:∀ x y d,clos.lookup x=some d->clos.lookup y=some d->x=y) (has:∀ y∈scope.names,y.2 = .free->∃ d,clos.lookup y.1=some d) (cel:∀ x d,clos.lookup x=some d->∃ v,base.IsCell d v)
  (vals:∀ (i:Nat) x v,F[i]? = some x->fvs[i]? = some v->∃ d u,clos.lookup x=some d/\base.IsCell d (some u)/\RelV v u)
  (hns:h'.Ns s.heap.objs.size (fun x=>[(p,u)].reverse.lookup x)) (hk:∀ b o,s.heap.get? b=some o->h'.get? b=some o) :
  Inv (qj0 CX P w K mg base (p :: F) qual scope f cd clos A outer s H E) [] (some v :: fvs.map some) H { s with heap:=h',toks:=tk }:=by
 have noA:∀ b:Addr,b ∉ (qj0 CX P w K mg base (p :: F) qual scope f cd clos A outer s H E).ex:=fun b z=>absurd (show b∈([]:List Addr) from z) (by simp)
 have up:∀ {d:Addr} {v:Option Value},base.IsCell d v->h'.IsCell d v:=fun {d v} ⟨o,e,q⟩=>⟨o,hk _ _ (e0.bs _ _ e).1,q⟩
 refine ⟨⟨e0.mod,S.kind,rfl,rfl,Nat.le_refl _,inj,fun y hy=>?_,fun y c hf _=>(by cases (show false=true from hf)),fun _=>hd,Around.frames_deeper e0.frames,.inr ⟨rfl,rfl⟩,fun b z=>absurd z (noA b),e0.bs,e0.bsz,fun b _ _=>noA b,fun b z=>absurd z (noA b),e0.funs,e0.frf⟩,
  rfl,e0.bare,Un.kept hk,⟨_,hns,fun i y x h1 h2 h3=>?_⟩,fun y c h=>?_,e0.hok.fresh (Nat.le_refl _),fun y c h=>?_,fun p hp=>absurd (show p∈([]:List (Addr×Obj)) from hp) (by simp),e0.hok.kept hk,?_⟩
 ·have hy:scope.names.lookup y=some .cell\/scope.names.lookup y=some .free:=hy
  rcases hy with hy | hy
  ·exact absurd rfl (S.nocell _ (PySem.mem_of_lookup hy))
  ·exact has _ (PySem.mem_of_lookup hy) rfl
 ·cases i with
  | zero=>
   cases h1
   cases h2
   exact ⟨u,rv,.inl ⟨S.par,by simp⟩⟩
  | succ i=>
   have h1:F[i]? = some y:=by
    have h1:(p :: F)[i+1]? = some y:=h1
    rw [List.getElem?_cons_succ] at h1
    exact h1
   have h2:fvs[i]? = some x:=by
    rw [List.getElem?_cons_succ,gM_] at h2
    cases q:fvs[i]? with
    | none=>rw [q] at h2;cases h2
    | some z=>rw [q] at h2;cases h2;rfl
   obtain ⟨d,u',e1,e2,e3⟩:=vals i y x h1 h2
   exact ⟨u',e3,.inr ⟨.inr (S.fre y (mO_ h1)),d,e1,up e2⟩⟩
 ·obtain ⟨x,e⟩:=cel y c h
  exact ⟨x,up e⟩
 ·obtain ⟨x,o,e,_⟩:=cel y c h
  exact (e0.bs _ _ e).2
 ·show (some v :: fvs.map some).length=(p :: F).length
  simp [hl]
def qmj (P:Program) (w:World) (K:PySem.W.Frag) (mg:Str->Option Value) (base:Heap) (f:Addr) (k:Nat) (p:Str) (sp:Sp):Prop:=
 ∃ fd,FnOk P w K mg base CX0 k f fd [p] sp/\(∃ oc od sl,base.get? f=some ⟨oc,od,.func fd,sl⟩)/\Binds K fd [p] []
theorem qlz {P:Program} {w:World} {K:PySem.W.Frag} {mg:Str->Option Value} {base:Heap} {f c:Addr} {params:Arguments} {body:Expr} {scope:Scope} {qual p:Str} {F:List Str} {fvs:List V} {k:Nat} {sp:Sp} (L:qhs base f params body scope qual c F fvs) (S:LamSc p F scope)
  (hl:F.length=fvs.length) (hbind:∀ clos pm ctv u,bindArgs (PySem.W.kla_fn "<lambda>" qual params body scope clos pm (.ref c) ctv) ⟨[u],[]⟩=pure [(p,u)]) (len:∀ vs H Q E,sp vs H Q E->vs.length=1)
  (hbody:∀ (clos:List (Str×Addr)) (A:Around) (outer:List Env) (s:Shared) (H:Hp) (v:V) (Q:VK) (E:XK),Room k (A.deeper (PySem.W.envX qual scope s.heap.objs.size f (.ref c) clos))->sp [v] H Q E →
   H c=some (CodeO c qual)/\∃ t,PE (qj0 CX0 P w K mg base (p :: F) qual scope f (.ref c) clos A outer s H E).nox body t/\t (some v :: fvs.map some) H Q):qmj P w K mg base f (k+1) p sp:=by
 obtain ⟨pm,ctv,clos,hf,inj,has,cel,vals⟩:=L
 refine ⟨_,⟨len,fun A outer s H args us vs Q E hr e0 hb r hsp=>?_⟩,⟨_,_,_,hf⟩,.all fun us hl=>?_⟩
 ·have hl1:=len _ _ _ _ hsp
  match vs,hl1 with
  | [v],_=>
   obtain ⟨u,rfl,rv⟩:=qaP r
   have lim:s.heap.NoLimit:=e0.mod.nolimit.keeps fun b o e=>(e0.bs b o e).1
   obtain ⟨hc,t,ht,hq⟩:=hbody clos A outer s H v Q E (hr.deeper _) hsp
   refine PySem.W.kla_callFunE hr.depth (e0.bs _ _ hf).1 rfl S.co S.gen rfl (CodeO.at e0.hok hc) (hb _ _ _ _ ?_)
   refine wpAny_newFunctionEnv S.nocell (fun y hy=>?_) (fun h' hns hsb=>?_) S.kind
   ·have e:y=(p,u):=by simpa using hy
    subst e
    exact S.par
   ·have hk:∀ b o,s.heap.get? b=some o->h'.get? b=some o:=fun b o e=>hsb.extBut b o (Nat.ne_of_lt (Heap.lt_size e)) (Heap.get?_push_of_some _ e)
    refine ⟨lim.keeps hk,PySem.W.kla_codeExpr ?_⟩
    have I:=qjR (CX:=CX0) (E:=E) (f:=f) (cd:=.ref c) (qual:=qual) (tk:=s.toks+([p].zip [u]).length) S hr.hd e0 rv hl inj has cel vals hns hk
    refine wpAny_mono (ht.nox [] _ _ H _ I hq) (fun u' s' hs=>?_) fun e s' hs=>hs
    obtain ⟨v',H',J,rv',q⟩:=hs
    exact ⟨v',H',J.os,J.bare,J.base,J.hok,rv',q⟩
 ·match us,hl with
  | [u],_=>exact hbind clos pm ctv u
section
variable {X:Cx} {p pos:Pos} {e:Expr} {es:List Expr} {t:TA}
def qmr (i:Nat) (f:Addr) (sp:Sp) (t:TA):TE:=fun σ H Q=>σ[i]? = some (some (.ref f))/\t σ H fun vs H1=>sp vs H1 Q E0
theorem qjW (x:Str) (i:Nat) {P':Program} {w':World} {K':PySem.W.Frag} {mg':Str->Option Value} {base':Heap} {f:Addr} {k:Nat} {y:Str} {sp:Sp} (V:qmj P' w' K' mg' base' f k y sp)
  (hX:X.prog=P'/\X.w=w'/\X.K=K'/\X.mg=mg'/\X.base=base') (hr:Room k X.A) (ha:PA X (e :: es) t) (hN:X.N[i]? = some x:=by with_unfolding_all rfl) (hv:qkb X.env.scope x=true:=by kernel_rfl)
  (he:starEach (e :: es) X.env=(false,eval e X.env) :: starEach es X.env:=by kernel_rfl) (hpl:(backTo pos (starEach es X.env)).any (·.1)=false:=by kernel_rfl) :
  PE X (.Call (.Name x p) (e :: es) [] pos) (qmr i f sp t):=by
 obtain ⟨rfl,rfl,rfl,rfl,rfl⟩:=hX
 obtain ⟨fd,F,⟨oc,od,sl,hf⟩,b⟩:=V
 intro pins s σ H Q I h
 obtain ⟨ef,h⟩:=h
 refine wpAny_Call_Name_kw (thn ((vn (X:=X) (pos:=p) x i hN hv) pins s σ H (fun v H'=>v = .ref f/\H'=H) I ?_) fun u s1 ⟨v,H1,I1,r1,q1,q2⟩=>?_)
 ·unfold tV
  rw [ef]
  exact ⟨rfl,rfl⟩
 ·subst q1
  subst q2
  cases r1
  have go:wpAny (model X.prog X.w) X.A (spliced (backTo pos (starEach (e :: es) X.env))) (fun vs s₁=>s₁.heap.get? f=some ⟨oc,od,.func fd,sl⟩/\wpAny (model X.prog X.w) X.A (call (.ref f) vs) (EP X pins σ Q) X.xe s₁) X.xe s1:=
   thn (ha pos pins s1 σ H1 _ I1 h) fun us s2 ⟨vs,H2,I2,r,q⟩=>⟨I2.bk _ _ hf,qhz (dvs:=[]) (E:=E0) F hr b .nil qk8 I2 r (by rw [List.append_nil];exact q)⟩
  rw [he] at go ⊢
  exact PySem.W.callWith_of (P:=fun h=>h.get? f=some ⟨oc,od,.func fd,sl⟩) (first:=[]) (by show ((false || (backTo pos (starEach es X.env)).any (·.1)) || false)=false;rw [hpl];rfl)
   (fun h hh=>⟨.frame,.inl rfl,(PySem.W.Looks.ld (part:=none) hh).andThen .now⟩) (Calls.evalArgs_plain go)
end
end L2
end
section
namespace L2
open PySem PySem.Spec PyProof.Rows
structure Maker (mg:Str->Option Value) (base:Heap) (c P:Addr):Prop where
 bm:∃ bm ob,mg "__builtins__" = some (.ref bm)/\bm≠builtinsNs/\base.get? bm=some ob/\ob.cls = .type "module"/\ob.dict=some builtinsNs/\ob.data = .plain
 hd:PySem.W.CodeHd base c P
def Tab (P:Addr) (pos:Pos) (qual:Str) (H:Hp):Prop:=H P=some (.tbl #[])\/∃ c,H P=some (.tbl #[rawInt pos.line,rawInt pos.col,.ref c])/\H c=some (CodeO c qual)
def SameT (P:Addr) (H H':Hp):Prop:=∀ b o,b≠P->H b=some o->H' b=some o
theorem SameT.refl (P:Addr) (H:Hp):SameT P H H:=fun _ _ _ h=>h
theorem SameT.trans {P:Addr} {H H1 H2:Hp} (a:SameT P H H1) (b:SameT P H1 H2):SameT P H H2:=fun c o n h=>b c o n (a c o n h)
theorem Same.t {P:Addr} {H H':Hp} (a:Same H H'):SameT P H H':=fun c o _ h=>a c o h
theorem Tab.mono {P:Addr} {pos:Pos} {qual:Str} {H H':Hp} (t:Tab P pos qual H) (s:Same H H'):Tab P pos qual H':=by
 rcases t with e | ⟨c,e1,e2⟩
 ·exact .inl (s _ _ e)
 ·exact .inr ⟨c,s _ _ e1,s _ _ e2⟩
theorem qkh {Pg:Program} {w:World} {fs ex:List Addr} {H:Hp} {h h':Heap} {P c:Addr} {ps more:Array Value} {q:Str} (ok:HOk Pg w H h) (e:H P=some (.tbl ps)) (k:∀ b o,b≠P->h.get? b=some o->h'.get? b=some o) (hP:h'.get? P=some (PySem.W.tabObj (ps++more)))
  (hc:h.objs.size<=c):Un fs ex H (upd (upd H P (.tbl (ps++more))) c (CodeO c q)) h h':=by
 have nc:=ok.fresh hc
 have cP:c≠P:=fun z=>by rw [z,e] at nc;cases nc
 have at':∀ b o,b≠P->H b=some o->upd (upd H P (.tbl (ps++more))) c (CodeO c q) b=some o:=fun b o n g=>by
  rw [qac (qab g nc),qac n]
  exact g
 have un:∀ b,H b=none->b≠P:=fun b n z=>by rw [z,e] at n;cases n
 refine ⟨fun b o g n _ _=>k b o (un b n) g,fun b o g n _ _=>⟨o.slots,k b o (un b n) g⟩,fun b o g n _=>?_,fun b o g _=>?_,fun b xs g=>at' b _ (fun z=>by rw [z,e] at g;cases g) g,fun b o u g=>at' b _ (fun z=>by rw [z,e] at g;cases g) g,fun b qs g=>?_⟩
 ·rw [qac (Nat.ne_of_lt (Nat.lt_of_lt_of_le (Heap.lt_size g) hc)),qac (un b n)]
  exact n
 ·by_cases z:b=P
  ·rw [z];exact ⟨_,hP⟩
  ·exact ⟨o,k b o z g⟩
 ·by_cases z:b=P
  ·subst z
   rw [e] at g
   cases g
   exact ⟨more,by rw [qac (Ne.symm cP),qaa]⟩
  ·exact ⟨#[],by rw [at' b _ z g];simp⟩
theorem qib {Pg:Program} {w:World} {H:Hp} {h h':Heap} {P c:Addr} {ps more:Array Value} {q:Str} (ok:HOk Pg w H h) (e:H P=some (.tbl ps)) (k:∀ b o,b≠P->h.get? b=some o->h'.get? b=some o) (hP:h'.get? P=some (PySem.W.tabObj (ps++more)))
  (hc:h.objs.size<=c) (rec:h'.CodeRec (.ref c) q):HOk Pg w (upd (upd H P (.tbl (ps++more))) c (CodeO c q)) h':=by
 have nc:=ok.fresh hc
 have cP:c≠P:=fun z=>by rw [z,e] at nc;cases nc
 have at':∀ b o,b≠P->H b=some o->upd (upd H P (.tbl (ps++more))) c (CodeO c q) b=some o:=fun b o n g=>by
  rw [qac (qab g nc),qac n]
  exact g
 intro a o g
 by_cases z:a=c
 ·subst z
  rw [qaa] at g
  cases g
  exact CodeO.mk rec
 ·rw [qac z] at g
  by_cases y:a=P
  ·subst y
   rw [qaa] at g
   cases g
   exact hP
  ·rw [qac y] at g
   refine (ok a o g).stay (fun b u hb r=>k b u ?_ r) (fun b r=>at' b _ (fun z=>by rw [z,e] at r;cases r) r) fun b xs r=>at' b _ (fun z=>by rw [z,e] at r;cases r) r
   rintro rfl
   rcases hb with rfl | hb
   ·exact y rfl
   ·rw [e] at hb;cases hb
section
variable {X:Cx} {pins:List (Addr×Obj)} {σ:St} {H:Hp} {s:Shared}
theorem qhd {params:Arguments} {body:Expr} {scope:Scope} {pos:Pos} {c P:Addr} {Q:Value->Shared->Prop} (I:Inv X pins σ H s) (M:Maker X.mg X.base c P) (hcd:X.env.code = .ref c) (hdef:defaultsOf params X.env=([],[]))
  (tb:Tab P pos (X.env.qual++"<lambda>") H) (hfr:∀ y∈scope.names,y.2 = .free->∃ d,X.env.cells.lookup y.1=some d)
  (h:∀ (f c':Addr) (clos:List (Str×Addr)) (pm ctv:Value) (H2:Hp) (s2:Shared),Inv X pins σ H2 s2->SameT P H H2->H2 P=some (.tbl #[rawInt pos.line,rawInt pos.col,.ref c'])->H2 c'=some (CodeO c' (X.env.qual++"<lambda>"))->H2 f=none →
   s2.heap.get? f=some (PySem.W.kla_obj "<lambda>" (X.env.qual++"<lambda>") params body scope clos pm c' ctv)->s.heap.objs.size<=f->(∀ x d,clos.lookup x=some d->X.env.cells.lookup x=some d)->(∀ y∈scope.names,y.2 = .free->∃ d,clos.lookup y.1=some d)->Q (.ref f) s2) :
  wpAny (model X.prog X.w) X.A (eval (.Lambda params body scope pos) X.env) Q X.xe s:=by
 refine PySem.W.kla_eval hdef ?_
 obtain ⟨clos,hcl,hc1,hc2⟩:=qa8 hfr
 have hgs:=I.mod.glob.keeps I.bk
 obtain ⟨bm,ob,b1,b2,b3,b4,b5,b6⟩:=M.bm
 have hbm:=I.bk _ _ b3
 have hbG:bm≠mainGlobals:=fun q=>by
  obtain ⟨o,es,ep,e,hd,_⟩:=hgs
  rw [q,e] at hbm;cases hbm;rw [hd] at b6;cases b6
 have side:∀ {ps:Array Value},s.heap.get? P=some (PySem.W.tabObj ps)->mainGlobals≠P/\s.heap.BuiltinsAt X.mg P:=fun {ps} hP=>by
  refine ⟨fun q=>?_,bm,ob,b1,b2,hbG,fun q=>?_,hbm,b4,b5,b6⟩
  ·obtain ⟨o,es,ep,e,hd,_⟩:=hgs
   rw [q,hP] at e;cases e;cases hd
  ·rw [q,hP] at hbm;cases hbm;cases b4
 rcases tb with e | ⟨c',e1,e2⟩
 ·have hP:s.heap.get? P=some (PySem.W.tabObj #[]):=I.hok P _ e
  obtain ⟨g1,g2⟩:=side hP
  refine PySem.W.kla_makeFunction (mg:=X.mg) hcl I.ok.glob hgs hcd (M.hd.keeps I.bk) hP trivial rfl g1 g2 fun c' ctv h' tk hx hge hlt hrec htb=>?_
  have k:∀ (o:Obj) b u,b≠P->s.heap.get? b=some u->(h'.push o).get? b=some u:=fun o b u n g=>Heap.get?_push_of_some _ (hx b u n g)
  have hf:s.heap.objs.size<=h'.objs.size:=Nat.le_of_lt (Nat.lt_of_le_of_lt hge hlt)
  have nf:=I.hok.fresh hf
  have cP:c'≠P:=fun z=>by have:=I.hok.fresh hge;rw [z,e] at this;cases this
  have J:=I.un (t':=tk) (qkh (fs:=X.fs) (ex:=[]) (more:=#[rawInt pos.line,rawInt pos.col,.ref c']) (q:=X.env.qual++"<lambda>") I.hok e (k _) (Heap.get?_push_of_some (PySem.W.kla_obj "<lambda>" (X.env.qual++"<lambda>") params body scope clos ((X.mg "__name__").getD .none) c' ctv) htb) hge)
   (qib I.hok e (k _) (Heap.get?_push_of_some _ htb) hge (hrec.push _))
  refine h h'.objs.size c' clos _ ctv _ _ J (fun b o n g=>?_) ?_ qaa ?_ (Heap.get?_push_size _ rfl) hf hc1 hc2
  ·rw [qac (qab g (I.hok.fresh hge)),qac n]
   exact g
  ·rw [qac (Ne.symm cP),qaa]
   simp
  ·rw [qac (Nat.ne_of_gt hlt),qac (fun z=>by rw [z,e] at nf;cases nf)]
   exact nf
 ·have hP:s.heap.get? P=some (PySem.W.tabObj #[rawInt pos.line,rawInt pos.col,.ref c']):=I.hok P _ e1
  obtain ⟨g1,g2⟩:=side hP
  refine PySem.W.kla_makeFunctionHit (mg:=X.mg) hcl I.ok.glob hgs hcd (M.hd.keeps I.bk) hP (TriplesOk_snoc _ _ _ [] trivial) (codeAmong_snoc [] trivial rfl) g2 fun ctv h' tk hk hsz=>?_
  have J:=I.kept (t':=tk) (h':=h'.push (PySem.W.kla_obj "<lambda>" (X.env.qual++"<lambda>") params body scope clos ((X.mg "__name__").getD .none) c' ctv)) fun b u g=>Heap.get?_push_of_some _ (hk b u g)
  exact h h'.objs.size c' clos _ ctv H _ J (SameT.refl _ _) e1 e2 (I.hok.fresh hsz) (Heap.get?_push_size _ rfl) hsz hc1 hc2
def qdf (X:Cx) (h:Heap) (H:Hp):Heap:=PySem.W.hideAll h (trk h H++frs X.stack)
theorem qbH {h:Heap} {b:Addr} {o:Obj} (e:h.get? b=some o) (n:H b=none) (f:b ∉ frs X.stack):(qdf X h H).get? b=some o:=
 PySem.W.hideAll_get _ e fun hm=>by
  rcases mA_ hm with hm | hm
  ·have q:(H b).isSome=true:=(List.mem_filter.mp hm).2
   rw [n] at q;simp at q
  ·exact f hm
theorem qd6 {h:Heap} {b:Addr} {o:Obj} (e:(qdf X h H).get? b=some o):h.get? b=some o/\H b=none/\b ∉ frs X.stack:=by
 have e':h.get? b=some o:=PySem.W.of_hideAll _ e
 have nm:b ∉ trk h H++frs X.stack:=fun hm=>by rw [show (qdf X h H).get? b=none from PySem.W.hideAll_none _ hm] at e;cases e
 refine ⟨e',?_,fun z=>nm (List.mem_append_right _ z)⟩
 cases q:H b with
 | none=>rfl
 | some x=>exact absurd (List.mem_append_left _ (List.mem_filter.mpr ⟨List.mem_range.mpr (Heap.lt_size e'),by simp [q]⟩)) nm
theorem Inv.nostk (I:Inv X pins σ H s) {b:Addr} {o:Obj} (e:X.base.get? b=some o):b ∉ frs X.stack:=fun hb=>by
 have:=(I.stack.mem hb).1
 rw [e] at this;cases this
theorem Inv.wide (I:Inv X pins σ H s):(∀ b o,X.base.get? b=some o->(qdf X s.heap H).get? b=some o):=fun b o e=>qbH (I.bs b o e).1 (I.bs b o e).2 (I.nostk e)
theorem qba {h base base':Heap}:∀ {l:List Env},h.FunFrames base l->(∀ b∈frs l,base'.get? b=none)->h.FunFrames base' l
 | [],_,_=>trivial
 | env :: r,⟨hk,⟨L,o,hf,hn,ho,hd⟩,hr⟩,k=>by
  have hL:L∈frs (env :: r):=by unfold frs;rw [List.filterMap_cons,hf];exact List.mem_cons_self
  exact ⟨hk,⟨L,o,hf,k L hL,ho,hd⟩,qba hr fun b hb=>k b (by unfold frs;rw [List.filterMap_cons,hf];exact mC_ _ hb)⟩
theorem Mod.keeps {K:PySem.W.Frag} {mg:Str->Option Value} {base base':Heap} (M:Mod K mg base) (k:∀ b o,base.get? b=some o->base'.get? b=some o):Mod K mg base':=
 ⟨M.kin.keeps k,M.glob.keeps k,let ⟨mb,a,b⟩:=M.blt;⟨mb,a.keeps k,b⟩,M.nolimit.keeps k⟩
theorem Inv.env1 (I:Inv X pins σ H s):Env0 X.prog X.w X.K X.mg (qdf X s.heap H) X.A X.stack s H:=
 ⟨I.ok.frames,I.mod.keeps I.wide,fun b o e=>⟨(qd6 e).1,(qd6 e).2.1⟩,Nat.le_of_eq (PySem.W.hideAll_size _ _),qba I.stack fun b hb=>PySem.W.hideAll_none _ (List.mem_append_right _ hb),I.stkFree,I.hok,I.bare⟩
end
section
variable {X:Cx} {p pos lp:Pos} {a:Expr} {ta:TE}
def qnE (P:Addr) (lp:Pos) (qual:Str) (js:List Nat) (sp:Addr->Addr->List V->Sp) (ta:TE):TE:=fun σ H Q=>ta σ H fun x H1=>Tab P lp qual H1/\∃ fvs:List V,js.map (fun j=>σ[j]?)=fvs.map (fun v=>some (some v)) ∧
 ∀ f c H2,SameT P H1 H2->H2 P=some (.tbl #[rawInt lp.line,rawInt lp.col,.ref c])->H2 c=some (CodeO c qual)->H2 f=none->sp f c fvs [x,.ref f] H2 Q E0
theorem qf3 (x:Str) {params:Arguments} {body:Expr} {scope:Scope} {c P:Addr} {F:List Str} {js:List Nat} {k:Nat} {ps:List Str} {sp:Addr->Addr->List V->Sp} (hm:∃ f,X.mg x=some (.ref f)/\PySem.W.keepIn X.K (.ref f)=true) (M:Maker X.mg X.base c P) (hcd:X.env.code = .ref c)
  (hF:∀ (i:Nat) y,F[i]? = some y->∃ j,js[i]? = some j/\X.N[j]? = some y/\X.env.scope.names.lookup y=some .cell) (hFn:F.length=js.length) (hFs:∀ y∈F,scope.names.lookup y=some .free) (hfn:∀ y,X.fn y=true) (hfree:∀ y∈scope.names,y.2 = .free->X.env.scope.names.lookup y.1=some .cell)
  (hC:∀ (B:Heap) (f c':Addr) (fvs:List V),Mod X.K X.mg B->(∀ b o,X.base.get? b=some o->B.get? b=some o)->F.length=fvs.length->qhs B f params body scope (X.env.qual++"<lambda>") c' F fvs->Can X.prog X.w X.K X.mg B x k ps (sp f c' fvs))
  (hr:Room k X.A) (ha:PE X a ta) (hg:gB X x=true) (hdef:defaultsOf params X.env=([],[])) (hdb:(x == ("__debug__" : Str))=false)
  (he:starEach [a,.Lambda params body scope lp] X.env=[(false,eval a X.env),(false,eval (.Lambda params body scope lp) X.env)]) :
  PE X (.Call (.Name x p) [a,.Lambda params body scope lp] [] pos) (qnE P lp (X.env.qual++"<lambda>") js sp ta):=by
 obtain ⟨tf,hm,hk⟩:=hm
 intro pins s σ H Q I h
 refine wpAny_Call_Name_kw (qdz I (qaD hg) hm ?_ hdb)
 have go:wpAny (model X.prog X.w) X.A (spliced (backTo pos (starEach [a,.Lambda params body scope lp] X.env))) (fun vs s₁=>X.K.In s₁.heap/\wpAny (model X.prog X.w) X.A (call (.ref tf) vs) (EP X pins σ Q) X.xe s₁) X.xe s:=by
  rw [he]
  refine Calls.spliced_cons (thn (ha pins s σ H _ I h) fun u s1 ⟨v,H1,I1,r1,q1⟩=>?_)
  obtain ⟨tb,fvs,hv,q⟩:=q1
  refine Calls.spliced_cons (qhd I1 M hcd hdef tb (fun y hy hz=>I1.ok.has _ (.inl (hfree y hy hz))) fun f c' clos pm ctv H2 s2 I2 sm e1 e2 nf hf hge cl1 cl2=>Calls.spliced_nil ⟨I2.kIn,?_⟩)
  have ls:F.length=fvs.length:=by
   have:=congrArg List.length hv
   rw [lM_,lM_] at this
   omega
  have nst:f ∉ frs X.stack:=fun hb=>by
   obtain ⟨_,o,ho,_⟩:=I1.stack.mem hb
   exact absurd (Heap.lt_size ho) (Nat.not_lt.mpr hge)
  have cellB:∀ {y:Str} {d:Addr} {z:Option Value},X.env.cells.lookup y=some d->s2.heap.IsCell d z->(qdf X s2.heap H2).IsCell d z:=fun {y d z} hd ⟨o,eo,od⟩=>by
   refine ⟨o,qbH eo (I2.freeC y d hd) fun hb=>?_,od⟩
   rcases List.mem_cons.mp (I2.stkSub d hb) with z1 | z1
   ·exact I2.cne y d hd z1
   ·obtain ⟨_,o',ho',_⟩:=I2.ok.funs.mem z1
    exact absurd (Heap.lt_size ho') (Nat.not_lt.mpr (I2.ok.cab y d (hfn y) hd))
  have L:qhs (qdf X s2.heap H2) f params body scope (X.env.qual++"<lambda>") c' F fvs:=by
   refine ⟨pm,ctv,clos,qbH hf nf nst,fun y z d h1 h2=>I2.ok.inj y z d (cl1 y d h1) (cl1 z d h2),cl2,fun y d hd=>?_,fun i y v' hi hv'=>?_⟩
   ·obtain ⟨z,hz⟩:=I2.cell y d (cl1 y d hd)
    exact ⟨z,cellB (cl1 y d hd) hz⟩
   ·obtain ⟨j,hj,hN,hc⟩:=hF i y hi
    have ej:σ[j]? = some (some v'):=by
     have:=congrArg (·[i]?) hv
     simp only [gM_,hj,hv',Option.map_some] at this
     exact oI_ this
    obtain ⟨m,_,hloc⟩:=I2.loc
    obtain ⟨u',ru,lk⟩:=hloc j y v' hN ej (.inr (.inl hc))
    rcases lk with ⟨k1,_⟩ | ⟨_,d,hd,hcell⟩
    ·have k1:X.env.scope.names.lookup y=some .local:=k1
     rw [hc] at k1;cases k1
    ·obtain ⟨d',hd'⟩:=cl2 (y,.free) (PySem.mem_of_lookup (hFs y (mO_ hi))) rfl
     have:=cl1 y d' hd'
     rw [hd] at this
     cases this
     exact ⟨d,u',hd',cellB hd hcell,ru⟩
  obtain ⟨f',fd,Fk,hm',hk',hb⟩:=hC _ f c' fvs I2.env1.mod I2.wide ls L
  rw [hm] at hm'
  cases hm'
  have r2:Vals [v,.ref f] [u,.ref f]:=.cons r1 (.cons rfl .nil)
  have hq:=q f c' H2 sm e1 e2 nf
  have hl:([u,Value.ref f]++[]).length=ps.length:=by rw [List.append_nil,<-r2.length];exact Fk.len _ _ _ _ hq
  refine wpAny_call (codeAny_mono (Fk.run X.A X.stack s2 H2 ⟨[u,.ref f],[]⟩ ([u,.ref f]++[]) [v,.ref f] Q E0 hr I2.env1 (hb s2 _ I2.kIn hl) (by rw [List.append_nil];exact r2) hq) fun r s' hq=>?_)
  cases r with
  | error e=>exact hq.elim
  | ok fl=>
   cases fl with
   | ret u=>exact I2.after hq
   | next=>exact False.elim hq
   | brk=>exact False.elim hq
   | cont=>exact False.elim hq
 rw [he] at go ⊢
 exact PySem.W.callWith_of (P:=fun h=>X.K.In h) (first:=[]) rfl (PySem.W.keeps_K hk) (Calls.evalArgs_plain go)
end
end L2
end
section
namespace Om
section
variable {α:Type} [DecidableEq α]
end
end Om
namespace L2
open PySem PySem.Spec PyProof.Rows
section
variable {prog:Program} {w:World} {A:Around} {I:Addr} {fp wr:List Addr} {G:Array GenState->Array GenState->Prop} {n:Nat} {P:Nat->Value->Prop} {St:Nat->Shared->Prop} {κ:Type} [DecidableEq κ] {knd:KeyKind prog w κ}
end
section
variable {X:Cx} {p pos:Pos} {e:Expr} {es:List Expr} {t:TA}
end
end L2
end
section
namespace Om
section
variable {ts:List Int} {g:Nat} {f:Nat->Bool}
end
end Om
end
section
namespace L2
open PySem PySem.Spec PyProof.Rows
section
variable {X:Cx} {p pos:Pos} {a b e:Expr} {es:List Expr} {t:TA}
def qkr (i:Nat) (te:TE):TS:=fun D σ H=>match σ[i]? with
 | some (some (.int a))=>te σ H fun y H1=>match y with
  | .int b=>D.nx (σ.set i (some (.int (a+b)))) H1
  | _=>False
 | _=>False
theorem qmy (y:Str) (i:Nat) {te:TE} {py:Pos} (hN:X.N.Nodup) (he:PE X e te) (hi:X.N[i]? = some y:=by with_unfolding_all rfl) (hx:qjJ X.env.scope y=true:=by kernel_rfl)
  (hf:(X.fn y || X.env.scope.names.lookup y == some .local)=true:=by kernel_rfl):PS X (.AugAssign (.Name y py) .Add e pos) (qkr i te):=by
 have h:=qkP (pos:=pos) (pos':=py) hN hi (qea hx) he (qlK (X:=X)) (by
  rw [Bool.or_eq_true] at hf
  exact hf.elim .inl fun z=>.inr (eq_of_beq z))
 intro pins s σ H D I q
 refine h pins s σ H D I ?_
 unfold qkr at q
 split at q
 ·rename_i a ea
  have q2:te σ H fun y H1=>ipI (fun i j=>i+j) (.int a) y H1 fun z H2=>D.nx (σ.set i (some z)) H2:=by
   have e:(fun (y:V) (H1:Hp)=>match y with
    | .int b=>D.nx (σ.set i (some (.int (a+b)))) H1
    | _=>False)=fun y H1=>ipI (fun i j=>i+j) (.int a) y H1 fun z H2=>D.nx (σ.set i (some z)) H2:=by
    funext y H1
    apply propext
    unfold ipI
    constructor
    ·intro z
     split at z
     ·exact ⟨_,_,rfl,rfl,z⟩
     ·exact z.elim
    ·rintro ⟨i',j',e1,e2,z⟩
     cases e1
     cases e2
     exact z
   rw [e] at q
   exact q
  exact ⟨_,ea,q2⟩
 ·exact q.elim
end
end L2
namespace Om
end Om
end
section
namespace Om
inductive Rch (nx:Nat->List Nat):Nat->Prop
 | z:Rch nx 0
 | s {a b:Nat}:Rch nx a->b∈nx a->Rch nx b
theorem rch_in {nx:Nat->List Nat} {qs:List Nat} (h0:0∈qs) (hc:∀ a∈qs,∀ b∈nx a,b∈qs):∀ s,Rch nx s->s∈qs:=fun s h=>by
 induction h with
 | z=>exact h0
 | s _ hb ih=>exact hc _ ih _ hb
theorem nodup_len:∀ (m:Nat) (qs:List Nat),qs.Nodup->(∀ s∈qs,s < m)->qs.length<=m
 | 0,[],_,_=>Nat.le_refl _
 | 0,q :: _,_,h=>absurd (h q List.mem_cons_self) (Nat.not_lt_zero _)
 | m+1,qs,nd,h=>by
  have ih:=nodup_len m (qs.erase m) (nd.erase m) fun s hs=>by
   have h1:=(nd.mem_erase_iff.mp hs)
   have h2:=h s h1.2
   have h3:=h1.1
   omega
  rw [List.length_erase] at ih
  split at ih<;>omega
theorem qkC {nx:Nat->List Nat} {m:Nat} (h0:0 < m) (h:∀ a,a < m->∀ b∈nx a,b < m):∀ s,Rch nx s->s < m:=fun s q=>by
 induction q with
 | z=>exact h0
 | s _ hb ih=>exact h _ ih _ hb
def nxR (rows:Rows) (s:Nat):List Nat:=(rows.getD s []).map (·.2)
end Om
namespace L2
open PySem PySem.Spec PyProof.Rows
theorem qaO {H:Hp} {a b:Addr} {o:HO} (h:upd H a o b=none):b≠a/\H b=none:=by
 by_cases e:b=a
 ·rw [e,qaa] at h;cases h
 ·rw [qac e] at h;exact ⟨e,h⟩
def qmh (H:Hp) (ps:List V) (ts:List Nat):Prop:=ps.length=ts.length/\∀ (i t:Nat),ts[i]? = some t->∃ q,ps[i]? = some (.ref q)/\H q=some (.tup [.int (i:Nat),.int (t:Nat)])
def nk (s:Nat):Key:=Sum.inl (s:Int)
theorem qa9 {a b:Nat} (h:nk a=nk b):a=b:=by
 have:(a:Int)=(b:Int):=Sum.inl.inj h
 omega
theorem qaY {s:Nat}:∀ {kvs:List (Key×V)} {qs:List Nat},kvs.map (·.1)=qs.map nk->(qaL kvs (nk s)).isSome=decide (s∈qs)
 | [],[],_=>by simp [qaL]
 | [],_ :: _,h=>nomatch h
 | _ :: _,[],h=>nomatch h
 | kv :: kvs,q :: qs,h=>by
  rw [List.map_cons,List.map_cons,List.cons.injEq] at h
  by_cases e:q=s
  ·subst e
   rw [qas h.1]
   simp
  ·rw [qat (fun z=>e (qa9 (h.1.symm.trans z))),qaY h.2]
   have:¬ s=q:=fun z=>e z.symm
   simp [this]
structure Tq (H0 H:Hp) (D Q:Addr) (kvs:List (Key×V)) (qs:List Nat) (c:Nat):Prop where
 s:Same H0 H
 nD:H0 D=none
 nQ:H0 Q=none
 hD:H D=some (.dK kvs)
 hQ:H Q=some (.lst (qs.map fun s=>V.int (s:Nat)))
 ks:kvs.map (·.1)=qs.map nk
 vl:∀ s∈qs,∃ t zs,qaL kvs (nk s)=some (.ref t)/\H t=some (.lst zs)/\zs.length<=c/\t≠Q
 nd:qs.Nodup
section
variable {H0 H H1:Hp} {D Q:Addr} {kvs:List (Key×V)} {qs:List Nat} {c:Nat}
theorem Tq.mono (g:Tq H0 H D Q kvs qs c) (s:Same H H1):Tq H0 H1 D Q kvs qs c:=
 ⟨g.s.trans s,g.nD,g.nQ,s _ _ g.hD,s _ _ g.hQ,g.ks,fun x hx=>let ⟨t,zs,a,b,r⟩:=g.vl x hx;⟨t,zs,a,s _ _ b,r⟩,g.nd⟩
theorem Tq.le {c':Nat} (g:Tq H0 H D Q kvs qs c) (h:c<=c'):Tq H0 H D Q kvs qs c':=
 ⟨g.s,g.nD,g.nQ,g.hD,g.hQ,g.ks,fun x hx=>let ⟨t,zs,a,b,d,e⟩:=g.vl x hx;⟨t,zs,a,b,Nat.le_trans d h,e⟩,g.nd⟩
theorem Tq.klen (g:Tq H0 H D Q kvs qs c):kvs.length=qs.length:=by
 have:=congrArg List.length g.ks
 rwa [lM_,lM_] at this
theorem Tq.has (g:Tq H0 H D Q kvs qs c) (s:Nat):(qaL kvs (nk s)).isSome=decide (s∈qs):=qaY g.ks
theorem Tq.start {Z:Addr} (hD:H D=none) (hZ:upd H D (.dK []) Z=none) (hQ:upd (upd (upd H D (.dK [])) Z (.lst [])) D (.dK [(nk 0,.ref Z)]) Q=none) :
  Tq H (upd (upd (upd (upd H D (.dK [])) Z (.lst [])) D (.dK [(nk 0,.ref Z)])) Q (.lst [.int 0])) D Q [(nk 0,.ref Z)] [0] 0:=by
 obtain ⟨QD,q1⟩:=qaO hQ
 obtain ⟨QZ,q2⟩:=qaO q1
 obtain ⟨_,q3⟩:=qaO q2
 obtain ⟨ZD,z1⟩:=qaO hZ
 refine ⟨fun b o e=>?_,hD,q3,by rw [qac (Ne.symm QD),qaa],qaa,rfl,fun s hs=>?_,by simp⟩
 ·rw [qac (qab e q3),qac (qab e hD),qac (qab e z1),qac (qab e hD)]
  exact e
 ·have:s=0:=by simpa using hs
  subst this
  exact ⟨Z,[],qas rfl,by rw [qac (Ne.symm QZ),qac ZD,qaa],Nat.le_refl _,Ne.symm QZ⟩
theorem Tq.put_at {b u:Addr} {o:HO} {t:Nat} {ys:List V} (h:H b=some o) (bD:b≠D) (bQ:b≠Q):upd (upd H D (.dK (qaN kvs (nk t) (.ref u)))) Q (.lst ys) b=some o:=by
 rw [qac bQ,qac bD];exact h
theorem Tq.put (g:Tq H0 H D Q kvs qs c) {u:Addr} {zs:List V} {t:Nat} (nt:t ∉ qs) (hu:H u=some (.lst zs)) (uQ:u≠Q) (hz:zs.length<=c) :
  Tq H0 (upd (upd H D (.dK (qaN kvs (nk t) (.ref u)))) Q (.lst ((qs.map fun s=>V.int (s:Nat))++[.int (t:Nat)]))) D Q (qaN kvs (nk t) (.ref u)) (qs++[t]) c:=by
 have DQ:D≠Q:=qaj g.hD g.hQ (fun z=>nomatch z)
 have vn:qaL kvs (nk t)=none:=by
  have:=g.has t
  rw [decide_eq_false nt] at this
  cases e:qaL kvs (nk t) with
  | none=>rfl
  | some v=>rw [e] at this;cases this
 have lk:∀ {b:Addr} {ys:List V},H b=some (.lst ys)->b≠Q->upd (upd H D (.dK (qaN kvs (nk t) (.ref u)))) Q (.lst ((qs.map fun s=>V.int (s:Nat))++[.int (t:Nat)])) b=some (.lst ys):=fun {b ys} h n=>by
  rw [qac n,qac (qaj h g.hD (fun z=>nomatch z))]
  exact h
 refine ⟨fun b o e=>?_,g.nD,g.nQ,by rw [qac DQ,qaa],by rw [qaa,List.map_append];rfl,?_,fun x hx=>?_,?_⟩
 ·rw [qac (qab e g.nQ),qac (qab e g.nD)]
  exact g.s _ _ e
 ·rw [qd1 _ vn,List.map_append,List.map_append,g.ks]
  rfl
 ·by_cases e:x=t
  ·subst e
   exact ⟨u,zs,by rw [qaz,if_pos rfl],lk hu uQ,hz,uQ⟩
  ·obtain ⟨t',ys,a,b,d,f⟩:=g.vl x ((mA_ hx).resolve_right (fun z=>e (by simpa using z)))
   exact ⟨t',ys,by rw [qaz,if_neg (fun z=>e (qa9 z))];exact a,lk b f,d,f⟩
 ·rw [List.nodup_append]
  refine ⟨g.nd,by simp,fun a ha b hb z=>?_⟩
  have:b=t:=by simpa using hb
  subst this
  subst z
  exact nt ha
end
end L2
end
section
namespace Om
theorem pow8 {k:Nat} (h:k<=3):2 ^ k<=8:=by
 have:k=0\/k=1\/k=2\/k=3:=by omega
 rcases this with rfl | rfl | rfl | rfl<;>decide
theorem nx_ok {k n:Nat} {rows:Rows} (ok:CodeOk k n rows) {s:Nat} (hs:s < rows.length):(nxR rows s).length<=8/\∀ t∈nxR rows s,t < rows.length:=by
 have e:rows.getD s []=rows[s]:=by rw [List.getD_eq_getElem?_getD,gE_ hs];rfl
 unfold nxR
 rw [e]
 refine ⟨by rw [lM_,ok.len _ (List.getElem_mem hs)];exact pow8 ok.k3,fun t ht=>?_⟩
 obtain ⟨r,hr,rfl⟩:=mM_ ht
 exact (ok.row _ (List.getElem_mem hs) r hr).2
theorem rch_ok {k n:Nat} {rows:Rows} (ok:CodeOk k n rows):∀ s,Rch (nxR rows) s->s < rows.length:=qkC ok.s1 fun a ha=>(nx_ok ok ha).2
theorem perm_nats {qs:List Nat} {ns:List Int} (h:ns.Perm (qs.map fun s=>((s:Nat):Int))):∃ qs':List Nat,ns=qs'.map (fun s=>((s:Nat):Int))/\qs'.Perm qs:=by
 have e:ns=(ns.map Int.toNat).map fun s=>((s:Nat):Int):=by
  have all:∀ x∈ns,((x.toNat:Nat):Int)=x:=fun x hx=>by
   obtain ⟨s,_,rfl⟩:=mM_ (h.mem_iff.mp hx)
   simp
  rw [List.map_map]
  conv=>lhs;rw [<-List.map_id ns]
  exact List.map_congr_left fun x hx=>(all x hx).symm
 refine ⟨ns.map Int.toNat,e,?_⟩
 have:=h.map Int.toNat
 rw [List.map_map] at this
 have z:(Int.toNat ∘ fun s=>((s:Nat):Int))=id:=by funext s;simp
 rwa [z,List.map_id] at this
theorem lt_of_le:∀ {qs:List Nat},qs.Nodup->(qs.map fun s=>((s:Nat):Int)).Pairwise (·<=·)->qs.Pairwise (· < ·)
 | [],_,_=>.nil
 | q :: qs,nd,h=>by
  rw [List.map_cons,List.pairwise_cons] at h
  rw [List.nodup_cons] at nd
  refine .cons (fun s hs=>?_) (lt_of_le nd.2 h.2)
  have h1:=h.1 _ (List.mem_map_of_mem (f:=fun s=>((s:Nat):Int)) hs)
  have h2:q≠s:=fun z=>nd.1 (z ▸ hs)
  have h1:(q:Int)<=(s:Int):=h1
  omega
end Om
namespace L2
open PySem PySem.Spec PyProof.Rows
def qjM (e:Expr):Arguments:=match e with
 | .Lambda a _ _ _=>a
 | _=>{ posonlyargs:=[],args:=[],vararg:=none,kwonlyargs:=[],kw_defaults:=[],kwarg:=none,defaults:=[] }
def qjL (e:Expr):Expr:=match e with
 | .Lambda _ b _ _=>b
 | _=>e
def qeb (e:Expr):Scope:=match e with
 | .Lambda _ _ sc _=>sc
 | _=>{ kind:=.function,names:=[],isGenerator:=false,isCoroutine:=false }
def qan (e:Expr):Pos:=match e with
 | .Lambda _ _ _ p=>p
 | _=>⟨0,0,0,0⟩
def qj2 (i:Nat) (e:Expr):Expr:=match e with
 | .Call _ as _ _=>as.getD i e
 | _=>e
def qnJ (d:Expr) (s:Stmt):Expr:=match s with
 | .Return (some e) _=>e
 | _=>d
def wo1 (P:Addr) (H:Hp):Hp:=fun b=>if b=P then none else H b
theorem wo1.at {P b:Addr} {H:Hp} {o:HO} (h:H b=some o) (n:b≠P):wo1 P H b=some o:=by unfold wo1;rw [if_neg n];exact h
theorem wo1.same {P:Addr} {H H':Hp} (s:SameT P H H'):Same (wo1 P H) H':=fun b o e=>by
 unfold wo1 at e
 split at e
 ·cases e
 ·rename_i n
  exact s b o n e
mutual
theorem DV.wo1 {H:Hp} {P:Addr} {ps:Array Value} (hP:H P=some (.tbl ps)):∀ {v:V} {d:PyData},DV H v d->DV (wo1 P H) v d
 | _,_,.non=>.non
 | _,_,.bl b=>.bl b
 | _,_,.int i=>.int i
 | _,_,.str x=>.str x
 | _,_,.lst h r=>.lst (wo1.at h (qaj h hP (fun z=>nomatch z))) (DVs.wo1 hP r)
 | _,_,.tup h r=>.tup (wo1.at h (qaj h hP (fun z=>nomatch z))) (DVs.wo1 hP r)
 | _,_,.dic h=>.dic (wo1.at h (qaj h hP (fun z=>nomatch z)))
theorem DVs.wo1 {H:Hp} {P:Addr} {ps:Array Value} (hP:H P=some (.tbl ps)):∀ {vs:List V} {ds:List PyData},DVs H vs ds->DVs (wo1 P H) vs ds
 | _,_,.nil=>.nil
 | _,_,.cons h r=>.cons (DV.wo1 hP h) (DVs.wo1 hP r)
end
theorem Tab.tbl {P:Addr} {pos:Pos} {qual:Str} {H:Hp} (t:Tab P pos qual H):∃ ps,H P=some (.tbl ps):=by
 rcases t with e | ⟨c,e,_⟩
 ·exact ⟨_,e⟩
 ·exact ⟨_,e⟩
theorem DV.monoT {H H':Hp} {P:Addr} {pos:Pos} {qual:Str} {v:V} {d:PyData} (h:DV H v d) (t:Tab P pos qual H) (s:SameT P H H'):DV H' v d:=
 let ⟨_,e⟩:=t.tbl
 (h.wo1 e).mono (wo1.same s)
theorem SameT.free {P:Addr} {H H':Hp} {l:Addr} (s:SameT P H H') (h:H' l=none) (n:l≠P):H l=none:=by
 cases q:H l with
 | none=>rfl
 | some o=>rw [s l o n q] at h;cases h
def FnC (K:PySem.W.Frag) (mg:Str->Option Value) (x:Str) (st:Stmt) (ps:List Str) (c:Addr):Prop:=∃ (f:Addr) (oc:Value) (od:Option Addr) (kV doc pm:Value) (an:Option Addr) (ct:Value) (osl:Array (Option Value)),
 K.lookup f=some ⟨oc,od,.func (PySem.W.fnOf x x (qaw st) (qar st) (qad st) .none kV doc pm an (.ref c) ct),osl⟩/\PySem.W.codeIn K (.ref c) x=true/\PySem.W.keepIn K (.ref f)=true/\mg x=some (.ref f) ∧
 Binds K (PySem.W.fnOf x x (qaw st) (qar st) (qad st) .none kV doc pm an (.ref c) ct) ps []
theorem qj1 {P:Program} {w:World} {K:PySem.W.Frag} {mg:Str->Option Value} {base:Heap} {x:Str} {st:Stmt} {N ps:List Str} {k:Nat} {sp:Sp} {c:Addr} (D:FnC K mg x st ps c) (S:FnScope N ps (qad st)) (len:∀ vs H Q E,sp vs H Q E->vs.length=ps.length)
  (hbody:∀ (f:Addr) (A:Around) (outer:List Env) (s:Shared) (H:Hp) (vs:List V) (Q:VK) (E:XK),Room k (A.deeper (envOfC x (qad st) s.heap.objs.size f (.ref c)))->sp vs H Q E →
   ∃ t,PSs (qhZ CX0 P w K mg base N x (qad st) f (.ref c) A outer s H E).nox (qar st) t/\t { nx:=fun _ H'=>Q .non H',rt:=Q } (start N vs) H):Can P w K mg base x (k+1) ps sp:=by
 obtain ⟨f,oc,od,kV,doc,pm,an,ct,osl,lk,hcd,kp,hm,hb⟩:=D
 refine ⟨f,_,qlN lk hcd S len fun A outer s H vs Q E hr hsp=>?_,hm,kp,hb⟩
 obtain ⟨t,h,q⟩:=hbody f A outer s H vs Q E hr hsp
 exact ⟨t,h.nox,q⟩
end L2
end
section
namespace Om
end Om
namespace L2
open PySem PySem.Spec PyProof.Rows
structure CopyOf (H0 H:Hp) (a b:Addr) (qs:List Addr) (k n:Nat) (rows:Om.Rows):Prop where
 ha:H a=some (.tup [.int (k:Nat),.int (n:Nat),.ref b])
 nb:H0 b=none
 hb:H b=some (.lst (qs.map V.ref))
 nd:qs.Nodup
 nq:∀ q∈qs,H0 q=none/\q≠b
 len:qs.length=rows.length
 st:∀ (j:Nat) (st:List (List Bool×Nat)),rows[j]? = some st->∃ q rs,qs[j]? = some q/\H q=some (.lst rs)/\DVs H rs (st.map qdY)
section
variable {H0 H H':Hp} {a b:Addr} {qs:List Addr} {k n:Nat} {rows:Om.Rows}
theorem CopyOf.dv (C:CopyOf H0 H a b qs k n rows):DV H (.ref a) (qax k n rows):=by
 refine .tup C.ha (.cons (.int _) (.cons (.int _) (.cons (.lst C.hb (DVs.of_get (by rw [lM_,lM_,C.len]) fun i d hd=>?_)) .nil)))
 rw [gM_] at hd
 obtain ⟨st,hs,rfl⟩:=Option.map_eq_some_iff.mp hd
 obtain ⟨q,rs,e1,e2,e3⟩:=C.st i st hs
 exact ⟨.ref q,by rw [gM_,e1];rfl,.lst e2 e3⟩
end
end L2
end
section
namespace Om
end Om
namespace L2
open PySem PySem.Spec PyProof.Rows
section
variable {F:Addr->Prop} {H0 H H' G:Hp} {d P:Addr} {pos:Pos} {qual:Str}
theorem Tab.upd {b:Addr} {xs:List V} {o:HO} (t:Tab P pos qual H) (e:H b=some (.lst xs)):Tab P pos qual (upd H b o):=by
 rcases t with z | ⟨c,z1,z2⟩
 ·exact .inl (by rw [qac (qaj z e (fun y=>nomatch y))];exact z)
 ·exact .inr ⟨c,by rw [qac (qaj z1 e (fun y=>nomatch y))];exact z1,by rw [qac (qaj z2 e (fun y=>nomatch y))];exact z2⟩
end
end L2
end
section
namespace L2
open PySem PySem.Spec PyProof.Rows
theorem FnC.of {K:PySem.W.Frag} {h:Heap} {mg:Str->Option Value} {x:Str} {st:Stmt} {ps:List Str} {c P:Addr} (D:DefIn K x st) (ht:PySem.W.tabIn K x=some (c,P)) (X:K.In h) (G:h.Ns mainGlobals mg)
  (hb:∀ (kV doc pm:Value) (an:Option Addr) (cdv ct:Value) (us:List Value),us.length=ps.length->bindArgs (PySem.W.fnOf x x (qaw st) (qar st) (qad st) .none kV doc pm an cdv ct) ⟨us,[]⟩=pure (ps.zip us)):FnC K mg x st ps c:=by
 obtain ⟨f,oc,od,an,osl,kV,dc,pm,cd,ct,h1,h2,h3,h4⟩:=D
 have e:cd = .ref c:=by
  unfold PySem.W.tabIn at ht
  rw [h1] at ht
  dsimp only at ht
  rw [h2] at ht
  dsimp only at ht
  split at ht
  ·rename_i c' _
   split at ht
   ·split at ht
    ·cases ht;rfl
    ·cases ht
   ·cases ht
  ·cases ht
 subst e
 exact ⟨f,oc,od,kV,dc,pm,an,ct,osl,h2,h3,h4,PySem.W.mg_of X G h1,.all (hb kV dc pm an _ ct)⟩
theorem qfK {P:Program} {w:World} {K:PySem.W.Frag} {mg mb:Str->Option Value} {CX:CXT} {k:Nat} {fa a:Addr} {fd:FuncData} {x:Str} {sp:Sp} {s₁:Shared} {vs:List Value} {ns:List Int} {tabs:List (Addr×Addr)}
  (KX:K.In s₁.heap) (hns:s₁.heap.Ns mainGlobals mg) (hb:s₁.heap.Ns builtinsNs mb) (hbb:∀ x:Str,x≠"__name__"->mb x=bootBuiltins x) (hlim:s₁.heap.NoLimit) (hg:s₁.gens = #[])
  (ha:s₁.heap.get? a=some { cls:=.type "list",data:=.seq vs.toArray }) (hi:IntsAre vs ns) (hl:ns.length<=sizeLine) (hr:Room k callerA) (hT:PySem.W.TabsAt tabs s₁.heap) (hnt:PySem.W.noTabs K=true)
  (hbm:∃ bm ob,mg "__builtins__" = some (.ref bm)/\bm≠builtinsNs/\s₁.heap.get? bm=some ob/\ob.cls = .type "module"/\ob.dict=some builtinsNs/\ob.data = .plain)
  (F:∀ base:Heap,K.In base->base.Ns mainGlobals mg->(∀ q∈tabs,Maker mg base q.1 q.2)->FnOk P w K mg base CX k fa fd [x] sp) (hbind:∀ (s:Shared) (u:Value),BindsTo s fd ⟨[u],[]⟩ [(x,u)])
  (hsp:∀ H:Hp,(∀ q∈tabs,H q.2=some (.tbl #[]))->SqL K H a (ns.map V.int)->sp [.ref a] H (fun v _=>v = .bl true) fun _ _ _=>False)
  (hCX:∀ H e s',CX [] H s₁ (fun _ _ _=>False) e s'->False) :
  codeAny (model P w) callerA (.call (.ref fa) ⟨[.ref a],[]⟩) (fun r s'=>r = .ok (.ret (.bool true))/\OldK s₁.heap s'.heap/\s'.os=s₁.os/\AllBare s'.gens) s₁:=by
 have rv:=qcH hi
 have lenV:=hi.length
 have aT:∀ q∈tabs,q.2≠a:=fun q hq z=>by
  have e:=(hT q hq).2
  rw [z,ha] at e
  cases e
 have core:∀ H:Hp,(∀ b u,H b=some u->(b=a/\u = .frz { cls:=.type "list",data:=.seq vs.toArray } (.lst (ns.map V.int))/\K.lookup a=none)\/∃ q∈tabs,b=q.2/\u = .tbl #[])->(∀ q∈tabs,H q.2=some (.tbl #[]))->SqL K H a (ns.map V.int) →
   codeAny (model P w) callerA (.call (.ref fa) ⟨[.ref a],[]⟩) (fun r s'=>r = .ok (.ret (.bool true))/\OldK s₁.heap s'.heap/\s'.os=s₁.os/\AllBare s'.gens) s₁:=by
  intro H hH hTE hS
  have hok:HOk P w H s₁.heap:=fun b u e=>by
   rcases hH b u e with ⟨rfl,rfl,_⟩ | ⟨q,hq,rfl,rfl⟩
   ·exact ⟨ha,by rw [lM_];exact hl,vs,_,rv,ha⟩
   ·exact (hT q hq).2
  have free:∀ {b:Addr} {o:Obj},s₁.heap.get? b=some o->o.cls≠.type "list"\/(∀ y,o.data≠.seq vs.toArray y)->(o.cls≠.none\/∀ ps,o.data≠.fields ps)->H b=none:=fun {b o} e n1 n2=>by
   cases q:H b with
   | none=>rfl
   | some u=>
    rcases hH b u q with ⟨rfl,_,_⟩ | ⟨t,ht,rfl,_⟩
    ·rw [ha] at e
     cases e
     rcases n1 with n1 | n1
     ·exact absurd rfl n1
     ·exact absurd rfl (n1 _)
    ·rw [(hT t ht).2] at e
     cases e
     rcases n2 with n2 | n2
     ·exact absurd rfl n2
     ·exact absurd rfl (n2 _)
  have nsK:∀ {b:Addr} {m:Str->Option Value},s₁.heap.Ns b m->(qhg s₁.heap H).Ns b m:=fun {b m} ⟨o,es,ep,e,d,r⟩=>
   ⟨o,es,ep,qbF e (free e (.inr fun y z=>by rw [d] at z;cases z) (.inr fun y z=>by rw [d] at z;cases z)),d,r⟩
  have hKb:K.In (qhg s₁.heap H):=fun b o e=>qbF (KX b o e) (by
   cases q:H b with
   | none=>rfl
   | some u=>
    rcases hH b u q with ⟨rfl,_,z⟩ | ⟨t,ht,rfl,_⟩
    ·rw [z] at e;cases e
    ·have e1:=KX _ _ e
     rw [(hT t ht).2] at e1
     have e2:=List.all_eq_true.mp hnt _ (PySem.W.mem_of_lookupK e)
     cases e1
     exact absurd (show false=true from e2) Bool.false_ne_true)
  have hM:Mod K mg (qhg s₁.heap H):=⟨hKb,nsK hns,⟨mb,nsK hb,hbb⟩,let ⟨mc,h1,h2⟩:=hlim;⟨mc,nsK h1,h2⟩⟩
  have hMk:∀ q∈tabs,Maker mg (qhg s₁.heap H) q.1 q.2:=fun q hq=>by
   refine ⟨?_,?_⟩
   ·obtain ⟨bm,ob,b1,b2,b3,b4,b5,b6⟩:=hbm
    exact ⟨bm,ob,b1,b2,qbF b3 (free b3 (.inl (by rw [b4];decide)) (.inl (by rw [b4];exact fun z=>nomatch z))),b4,b5,b6⟩
   ·obtain ⟨o,c1,c2,c3,c4,c5,c6,c7,c8,e,c9,r⟩:=(hT q hq).1
    exact ⟨o,c1,c2,c3,c4,c5,c6,c7,c8,qbF e (free e (.inl (by rw [c9];decide)) (.inl (by rw [c9];exact fun z=>nomatch z))),c9,r⟩
  have e0:Env0 P w K mg (qhg s₁.heap H) callerA [] s₁ H:=⟨rfl,hM,fun b o e=>qjz e,Nat.le_of_eq (qfU _ _),trivial,fun b hb=>absurd (show b∈([]:List Addr) from hb) (by simp),hok,.of_eq hg⟩
  refine codeAny_mono ((F _ hKb (nsK hns) hMk).run callerA [] s₁ H ⟨[.ref a],[]⟩ [.ref a] [.ref a] _ _ hr e0 (hbind s₁ (.ref a)) (.cons rfl .nil) (hsp H hTE hS)) fun r s' h=>?_
  cases r with
  | error e=>exact (hCX H e s' h).elim
  | ok fl=>
   cases fl with
   | next=>exact False.elim h
   | brk=>exact False.elim h
   | cont=>exact False.elim h
   | ret u=>
    obtain ⟨v,H',os,bare,un,hok',r',q⟩:=h
    have q':v = .bl true:=q
    subst q'
    obtain rfl:u=Value.bool true:=r'
    have kept:∀ b o,s₁.heap.get? b=some o->(∀ t∈tabs,b≠t.2)->s'.heap.get? b=some o:=fun b o e n=>by
     cases q:H b with
     | none=>exact un.keep b o e q (by intro z;exact absurd (show b∈([]:List Addr) from z) (by simp)) (by simp)
     | some u=>
      rcases hH b u q with ⟨rfl,rfl,_⟩ | ⟨t,ht,z,_⟩
      ·have z2:=un.frzs _ _ _ q
       obtain ⟨e2,_⟩:=hok' _ _ z2
       rw [ha] at e;cases e
       exact e2
      ·exact absurd z (n t ht)
    have grown:∀ t∈tabs,∃ more,s'.heap.get? t.2=some (PySem.W.tabObj (#[]++more)):=fun t ht=>by
     obtain ⟨more,z⟩:=un.tbls _ _ (hTE t ht)
     exact ⟨more,hok' _ _ z⟩
    refine ⟨rfl,⟨fun b o e=>?_,fun b o e=>?_⟩,os,bare⟩
    ·by_cases n:∀ t∈tabs,b≠t.2
     ·exact .inl (kept b o e n)
     ·obtain ⟨t,ht,z⟩ : ∃ t∈tabs,b=t.2:=by
       refine Classical.byContradiction fun z=>n fun t ht y=>z ⟨t,ht,y⟩
      subst z
      have hP:=(hT t ht).2
      rw [hP] at e
      cases e
      obtain ⟨more,g⟩:=grown t ht
      exact .inr (.inl ⟨((hT t ht).1.tab hP).isCodeTable,rfl,#[],more,rfl,g⟩)
    ·by_cases n:∀ t∈tabs,b≠t.2
     ·exact ⟨o,kept b o e n⟩
     ·obtain ⟨t,ht,z⟩ : ∃ t∈tabs,b=t.2:=by
       refine Classical.byContradiction fun z=>n fun t ht y=>z ⟨t,ht,y⟩
      subst z
      obtain ⟨more,g⟩:=grown t ht
      exact ⟨_,g⟩
 cases hk:K.lookup a with
 | some o=>
  have e:=KX a o hk
  rw [ha] at e
  cases e
  refine core (fun b=>if b∈tabs.map (·.2) then some (.tbl #[]) else none) (fun b u e=>?_) (fun q hq=>if_pos (List.mem_map_of_mem hq)) (.inr ⟨_,vs.toArray,_,hk,rfl,rfl,rfl,by rw [List.size_toArray,lenV];exact hl,by simpa using rv⟩)
  by_cases n:b∈tabs.map (·.2)
  ·obtain ⟨q,hq,rfl⟩:=mM_ n
   have z:=(if_pos n).symm.trans e
   cases z
   exact .inr ⟨q,hq,rfl,rfl⟩
  ·have z:=(if_neg n).symm.trans e
   cases z
 | none=>
  refine core (fun b=>if b=a then some (.frz { cls:=.type "list",data:=.seq vs.toArray } (.lst (ns.map V.int))) else if b∈tabs.map (·.2) then some (.tbl #[]) else none) (fun b u e=>?_) (fun q hq=>?_) (.inl (.inr ⟨{ cls:=.type "list",data:=.seq vs.toArray },if_pos rfl⟩))
  ·by_cases m:b=a
   ·have z:=(if_pos m).symm.trans e
    cases z
    exact .inl ⟨m,rfl,hk⟩
   ·have z:=(if_neg m).symm.trans e
    by_cases n:b∈tabs.map (·.2)
    ·obtain ⟨q,hq,rfl⟩:=mM_ n
     have z2:=(if_pos n).symm.trans z
     cases z2
     exact .inr ⟨q,hq,rfl,rfl⟩
    ·have z2:=(if_neg n).symm.trans z
     cases z2
  ·show (if q.2=a then _ else _)=_
   rw [if_neg (aT q hq)]
   exact if_pos (List.mem_map_of_mem hq)
theorem walk_ofT {l:PySem.W.OpenLaw} {n k:Nat} {q:Program} {loose:List Str} {XP:(Str->Option Value)->Heap->Prop} {YP:World->Heap->Prop} {d:DefRec} {K:Params->PySem.W.Frag} {CX:World->CXT} {sp:World->Sp} {x:Str} {c0 P0:Addr}
  (hn:l.most=some n) (hn2:n<=sizeLine) (hdf:d.params.defaults=[]) (hr:Room k callerA) (hY:∀ (w:World) (h:Heap),YP w h->(K w.params).In h) (hnt:∀ w:World,PySem.W.noTabs (K w.params)=true)
  (htb:∀ (w:World) (h:Heap),YP w h->h.get? P0=some (PySem.W.tabObj #[])) (hcd:∀ w:World,PySem.W.codeHdIn (K w.params) c0 P0=true)
  (F:∀ (w:World) (mg:Str->Option Value) (fa:Addr) (h:Heap),(K w.params).In h->h.Ns mainGlobals mg->mg d.name=some (.ref fa) →
   ∃ fd:FuncData,(∀ (s:Shared) (u:Value),BindsTo s fd ⟨[u],[]⟩ [(x,u)]) ∧
    ∀ base:Heap,(K w.params).In base->base.Ns mainGlobals mg->Maker mg base c0 P0->FnOk l.prog w (K w.params) mg base (CX w) k fa fd [x] (sp w))
  (hsp:∀ (w:World) (H:Hp) (a:Addr) (ns:List Int),ns.length<=n->H P0=some (.tbl #[])->SqL (K w.params) H a (ns.map V.int)->sp w [.ref a] H (fun v _=>v = .bl true) fun _ _ _=>False)
  (hCX:∀ (w:World) (H:Hp) (s:Shared) (e:Value) (s':Shared),CX w [] H s (fun _ _ _=>False) e s'->False) :
  PySem.W.WalkO q loose XP YP l.row.toRowW d [] (fun f vs=>PySem.call f vs):=by
 refine Att.attach_call hn hdf fun w s₀ s₁ mg mb fa o pm cd doc a vs ns G Y ho hd hcd' hmg hobj hints hlen hg=>?_
 have KX:=hY w _ Y
 obtain ⟨fd,hb,hF⟩:=F w mg fa _ KX G.T.g hmg
 exact qfK (tabs:=[(c0,P0)]) KX G.T.g G.T.b G.T.builtins G.T.nolimit hg hobj hints (Nat.le_trans hlen hn2) hr (fun q hq=>by rw [mS_ hq];exact ⟨PySem.W.codeHd_of_K KX (hcd w),htb w _ Y⟩) (hnt w) G.T.bmain
  (fun base kb nb m=>hF base kb nb (m (c0,P0) (List.mem_singleton.mpr rfl))) hb (fun H hO hS=>hsp w H a ns hlen (hO (c0,P0) (List.mem_singleton.mpr rfl)) hS) fun H e s'=>hCX w H s₁ e s'
end L2
end
section
namespace L2
open PySem PySem.Spec PyProof.Rows
section
variable {X:Cx} {p pos:Pos} {k v:Expr} {tk tv:TE}
def qkm (tk tv:TE):TE:=fun σ H Q=>∀ p,H p=none->tk σ (upd H p (.dT [])) fun x H1=>tv σ H1 fun y H2=>H2 p=some (.dT [])/\∃ (b:Addr) (ks:List Key),x = .ref b/\H2 b=some (.tup (ks.map kV))/\Q (.ref p) (upd H2 p (.dT [(ks,y)]))
theorem qgV (hu:X.A.units+64 < cLine) (hk:PE X k tk) (hv:PE X v tv):PE X (.Dict [some k] [v] pos) (qkm tk tv):=by
 intro pins s σ H Q I q
 have hshape:(evalEachOpt [some k] X.env).zip ((evalEach [v] X.env).map fun v=>do let x <-v;standAt pos;pure x)=[(eval k X.env,(do let x <-eval v X.env;standAt pos;pure x:Sem Value))].map fun p=>(some p.1,p.2):=rfl
 have hn:=I.hok.fresh (Nat.le_refl s.heap.objs.size)
 have I1:=I.laid (a:=s.heap.objs.size) (o:=.dT []) (h':=s.heap.push { cls:=.type "dict",data:=.dict #[] }) (t':=s.toks) (fun _ _ q=>Heap.get?_push_of_some _ q) (Nat.le_refl _) (qei s.heap I.big)
 rw [arm_eval_Dict,hshape,dictDisplay_pairs _ (by simp) (Nat.le_of_ble_eq_true rfl)]
 refine wpAny_bind (wpAny_standAt (wpAny_bind ?_))
 unfold subDict
 refine wpAny_bind (wpAny_alloc ?_)
 refine wpAny_bind (wpAny_holding ?_)
 rw [if_pos (Nat.le_of_ble_eq_true rfl)]
 refine wpAny_bind (evalPairs_cons (thn (hk pins _ σ _ _ I1 (q _ hn)) fun u s1 ⟨x,H1,J1,rx,q1⟩=>wpAny_bind (thn (hv pins s1 σ H1 _ J1 q1) fun u2 s2 ⟨y,H2,I2,ry,e,b,ks,ex,eb,q2⟩=>wpAny_bind (wpAny_standAt (wpAny_pure (evalPairs_nil ?_))))))
 subst ex
 cases (show u=Value.ref b from rx)
 refine wpAny_holding (wpAny_bind ?_)
 rw [List.forIn_cons]
 obtain ⟨z,hd,xs,rel,dd⟩:=qjX I2.hok e
 cases rel
 refine wpAny_bind (wpAny_bind (wpAny_dictSet_heap (knd:=tupleKind (qap X.prog X.w)) (k:=ks) (xs:=[]) (by show _ < cLine;have:=hu;omega) (qbU I2.hok eb) dd fun h' dd' hs=>wpAny_pure ?_))
 dsimp only
 rw [List.forIn_nil]
 refine wpAny_pure (wpAny_pure (wpAny_pure (wpAny_pure ?_)))
 obtain ⟨qo,es,ep,hq,h2,h3,h4,_,h5⟩:=dd'
 refine ⟨.ref s.heap.objs.size,_,qb1 (ob:=.dT [(ks,y)]) I2 (by rw [e];exact True.intro) hs ⟨qo,hq⟩ ⟨?_,hd,_,(KT.put (H:=H2) (kvs:=[]) (xs:=[]) .nil ks eb ry).keeps fun c ys ec=>?_,qo,es,ep,hq,h2,h3,h4,h5⟩,rfl,q2⟩
 ·rw [sizeLine_eq];simp
 ·rw [qac (qaj ec e (fun z=>nomatch z))]
  exact ec
end
end L2
end
section
namespace Om
section
variable {k n:Nat} {rows:Rows} {a b c:Nat} {w v:List Bool}
theorem nodup_on {α β:Type} {f:α->β}:∀ {l:List α},(∀ a∈l,∀ b∈l,f a=f b->a=b)->l.Nodup->(l.map f).Nodup
 | [],_,_=>List.nodup_nil
 | x :: l,h,nd=>by
  rw [List.nodup_cons] at nd
  rw [List.map_cons,List.nodup_cons]
  refine ⟨fun z=>?_,nodup_on (fun a ha b hb=>h a (mC_ _ ha) b (mC_ _ hb)) nd.2⟩
  obtain ⟨y,hy,e⟩:=mM_ z
  exact nd.1 (h y (mC_ _ hy) x List.mem_cons_self e ▸ hy)
end
end Om
end
section
namespace Om
end Om
namespace L2
open PySem PySem.Spec PyProof.Rows
section
variable {ks:List Nat} {kvs:List (Key×V)} {x:Nat} {v:V}
end
end L2
end
section
namespace Om
def adds {α:Type} [DecidableEq α] (xs:List α) (x:α):List α:=if x∈xs then xs else xs++[x]
section
variable {α:Type} [DecidableEq α] {xs:List α} {x y:α}
theorem mem_adds:y∈adds xs x↔y∈xs\/y=x:=by
 unfold adds
 split
 ·rename_i h
  exact ⟨.inl,fun z=>z.elim id fun e=>e ▸ h⟩
 ·rw [List.mem_append,List.mem_singleton]
theorem nodup_adds (nd:xs.Nodup):(adds xs x).Nodup:=by
 unfold adds
 split
 ·exact nd
 ·rename_i h
  rw [List.nodup_append]
  refine ⟨nd,by simp,fun a ha b hb z=>?_⟩
  have:b=x:=by simpa using hb
  subst this
  subst z
  exact h ha
end
end Om
namespace L2
open PySem PySem.Spec PyProof.Rows
section
variable {κ N:Type} [DecidableEq κ] [DecidableEq N]
theorem qec {kvs:List (κ×V)} {k:κ} {v:V}:(kvs.map fun kv=>if kv.1=k then (kv.1,v) else kv).map (·.1)=kvs.map (·.1):=by
 rw [List.map_map]
 refine List.map_congr_left fun kv _=>?_
 show (if kv.1=k then (kv.1,v) else kv).1=kv.1
 split<;>rfl
theorem qh4 {kvs:List (κ×V)} {k:κ}:(qaL kvs k).isSome=decide (k∈kvs.map (·.1)):=by
 rw [<-qaV,Bool.eq_iff_iff,List.any_eq_true,decide_eq_true_eq,List.mem_map]
 constructor
 ·rintro ⟨kv,h,e⟩
  exact ⟨kv,h,by simpa using e⟩
 ·rintro ⟨kv,h,e⟩
  exact ⟨kv,h,by simpa using e⟩
structure KS (key:N->κ) (kvs:List (κ×V)) (xs:List N):Prop where
 ks:kvs.map (·.1)=xs.map key
 nd:xs.Nodup
theorem KS.nil {key:N->κ}:KS key [] ([]:List N):=⟨rfl,List.nodup_nil⟩
theorem KS.len {key:N->κ} {kvs:List (κ×V)} {xs:List N} (h:KS key kvs xs):kvs.length=xs.length:=by
 have:=congrArg List.length h.ks
 rwa [lM_,lM_] at this
theorem KS.has {key:N->κ} (inj:∀ a b,key a=key b->a=b) {kvs:List (κ×V)} {xs:List N} (h:KS key kvs xs) (x:N):(qaL kvs (key x)).isSome=decide (x∈xs):=by
 rw [qh4,h.ks,Bool.eq_iff_iff,decide_eq_true_eq,decide_eq_true_eq,List.mem_map]
 exact ⟨fun ⟨y,hy,e⟩=>inj _ _ e ▸ hy,fun hx=>⟨x,hx,rfl⟩⟩
theorem KS.put {key:N->κ} (inj:∀ a b,key a=key b->a=b) {kvs:List (κ×V)} {xs:List N} (h:KS key kvs xs) (x:N) (v:V):KS key (qaN kvs (key x) v) (Om.adds xs x):=by
 refine ⟨?_,Om.nodup_adds h.nd⟩
 have hs:=h.has inj x
 unfold Om.adds
 by_cases e:x∈xs
 ·rw [if_pos e]
  rw [decide_eq_true e] at hs
  unfold qaN
  rw [qaV,if_pos hs,qec]
  exact h.ks
 ·rw [if_neg e]
  rw [decide_eq_false e] at hs
  have vn:qaL kvs (key x)=none:=by
   cases q:qaL kvs (key x) with
   | none=>rfl
   | some y=>rw [q] at hs;cases hs
  rw [qd1 _ vn,List.map_append,List.map_append,h.ks]
  rfl
end
section
variable {H0 H H1:Hp} {D Q:Addr} {kvs:List (List Key×V)} {xs:List (List Bool×Nat)} {bz:List Addr}
end
end L2
end
section
namespace L2
open PySem PySem.Spec PyProof.Rows
end L2
end
section
namespace Om
end Om
namespace L2
open PySem PySem.Spec PyProof.Rows
section
variable {H0 H H1:Hp} {D:Addr} {kvs:List (Key×V)} {us:List (List Bool)} {L:Nat} {S S':List Bool->Prop}
end
end L2
end
section
namespace Om
end Om
namespace L2
open PySem PySem.Spec PyProof.Rows
section
variable {H2 H H1:Hp} {D E Mo:Addr} {kvs:List (Key×V)} {us:List (List Bool)} {L:Nat} {S:List Bool->Prop} {ekvs:List (Key×V)} {vs:List (List Bool)} {M:Nat} {B B':List Bool->Prop} {mkvs:List (List Key×V)} {ys:List (List Bool×Nat)} {A A':List Bool×Nat->Prop}
end
end L2
end
section
namespace L2
open PySem PySem.Spec PyProof.Rows
section
variable {X:Cx} {pos:Pos} {e:Expr} {es:List Expr} {n:Nat} {d:PyData} {ds:List PyData}
end
end L2
end
section
namespace L2
open PySem PySem.Spec PyProof.Rows
section
variable {H H':Hp} {kvs:List (Key×V)} {ls:List Nat} {rows:Om.Rows}
end
end L2
end
section
namespace K14
open PySem L2
def top (i:Nat):Stmt:=PySem.Challenge.pw_ownbeat_k14_papers_let_by_or_not.main.body.getD i (.Pass ⟨0,0,0,0⟩)
end K14
end
section
namespace L2
open PySem PySem.Spec PyProof.Rows
section
variable {X:Cx} {p pos:Pos} {e:Expr} {es:List Expr} {t:TA}
def qmK:List V->Hp->VK->Prop:=fun vs H Q=>match vs with
 | [.int i]=>Q (.int (if i < 0 then -i else i)) H
 | _=>False
theorem qgk:CallR X (.builtin "abs") qmK:=call_abs.of fun xs H Q q=>by
 unfold qmK at q
 split at q
 ·exact ⟨_,rfl,q⟩
 ·exact q.elim
theorem qlU {mg':Str->Option Value} (hm:mg' "abs" = none) (hX:X.mg=mg') (ha:PA X (e :: es) t) (hg:gB X "abs" = true:=by kernel_rfl) (he:starEach (e :: es) X.env=(false,eval e X.env) :: starEach es X.env:=by kernel_rfl) (hpl:(backTo pos (starEach es X.env)).any (·.1)=false:=by kernel_rfl) :
  PE X (.Call (.Name "abs" p) (e :: es) [] pos) (tCB qmK t):=qaB qgk (qaD hg) (by rw [hX];exact hm) PyProof.Rows.boot_abs ha (he:=he) (hpl:=hpl)
def qnm (K:PySem.W.Frag):V->Option Int->Option Int->Hp->VK->Prop:=fun x lo hi H Q=>match x with
 | .ref p=>∃ xs,SqL K H p xs/\∀ n,H n=none->Q (.ref n) (upd H n (.lst (cutV xs lo hi)))
 | _=>False
theorem slS:SlR X (qnm X.K):=by
 intro pins s σ H x v vl vu lo hi sl Q I rx hs pl pu q
 refine sl_list pins s σ H x v vl vu lo hi sl Q I rx hs pl pu ?_
 unfold qnm at q
 split at q
 ·obtain ⟨xs,h,q⟩:=q
  exact ⟨_,xs,rfl,h,q⟩
 ·exact q.elim
def qns:R2:=fun x y H Q=>match x,y with
 | .str i,.str j=>Q (.bl (!(Builtin.Str.occurrences j i 0 j.length 1).isEmpty)) H
 | _,_=>False
theorem qlf:OpR X (compareOp .In) qns:=op_in_str.of fun x y H Q q=>by
 unfold qns at q
 split at q
 ·exact ⟨_,_,rfl,rfl,q⟩
 ·exact q.elim
end
theorem qf9 (ns:List Int) (lo hi:Option Int):∃ ms:List Int,cutV (ns.map V.int) lo hi=ms.map V.int/\ms.length<=ns.length:=by
 refine ⟨(ns.drop (HT.sIx ns.length 0 lo)).take (HT.sIx ns.length ns.length hi - HT.sIx ns.length 0 lo),?_,?_⟩
 ·unfold cutV
  rw [lM_,List.map_take,List.map_drop]
 ·rw [List.length_take,List.length_drop]
  omega
end L2
end
section
namespace L2
open PySem PySem.Spec PyProof.Rows
abbrev Cx.blockC (X:Cx) (scope:Scope) (x:Str) (cl:List (Str×Addr)) (C:Addr) (N:List Str) (s:Shared) (H:Hp) (fp:List Addr):Cx:=
 { X with N:=N,s₀:=s,H₀:=H,env:=compEnvC scope ((x,C+1) :: cl) C X.env,outer:=X.stack,ex:=fp,fn:=fun y=>y == x,pn:=[],xe:=fun _ _=>False }
def qcD (x:Str) (osc:Scope) (oN:List Str) (sc:Scope) (N:List Str) (js:List Nat):Bool:=
 (match sc.names.filter (fun y=>y.2 == .cell) with | [y]=>y.1 == x | _=>false) && (sc.names.lookup x == some .cell && (sc.names.all (fun y=>y.2 != .local || sc.names.lookup y.1 == some .local) && (decide (js.length<=N.length) &&
  (sc.names.all (fun y=>y.2 != .free || (osc.names.lookup y.1 == some .cell || osc.names.lookup y.1 == some .free)) &&
   (List.range js.length).all (fun i=>match N[N.length - js.length+i]?,oN[js.getD i 0]? with | some x,some y=>x == y && sc.names.lookup x == some .free | _,_=>false)))))
structure CompScC (x:Str) (osc:Scope) (oN:List Str) (sc:Scope) (N:List Str) (js:List Nat):Prop where
 one:sc.names.filter (fun y=>y.2 == .cell)=[(x,.cell)]
 own:sc.names.lookup x=some .cell
 names:∀ y∈sc.names,y.2 = .local->sc.names.lookup y.1=some .local
 len:js.length<=N.length
 tk:∀ y∈sc.names,y.2 = .free->osc.names.lookup y.1=some .cell\/osc.names.lookup y.1=some .free
 fr:∀ (i j:Nat),js[i]? = some j->∃ x,N[N.length - js.length+i]? = some x/\oN[j]? = some x/\sc.names.lookup x=some .free
theorem qeG {x:Str} {osc:Scope} {oN:List Str} {sc:Scope} {N:List Str} {js:List Nat} (h:qcD x osc oN sc N js=true):CompScC x osc oN sc N js:=by
 unfold qcD at h
 simp only [Bool.and_eq_true] at h
 obtain ⟨h0,h1,h2,h3,h4,h5⟩:=h
 refine ⟨?_,eq_of_beq h1,fun y hy hl=>?_,of_decide_eq_true h3,fun y hy hf=>?_,fun i j hj=>?_⟩
 ·split at h0
  ·rename_i y e
   have ex:y.1=x:=eq_of_beq h0
   have hy:y∈sc.names.filter (fun y=>y.2 == .cell):=by rw [e];exact List.mem_cons_self
   have ec:y.2 = .cell:=eq_of_beq (List.mem_filter.mp hy).2
   rw [e,<-ex,<-ec]
  ·cases h0
 ·have:=List.all_eq_true.mp h2 y hy
  rw [hl] at this
  simpa using this
 ·have:=List.all_eq_true.mp h4 y hy
  rw [hf] at this
  simpa using this
 ·have hi:i < js.length:=(gS_ hj).1
  have:=List.all_eq_true.mp h5 i (List.mem_range.mpr hi)
  have e:js.getD i 0=j:=by rw [List.getD_eq_getElem?_getD,hj];rfl
  rw [e] at this
  split at this
  ·rename_i x y e1 e2
   simp only [Bool.and_eq_true,beq_iff_eq] at this
   obtain ⟨rfl,h⟩:=this
   exact ⟨x,e1,e2,h⟩
  ·cases this
theorem qce:∀ (names:List (Str×NameKind)) (a:Nat) (cl:List (Str×Addr)) (h:Heap),names.filter (fun y=>y.2 == .cell)=[]->cellsFrom a names cl=cl/\pushCells h names=h
 | [],_,_,_,_=>⟨rfl,rfl⟩
 | (n,k) :: r,a,cl,h,e=>by
  rw [List.filter_cons] at e
  unfold cellsFrom pushCells
  by_cases c:(k == NameKind.cell)=true
  ·rw [if_pos c] at e;cases e
  ·rw [if_neg c] at e
   rw [if_neg c,if_neg c]
   exact qce r a cl h e
theorem qc2:∀ (names:List (Str×NameKind)) (a:Nat) (cl:List (Str×Addr)) (h:Heap) (x:Str),names.filter (fun y=>y.2 == .cell)=[(x,.cell)]->cellsFrom a names cl=(x,a) :: cl/\pushCells h names=h.push { cls:=.type "cell",data:=.cell none }
 | [],_,_,_,_,e=>by cases e
 | (n,k) :: r,a,cl,h,x,e=>by
  rw [List.filter_cons] at e
  unfold cellsFrom pushCells
  by_cases c:(k == NameKind.cell)=true
  ·rw [if_pos c] at e
   rw [if_pos c,if_pos c]
   obtain ⟨e1,e2⟩:=List.cons.inj e
   have en:n=x:=congrArg Prod.fst e1
   obtain ⟨z1,z2⟩:=qce r (a+1) ((n,a) :: cl) (h.push { cls:=.type "cell",data:=.cell none }) e2
   rw [z1,z2,en]
   exact ⟨rfl,rfl⟩
  ·rw [if_neg c] at e
   rw [if_neg c,if_neg c]
   exact qc2 r a cl h x e
theorem qdv {M:Model} {A:Around} {E:Value->Shared->Prop} {s:Shared} {scope:Scope} {globals:Addr} {cl:List (Str×Addr)} {x qual:Str} {outer:Env} {Q:Env->Shared->Prop}
  (hone:scope.names.filter (fun y=>y.2 == .cell)=[(x,.cell)])
  (hQ:∀ h',h'.Ns s.heap.objs.size (fun _=>none)->(∀ b o,s.heap.get? b=some o->h'.get? b=some o)->h'.IsCell (s.heap.objs.size+1) none →
   Q (newEnv scope s.heap.objs.size globals ((x,s.heap.objs.size+1) :: cl) qual none .none (some outer) builtinsNs) { s with heap:=h' }) :
  wpAny M A (newFunctionEnv scope globals cl [] qual none .none (some outer)) Q E s:=by
 simp only [newFunctionEnv,Option.isSome_some,if_true]
 refine wpAny_bind (wpAny_alloc ?_)
 refine wpAny_bind (wpAny_layCells _ (fun name kind cells=>by cases hkc:kind == NameKind.cell<;>simp [hkc]) _ _ _ _ ?_)
 rw [show ({ s with heap:=s.heap.push { cls:=.type "dict",data:=.dict #[] } }:Shared).heap.objs.size=s.heap.objs.size+1 from Heap.size_push ..]
 obtain ⟨z1,z2⟩:=qc2 scope.names (s.heap.objs.size+1) cl (s.heap.push { cls:=.type "dict",data:=.dict #[] }) x hone
 rw [z1]
 refine wpAny_bind ?_
 rw [List.forIn_nil]
 refine wpAny_pure (wpAny_pure ?_)
 refine hQ _ ?_ ?_ ?_
 ·exact (Heap.Ns.new s.heap (.type "dict")).keeps (pushCells_keeps _ _)
 ·exact fun b o e=>pushCells_keeps _ _ b o (Heap.get?_push_of_some _ e)
 ·show Heap.IsCell (pushCells (s.heap.push { cls:=.type "dict",data:=.dict #[] }) scope.names) (s.heap.objs.size+1) none
  rw [z2]
  refine ⟨{ cls:=.type "cell",data:=.cell none },?_,rfl⟩
  have hz:(s.heap.push { cls:=.type "dict",data:=.dict #[] }).objs.size=s.heap.objs.size+1:=Heap.size_push ..
  rw [<-hz]
  exact Heap.get?_push_size _ rfl
theorem qaI {env:Env} {cx:Str}:∀ {names:List (Str×NameKind)} {x:Str} {k:NameKind},
  (names.map fun (n,k)=>if (k == NameKind.free && env.scope.kind == .function && env.kindOf n == some .cell) then (n,NameKind.cell) else (n,k)).lookup x=some k->k = .cell\/k = .free->(∀ y∈names,y.2 = .cell->y.1=cx)->x≠cx->(x,NameKind.free)∈names
 | [],_,_,h,_,_,_=>by simp at h
 | (n,k1) :: r,x,k,h,hk,hc,hx0=>by
  have ih:=@qaI env cx r x k
  have hc':∀ y∈r,y.2 = .cell->y.1=cx:=fun y hy=>hc y (mC_ _ hy)
  have h1:k1 = .cell->n=cx:=hc (n,k1) List.mem_cons_self
  have h:List.lookup x ((if (k1 == NameKind.free && env.scope.kind == .function && env.kindOf n == some .cell)=true then (n,NameKind.cell) else (n,k1)) :: _)=some k:=h
  by_cases c:(k1 == NameKind.free && env.scope.kind == .function && env.kindOf n == some .cell)=true
  ·rw [if_pos c,List.lookup_cons] at h
   cases hx:x == n with
   | true=>
    have e:k1 = .free:=by simp only [Bool.and_eq_true,beq_iff_eq] at c;exact c.1.1
    rw [eq_of_beq hx,e]
    exact List.mem_cons_self
   | false=>rw [hx] at h;exact mC_ _ (ih h hk hc' hx0)
  ·rw [if_neg c,List.lookup_cons] at h
   cases hx:x == n with
   | true=>
    rw [hx] at h
    have e:k1=k:=oI_ h
    have e2:k1 = .free:=by
     rcases hk with z | z
     ·exact absurd ((eq_of_beq hx).trans (h1 (e.trans z))) hx0
     ·exact e.trans z
    rw [eq_of_beq hx,e2]
    exact List.mem_cons_self
   | false=>rw [hx] at h;exact mC_ _ (ih h hk hc' hx0)
section
variable {X:Cx}
theorem qeL {pins:List (Addr×Obj)} {σ:St} {H:Hp} {s:Shared} {h₁:Heap} {tk:Nat} {scope:Scope} {cx:Str} {N:List Str} {js:List Nat} {cl:List (Str×Addr)} {fp:List Addr}
  (I:Inv X pins σ H s) (hk:scope.kind = .function) (hN:N.Nodup) (S:CompScC cx X.env.scope X.N scope N js) (hcl:∀ x c,cl.lookup x=some c->X.env.cells.lookup x=some c) (hcl2:∀ y∈scope.names,y.2 = .free->∃ c,cl.lookup y.1=some c)
  (hf:∀ b∈fp,b < s.heap.objs.size/\b≠X.env.locals/\b ∉ X.fs/\(b∈X.ex\/X.s₀.heap.objs.size<=b)/\(∀ x c,X.env.cells.lookup x=some c->c≠b))
  (hns:h₁.Ns s.heap.objs.size fun _=>none) (old:∀ b o,s.heap.get? b=some o->h₁.get? b=some o) (hce:h₁.IsCell (s.heap.objs.size+1) none) :
  Inv (X.blockC scope cx cl s.heap.objs.size N s H fp) [] (blk (N.length - js.length) js σ) H { s with heap:=h₁,toks:=tk }:=by
 have lk:∀ {x:Str} {c:Addr},List.lookup x ((cx,s.heap.objs.size+1) :: cl)=some c->(x=cx/\c=s.heap.objs.size+1)\/(x≠cx/\cl.lookup x=some c):=fun {x c} h=>by
  rw [List.lookup_cons] at h
  cases hx:x == cx with
  | true=>rw [hx] at h;exact .inl ⟨eq_of_beq hx,(oI_ h).symm⟩
  | false=>rw [hx] at h;exact .inr ⟨fun z=>by rw [z] at hx;simp at hx,h⟩
 have lk2:∀ {x:Str} {c:Addr},x≠cx->cl.lookup x=some c->List.lookup x ((cx,s.heap.objs.size+1) :: cl)=some c:=fun {x c} hx h=>by
  rw [List.lookup_cons,beq_eq_false_iff_ne.mpr hx];exact h
 have clt:∀ {x:Str} {c:Addr},cl.lookup x=some c->c < s.heap.objs.size:=fun {x c} h=>by
  obtain ⟨v,o,ho,_⟩:=I.cell x c (hcl x c h)
  exact Heap.lt_size ho
 have onec:∀ y∈scope.names,y.2 = .cell->y.1=cx:=fun y hy e=>by
  have:y∈scope.names.filter (fun y=>y.2 == .cell):=List.mem_filter.mpr ⟨hy,by rw [e];rfl⟩
  rw [S.one] at this
  have e:y=(cx,.cell):=by simpa using this
  rw [e]
 have look:∀ x,((relabel scope X.env).names.lookup x=some .cell\/(relabel scope X.env).names.lookup x=some .free)->∃ c,List.lookup x ((cx,s.heap.objs.size+1) :: cl)=some c:=fun x hx=>by
  by_cases hxc:x=cx
  ·exact ⟨s.heap.objs.size+1,by rw [hxc,List.lookup_cons,beq_self_eq_true]⟩
  ·have hm:(x,NameKind.free)∈scope.names:=by
    rcases hx with z | z
    ·exact qaI z (.inl rfl) onec hxc
    ·exact qaI z (.inr rfl) onec hxc
   obtain ⟨c,hc⟩:=hcl2 _ hm rfl
   exact ⟨c,lk2 hxc hc⟩
 refine ⟨⟨I.ok.mod,hk,I.ok.glob,I.ok.blt,Nat.le_refl _,fun x y c h1 h2=>?_,look,fun x c hx h=>?_,I.ok.hd,I.ok.frames,.inl rfl,fun b hb=>?_,I.bs,Nat.le_trans I.ok.bsz I.sz,fun b o e hb=>?_,fun b hb z=>?_,I.stack,I.stkFree⟩,
  rfl,I.bare,Un.kept old,⟨_,hns,fun i x v h1 h2 h3=>?_⟩,fun x c h=>?_,I.hok.fresh (Nat.le_refl _),fun x c h=>?_,fun p hp=>absurd (show p∈([]:List (Addr×Obj)) from hp) (by simp),I.hok.kept old,?_⟩
 ·rcases lk h1 with ⟨a1,a2⟩ | ⟨a1,a2⟩<;>rcases lk h2 with ⟨b1,b2⟩ | ⟨b1,b2⟩
  ·rw [a1,b1]
  ·exact absurd (a2 ▸ clt b2) (Nat.not_lt.mpr (Nat.le_succ _))
  ·exact absurd (b2 ▸ clt a2) (Nat.not_lt.mpr (Nat.le_succ _))
  ·exact I.ok.inj x y c (hcl x c a2) (hcl y c b2)
 ·rcases lk h with ⟨a1,a2⟩ | ⟨a1,a2⟩
  ·rw [a2];exact Nat.le_succ _
  ·exact absurd (eq_of_beq hx) a1
 ·refine ⟨Nat.ne_of_lt (hf b hb).1,fun x c h=>?_⟩
  rcases lk h with ⟨a1,a2⟩ | ⟨a1,a2⟩
  ·rw [a2];exact fun z=>absurd (z ▸ (hf b hb).1) (Nat.not_lt.mpr (Nat.le_succ _))
  ·exact (hf b hb).2.2.2.2 x c (hcl x c a2)
 ·rcases (hf b hb).2.2.2.1 with z | z
  ·exact I.ok.noex b o e z
  ·exact absurd (Nat.lt_of_lt_of_le (Heap.lt_size e) (Nat.le_trans I.ok.bsz z)) (Nat.lt_irrefl _)
 ·rcases List.mem_cons.mp (I.stkSub b z) with q | q
  ·exact (hf b hb).2.1 q
  ·exact (hf b hb).2.2.1 q
 ·obtain ⟨k,j,rfl,hj,hσ⟩:=qgm h2
  obtain ⟨x',e1,e2,e3⟩:=S.fr k j hj
  rw [e1] at h1
  have ex:x'=x:=oI_ h1
  subst ex
  have hxc:x'≠cx:=fun z=>by rw [z,S.own] at e3;cases e3
  have ok:=S.tk _ (PySem.mem_of_lookup e3) rfl
  obtain ⟨m,_,hl⟩:=I.loc
  obtain ⟨u,r,l⟩:=hl j x' v e2 hσ (.inr ok)
  refine ⟨u,r,?_⟩
  rcases l with ⟨hk',_⟩ | ⟨_,c,hc,hcell⟩
  ·have hk2:X.env.scope.names.lookup x'=some .local:=hk'
   rcases ok with z | z<;>(rw [hk2] at z;cases z)
  ·obtain ⟨c',hc'⟩:=hcl2 _ (PySem.mem_of_lookup e3) rfl
   have:c'=c:=oI_ ((hcl _ _ hc').symm.trans hc)
   subst this
   obtain ⟨o,ho,hd⟩:=hcell
   exact .inr ⟨qa0 e3,c',lk2 hxc hc',⟨o,old _ _ ho,hd⟩⟩
 ·rcases lk h with ⟨a1,a2⟩ | ⟨a1,a2⟩
  ·rw [a2];exact ⟨none,hce⟩
  ·obtain ⟨v,o,ho,hd⟩:=I.cell x c (hcl x c a2)
   exact ⟨v,o,old _ _ ho,hd⟩
 ·rcases lk h with ⟨a1,a2⟩ | ⟨a1,a2⟩
  ·rw [a2];exact I.hok.fresh (Nat.le_succ _)
  ·exact I.freeC x c (hcl x c a2)
 ·show (blk (N.length - js.length) js σ).length=N.length
  unfold blk
  rw [lA_,List.length_replicate,lM_]
  have:=S.len
  omega
theorem qdG {pins:List (Addr×Obj)} {σ:St} {H:Hp} {s:Shared} {elt target iter:Expr} {ifs:List Expr} {scope:Scope} {cx:Str} {pos:Pos} {N:List Str} {js:List Nat} {cl:List (Str×Addr)} {J:It} {fp:List Addr} {it:Addr} {tn:Nat->Heap->Prop}
  {g:TG} {tt:TT} {te:TE} {E:Value->Shared->Prop} {RR:Value->Addr->Result->Shared->Prop} {Q:VK}
  (hc:X.calm=true) (I:Inv X pins σ H s) (T:Turn X.prog X.w X.K target J fp it tn) (st:tn 0 s.heap) (hf:∀ b∈fp,qdK X pins H b)
  (hk:scope.kind = .function) (hN:N.Nodup) (S:CompScC cx X.env.scope X.N scope N js) (hcl:∀ x c,cl.lookup x=some c->X.env.cells.lookup x=some c) (hcl2:∀ y∈scope.names,y.2 = .free->∃ c,cl.lookup y.1=some c)
  (hg:∀ cl C s H fp,PG (X.blockC scope cx cl C N s H fp) target g) (ht:∀ cl C s H fp,PF (X.blockC scope cx cl C N s H fp) ifs tt) (he:∀ cl C s H fp,PE (X.blockC scope cx cl C N s H fp) elt te)
  (h:∀ D,H D=none->∃ W:Nat->Nat->St->Hp->List V->Prop,(∃ m,W 0 m (blk (N.length - js.length) js σ) (upd H D (.lst [])) [])/\∀ i m τ H2 ys,W i m τ H2 ys->H2 D=some (.lst ys) ∧
   ((J.stop i H2/\Q (.ref D) H2)\/(J.go i H2/\ys.length < sizeLine/\∃ N:St->Hp->List V->Prop,(∀ τ' H' ys',N τ' H' ys'->∃ m',m' < m/\W (i+1) m' τ' H' ys')/\∀ x H3,J.yld i H2 x H3->g x τ H3 fun τ4 H4=>tt τ4 H4 fun b H5=>
    if b=true then te τ4 H5 fun y H6=>H6 D=some (.lst ys)/\N τ4 (upd H6 D (.lst (ys++[y]))) (ys++[y])
    else N τ4 H5 ys)))
  (hend:∀ D C H' s',(∃ m,s'.heap.Ns C m)->qdK X pins H' C->Inv X pins σ H' s'->Q (.ref D) H'->RR (.ref D) C (.ok .next) s') :
  wpAny (model X.prog X.w) X.A (newList []) (fun acc s₃=>wpAny (model X.prog X.w) X.A (newFunctionEnv scope X.env.globals cl [] X.env.qual none .none (some X.env)) (fun cenv s₄=>
   codeAny (model X.prog X.w) X.A (.compStart (.ListComp elt [⟨target,iter,ifs,0⟩] scope pos) 0 (.ref it) acc { cenv with scope:=relabel scope X.env }) (RR acc cenv.locals) s₄) E s₃) E s:=by
 obtain ⟨W,⟨m0,w0⟩,turn⟩:=h s.heap.objs.size I.fresh
 refine wpAny_newObj_type (qdv S.one (fun h₁ hns₁ hsb₁ hce₁=>?_))
 have I3:Inv X pins σ (upd H s.heap.objs.size (.lst [])) { s with heap:=s.heap.push { cls:=.type "list",dict:=none,data:=.seq ([]:List Value).toArray } }:=I.lnew (its:=[]) (ys:=[]) (t':=s.toks) .nil (Nat.zero_le _)
 have hF3:∀ b∈fp,b < s.heap.objs.size:=fun b hb=>by
  obtain ⟨o,e,_⟩:=T.obj 0 s.heap st b hb
  exact Heap.lt_size e
 have st3:tn 0 (s.heap.push { cls:=.type "list",dict:=none,data:=.seq ([]:List Value).toArray }):=T.keep 0 _ _ st fun b hb o e=>Heap.get?_push_of_some _ e
 generalize hs3:({ s with heap:=s.heap.push { cls:=.type "list",dict:=none,data:=.seq ([]:List Value).toArray } }:Shared)=s3 at I3 hns₁ hsb₁ hce₁ ⊢
 have e3:s3.heap=s.heap.push { cls:=.type "list",dict:=none,data:=.seq ([]:List Value).toArray }:=by rw [<-hs3]
 rw [<-e3] at st3
 have z3:s.heap.objs.size<=s3.heap.objs.size:=by rw [e3,Heap.size_push];exact Nat.le_succ _
 have old:∀ b o,s3.heap.get? b=some o->h₁.get? b=some o:=hsb₁
 have hf3:∀ b∈fp,b < s3.heap.objs.size/\b≠X.env.locals/\b ∉ X.fs/\(b∈X.ex\/X.s₀.heap.objs.size<=b)/\(∀ x c,X.env.cells.lookup x=some c->c≠b):=fun b hb=>
  let ⟨_,q1,q2,q3,q4,_⟩:=hf b hb
  ⟨Nat.lt_of_lt_of_le (hF3 b hb) z3,q1,q2,q3,q4⟩
 have nD:∀ b∈fp,upd H s.heap.objs.size (.lst []) b=none:=fun b hb=>by
  rw [qac (Nat.ne_of_lt (hF3 b hb))]
  exact (hf b hb).1
 have I4:Inv (X.blockC scope cx cl s3.heap.objs.size N s3 (upd H s.heap.objs.size (.lst [])) fp) [] (blk (N.length - js.length) js σ) (upd H s.heap.objs.size (.lst [])) { s3 with heap:=h₁ }:=
  qeL (tk:=s3.toks) I3 hk hN S hcl hcl2 hf3 hns₁ old hce₁
 have st4:tn 0 h₁:=T.keep 0 _ _ st3 fun b hb o e=>old b o e
 have hg':=hg cl s3.heap.objs.size s3 (upd H s.heap.objs.size (.lst [])) fp
 have ht':=ht cl s3.heap.objs.size s3 (upd H s.heap.objs.size (.lst [])) fp
 have he':=he cl s3.heap.objs.size s3 (upd H s.heap.objs.size (.lst [])) fp
 have stat:∀ {H':Hp},(∀ b∈fp,H' b=none)->∀ b∈fp,qdK (X.blockC scope cx cl s3.heap.objs.size N s3 (upd H s.heap.objs.size (.lst [])) fp) [] H' b:=fun hn b hb=>
  ⟨hn b hb,(I4.ok.exf b hb).1,I4.ok.exfs b hb,.inl hb,(I4.ok.exf b hb).2,fun p hp=>absurd (show p∈([]:List (Addr×Obj)) from hp) (by simp)⟩
 have loop:codeAny (model X.prog X.w) X.A (.compLoop (.ListComp elt [⟨target,iter,ifs,0⟩] scope pos) 0 (.ref it) (.ref s.heap.objs.size) (compEnvC scope ((cx,s3.heap.objs.size+1) :: cl) s3.heap.objs.size X.env)) (RR (.ref s.heap.objs.size) s3.heap.objs.size) { s3 with heap:=h₁ }:=by
  refine qbt (fun n s'=>∃ i τ H' ys,Inv (X.blockC scope cx cl s3.heap.objs.size N s3 (upd H s.heap.objs.size (.lst [])) fp) [] τ H' s'/\tn i s'.heap/\(∀ b∈fp,H' b=none)/\W i n τ H' ys) ?_ m0 ⟨0,_,_,[],I4,st4,nD,w0⟩
  rintro n s5 ⟨i,τ,H5,ys,I5,st5,fr5,w5⟩
  obtain ⟨hD,hw⟩:=turn i n τ H5 ys w5
  rcases hw with ⟨stop,qn⟩ | ⟨go,hz,M,hM,step⟩
  ·refine thn (T.done (X.blockC scope cx cl s3.heap.objs.size N s3 (upd H s.heap.objs.size (.lst [])) fp) rfl rfl rfl hc i [] s5 τ H5 (fun _ _=>False) I5 (stat fr5) st5 stop) fun r s6 ⟨hr,I6⟩=>?_
   subst hr
   refine hend _ _ H5 s6 (let ⟨m,hn,_⟩:=I6.loc;⟨m,hn⟩) (I3.fpOk (Nat.le_refl _) I6.free) ?_ qn
   exact I3.call' (ch:=fp) I6.os I6.base I6.hok I6.bare fun b hb=>⟨(hf b hb).2.2.2.1,(hf b hb).2.1,(hf b hb).2.2.2.2.1,(hf b hb).2.2.2.2.2⟩
  ·refine thn (T.item (X.blockC scope cx cl s3.heap.objs.size N s3 (upd H s.heap.objs.size (.lst [])) fp) rfl rfl rfl hc i [] s5 τ H5 (fun _ _=>False) I5 (stat fr5) st5 go) fun r s6 ⟨u,hr,h6⟩=>?_
   subst hr
   refine thn h6 fun _ s7 ⟨x,H7,I7,r7,y7,st7,fr7⟩=>?_
   have I7':=I7.pinned (stat fr7) (T.obj _ _ st7)
   refine thn (hg' _ s7 τ H7 x u _ I7' r7 (step x H7 y7)) fun _ s8 ⟨τ8,H8,I8,q8⟩=>?_
   refine thn (ht' _ s8 τ8 H8 _ I8 q8) fun b s9 ⟨H9,I9,q9⟩=>?_
   have again:∀ {τ':St} {H':Hp} {s':Shared} {ys':List V},Inv (X.blockC scope cx cl s3.heap.objs.size N s3 (upd H s.heap.objs.size (.lst [])) fp) ([]++qb9 fp s7.heap) τ' H' s'->M τ' H' ys' →
     ∃ m,m < n/\∃ i τ H' ys,Inv (X.blockC scope cx cl s3.heap.objs.size N s3 (upd H s.heap.objs.size (.lst [])) fp) [] τ H' s'/\tn i s'.heap/\(∀ b∈fp,H' b=none)/\W i m τ H' ys:=fun {τ' H' s' ys'} I' hm'=>by
    obtain ⟨m',hm,w'⟩:=hM _ _ _ hm'
    refine ⟨m',hm,i+1,τ',H',ys',I'.unpinned,T.keep _ _ _ st7 fun b hb o e=>(I'.pin (b,o) (List.mem_append_right _ (List.mem_append_right _ (qaH hb e)))).1,fun b hb=>?_,w'⟩
    obtain ⟨o,e,d⟩:=T.obj _ _ st7 b hb
    exact (I'.pin (b,o) (List.mem_append_right _ (List.mem_append_right _ (qaH hb e)))).2.1
   cases b with
   | false=>exact again I9 q9
   | true=>
    refine thn (he' _ s9 τ8 H9 _ I9 q9) fun y s10 ⟨v10,H10,I10,r10,hD10,q10⟩=>?_
    refine thn (mt_append (X:=X.blockC scope cx cl s3.heap.objs.size N s3 (upd H s.heap.objs.size (.lst [])) fp) _ s10 τ8 H10 (.ref s.heap.objs.size) [v10] (.ref s.heap.objs.size) [y] (fun _ H'=>M τ8 H' (ys++[v10])) I10 rfl (.cons r10 .nil) ⟨_,ys,v10,rfl,rfl,hD10,hz,q10⟩) fun _ s11 ⟨_,H11,I11,_,q11⟩=>?_
    exact again I11 q11
 exact codeAny_compStart_list loop (T.self X.A 0 _ _ _ st4 loop)
variable {elt target iter:Expr} {ifs:List Expr} {scope:Scope} {pos spos:Pos} {wi:TI} {g:TG} {tt:TT} {te:TE}
theorem qdu {i:Nat} {y:Str} {py:Pos} (cx:Str) (N:List Str) (js:List Nat) (hok:qcD cx X.env.scope X.N scope N js=true) (hN:N.Nodup) (hc:X.calm=true) (hXN:X.N.Nodup) (hyi:X.N[i]? = some y) (hy:Loc X.env.scope y) (hi:PI X target iter wi)
  (hg:∀ cl C s H fp,PG (X.blockC scope cx cl C N s H fp) target g) (ht:∀ cl C s H fp,PF (X.blockC scope cx cl C N s H fp) ifs tt) (he:∀ cl C s H fp,PE (X.blockC scope cx cl C N s H fp) elt te)
  (hsw:swapsWith (.ListComp elt [⟨target,iter,ifs,0⟩] scope pos) (some (.Name y py)) spos.line X.env=pure true:=by rfl)
  (hk:scope.kind = .function:=by rfl) (hs:∀ x,foldedSetIterable iter X.env x=pure x:=by intro _;rfl) (hf:X.fn y=true\/X.env.scope.names.lookup y=some .local:=by first | exact .inl rfl | exact .inr rfl | assumption) :
  PS X (.Assign [.Name y py] (.ListComp elt [⟨target,iter,ifs,0⟩] scope pos) spos) (qj9 (qeq (N.length - js.length) js wi g tt te) (qah i)):=by
 intro pins s σ H D I h
 have S:=qeG hok
 obtain ⟨cl,hclos,hcl,hcl2⟩:=qa8 (env:=X.env) (scope:=scope) fun y hy hf=>I.ok.has _ (S.tk y hy hf)
 rw [exec_Assign_Name_used _ _ _ _ hsw]
 refine wpAny_bind (wpAny_standAt (wpAny_bind ?_))
 show wpAny _ X.A (do let _ <-comprehension (.ListComp elt [⟨target,iter,ifs,0⟩] scope pos) scope X.env _ (newList []) false (eval iter X.env) (some (assign (.Name y py) X.env))) _ _ s
 refine wpAny_bind (wpAny_mono (wpAny_comprehension_free (use:=some (assign (.Name y py) X.env)) (Q:=fun _ s'=>SP X pins D .next s') rfl hs hclos hk S.names
  (thn (hi pins s σ H _ I h) fun v s1 h1=>thn h1 fun itv s2 h2=>?_)) (fun _ s' hq=>wpAny_pure (wpAny_pure hq)) fun _ _ e=>e)
 obtain ⟨it,fp,tn,J,H2,e,I2,T,st2,f2,hw⟩:=h2
 subst e
 refine qdG (RR:=fun acc C=>compPost (model X.prog X.w) X.A X.xe (some (assign (.Name y py) X.env)) (fun _ s'=>SP X pins D .next s') acc C) (Q:=fun v H'=>D.nx (σ.set i (some v)) H') hc I2 T st2 f2 hk hN S hcl hcl2 hg ht he hw ?_
 rintro E C H' s' ⟨m,hn⟩ ⟨c0,c1,c2,c3,c4,c5⟩ I' q
 show wpAny _ X.A (assign (.Name y py) X.env (.ref E)) _ _ _
 obtain ⟨oC,es,ep,hoC,hdC,hrC⟩:=id hn
 have I2':Inv X (pins++[(C,oC)]) σ H' s':=I'.pins_of fun p hp=>(mA_ hp).elim (fun z=>I'.pin p (List.mem_append_right _ z)) fun z=>by
  have e:p=(C,oC):=by simpa using z
  subst e
  exact ⟨hoC,c0,c1,c2,fun v z=>by rw [hdC] at z;cases z⟩
 refine wpAny_assign_Name (qbC I2' hXN hyi hy (v:=.ref E) rfl (fun s'' I''=>?_) hf)
 have hC2:=(I''.pin (C,oC) (List.mem_append_right _ (List.mem_append_right _ (by simp)))).1
 have I3:Inv X pins (σ.set i (some (.ref E))) H' s'':=I''.unpinned
 exact ⟨m,⟨oC,es,ep,hC2,hdC,hrC⟩,fun h' hs'=>⟨_,H',I3.turned (t':=s''.toks) (fun b o hb e=>(hs'.2 b hb).trans e) c0 c1 c3 c4 c5,q⟩⟩
theorem qiv (cx y:Str) (i:Nat) (N:List Str) (js:List Nat) {py:Pos} (hN:N.Nodup) (hXN:X.N.Nodup) (hi:PI X target iter wi)
  (hg:∀ cl C s H fp,PG (X.blockC scope cx cl C N s H fp) target g) (ht:∀ cl C s H fp,PF (X.blockC scope cx cl C N s H fp) ifs tt) (he:∀ cl C s H fp,PE (X.blockC scope cx cl C N s H fp) elt te)
  (hyi:X.N[i]? = some y:=by with_unfolding_all rfl) (hy:qjJ X.env.scope y=true:=by kernel_rfl)
  (hok:qcD cx X.env.scope X.N scope N js=true:=by kernel_rfl) (hc:X.calm=true:=by kernel_rfl) (hk:scope.kind = .function:=by kernel_rfl) (hs:∀ x,foldedSetIterable iter X.env x=pure x:=by intro _;kernel_rfl)
  (hsw:swapsWith (.ListComp elt [⟨target,iter,ifs,0⟩] scope pos) (some (.Name y py)) spos.line X.env=pure true:=by kernel_rfl) (hf:(X.fn y || X.env.scope.names.lookup y == some .local)=true:=by kernel_rfl) :
  PS X (.Assign [.Name y py] (.ListComp elt [⟨target,iter,ifs,0⟩] scope pos) spos) (qj9 (qeq (N.length - js.length) js wi g tt te) (qah i)):=
 qdu cx N js hok hN hc hXN hyi (qea hy) hi hg ht he hsw hk hs (by
  rw [Bool.or_eq_true] at hf
  exact hf.elim .inl fun z=>.inr (eq_of_beq z))
end
end L2
end
section
namespace L2
open PySem PySem.Spec PyProof.Rows
def Its (ws:List Bool):It:=⟨fun i _=>i < ws.length,fun i H x H'=>H'=H/\∃ b,ws[i]? = some b/\x = .str (bs [b]),fun i _=>ws.length<=i⟩
theorem qgu {P:Program} {w:World} {K:PySem.W.Frag} {tg:Expr} (it:Addr) (ws:List Bool) (t:Tok):Turn P w K tg (Its ws) [it] it (fun i h=>h.IsStrIter it "str_ascii_iterator" (bs ws) t i) where
 mem:=by simp
 obj:=fun i h st b hb=>by
  have e:b=it:=by simpa using hb
  subst e
  obtain ⟨o,e,c,d⟩:=st
  exact ⟨o,e,fun v z=>by rw [d] at z;cases z⟩
 keep:=fun i h h' st k=>by
  obtain ⟨o,e,c,d⟩:=st
  exact ⟨o,k it (by simp) o e,c,d⟩
 item:=by
  intro X hP hw hK hc i pins s σ H E I hf st hg
  subst hP hw hK
  obtain ⟨f0,f1,f2,f3,f4,f5⟩:=hf it (by simp)
  have hg:i < ws.length:=hg
  have hb:ws[i]? = some ws[i]:=gE_ hg
  refine wpAny_pyNext_ascii_item st (ql3 hb) fun h' st' sb=>?_
  have I1:Inv X pins σ H { s with heap:=h',toks:=s.toks+1 }:=I.turned (fun b o hb e=>(sb.2 b hb).trans e) f0 f1 f3 f4 f5
  obtain ⟨o,e,c,d⟩:=id st'
  exact ⟨_,rfl,qfV (s:={ s with heap:=h',toks:=s.toks+1 }) e c d (by decide) ⟨.str (bs [ws[i]]),H,I1,⟨_,rfl⟩,⟨rfl,_,hb,rfl⟩,st',fun b hb=>(hf b hb).1⟩⟩
 done:=by
  intro X hP hw hK hc i pins s σ H E I hf st hg
  subst hP hw hK
  obtain ⟨f0,f1,f2,f3,f4,f5⟩:=hf it (by simp)
  have hg:ws.length<=i:=hg
  refine wpAny_pyNext_ascii_end (I.ok.hd hc) st ?_ fun h' eb=>⟨rfl,I.turned (t':=s.toks) (fun b o hb e=>eb b o hb e) f0 f1 f3 f4 f5⟩
  unfold bs
  rw [List.getElem?_toArray]
  exact List.getElem?_eq_none (by rw [lM_];exact hg)
 self:=fun _ _ _ _ _ st h=>wpAny_pyIter_striter_ascii st h
section
variable {X:Cx} {tg:Expr}
def qnU (tl:TE):TI:=fun σ H R=>tl σ H fun x H1=>∃ ws:List Bool,x = .str (bs ws)/\R (Its ws) H1
theorem qkR {l:Expr} {tl:TE} (hl:PE X l tl):PI X tg l (qnU tl):=by
 intro pins s σ H R I h
 refine thn (hl pins s σ H _ I h) fun v s1 ⟨x,H1,I1,r1,q1⟩=>?_
 obtain ⟨ws,rfl,q⟩:=q1
 obtain ⟨t,rfl⟩:=r1
 refine wpAny_pyIter_ascii (by
  unfold bs
  rw [List.all_toArray,List.all_eq_true]
  intro c hc
  obtain ⟨b,_,rfl⟩:=mM_ hc
  cases b<;>decide) ?_
 refine ⟨s1.heap.objs.size,[s1.heap.objs.size],_,_,H1,rfl,I1.kept (t':=s1.toks) fun b o e=>Heap.get?_push_of_some _ e,qgu _ ws t,⟨_,Heap.get?_push_size _ rfl,rfl,rfl⟩,fun b hb=>?_,q⟩
 have e:b=s1.heap.objs.size:=by simpa using hb
 subst e
 exact I1.fpOk (Nat.le_refl _) (I1.hok.fresh (Nat.le_refl _))
theorem qhQ (ws:List Bool):ItOk (Its ws) (ws.map fun b=>V.str (bs [b])) fun _=>True:=
 ⟨fun H _=>by show ws.length<=_;rw [lM_];exact Nat.le_refl _,fun i H _ hi=>by show i < ws.length;rw [lM_] at hi;exact hi,fun i H x H' _ hi y=>⟨y.1,by
  obtain ⟨b,h1,h2⟩:=y.2
  rw [gM_,h1,h2];rfl⟩⟩
end
end L2
end
section
namespace L2
open PySem PySem.Spec PyProof.Rows
section
variable {prog:Program} {w:World} {A:Around} {E:Value->Shared->Prop} {s:Shared}
end
section
variable {X:Cx} {p pos:Pos}
def qmV (tl:TE):TI:=fun σ H R=>tl σ H fun x H1=>match x with
 | .ref a=>∃ kvs,Rd H1 a (.dK kvs)/\∀ o H2,H2 a=some (.frz o (.dK kvs))->SameT a H1 H2->R (Itk a o (kvs.map fun p=>kV p.1)) H2
 | _=>False
theorem qi0 {tg l:Expr} {tl:TE} (hl:PE X l tl):PI X tg l (qmV tl):=by
 intro pins s σ H R I h
 refine thn (hl pins s σ H _ I h) fun v s1 ⟨x,H1,I1,r1,q1⟩=>?_
 dsimp only at q1
 split at q1
 ·rename_i a
  cases r1
  obtain ⟨kvs,rd,q⟩:=q1
  obtain ⟨o,H2,J,ho,hq',st⟩ : ∃ (o:Obj) (H2:Hp),Inv X pins σ H2 s1/\s1.heap.get? a=some o/\H2 a=some (.frz o (.dK kvs))/\SameT a H1 H2:=by
   rcases rd with hq | ⟨o,hq⟩
   ·obtain ⟨o,ho⟩:=I1.obj hq
    exact ⟨o,_,I1.freeze hq trivial ho,ho,qaa,fun b u nb e=>by rw [qac nb];exact e⟩
   ·exact ⟨o,H1,I1,I1.frozen hq,hq,fun b u nb e=>e⟩
  obtain ⟨_,z,hd,vs,r,o',es,ep,h1,h2,h3,h4,h5,h6⟩:=J.hok a _ hq'
  rw [ho] at h1;cases h1
  have hT:s1.TypeIs (.ref a) "dict" := let ⟨_,_,_,_,dd⟩:=qbp J.hok (.inr ⟨o,hq'⟩);dd.typeIs
  refine qbV hd hT ho h3 ?_
  refine ⟨s1.heap.objs.size,[s1.heap.objs.size],_,_,_,rfl,J.kept (t':=s1.toks) fun b o e=>Heap.get?_push_of_some _ e,qbd h3 (qbj r h5),⟨_,Heap.get?_push_size _ rfl,rfl,rfl⟩,fun b hb=>?_,q o H2 hq' st⟩
  have e:b=s1.heap.objs.size:=by simpa using hb
  subst e
  exact J.fpOk (Nat.le_refl _) (J.hok.fresh (Nat.le_refl _))
 ·exact q1.elim
end
end L2
end
section
namespace Om
section
variable {rows:Rows} {turn:Int} {ks ks':List Nat} {E E':Nat->Int} {ed ed':Nat->Nat->Prop} {s l:Nat} {r:List Bool×Nat}
end
end Om
namespace L2
open PySem PySem.Spec PyProof.Rows
section
variable {H H':Hp} {kvs:List (Key×V)} {ks:List Nat} {E:Nat->Int} {c:Nat}
end
end L2
end
section
namespace L2
open PySem PySem.StrLaws Builtin Builtin.Str
end L2
end
section
namespace L2
open PySem PySem.Spec PyProof.Rows Builtin Builtin.Str
section
variable {X:Cx} {p pos apos:Pos} {a b c e o:Expr} {es:List Expr} {t:TA} {to:TE}
end
end L2
end
section
namespace Om
end Om
namespace L2
open PySem PySem.Spec PyProof.Rows
section
variable {H0 H:Hp} {L q:Addr} {ts:List Addr} {yss:Nat->List Nat}
end
end L2
namespace L2
open PySem PySem.Spec PyProof.Rows
section
variable {X:Cx}
end
end L2
namespace Om
end Om
namespace L2
open PySem PySem.Spec PyProof.Rows
end L2
end
section
namespace Om
end Om
namespace L2
open PySem PySem.Spec PyProof.Rows
end L2
namespace L2
end L2
namespace L2
end L2
end
section
namespace L2
open PySem PySem.Spec PyProof.Rows
section
variable {X:Cx} {p pos:Pos}
def qhE:List V->Hp->VK->Prop:=fun vs H Q=>(∃ (a:Addr) (kvs:List (Key×V)),vs=[.ref a]/\Rd H a (.dK kvs)/\∀ l,H l=none->Q (.ref l) (upd H l (.lst (kvs.map fun p=>kV p.1))))\/qfs vs H Q
theorem qeJ (hc:X.calm=true):CallR X (.type "list") qhE:=by
 intro pins s σ H xs us Q I r h
 rcases h with ⟨a,kvs,rfl,rd,q⟩ | h
 ·obtain ⟨u,rfl,rx⟩:=qaP r
  cases rx
  obtain ⟨z,hd,vs,kv,o,es,ep,h1,h2,h3,h4,h5,h6⟩:=qbp I.hok rd
  have hT:s.TypeIs (.ref a) "dict" := ⟨o,h1,h2.1⟩
  have rel:=qbj kv h5
  have le:es.size<=sizeLine:=by
   have e1:=rel.length
   simp at e1
   omega
  refine qaR (I.ok.hd hc) hd hT h1 h3 le fun h' tk acc' c' kp e' it=>?_
  have hl:(kvs.map fun p=>kV p.1).length<=sizeLine:=by
   have:=rel.length
   simp at this ⊢
   omega
  exact ⟨.ref s.heap.objs.size,_,I.laid (t':=tk) kp (Nat.le_refl _) (show ObjOk X.prog X.w _ h' _ (.lst _) from ⟨hl,acc'.toList,c',qa6 it rel,by simpa using e'⟩),rfl,q _ (I.hok.fresh (Nat.le_refl _))⟩
 ·exact qeK hc pins s σ H _ _ Q I r h
theorem qhi {e:Expr} {es:List Expr} {t:TA} {mg':Str->Option Value} (hm:mg' "list" = none) (hX:X.mg=mg') (ha:PA X (e :: es) t) (hc:X.calm=true:=by kernel_rfl) (hg:gB X "list" = true:=by kernel_rfl) (he:starEach (e :: es) X.env=(false,eval e X.env) :: starEach es X.env:=by kernel_rfl) (hpl:(backTo pos (starEach es X.env)).any (·.1)=false:=by kernel_rfl) :
  PE X (.Call (.Name "list" p) (e :: es) [] pos) (tCB qhE t):=qbP (qeJ hc) (qaD hg) (by rw [hX];exact hm) PyProof.Rows.boot_list ha (he:=he) (hpl:=hpl)
end
end L2
namespace Om
end Om
end
section
namespace L2
open PySem PySem.Spec PyProof.Rows
end L2
namespace L2
open PySem PySem.Spec PyProof.Rows
end L2
namespace L2
open PySem PySem.Spec PyProof.Rows
def woA (a:Addr) (H:Hp):Hp:=fun x=>if x=a then none else H x
theorem woA.same {a:Addr} {H:Hp}:Same (woA a H) H:=fun x u e=>by
 unfold woA at e
 split at e
 ·cases e
 ·exact e
theorem woA.at {a x:Addr} {H:Hp} {u:HO} (h:H x=some u) (n:x≠a):woA a H x=some u:=by unfold woA;rw [if_neg n];exact h
end L2
end
section
namespace L2
open PySem PySem.Spec PyProof.Rows
section
variable {X:Cx} {p pos apos:Pos} {a b e o:Expr} {es:List Expr} {t:TA} {to:TE}
end
end L2
end
section
namespace L2
open PySem PySem.Spec PyProof.Rows
section
variable {X:Cx} {p pos:Pos}
end
end L2
end
section
namespace Om
end Om
end
section
namespace L2
open PySem PySem.Spec PyProof.Rows
section
variable {G H0 H H':Hp} {a A S q:Addr} {ts:List Addr} {ps:List (Nat×Nat)} {rw:Nat->List (List Bool×Nat)}
end
end L2
namespace L2
open PySem PySem.Spec PyProof.Rows
end L2
end
section
namespace L2
open PySem PySem.Spec PyProof.Rows
def Itv (K:PySem.W.Frag) (a:Addr) (n:Nat):It:=
 ⟨fun i H=>∃ xs x,SqL K H a xs/\xs.length=n/\xs.reverse[i]? = some x,fun i H x H'=>H'=H/\∀ xs,SqL K H a xs->xs.reverse[i]? = some x,fun i H=>∃ xs,SqL K H a xs/\xs.length=n/\n<=i⟩
theorem qgv {P:Program} {w:World} {K:PySem.W.Frag} {tg:Expr} (a it:Addr) (n:Nat):Turn P w K tg (Itv K a n) [it] it (fun i h=>i<=n/\h.IsRevIter it a ((n:Int) - 1 - (i:Int))) where
 mem:=by simp
 obj:=fun i h st b hb=>by
  have e:b=it:=by simpa using hb
  subst e
  obtain ⟨_,o,e,c,d⟩:=st
  exact ⟨o,e,fun v z=>by rw [d] at z;cases z⟩
 keep:=fun i h h' st k=>⟨st.1,st.2.at fun o e=>k it (by simp) o e⟩
 item:=by
  intro X hP hw hK hc i pins s σ H E I hf st hg
  subst hP hw hK
  obtain ⟨xs,x,hq,hn,hx⟩:=hg
  obtain ⟨its,rv,p,hz⟩:=I.list hq
  have hi:i < n:=by
   have:=(gS_ hx).1
   rw [List.length_reverse] at this;omega
  have hx':xs[n - 1 - i]? = some x:=by rw [List.getElem?_reverse (by omega),hn] at hx;exact hx
  obtain ⟨u,hu,ru⟩:=rv.get hx'
  obtain ⟨f0,f1,f2,f3,f4,f5⟩:=hf it (by simp)
  have e:(n:Int) - 1 - (i:Int)=((n - 1 - i:Nat):Int):=by omega
  have hit:=st.2
  rw [e] at hit
  refine wpAny_pyNext_rev_item hit p.isList (x:=u) (by simpa using hu) fun h' st' sb=>?_
  have e2:((n - 1 - i:Nat):Int) - 1=(n:Int) - 1 - ((i+1:Nat):Int):=by omega
  rw [e2] at st'
  have I1:Inv X pins σ H { s with heap:=h' }:=I.turned (t':=s.toks) (fun b o hb e=>(sb.2 b hb).trans e) f0 f1 f3 f4 f5
  obtain ⟨o,e,c,d⟩:=id st'
  exact ⟨u,rfl,qfV (s:={ s with heap:=h' }) e c d (by decide) ⟨x,H,I1,ru,⟨rfl,fun ys hy=>by rw [I.list_inj hy hq];exact hx⟩,⟨hi,st'⟩,fun b hb=>(hf b hb).1⟩⟩
 done:=by
  intro X hP hw hK hc i pins s σ H E I hf st hg
  subst hP hw hK
  obtain ⟨xs,hq,hn,hx⟩:=hg
  obtain ⟨f0,f1,f2,f3,f4,f5⟩:=hf it (by simp)
  have hit:=st.2
  have:i=n:=Nat.le_antisymm st.1 hx
  subst this
  rw [show (i:Int) - 1 - (i:Int) = -1 by omega] at hit
  exact wpAny_pyNext_rev_end (I.ok.hd hc) hit fun h' eb=>⟨rfl,I.turned (t':=s.toks) (fun b o hb e=>eb b o hb e) f0 f1 f3 f4 f5⟩
 self:=fun _ _ _ _ _ st h=>wpAny_pyIter_revIter st.2 h
section
variable {X:Cx} {p pos:Pos} {a tg:Expr}
def qnW (K:PySem.W.Frag) (ta:TA):TI:=fun σ H R=>ta σ H fun vs H1=>match vs with
 | [.ref l]=>∃ xs,SqL K H1 l xs/\R (Itv K l xs.length) H1
 | _=>False
theorem qlI {ta:TA} {mg':Str->Option Value} (hm:mg' "reversed" = none) (hX:X.mg=mg') (ha:PA X [a] ta) (hg:gB X "reversed" = true:=by kernel_rfl) (hs:starEach [a] X.env=[(false,eval a X.env)]:=by kernel_rfl) :
  PI X tg (.Call (.Name "reversed" p) [a] [] pos) (qnW X.K ta):=by
 intro pins s σ H R I h
 refine Call_ (qbs I (qaD hg) (by rw [hX];exact hm) boot_reversed (PyProof.Rows.callWith_type1 (thn (ha pos pins s σ H _ I h) fun us s1 ⟨vs,H1,I1,r1,q1⟩=>?_) hs rfl))
 dsimp only at q1
 split at q1
 ·rename_i l
  obtain ⟨xs,hq,q⟩:=q1
  obtain ⟨u,rfl,r⟩:=qaP r1
  cases r
  obtain ⟨its,rv,pl,hz⟩:=I1.list hq
  have rl:=rv.length
  refine call_reversed_list pl.isList ?_
  have e0:((its.toArray.size:Nat):Int) - 1=(xs.length:Int) - 1 - ((0:Nat):Int):=by simp;omega
  have st:(s1.heap.push (revObj l (((its.toArray.size:Nat):Int) - 1))).IsRevIter s1.heap.objs.size l ((xs.length:Int) - 1 - ((0:Nat):Int)):=⟨_,Heap.get?_push_size _ rfl,rfl,by rw [<-e0];rfl⟩
  refine wpAny_pyIter_revIter st ?_
  refine ⟨s1.heap.objs.size,[s1.heap.objs.size],_,_,H1,rfl,I1.kept (t':=s1.toks) fun b o e=>Heap.get?_push_of_some _ e,qgv l _ xs.length,⟨Nat.zero_le _,st⟩,fun b hb=>?_,q⟩
  have e:b=s1.heap.objs.size:=by simpa using hb
  subst e
  exact I1.fpOk (Nat.le_refl _) (I1.hok.fresh (Nat.le_refl _))
 ·exact q1.elim
end
theorem qjQ (K:PySem.W.Frag) (a:Addr) (xs:List V):ItOk (Itv K a xs.length) xs.reverse fun H=>SqL K H a xs:=
 ⟨fun H h=>⟨xs,h,rfl,by simp⟩,fun i H h hi=>⟨xs,_,h,rfl,gE_ hi⟩,fun i H x H' h hi y=>⟨y.1,y.2 xs h⟩⟩
end L2
namespace L2
open PySem PySem.Spec PyProof.Rows
theorem Vals.rev:∀ {xs:List V} {us:List Value},Vals xs us->Vals xs.reverse us.reverse
 | _,_,.nil=>.nil
 | _,_,.cons r t=>by
  rw [List.reverse_cons,List.reverse_cons]
  exact (Vals.rev t).append (.cons r .nil)
section
variable {prog:Program} {w:World} {A:Around} {E:Value->Shared->Prop} {s:Shared}
theorem qhf {it:Addr} {Q:Bool->Shared->Prop} (hT:s.TypeIs (.ref it) "list_reverseiterator") (h:Q false s):wpAny (model prog w) A (Builtin.List.listLengthHint (.ref it)) Q E s:=by
 have n1:typeLookup (.type "list_reverseiterator") "__len__" = pure none:=by rw [typeLookup_type,builtinLookup_eq_fast];kernel_rfl
 have n2:typeLookup (.type "list_reverseiterator") "__length_hint__" = pure (some (.builtin "list_reverseiterator.__length_hint__")):=by rw [typeLookup_type,builtinLookup_eq_fast];kernel_rfl
 unfold Builtin.List.listLengthHint
 refine wpAny_bind (wpAny_specialOf hT n1 ?_)
 wp_delta
 refine wpAny_ite_split (fun hab=>absurd hab (by decide +kernel)) (fun _=>?_)
 refine wpAny_ite_split (fun hab=>absurd hab (by decide)) (fun _=>?_)
 refine wpAny_bind (wpAny_specialOf hT n2 ?_)
 generalize hid:("list_reverseiterator.__length_hint__" : String)=id0
 wp_delta
 rw [show splitId id0=some ("list_reverseiterator","__length_hint__") from by subst hid;decide +kernel]
 subst hid
 refine wpAny_bind (wpAny_isInstance (T:= "list_reverseiterator") (b:=true) hT (by rw [isSubtype_type];kernel_rfl) ?_)
 refine wpAny_ite_split (fun hab=>absurd hab (by decide)) (fun _=>?_)
 refine wpAny_ite_split (fun _=>?_) (fun hab=>absurd (by decide +kernel) hab)
 refine wpAny_ite_split (fun hab=>absurd hab (by decide +kernel)) (fun _=>?_)
 exact wpAny_pure h
theorem qeF {R:Result->Shared->Prop} {it l:Addr} {items:Array Value} (hh:A.handled=none) (hit:s.heap.IsRevIter it l ((items.size:Int) - 1 - ((0:Nat):Int))) (hl:s.heap.IsList l items) (hne:l≠it) (hlen:items.size<=sizeLine) (S:Addr) (res:Value) (c₀:Nat) (hS:s.heap.get? S=some { cls:=.type "list",data:=.seq #[] c₀ }) (hSl:S≠l)
  (hR:∀ h' tk acc' c',(∀ b o,b≠S->b≠it->s.heap.get? b=some o->h'.get? b=some o)->h'.get? S=some { cls:=.type "list",dict:=none,data:=.seq acc' c',slots:=#[] } →
   ItemsOf (fun i v=>items[items.size - 1 - i]? = some v) acc' items.size->R (.ok (.ret res)) { s with heap:=h',toks:=tk }) :
  wpAny (model prog w) A.in1 (Builtin.List.listExtendWith (.ref S) (.ref it) res)
   (fun fin s'=>match fin with | .done f=>R (.ok f) s' | .again c'=>c'.quiet=true/\codeAny (model prog w) A c' R s') (fun e s'=>R (.error e) s') s:=by
 have hT:=hit.typeIs
 have hSr:S≠it:=fun e=>by obtain ⟨o,ho,hc,_⟩:=hit;rw [<-e,hS] at ho;cases ho;exact absurd (show Value.type "list" = Value.type "list_reverseiterator" from hc) (by decide)
 have hSf:S ∉ [it,l]:=fun hm=>by simp at hm;rcases hm with h | h;exact hSr h;exact hSl h
 have W:=(Walks.listRev (prog:=prog) (w:=w) (A:=A.in1) hh it l hne items).toS
 unfold Builtin.List.listExtendWith
 refine wpAny_bind (wpAny_typeOf (T:= "list_reverseiterator") hT ?_)
 have h1:Builtin.List.listSameRef (.ref S) (.ref it)=false:=by simp [Builtin.List.listSameRef,hSr]
 have h2:(Value.type "list_reverseiterator" == Value.type "list")=false:=by decide
 have h3:(Value.type "list_reverseiterator" == Value.type "tuple")=false:=by decide
 simp only [h1,h2,h3,Bool.or_false,Bool.false_eq_true,if_false]
 refine wpAny_bind (wpAny_pyIter_revIter hit ?_)
 refine wpAny_bind (wpAny_holding (qhf hT ?_))
 have key:∀ (h:Heap) (c₁ tk:Nat),h.IsRevIter it l ((items.size:Int) - 1 - ((0:Nat):Int))->h.IsList l items->(∀ b o,b≠S->s.heap.get? b=some o->h.get? b=some o) →
   h.get? S=some { cls:=.type "list",data:=.seq #[] c₁ }->codeAny (model prog w) A (.builtin "list.extend.loop" ⟨[.ref S,.ref it,res],[]⟩) R { s with heap:=h,toks:=tk }:=by
  intro h c₁ tk hit' hll hk hS₁
  refine codeAny_extend_loopS W hlen S hSf res items.size 0 _ #[] c₁ rfl (Nat.zero_le _) ⟨Nat.zero_le _,hit',hll⟩ hS₁ (ItemsOf.nil _) fun s' acc' c' hm hS' hacc=>?_
  rw [Moved.eq_with hm]
  refine hR s'.heap s'.toks acc' c' (fun b o hb hb2 e=>hm.heap b o (fun hmem=>?_) (hk b o hb e)) hS' hacc
  rcases List.mem_cons.mp hmem with e' | hmem
  ·exact hb e'
  ·exact hb2 (mS_ hmem)
 refine wpAny_ite_split (fun _=>?_) (fun _=>wpAny_pure ⟨plainId_quiet F.plain_extend_loop _,key _ c₀ _ hit hl (fun b o _ e=>e) hS⟩)
 refine wpAny_bind (wpAny_rule ?_)
 refine wpAny_bind ?_
 show wpAny _ _ (updateSeq S (·.push .none) >>= fun _=>updateSeq S (·.pop)) _ _ _
 refine wpAny_bind (wpAny_updateSeq hS rfl ?_)
 have hS₂:=Heap.get?_update_self (Obj.mapSeq (·.push Value.none)) hS rfl
 refine wpAny_updateSeq (hz:=by seq_fits) hS₂ rfl ?_
 have hS₃:=Heap.get?_update_self (Obj.mapSeq (·.pop)) hS₂ rfl
 refine wpAny_pure ⟨plainId_quiet F.plain_extend_loop _,key _ _ _ ?_ ?_ (fun b o hb e=>?_) hS₃⟩
 ·exact hit.at fun o e=>(Heap.get?_update_other _ _ hSr).trans ((Heap.get?_update_other _ _ hSr).trans e)
 ·exact hl.at fun o e=>(Heap.get?_update_other _ _ hSl).trans ((Heap.get?_update_other _ _ hSl).trans e)
 ·exact (Heap.get?_update_other _ _ (Ne.symm hb)).trans ((Heap.get?_update_other _ _ (Ne.symm hb)).trans e)
theorem qcE {Q:Value->Shared->Prop} {it l:Addr} {items:Array Value} (hh:A.handled=none) (hit:s.heap.IsRevIter it l ((items.size:Int) - 1 - ((0:Nat):Int))) (hl:s.heap.IsList l items) (hne:l≠it) (hlen:items.size<=sizeLine)
  (hQ:∀ h' tk acc' c',(∀ b o,b≠it->s.heap.get? b=some o->h'.get? b=some o) →
   h'.get? s.heap.objs.size=some { cls:=.type "list",dict:=none,data:=.seq acc' c',slots:=#[] }->ItemsOf (fun i v=>items[items.size - 1 - i]? = some v) acc' items.size->Q (.ref s.heap.objs.size) { s with heap:=h',toks:=tk }) :
  wpAny (model prog w) A (call (.type "list") [.ref it]) Q E s:=by
 refine callType_codes (Q₁:=fun obj s₁=>obj = .ref s.heap.objs.size/\s₁={ s with heap:=s.heap.push { cls:=.type "list",data:=.seq #[] } }) F.called_list (F.typeCall_list_1 _) F.entry_list_init
  (code_list_new _ ⟨rfl,rfl⟩) fun obj s₁ h₁=>?_
 obtain ⟨rfl,rfl⟩:=h₁
 have hS:(s.heap.push { cls:=.type "list",data:=.seq #[] }).get? s.heap.objs.size=some { cls:=.type "list",data:=.seq #[] }:=Heap.get?_push_size _ rfl
 have itlt:it < s.heap.objs.size:=by obtain ⟨o,ho,_⟩:=hit;exact Heap.lt_size ho
 have llt:l < s.heap.objs.size:=by obtain ⟨o,ho,_⟩:=hl;exact Heap.lt_size ho
 refine ⟨⟨_,hS,rfl⟩,F.args_list_init_2 _ _,?_⟩
 show wpAny _ _ (do let old <-Builtin.List.listItems (.ref s.heap.objs.size);Builtin.List.listUpdate (.ref s.heap.objs.size) (fun _=>#[]);letGo old.toList.reverse;Builtin.List.listExtendWith (.ref s.heap.objs.size) (.ref it) .none) _ _ _
 refine wpAny_bind ?_
 unfold Builtin.List.listItems
 refine wpAny_bind (wpAny_seqItems hS rfl (wpAny_pure ?_))
 show wpAny _ _ (updateSeq s.heap.objs.size (fun _=>#[]) >>= fun _=>letGo (#[]:Array Value).toList.reverse >>= fun _=>Builtin.List.listExtendWith (.ref s.heap.objs.size) (.ref it) .none) _ _ _
 refine wpAny_bind (wpAny_updateSeq hS rfl ?_)
 have hS₂:=Heap.get?_update_self (Obj.mapSeq (fun _=>(#[]:Array Value))) hS rfl
 have oth:∀ b o,b≠s.heap.objs.size->(s.heap.push { cls:=.type "list",data:=.seq #[] }).get? b=some o->((s.heap.push { cls:=.type "list",data:=.seq #[] }).update s.heap.objs.size (Obj.mapSeq (fun _=>(#[]:Array Value)))).get? b=some o:=
  fun b o hb e=>(Heap.get?_update_other _ _ (Ne.symm hb)).trans e
 refine wpAny_bind (wpAny_letGo ?_)
 have hit2:=hit.at (h':=((s.heap.push { cls:=.type "list",data:=.seq #[] }).update s.heap.objs.size (Obj.mapSeq (fun _=>(#[]:Array Value))))) fun o e=>oth it o (Nat.ne_of_lt itlt) (Heap.get?_push_of_some _ e)
 have hl2:=hl.at (h':=((s.heap.push { cls:=.type "list",data:=.seq #[] }).update s.heap.objs.size (Obj.mapSeq (fun _=>(#[]:Array Value))))) fun o e=>oth l o (Nat.ne_of_lt llt) (Heap.get?_push_of_some _ e)
 refine qeF (A:=A.in1) hh hit2 hl2 hne hlen _ .none _ hS₂ (Nat.ne_of_gt llt) fun h' tk acc' c' hk hS' hacc=>?_
 exact ⟨rfl,hQ h' tk acc' c' (fun b o hb e=>hk b o (Nat.ne_of_lt (Heap.lt_size e)) hb (oth b o (Nat.ne_of_lt (Heap.lt_size e)) (Heap.get?_push_of_some _ e))) hS' hacc⟩
end
section
variable {X:Cx} {p p2 pos pos2:Pos} {a:Expr}
def tLR (ta:TA):TE:=fun σ H Q=>ta σ H fun vs H1=>match vs with
 | [.ref l]=>∃ xs,H1 l=some (.lst xs)/\∀ n,H1 n=none->Q (.ref n) (upd H1 n (.lst xs.reverse))
 | _=>False
theorem qf2 {ta:TA} {mg':Str->Option Value} (hm1:mg' "list" = none) (hm2:mg' "reversed" = none) (hX:X.mg=mg') (ha:PA X [a] ta) (hc:X.calm=true:=by kernel_rfl) (hg1:gB X "list" = true:=by kernel_rfl) (hg2:gB X "reversed" = true:=by kernel_rfl)
  (hs:starEach [a] X.env=[(false,eval a X.env)]:=by kernel_rfl) (hs1:starEach [.Call (.Name "reversed" p2) [a] [] pos2] X.env=[(false,eval (.Call (.Name "reversed" p2) [a] [] pos2) X.env)]:=by kernel_rfl) :
  PE X (.Call (.Name "list" p) [.Call (.Name "reversed" p2) [a] [] pos2] [] pos) (tLR ta):=by
 intro pins s σ H Q I h
 refine wpAny_Call_Name_kw (qbs I (qaD hg1) (by rw [hX];exact hm1) boot_list ?_)
 refine PyProof.Rows.callWith_type1 ?_ hs1 rfl
 rw [hs1]
 show wpAny _ _ (spliced [(false,eval (.Call (.Name "reversed" p2) [a] [] pos2) X.env)]) _ _ s
 refine Calls.spliced_cons ?_
 refine Call_ (qbs I (qaD hg2) (by rw [hX];exact hm2) boot_reversed (PyProof.Rows.callWith_type1 (thn (ha pos2 pins s σ H _ I h) fun us s1 ⟨vs,H1,I1,r1,q1⟩=>?_) hs rfl))
 dsimp only at q1
 split at q1
 ·rename_i l
  obtain ⟨xs,hq,q⟩:=q1
  obtain ⟨u,rfl,r⟩:=qaP r1
  cases r
  obtain ⟨its,rv,pl,hz⟩:=I1.list (SqL.of (K:=X.K) hq)
  have rl:=rv.length
  refine call_reversed_list pl.isList ?_
  have ilt:l < s1.heap.objs.size:=by obtain ⟨o,ho,_⟩:=pl.isList;exact Heap.lt_size ho
  have hne:l≠s1.heap.objs.size:=Nat.ne_of_lt ilt
  have hfr:H1 s1.heap.objs.size=none:=I1.hok.fresh (Nat.le_refl _)
  have I2:Inv X pins σ H1 { s1 with heap:=s1.heap.push (revObj l (((its.toArray.size:Nat):Int) - 1)) }:=I1.kept (t':=s1.toks) fun b o e=>Heap.get?_push_of_some _ e
  have st:(s1.heap.push (revObj l (((its.toArray.size:Nat):Int) - 1))).IsRevIter s1.heap.objs.size l (((its.toArray.size:Nat):Int) - 1 - ((0:Nat):Int)):=⟨_,Heap.get?_push_size _ rfl,rfl,by rw [show ((its.toArray.size:Nat):Int) - 1 - ((0:Nat):Int)=((its.toArray.size:Nat):Int) - 1 by omega];rfl⟩
  have fp:qdK X pins H1 s1.heap.objs.size:=I1.fpOk (Nat.le_refl _) hfr
  refine Calls.spliced_nil ?_
  refine qcE (I2.ok.hd hc) st (pl.isList.at fun o e=>Heap.get?_push_of_some _ e) hne (by simp;omega) fun h' tk acc' c' kp e' itm=>?_
  have sz:s1.heap.objs.size<=(s1.heap.push (revObj l (((its.toArray.size:Nat):Int) - 1))).objs.size:=by rw [Heap.size_push];omega
  have hn:H1 (s1.heap.push (revObj l (((its.toArray.size:Nat):Int) - 1))).objs.size=none:=I1.hok.fresh sz
  refine ⟨.ref (s1.heap.push (revObj l (((its.toArray.size:Nat):Int) - 1))).objs.size,upd H1 (s1.heap.push (revObj l (((its.toArray.size:Nat):Int) - 1))).objs.size (.lst xs.reverse),?_,rfl,q _ hn⟩
  refine I2.turnLaid (t':=tk) (ch:=[s1.heap.objs.size]) (fun b hb=>?_) (fun b o hb e=>kp b o (fun z=>hb (by simp [z])) e) (Nat.le_refl _) ?_
  ·rw [mS_ hb];exact fp
  ·refine ⟨by rw [List.length_reverse];omega,acc'.toList,c',?_,by simpa using e'⟩
   have er:acc'.toList=its.reverse:=by
    apply List.ext_getElem?
    intro i
    by_cases hi:i < its.length
    ·have hi':i < acc'.size:=by rw [itm.1];simpa using hi
     have:=itm.2 i acc'[i] (by simp [hi'])
     rw [List.getElem?_reverse hi]
     have e1:acc'.toList[i]? = some acc'[i]:=by simp [hi']
     rw [e1]
     have e2:its.toArray[its.toArray.size - 1 - i]? = its[its.length - 1 - i]?:=by simp
     rw [<-e2];exact this.symm
    ·have:¬ i < acc'.size:=by rw [itm.1];simpa using hi
     rw [List.getElem?_eq_none (by simp;omega),List.getElem?_eq_none (by rw [List.length_reverse];omega)]
   rw [er]
   exact Vals.rev rv
 ·exact q1.elim
end
end L2
end
section
namespace L2
open PySem PySem.Spec PyProof.Rows
section
variable {prog:Program} {w:World} {A:Around} {E:Value->Shared->Prop} {s:Shared}
abbrev tK (prog:Program) (w:World):=tupleKind (qap prog w)
theorem qff {d a:Addr} {xs:List (List Key×Addr×Value)} {k:List Key} {v:Value} {Q:Unit->Shared->Prop} (hu:(tK prog w).room A) (hk:(tK prog w).is s.heap k a) (hm:s.heap.DictOfH (tK prog w) d xs) (hin:k∈xs.map (·.1))
  (q:∀ h',h'.DictOfH (tK prog w) d (storedH xs k a v)->Heap.SameBut d s.heap h'->Q () { s with heap:=h' }):wpAny (model prog w) A (dictSetHashed d (.ref a) ((tK prog w).hash k) v) Q E s:=by
 obtain ⟨od,ents,epo,a1,a2,a3,a4,a5,a6⟩:=hm
 unfold dictSetHashed
 refine wpAny_holding (wpAny_bind (wpAny_dictFind_heap hu hk a1 a3 a4 a5 a6 (fun no=>?_) (fun j p hj=>?_)))
 ·exfalso
  obtain ⟨x,hx,e⟩:=mM_ hin
  obtain ⟨j,hj⟩:=mG_ hx
  exact no j x.2 (by rw [hj,<-e])
 ·have so:=storedH_old (atKey_of_get a6 hj) a v
  refine wpAny_bind (wpAny_rule (wpAny_bind (wpAny_updateDict a1 a3 (wpAny_point (q _ ?_ (Heap.SameBut.update ..))))))
  rw [so]
  refine ⟨_,_,epo,Heap.get?_update_self _ a1 (Obj.isFreed_of_dict (Obj.data_mapDict a3 _)),a2.mapDict _,Obj.data_mapDict a3 _,?_,fun x hx=>?_,by rw [keys_map_putAt];exact a6⟩
  ·have mm:=modify_map_putAt (entryOfKey (tK prog w)) (fun e:DictEntry=>{ e with val:=v }) k v (fun _ _=>rfl) a6 hj
   rw [<-a4] at mm
   cases ents
   simpa using mm
  ·obtain ⟨y,hy,rfl⟩:=mM_ hx
   have ky:=(tK prog w).keeps (a5 y hy) a1 a3 (Heap.SameBut.update s.heap d (Obj.mapDict fun es=>es.modify j fun e=>{ e with val:=v }))
   unfold putAt
   split<;>exact ky
def qfJ (xs ys:List (List Key×Addr×Value)):List (List Key×Addr×Value):=ys.foldl (fun acc y=>storedH acc y.1 y.2.1 y.2.2) xs
theorem qcT:∀ {ys xs:List (List Key×Addr×Value)},(∀ y∈ys,y.1∈xs.map (·.1))->(qfJ xs ys).map (·.1)=xs.map (·.1)
 | [],_,_=>rfl
 | y :: ys,xs,h=>by
  have h1:=h y List.mem_cons_self
  have e:(storedH xs y.1 y.2.1 y.2.2).map (·.1)=xs.map (·.1):=by
   obtain ⟨x,hx,ex⟩:=mM_ h1
   have:(atKey xs y.1).isSome:=by
    unfold atKey
    rw [Option.isSome_map,List.find?_isSome]
    exact ⟨x,hx,by simpa using ex⟩
   unfold storedH
   rw [if_pos this,keys_map_putAt]
  show (qfJ (storedH xs y.1 y.2.1 y.2.2) ys).map (·.1)=_
  rw [qcT (fun z hz=>by rw [e];exact h z (mC_ _ hz)),e]
theorem qfI (xs ys:List (List Key×Addr×Value)) (y:List Key×Addr×Value):qfJ xs (ys++[y])=storedH (qfJ xs ys) y.1 y.2.1 y.2.2:=by unfold qfJ;rw [List.foldl_append];rfl
theorem qdy {nm:String} {d o:Addr} {xs ys:List (List Key×Addr×Value)} {Q:Unit->Shared->Prop} (hdo:d≠o) (hoS:(o == sysModules)=false) (hu:(tK prog w).room A) (hd:s.heap.DictOfH (tK prog w) d xs) (ho:s.heap.DictOfH (tK prog w) o ys) (ne:xs≠[])
  (hin:∀ y∈ys,y.1∈xs.map (·.1)) (q:∀ h',h'.DictOfH (tK prog w) d (qfJ xs ys)->Heap.SameBut d s.heap h'->Q () { s with heap:=h' }):wpAny (model prog w) A (Builtin.Dict.mergeDict nm d o) Q E s:=by
 obtain ⟨dd,d1,d2,d3,d4,d5,d6,d7,d8⟩:=id hd
 obtain ⟨oo,o1,o2,o3,o4,o5,o6,o7,o8⟩:=id ho
 have ol:o1.size=ys.length:=size_of_entries o6
 unfold Builtin.Dict.mergeDict Builtin.Dict.showsAll
 rw [if_neg (by simpa using hdo),if_neg (by rw [hoS];exact Bool.false_ne_true)]
 refine wpAny_bind (wpAny_pure (wpAny_bind (wpAny_dictEntries o3 o5 ?_)))
 dsimp only
 split
 refine wpAny_bind (wpAny_dictEntries d3 d5 ?_)
 split
 ·rename_i em
  exfalso
  have l0:d1.size=0:=by rw [Array.isEmpty_iff.mp em];rfl
  have l1:d1.size=xs.length:=size_of_entries d6
  exact ne (List.length_eq_zero_iff.mp (by omega))
 all_goals
  refine wpAny_bind (wpAny_dictEpoch o3 o5 (wpAny_bind (wpAny_dictEntries o3 o5 (wpAny_bind ?_))))
  rw [Std.Legacy.Range.forIn_eq_forIn_range'];simp only [Std.Legacy.Range.size,Nat.sub_zero,Nat.add_sub_cancel,Nat.div_one]
  refine wpAny_forIn_list _ (fun rest _ s'=>∃ h' i,s'={ s with heap:=h' }/\rest=List.range' i (o1.size - i)/\i<=o1.size/\h'.DictOfH (tK prog w) d (qfJ xs (ys.take i))/\h'.get? o=some oo/\Heap.SameBut d s.heap h') _ ?_ ?_ _ _ ⟨s.heap,0,rfl,by simp,Nat.zero_le _,hd,o3,Heap.SameBut.refl _ _⟩
  ·rintro x rest b s' ⟨h',i,rfl,hr,hi,hd',ho',hs'⟩
   have lt:i < o1.size:=by
    rcases Nat.lt_or_ge i o1.size with z | z
    ·exact z
    ·rw [Nat.sub_eq_zero_of_le z] at hr;simp at hr
   have e2:o1.size - i=(o1.size - (i+1))+1:=by omega
   rw [e2,List.range'_succ] at hr
   injection hr with r1 r2
   subst r1
   have xl:x < ys.length:=by omega
   have yx:ys[x]? = some ys[x]:=gE_ xl
   have ent:o1[x]? = some (entryOfKey (tK prog w) ys[x]):=by rw [entry_at o6 x,yx];rfl
   have km:ys[x]∈ys:=List.getElem_mem xl
   obtain ⟨dq,dq1,dq2,dq3,dq4,dq5,dq6,dq7,dq8⟩:=id hd'
   refine wpAny_bind (wpAny_dictEntries ho' o5 ?_)
   rw [ent]
   refine wpAny_bind (wpAny_holding (qff (xs:=qfJ xs (ys.take x)) hu ((tK prog w).keeps (o7 _ km) d3 d5 hs') hd' (by rw [qcT fun y hy=>hin y (List.mem_of_mem_take hy)];exact hin _ km) fun h2 hd2 hs2=>?_))
   have ho2:h2.get? o=some oo:=(hs2.2 o (Ne.symm hdo)).trans ho'
   refine wpAny_bind (wpAny_dictEpoch ho2 o5 ?_)
   rw [if_neg (by simp)]
   refine wpAny_pure ⟨h2,x+1,rfl,r2,lt,?_,ho2,hs'.trans hs2⟩
   rw [List.take_add_one,yx]
   exact (qfI xs (ys.take x) ys[x]) ▸ hd2
  ·rintro b s' ⟨h',i,rfl,hr,hi,hd',ho',hs'⟩
   have ie:i=o1.size:=by
    rcases Nat.lt_or_ge i o1.size with z | z
    ·have e2:o1.size - i=(o1.size - (i+1))+1:=by omega
     rw [e2,List.range'_succ] at hr;exact nomatch hr
    ·exact Nat.le_antisymm hi z
   rw [ie,ol,List.take_length] at hd'
   exact wpAny_pure (q h' hd' hs')
end
section
variable {X:Cx} {pos apos:Pos} {o e:Expr} {to:TE} {t:TA} {es:List Expr}
def qem (kvs more:List (List Key×V)):List (List Key×V):=more.foldl (fun acc p=>qaN acc p.1 p.2) kvs
theorem qlA {H:Hp} {more:List (List Key×V)} {ys:List (List Key×Addr×Value)} (r:KT H more ys):∀ {kvs:List (List Key×V)} {xs:List (List Key×Addr×Value)},KT H kvs xs->KT H (qem kvs more) (qfJ xs ys):=by
 induction r with
 | nil=>exact fun r=>r
 | @cons p y ps qs h t ih=>
  intro kvs xs rr
  obtain ⟨h1,h2,h3⟩:=h
  have:=ih (rr.put p.1 h2 h3)
  rw [show qfJ xs (y :: qs)=qfJ (storedH xs p.1 y.2.1 y.2.2) qs by rw [h1];rfl]
  exact this
theorem qhO {H:Hp} {kvs:List (List Key×V)} {xs:List (List Key×Addr×Value)} (r:KT H kvs xs):xs.map (·.1)=kvs.map (·.1):=by
 induction r with
 | nil=>rfl
 | cons h t ih=>rw [List.map_cons,List.map_cons,ih,h.1]
theorem qcj:∀ {more kvs:List (List Key×V)},(∀ p∈more,p.1∈kvs.map (·.1))->(qem kvs more).map (·.1)=kvs.map (·.1)
 | [],_,_=>rfl
 | p :: ps,kvs,h=>by
  have h1:=h p List.mem_cons_self
  have e:(qaN kvs p.1 p.2).map (·.1)=kvs.map (·.1):=by
   unfold qaN
   rw [if_pos (by rw [List.any_eq_true];obtain ⟨x,hx,ex⟩:=mM_ h1;exact ⟨x,hx,decide_eq_true ex⟩),qec]
  show (qem (qaN kvs p.1 p.2) ps).map (·.1)=_
  rw [qcj (fun z hz=>by rw [e];exact h z (mC_ _ hz)),e]
def qkD:V->List V->Hp->VK->Prop:=fun x xs H Q=>∃ a b kvs more,x = .ref a/\xs=[.ref b]/\a≠b/\H a=some (.dT kvs)/\Rd H b (.dT more)/\kvs≠[]/\(∀ p∈more,p.1∈kvs.map (·.1))/\Q .non (upd H a (.dT (qem kvs more)))
theorem qjD (hu:X.A.units+64 < cLine):MtM X "dict.update" qkD:=by
 intro pins s σ H x vs v us Q I rx rv h
 obtain ⟨a,b,kvs,more,rfl,rfl,ab,ha,rd,ne,hin,q⟩:=h
 cases rx
 obtain ⟨u,rfl,r1⟩:=qaP rv
 cases r1
 obtain ⟨z1,n1,xs,k1,m1⟩:=qjX I.hok ha
 obtain ⟨z2,n2,ys,k2,m2⟩:=qbA I.hok rd
 refine wpAny_call_entry PySem.F.slot_dict_update m1.typeIs PySem.F.entry_dict_update ?_ (PySem.F.args_dict_update_2 _ _)
 unfold Builtin.«dict.update» Builtin.Dict.selfAndRest
 refine wpAny_bind (wpAny_bind (wpAny_notOrdered_dict m1.typeIs ?_))
 show wpAny _ _ (pure (a,[Value.ref b])) _ _ s
 refine wpAny_pure ?_
 show wpAny _ _ (Builtin.Dict.updateFrom "dict.update" a (.ref b) [] .none) _ _ s
 unfold Builtin.Dict.updateFrom
 refine wpAny_bind (wpAny_typeOf m2.typeIs ?_)
 rw [if_neg (by decide)]
 refine wpAny_bind ?_
 unfold Builtin.Dict.merge
 refine wpAny_bind ?_
 unfold Builtin.Dict.readDirectly
 refine wpAny_bind (wpAny_isInstance m2.typeIs isSubtype_dict_dict ?_)
 simp only [Bool.not_true,Bool.false_eq_true,if_false]
 refine wpAny_bind (wpAny_specialOf m2.typeIs F.slot_dict_iter.lookup (wpAny_pure ?_))
 simp only [beq_self_eq_true,if_true]
 refine wpAny_bind (wpAny_pure ?_)
 have f1:=qhO k1
 have f2:=qhO k2
 refine qdy ab n2 ?_ m1 m2 (fun z=>ne (by
  have:=congrArg List.length f1
  rw [z,lM_,lM_] at this
  exact List.length_eq_zero_iff.mp this.symm)) (fun y hy=>?_) fun h' hd' hs'=>?_
 ·exact tupleKind_room_in1 (by omega)
 ·rw [f1]
  have:y.1∈ys.map (·.1):=List.mem_map.mpr ⟨y,hy,rfl⟩
  rw [f2] at this
  obtain ⟨p,hp,e⟩:=mM_ this
  rw [<-e]
  exact hin p hp
 show wpAny _ _ (Builtin.Dict.addKeywords a [] >>= _) _ _ _
 refine wpAny_bind (wpAny_pure (wpAny_pure ⟨_,rfl,?_⟩))
 obtain ⟨qo,es,ep,hq,h2,h3,h4,_,h5⟩:=hd'
 refine ⟨.non,_,qb1 (ob:=.dT (qem kvs more)) I (by rw [ha];exact True.intro) hs' ⟨qo,hq⟩ ⟨?_,n1,_,(qlA k2 k1).keeps fun c ys ec=>?_,qo,es,ep,hq,h2,h3,h4,h5⟩,rfl,q⟩
 ·have:=congrArg List.length (qcj hin)
  rw [lM_,lM_] at this
  rw [this];exact z1
 ·rw [qac (qaj ec ha (fun z=>nomatch z))]
  exact ec
theorem qlu {cpos:Pos} (hu:X.A.units+64 < cLine) (ho:PE X o to) (ha:PA X (e :: es) t)
  (hbase:attributeBase o "update" X.env (eval o X.env)=eval o X.env:=by kernel_rfl)
  (hfew:((backTo cpos (starEach (e :: es) X.env)).all (fun x=>!x.1) && (backToKw cpos (keywordEach [] X.env)).all (fun x=>x.1.isSome)
   && decide ((e :: es).length+([]:List Keyword).length+(if ([]:List Keyword).isEmpty then 0 else 1) < 30))=true:=by kernel_rfl)
  (hline:(apos.endLine == cpos.line)=true:=by kernel_rfl) (hs:starEach (e :: es) X.env=(false,eval e X.env) :: starEach es X.env:=by kernel_rfl) (hplain:(backTo cpos (starEach es X.env)).any (·.1)=false:=by kernel_rfl) :
  PE X (.Call (.Attribute o "update" apos) (e :: es) [] cpos) (qnh X.K "dict" qkD to t):=by
 intro pins s σ H Q I h
 refine wpAny_Call_method_late hbase hfew hline rfl (thn (ho pins s σ H _ I h) fun v s1 ⟨x,H1,I1,r1,ty,q1⟩=>?_)
 obtain ⟨h1,h2⟩:=qeR I1 r1 ty
 refine ⟨"dict","dict.update",PySem.F.plainAttrs_dict,PySem.F.slot_dict_update,PySem.F.type_dict_update,h1,h2,?_⟩
 have hA:=ha cpos pins s1 σ H1 _ I1 q1
 rw [hs] at hA ⊢
 refine Calls.callWith_builtin (by show (false || (backTo cpos (starEach es X.env)).any (·.1))=false;rw [hplain]<;>rfl) (Calls.evalArgs_plain ?_)
 exact thn hA fun us s2 ⟨vs,H2,I2,r2,q2⟩=>qjD hu pins s2 σ H2 x vs v us Q I2 r1 r2 q2
theorem qhW {x:Str} {a:Addr} {mg':Str->Option Value} (hm:mg' x=some (.ref a)) (hX:X.mg=mg') (hg:gB X x=true:=by kernel_rfl) (hd:(x == ("__debug__" : Str))=false:=by kernel_rfl):PE X (.Name x pos) (tC (.ref a)):=
 qi5 (qaD hg) (by rw [hX];exact hm) rfl hd
def qkG:List V->Hp->VK->Prop:=fun vs H Q=>(∃ a kvs,vs=[.ref a]/\Rd H a (.dK kvs)/\kvs.length<=2 ^ 24/\Q (.int (kvs.length:Nat)) H)\/qkH vs H Q
theorem qgh:CallR X (.builtin "len") qkG:=by
 intro pins s σ H xs us Q I r h
 rcases h with ⟨a,kvs,rfl,rd,hl,q⟩ | h
 ·obtain ⟨u,rfl,rx⟩:=qaP r
  cases rx
  obtain ⟨z,hd,vs,kv,o,es,ep,h1,h2,h3,h4,h5,h6⟩:=(show ObjOk X.prog X.w H s.heap a (.dK kvs) from qiN I.hok rd)
  have hT:s.TypeIs (.ref a) "dict" := ⟨o,h1,h2.1⟩
  have esl:es.size=kvs.length:=by
   have e1:=h5.length
   have e2:=kv.length
   simp at e1
   omega
  refine qbB hd hT h1 h3 (by omega) ?_
  exact ⟨.int _,H,I.tok _,⟨_,rfl⟩,by rw [esl];exact q⟩
 ·exact qc5 pins s σ H xs us Q I r h
theorem qjV {p:Pos} {mg':Str->Option Value} (hm:mg' "len" = none) (hX:X.mg=mg') (ha:PA X (e :: es) t) (hg:gB X "len" = true:=by kernel_rfl) (he:starEach (e :: es) X.env=(false,eval e X.env) :: starEach es X.env:=by kernel_rfl) (hpl:(backTo pos (starEach es X.env)).any (·.1)=false:=by kernel_rfl) :
  PE X (.Call (.Name "len" p) (e :: es) [] pos) (tCB qkG t):=qaB qgh (qaD hg) (by rw [hX];exact hm) boot_len ha (he:=he) (hpl:=hpl)
end
end L2
end
section
namespace L2
open PySem PySem.Spec PyProof.Rows
section
variable {X:Cx} {pins:List (Addr×Obj)} {σ:St} {H:Hp} {s:Shared} {a:Addr} {u:HO} {o:Obj}
theorem Inv.thaw (I:Inv X pins σ H s) (e:H a=some (.frz o u)) (mu:Mut (some u)) (nf:∀ o' u',X.H₀ a≠some (.frz o' u')):Inv X pins σ (upd H a u) s:=by
 have nn:∀ b,H b=none->b≠a:=fun b h z=>by rw [z,e] at h;cases h
 have nt:∀ b xs,H b=some (.tup xs)->b≠a:=fun b xs h z=>by rw [z,e] at h;cases h
 have no:∀ b y,H b=some (.own y)->b≠a:=fun b y h z=>by rw [z,e] at h;cases h
 refine ⟨I.ok,I.os,I.bare,⟨I.base.keep,I.base.slot,fun b ob q n hx=>?_,I.base.there,fun b xs q=>?_,fun b ob w q=>?_,fun b ps q=>?_⟩,I.loc,I.cell,?_,fun x c h=>?_,fun p hp=>?_,fun b w q=>?_,I.len⟩
 ·have:=I.base.free b ob q n hx
  rw [qac (nn b this)];exact this
 ·have:=I.base.tups b xs q
  rw [qac (nt b xs this)];exact this
 ·have h1:=I.base.frzs b ob w q
  rw [qac (show b≠a from fun z=>nf ob w (z ▸ q))];exact h1
 ·obtain ⟨more,h1⟩:=I.base.tbls b ps q
  exact ⟨more,by rw [qac (fun z=>by rw [z,e] at h1;cases h1)];exact h1⟩
 ·rw [qac (nn _ I.free)];exact I.free
 ·rw [qac (nn _ (I.freeC x c h))];exact I.freeC x c h
 ·obtain ⟨h1,h2,h3⟩:=I.pin p hp
  exact ⟨h1,by rw [qac (nn _ h2)];exact h2,h3⟩
 ·have st:∀ {b:Addr} {w:HO},ObjOk X.prog X.w H s.heap b w->ObjOk X.prog X.w (upd H a u) s.heap b w:=fun {b w} h=>h.stay (fun _ _ _ z=>z) (fun c z=>by rw [qac (no c _ z)];exact z) fun c xs z=>by rw [qac (nt c xs z)];exact z
  by_cases ba:b=a
  ·subst ba
   rw [qaa] at q
   cases q
   exact st (I.hok b _ e).2
  ·rw [qac ba] at q
   exact st (I.hok b _ q)
end
section
variable {X:Cx} {st:Stmt} {t:TS}
def qid (H0:Hp) (t:TS):TS:=fun D σ H=>t { nx:=fun σ' H'=>∃ a o u,H' a=some (.frz o u)/\Mut (some u)/\(∀ o' u',H0 a≠some (.frz o' u'))/\D.nx σ' (upd H' a u),rt:=D.rt,bk:=D.bk,ct:=D.ct } σ H
theorem qhx (h:PS X st t):PS X st (qid X.H₀ t):=by
 intro pins s σ H D I hw
 refine thn (h pins s σ H _ I hw) fun f s' sp=>?_
 cases f with
 | next=>
  obtain ⟨σ',H',I',a,o,u,e,mu,nf,q⟩:=sp
  exact ⟨σ',_,I'.thaw e mu nf,q⟩
 | _=>exact sp
end
end L2
end
section
open PySem L2
local macro_rules | `(tactic| walk_at "T.n")=>`(tactic| with_reducible first | exact vn _ 0 | exact vn _ 1 | exact vn _ 2 | exact vn _ 3 | exact vn _ 4 | exact vn _ 5 | exact vn _ 6 | exact vn _ 7 | exact vn _ 8 | exact vn _ 9 | exact vn _ 10 | exact vn _ 11 | exact vn _ 12 | exact vn _ 13 | exact vn _ 14 | exact vn _ 15 | exact vn _ 16 | exact vn _ 17 | exact vn _ 18 | exact vn _ 19)
local macro_rules | `(tactic| walk_at "T.a")=>`(tactic| first | (with_reducible exact qk9) | ((with_reducible refine' ql5 ?a1 ?a2);(case a1=>walk_at "T.e");(case a2=>walk_at "T.a")))
local macro_rules | `(tactic| walk_at "T.o")=>`(tactic| first | (with_reducible exact qiZ) | ((with_reducible refine' qgP ?a1);(case a1=>walk_at "T.e")))
local macro_rules | `(tactic| walk_at "T.cmp")=>`(tactic| first | (with_reducible exact op_inL) | (with_reducible exact qfB) | (with_reducible exact qld) | (with_reducible exact qfC) | (with_reducible exact op_lt.n0) | (with_reducible exact op_le.n0) | (with_reducible exact op_gt.n0) | (with_reducible exact op_ge.n0) | ((with_reducible refine' qlg ?a1);(case a1=>exact Room.units (by assumption))) | ((with_reducible refine' qlb ?a1);(case a1=>exact Room.units (by assumption))))
local macro_rules | `(tactic| walk_at "T.op")=>`(tactic| first | (with_reducible exact qji) | (with_reducible exact op_sub.n0) | (with_reducible exact qjg) | (with_reducible exact op_mod.n) | (with_reducible exact op_fdiv.n) | (with_reducible exact op_pow.n) | (with_reducible exact op_shl.n) | (with_reducible exact op_shr.n) | (with_reducible exact op_and.n0) | (with_reducible exact op_xor.n0) | (with_reducible exact op_or.n0))
local macro_rules | `(tactic| walk_at "T.ty")=>`(tactic| first | ((with_reducible refine' qkf ?a1 ?a9);(case a1=>with_reducible assumption);(case a9=>rfl)) | ((with_reducible refine' qh7 ?a1 ?a9);(case a1=>with_reducible assumption);(case a9=>rfl)) | ((with_reducible refine' qh6 ?a1 ?a9);(case a1=>with_reducible assumption);(case a9=>rfl)) | ((with_reducible refine' qgt ?a1 ?a9);(case a1=>with_reducible assumption);(case a9=>rfl)) | ((with_reducible refine' qke ?a1 ?a9);(case a1=>with_reducible assumption);(case a9=>rfl)))
local macro_rules | `(tactic| walk_at "T.f")=>`(tactic| ((with_reducible refine' qlS _ ?a0 ?a9 ?a1 ?a2);(case a0=>with_reducible assumption);(case a9=>exact ⟨rfl,rfl,rfl,rfl,rfl⟩);(case a1=>exact Room.mono (by assumption) (by first | decide | exact Nat.le_refl _));(case a2=>walk_at "T.a")))
local macro_rules | `(tactic| walk_at "T.b")=>`(tactic| first | walk_at "T.f" | ((with_reducible refine' qlQ ?a0 ?a9 ?a1);(case a0=>with_reducible assumption);(case a9=>rfl);(case a1=>walk_at "T.a")) | ((with_reducible refine' qfZ ?a0 ?a9 ?a1);(case a0=>with_reducible assumption);(case a9=>rfl);(case a1=>walk_at "T.a")) | ((with_reducible refine' qlT ?a0 ?a9 ?a1);(case a0=>with_reducible assumption);(case a9=>rfl);(case a1=>walk_at "T.a")) | ((with_reducible refine' qlP ?a0 ?a9 ?a1);(case a0=>with_reducible assumption);(case a9=>rfl);(case a1=>walk_at "T.a")) | ((with_reducible refine' qlO ?a0 ?a9 ?a1);(case a0=>with_reducible assumption);(case a9=>rfl);(case a1=>walk_at "T.a")) | ((with_reducible refine' qlR ?a0 ?a9 ?a1);(case a0=>with_reducible assumption);(case a9=>rfl);(case a1=>walk_at "T.a")) | ((with_reducible refine' qjU ?a0 ?a9 ?a1);(case a0=>with_reducible assumption);(case a9=>rfl);(case a1=>walk_at "T.a")) | ((with_reducible refine' qfY ?a0 ?a9 ?a1);(case a0=>with_reducible assumption);(case a9=>rfl);(case a1=>walk_at "T.a")))
local macro_rules | `(tactic| walk_at "T.m")=>`(tactic| first | ((with_reducible refine' qha ?a1 ?a2);(case a1=>walk_at "T.e");(case a2=>walk_at "T.a")) | ((with_reducible refine' qlv ?a1 ?a2);(case a1=>walk_at "T.e");(case a2=>walk_at "T.a")) | ((with_reducible refine' qjF ?a1 ?a2);(case a1=>walk_at "T.e");(case a2=>walk_at "T.a")) | ((with_reducible refine' qjH ?a1 ?a2);(case a1=>walk_at "T.e");(case a2=>walk_at "T.a")) )
local macro_rules | `(tactic| walk_at "T.c")=>`(tactic| fail "no comprehension's names")
local macro_rules | `(tactic| walk_at "T.e")=>`(tactic| first | (with_reducible exact qhK) | (with_reducible exact qhJ) | (with_reducible exact qmP) | (with_reducible exact qk0) | walk_at "T.n" | walk_at "T.ty" | ((with_reducible refine' qkY ?a1 ?a2 ?a3);(case a1=>walk_at "T.op");(case a2=>walk_at "T.e");(case a3=>walk_at "T.e")) | ((with_reducible refine' qm5 ?a1 ?a2 ?a3);(case a1=>walk_at "T.cmp");(case a2=>walk_at "T.e");(case a3=>walk_at "T.e")) | ((with_reducible refine' e_chain ?a1 ?a2 ?a3 ?a4 ?a5);(case a1=>walk_at "T.cmp");(case a2=>walk_at "T.cmp");(case a3=>walk_at "T.e");(case a4=>walk_at "T.e");(case a5=>walk_at "T.e")) | ((with_reducible refine' qct slU ?a1 ?a2 ?a3);(case a1=>walk_at "T.e");(case a2=>walk_at "T.o");(case a3=>walk_at "T.o")) | ((with_reducible refine' qlH ?a1 ?a2);(case a1=>walk_at "T.e");(case a2=>walk_at "T.e")) | ((with_reducible refine' qhI ?a1);(case a1=>walk_at "T.a")) | ((with_reducible refine' qk3 ?a1);(case a1=>walk_at "T.a")) | ((with_reducible refine' qjc ?a1 ?a2);(case a1=>walk_at "T.e");(case a2=>walk_at "T.e")) | ((with_reducible refine' qkX ?a1 ?a2);(case a1=>walk_at "T.e");(case a2=>walk_at "T.e")) | ((with_reducible refine' qkZ ?a1);(case a1=>walk_at "T.e")) | ((with_reducible refine' qi3 ?a1);(case a1=>walk_at "T.e")) | ((with_reducible refine' qm4 ?a1);(case a1=>walk_at "T.e")) | walk_at "T.b" | walk_at "T.m" | ((with_reducible refine' e_fmt ?a1);(case a1=>walk_at "T.e")) | ((with_reducible refine' e_fstr ?a1);(case a1=>walk_at "T.j")) | walk_at "T.c")
local macro_rules | `(tactic| walk_at "T.j")=>`(tactic| first | (with_reducible exact pj_nil) )
local macro_rules | `(tactic| walk_at "T.t")=>`(tactic| first | ((with_reducible refine' qic ?a1 ?a2 ?a3 ?a4 ?a5);(case a1=>walk_at "T.cmp");(case a2=>walk_at "T.cmp");(case a3=>walk_at "T.e");(case a4=>walk_at "T.e");(case a5=>walk_at "T.e")) | ((with_reducible refine' qki ?a1 ?a2 ?a3);(case a1=>walk_at "T.cmp");(case a2=>walk_at "T.e");(case a3=>walk_at "T.e")) | ((with_reducible refine' qkN ?a1);(case a1=>walk_at "T.t")) | ((with_reducible refine' PW.pt ?a1);(case a1=>walk_at "T.w")) | ((with_reducible refine' qmk ?a1);(case a1=>walk_at "T.e")))
local macro_rules | `(tactic| walk_at "T.w")=>`(tactic| first | ((with_reducible refine' qkM ?a1 ?a2);(case a1=>walk_at "T.t");(case a2=>walk_at "T.w")) | ((with_reducible refine' qmL ?a1 ?a2);(case a1=>walk_at "T.t");(case a2=>walk_at "T.w")) | ((with_reducible refine' qiT ?a1);(case a1=>walk_at "T.t")) | ((with_reducible refine' qkL ?a1);(case a1=>walk_at "T.t")))
local macro_rules | `(tactic| walk_at "T.i")=>`(tactic| first | ((with_reducible refine' qmU ?a0 ?a9 ?a1);(case a0=>with_reducible assumption);(case a9=>rfl);(case a1=>walk_at "T.a")) | ((with_reducible refine' qfP ?a0 ?a9 ?a1);(case a0=>with_reducible assumption);(case a9=>rfl);(case a1=>walk_at "T.a")) | ((with_reducible refine' qfv ?a1);(case a1=>((with_reducible refine' qhI ?a1);(case a1=>walk_at "T.a")))) | ((with_reducible refine' qkS ?a1);(case a1=>walk_at "T.e")))
local macro_rules | `(tactic| walk_at "T.gn")=>`(tactic| with_reducible first | exact gn _ 0 (by with_unfolding_all assumption) | exact gn _ 1 (by with_unfolding_all assumption) | exact gn _ 2 (by with_unfolding_all assumption) | exact gn _ 3 (by with_unfolding_all assumption) | exact gn _ 4 (by with_unfolding_all assumption) | exact gn _ 5 (by with_unfolding_all assumption) | exact gn _ 6 (by with_unfolding_all assumption) | exact gn _ 7 (by with_unfolding_all assumption) | exact gn _ 8 (by with_unfolding_all assumption) | exact gn _ 9 (by with_unfolding_all assumption) | exact gn _ 10 (by with_unfolding_all assumption) | exact gn _ 11 (by with_unfolding_all assumption) | exact gn _ 12 (by with_unfolding_all assumption) | exact gn _ 13 (by with_unfolding_all assumption) | exact gn _ 14 (by with_unfolding_all assumption) | exact gn _ 15 (by with_unfolding_all assumption) | exact gn _ 16 (by with_unfolding_all assumption) | exact gn _ 17 (by with_unfolding_all assumption) | exact gn _ 18 (by with_unfolding_all assumption) | exact gn _ 19 (by with_unfolding_all assumption))
local macro_rules | `(tactic| walk_at "T.g")=>`(tactic| first | walk_at "T.gn" | ((with_reducible refine' qhS ?a1);(case a1=>walk_at "T.gs")) | ((with_reducible refine' qlL ?a1);(case a1=>walk_at "T.gs")))
local macro_rules | `(tactic| walk_at "T.gs")=>`(tactic| first | (with_reducible exact qi1) | ((with_reducible refine' qjS ?a1 ?a2);(case a1=>walk_at "T.g");(case a2=>walk_at "T.gs")))
local macro_rules | `(tactic| walk_at "T.sc")=>`(tactic| fail "no comprehension's names")
local macro_rules | `(tactic| walk_at "T.st")=>`(tactic| first | ((with_reducible refine' qhG ?a1);(case a1=>walk_at "T.e")) | walk_at "T.sc" | ((with_reducible refine' qmz ?a1 ?a2);(case a1=>walk_at "T.e");(case a2=>walk_at "T.g")) | ((with_reducible refine' qkz ?a1);(case a1=>walk_at "T.e")) | ((with_reducible refine' qmM ?a1 ?a2 ?a3);(case a1=>walk_at "T.t");(case a2=>walk_at "T.s");(case a3=>walk_at "T.s")) | ((with_reducible refine' qiu ?a1 ?a2 ?a3);(case a1=>walk_at "T.i");(case a2=>walk_at "T.g");(case a3=>walk_at "T.s")) | ((with_reducible refine' qit ?a1 ?a2);(case a1=>walk_at "T.t");(case a2=>walk_at "T.s")) | (with_reducible exact s_raise))
local macro_rules | `(tactic| walk_at "T.s")=>`(tactic| first | (with_reducible exact qiW) | ((with_reducible refine' qdt ?a1);(case a1=>walk_at "T.st")) | ((with_reducible refine' qd2 ?a1 ?a2);(case a1=>walk_at "T.st");(case a2=>walk_at "T.s")))
local macro_rules | `(tactic| walk_at "T.pf")=>`(tactic| first | (with_reducible exact qkV) | ((with_reducible refine' qhH ?a1);(case a1=>walk_at "T.t")))
local macro_rules | `(tactic| walk_at "T.top1")=>`(tactic| ((refine' qdt ?a1);(case a1=>walk_at "T.st")))
local macro_rules | `(tactic| walk_at "T.top")=>`(tactic| ((refine' qd2 ?a1 ?a2);(case a1=>walk_at "T.st");(case a2=>walk_at "T.s")))
section
namespace K14
open PySem L2
def pbs (o:Option Bool) (c p:Nat):List Bool->Option Bool×Nat×Nat
 | []=>(o,c,p)
 | x :: ws=>pbs (some x) (if o=some x then c+1 else 1) (max p (if o=some x then c+1 else 1)) ws
def pb (o:Option Bool) (c:Nat) (ws:List Bool):Option Bool×Nat×Nat:=pbs o c c ws
theorem qjd (o:Option Bool) (c p:Nat) (v w:List Bool):pbs o c p (v++w)=pbs (pbs o c p v).1 (pbs o c p v).2.1 (pbs o c p v).2.2 w:=by
 induction v generalizing o c p with
 | nil=>rfl
 | cons x v ih=>exact ih _ _ _
theorem qd5 {ws:List Bool} (h:ws≠[]) (o:Option Bool) (c p:Nat):∃ b,(pbs o c p ws).1=some b/\∀ o' c' p',(pbs o' c' p' ws).1=some b:=by
 induction ws generalizing o c p with
 | nil=>exact absurd rfl h
 | cons x ws ih=>
  cases ws with
  | nil=>exact ⟨x,rfl,fun _ _ _=>rfl⟩
  | cons y ws=>
   obtain ⟨b,h1,h2⟩:=ih (by simp) (some x) (if o=some x then c+1 else 1) (max p (if o=some x then c+1 else 1))
   exact ⟨b,h1,fun o' c' p'=>h2 _ _ _⟩
def Le (o:Option Bool) (c:Nat) (o':Option Bool) (c':Nat):Prop:=(o=o'/\c<=c')\/c=0
theorem qgX {ws:List Bool}:∀ {o o':Option Bool} {c c' p p':Nat},Le o c o' c'->p<=p'->(pbs o c p ws).2.1<=(pbs o' c' p' ws).2.1/\(pbs o c p ws).2.2<=(pbs o' c' p' ws).2.2\/ws=[]:=by
 induction ws with
 | nil=>exact fun _ _=>.inr rfl
 | cons x ws ih=>
  intro o o' c c' p p' h hp
  left
  have hc:(if o=some x then c+1 else 1)<=(if o'=some x then c'+1 else 1):=by
   rcases h with ⟨rfl,h⟩ | rfl
   ·split<;>omega
   ·split<;>split<;>omega
  rcases ih (o:=some x) (o':=some x) (.inl ⟨rfl,hc⟩) (show max p (if o=some x then c+1 else 1)<=max p' (if o'=some x then c'+1 else 1) by omega) with z | z
  ·exact z
  ·subst z
   exact ⟨hc,show max p (if o=some x then c+1 else 1)<=max p' (if o'=some x then c'+1 else 1) by omega⟩
theorem qfA {ws:List Bool} (hw:ws≠[]) {o o':Option Bool} {c c':Nat} (h:Le o c o' c') (hc:c<=c'):(pb o c ws).2.1<=(pb o' c' ws).2.1/\(pb o c ws).2.2<=(pb o' c' ws).2.2:=(qgX h hc).resolve_right hw
theorem qje {ws:List Bool}:∀ {o:Option Bool} {c p:Nat},ws≠[]->ws.length<=(pbs o c p ws).2.1->(∃ b,(∀ x∈ws,x=b)/\(pbs o c p ws).1=some b/\(pbs o c p ws).2.1=(if o=some b then c else 0)+ws.length):=by
 induction ws with
 | nil=>exact fun h=>absurd rfl h
 | cons x ws ih=>
  intro o c p _ h
  cases hw:ws with
  | nil=>
   subst hw
   refine ⟨x,by simp,rfl,?_⟩
   show (if o=some x then c+1 else 1)=(if o=some x then c else 0)+1
   split<;>omega
  | cons y v=>
   have hne:ws≠[]:=by rw [hw];simp
   rw [<-hw]
   have h':ws.length+1<=(pbs (some x) (if o=some x then c+1 else 1) (max p (if o=some x then c+1 else 1)) ws).2.1:=h
   obtain ⟨b,b1,b2,b3⟩:=ih (o:=some x) (c:=if o=some x then c+1 else 1) (p:=max p (if o=some x then c+1 else 1)) hne (by omega)
   have xb:x=b:=by
    refine Classical.byContradiction fun z=>?_
    rw [if_neg (fun y=>z (oI_ y))] at b3
    omega
   subst xb
   rw [if_pos rfl] at b3
   refine ⟨x,fun z hz=>(List.mem_cons.mp hz).elim id (b1 z),b2,?_⟩
   show (pbs (some x) _ _ ws).2.1=_
   rw [b3,List.length_cons]
   split<;>omega
theorem qd4 {ws:List Bool} {b:Bool}:(∀ x∈ws,x=b)->∀ {c p:Nat},(pbs (some b) c p ws).2.1=c+ws.length/\(pbs (some b) c p ws).1=some b:=by
 induction ws with
 | nil=>exact fun _ _ _=>⟨rfl,rfl⟩
 | cons x ws ih=>
  intro h c p
  have:x=b:=h x List.mem_cons_self
  subst this
  obtain ⟨h1,h2⟩:=ih (fun z hz=>h z (mC_ _ hz)) (c:=c+1) (p:=max p (c+1))
  have e:pbs (some x) c p (x :: ws)=pbs (some x) (c+1) (max p (c+1)) ws:=by
   show pbs (some x) (if some x=some x then c+1 else 1) (max p (if some x=some x then c+1 else 1)) ws=_
   rw [if_pos rfl]
  rw [e,h1,List.length_cons]
  exact ⟨by omega,h2⟩
end K14
end
section
namespace K14
open PySem L2
section
variable {P:Program} {w:World} {K:PySem.W.Frag} {mg:Str->Option Value} {base:Heap}
def sgn (o:Option Bool):Str:=match o with | none=>"" | some b=>bs [b]
theorem qdW (o:Option Bool) (b:Bool):decide (bs [b]=sgn o)=decide (o=some b):=by
 cases o with
 | none=>cases b<;>decide +kernel
 | some x=>cases b<;>cases x<;>decide +kernel
theorem qd3 {o:Option Bool} {c p i:Nat} {ws:List Bool} (h:i < ws.length):pbs o c p (ws.take (i+1))=pbs (pbs o c p (ws.take i)).1 (pbs o c p (ws.take i)).2.1 (pbs o c p (ws.take i)).2.2 [ws[i]]:=by
 rw [List.take_add_one,gE_ h]
 exact qjd o c p (ws.take i) [ws[i]]
abbrev qmB:Stmt:=top 14
def qgB:Sp:=fun vs H Q _=>match vs with
 | [.str z,.int c0,.str zs]=>∃ (o:Option Bool) (c:Nat) (ws:List Bool),z=sgn o/\c0=(c:Nat)/\zs=bs ws/\ws≠[]/\∀ p H',Same H H'->H' p=some (.tup [.int ((pb o c ws).2.2:Nat),.str (sgn (pb o c ws).1),.int ((pb o c ws).2.1:Nat)])->H p=none->Q (.ref p) H'
 | _=>False
theorem scPut:FnScope ["sign","count","word","peak","one"] ["sign","count","word"] (qad qmB):=⟨rfl,rfl,rfl,by decide +kernel,rfl,by decide +kernel,by decide +kernel⟩
local macro_rules | `(tactic| walk_at "T.i")=>`(tactic| ((with_reducible refine' qkR ?a1);(case a1=>walk_at "T.e")))
local macro_rules | `(tactic| walk_at "T.e")=>`(tactic| ((with_reducible refine' qgU ?a1 ?a2 ?a3);(case a1=>walk_at "T.t");(case a2=>walk_at "T.e");(case a3=>walk_at "T.e")))
theorem qll (D:FnX K mg "put_behind" qmB ["sign","count","word"]) (g1:mg "max" = none):Can P w K mg base "put_behind" 1 ["sign","count","word"] qgB:=by
 refine qak (k:=0) D scPut (fun vs H Q E h=>?_) (fun f cdv A outer s H vs Q E hr h=>?_)
 all_goals
  unfold qgB at h
  split at h
 ·rfl
 ·exact h.elim
 ·rename_i z c0 zs
  obtain ⟨o,c,ws,rfl,rfl,rfl,wne,q⟩:=h
  have nd:=scPut.nd
  refine ⟨_,(by walk_at "T.top"),?_⟩
  refine ⟨ws,rfl,?_⟩
  refine qam (qhQ ws) (fun i σ H2=>∃ (v4:Option V),σ=[some (.str (sgn (pbs o c c (ws.take i)).1)),some (.int ((pbs o c c (ws.take i)).2.1:Nat)),some (.str (bs ws)),some (.int ((pbs o c c (ws.take i)).2.2:Nat)),v4]/\H2=H)
   ⟨none,rfl,rfl⟩ (fun _ _ _ _ _=>trivial) ?_ ?_
  ·rintro i x σ H2 hi hx ⟨v4,rfl,rfl⟩
   rw [lM_] at hi
   rw [gM_,gE_ hi] at hx
   cases hx
   rw [qd3 hi]
   generalize ws[i]=b
   generalize pbs o c c (ws.take i)=S
   dsimp only [qah]
   refine qbL (fun σ H3=>σ=[some (.str (sgn S.1)),some (.int ((if S.1=some b then S.2.1+1 else 1:Nat):Int)),some (.str (bs ws)),some (.int (S.2.2:Nat)),some (.str (bs [b]))]/\H3=H2) ?_ (fun fin=>?_)
   ·rintro σ H3 ⟨rfl,rfl⟩
    refine ⟨some (.str (bs [b])),?_,rfl⟩
    show _=[some (V.str (sgn (some b))),some (.int ((if S.1=some b then S.2.1+1 else 1:Nat):Int)),some (.str (bs ws)),some (.int ((max S.2.2 (if S.1=some b then S.2.1+1 else 1):Nat):Int)),_]
    have e:(if ((if S.1=some b then S.2.1+1 else 1:Nat):Int) > ((S.2.2:Nat):Int) then ((if S.1=some b then S.2.1+1 else 1:Nat):Int) else ((S.2.2:Nat):Int))=((max S.2.2 (if S.1=some b then S.2.1+1 else 1):Nat):Int):=by split<;>omega
    rw [<-e]
    rfl
   ·refine qaJ (fun k=>?_) (fun k=>?_)
    ·have k:decide (bs [b]=sgn S.1)=true:=k
     rw [qdW] at k
     have k:=of_decide_eq_true k
     exact fin [some (.str (sgn S.1)),some (.int ((S.2.1:Nat)+1)),some (.str (bs ws)),some (.int (S.2.2:Nat)),some (.str (bs [b]))] H2 ⟨by rw [if_pos k];rfl,rfl⟩
    ·have k:¬ decide (bs [b]=sgn S.1)=true:=k
     rw [qdW] at k
     have k:¬ S.1=some b:=fun z=>k (decide_eq_true z)
     exact fin [some (.str (sgn S.1)),some (.int 1),some (.str (bs ws)),some (.int (S.2.2:Nat)),some (.str (bs [b]))] H2 ⟨by rw [if_neg k];rfl,rfl⟩
  ·rintro σ H2 ⟨v4,rfl,rfl⟩
   rw [lM_,List.take_length]
   refine ⟨lZ_ rfl,fun p hp=>?_⟩
   exact q p _ (Same.upd hp) qaa hp
 ·exact h.elim
abbrev qiC:Stmt:=top 32
def qcN:Sp:=fun vs H Q _=>match vs with
 | [.str z,.int c0,.str zs]=>∃ (o:Option Bool) (c:Nat) (ws:List Bool),z=sgn o/\c0=(c:Nat)/\zs=bs ws/\ws≠[]/\∀ p H',Same H H'->H' p=some (.tup [.str (sgn (pb o c ws).1),.int ((pb o c ws).2.1:Nat),.int ((pb o c ws).2.2:Nat)])->Q (.ref p) H'
 | _=>False
theorem scRuns:FnScope ["sign","run","word","top","one"] ["sign","run","word"] (qad qiC):=⟨rfl,rfl,rfl,by decide +kernel,rfl,by decide +kernel,by decide +kernel⟩
theorem qjp (D:FnX K mg "_law_runs" qiC ["sign","run","word"]) (g1:mg "max" = none):Can P w K mg base "_law_runs" 1 ["sign","run","word"] qcN:=by
 refine qak (k:=0) D scRuns (fun vs H Q E h=>?_) (fun f cdv A outer s H vs Q E hr h=>?_)
 all_goals
  unfold qcN at h
  split at h
 ·rfl
 ·exact h.elim
 ·rename_i z c0 zs
  obtain ⟨o,c,ws,rfl,rfl,rfl,wne,q⟩:=h
  have nd:=scRuns.nd
  refine ⟨_,(by walk_at "T.top"),?_⟩
  refine ⟨ws,rfl,?_⟩
  refine qam (qhQ ws) (fun i σ H2=>∃ (v4:Option V),σ=[some (.str (sgn (pbs o c c (ws.take i)).1)),some (.int ((pbs o c c (ws.take i)).2.1:Nat)),some (.str (bs ws)),some (.int ((pbs o c c (ws.take i)).2.2:Nat)),v4]/\H2=H)
   ⟨none,rfl,rfl⟩ (fun _ _ _ _ _=>trivial) ?_ ?_
  ·rintro i x σ H2 hi hx ⟨v4,rfl,rfl⟩
   rw [lM_] at hi
   rw [gM_,gE_ hi] at hx
   cases hx
   rw [qd3 hi]
   generalize ws[i]=b
   generalize pbs o c c (ws.take i)=S
   dsimp only [qah]
   refine qbL (fun σ H3=>σ=[some (.str (sgn S.1)),some (.int ((if S.1=some b then S.2.1 else 0:Nat):Int)),some (.str (bs ws)),some (.int (S.2.2:Nat)),some (.str (bs [b]))]/\H3=H2) ?_ (fun fin=>?_)
   ·rintro σ H3 ⟨rfl,rfl⟩
    refine ⟨some (.str (bs [b])),?_,rfl⟩
    show _=[some (V.str (sgn (some b))),some (.int ((if S.1=some b then S.2.1+1 else 1:Nat):Int)),some (.str (bs ws)),some (.int ((max S.2.2 (if S.1=some b then S.2.1+1 else 1):Nat):Int)),_]
    have e0:((if S.1=some b then S.2.1+1 else 1:Nat):Int)=((if S.1=some b then S.2.1 else 0:Nat):Int)+1:=by split<;>omega
    have e:(if ((if S.1=some b then S.2.1 else 0:Nat):Int)+1 > ((S.2.2:Nat):Int) then ((if S.1=some b then S.2.1 else 0:Nat):Int)+1 else ((S.2.2:Nat):Int))=((max S.2.2 (if S.1=some b then S.2.1+1 else 1):Nat):Int):=by rw [<-e0];split<;>omega
    rw [<-e,e0]
    rfl
   ·refine qaJ (fun k=>?_) (fun k=>?_)
    ·have k:(!decide (bs [b]=sgn S.1))=true:=k
     rw [qdW] at k
     have k:¬ S.1=some b:=by simpa using k
     exact fin [some (.str (sgn S.1)),some (.int 0),some (.str (bs ws)),some (.int (S.2.2:Nat)),some (.str (bs [b]))] H2 ⟨by rw [if_neg k];rfl,rfl⟩
    ·have k:¬ (!decide (bs [b]=sgn S.1))=true:=k
     rw [qdW] at k
     have k:S.1=some b:=by simpa using k
     exact fin [some (.str (sgn S.1)),some (.int (S.2.1:Nat)),some (.str (bs ws)),some (.int (S.2.2:Nat)),some (.str (bs [b]))] H2 ⟨by rw [if_pos k],rfl⟩
  ·rintro σ H2 ⟨v4,rfl,rfl⟩
   rw [lM_,List.take_length]
   refine ⟨lZ_ rfl,fun p hp=>?_⟩
   exact q p _ (Same.upd hp) qaa
 ·exact h.elim
end
end K14
end
section
namespace K14
open PySem L2
section
variable {P:Program} {w:World} {K:PySem.W.Frag} {mg:Str->Option Value} {base:Heap}
abbrev Nd:=Nat×Option Bool×Nat
theorem qir {a b:Option Bool} (h:sgn a=sgn b):a=b:=by
 cases a with
 | none=>cases b with
  | none=>rfl
  | some y=>have:=congrArg (fun z:Str=>z.length) h;cases y<;>exact absurd h (by decide +kernel)
 | some x=>cases b with
  | none=>cases x<;>exact absurd h (by decide +kernel)
  | some y=>cases x<;>cases y<;>first | rfl | exact absurd h (by decide +kernel)
def qdC (x:Nd):List Key:=[Sum.inl ((x.1:Nat):Int),Sum.inr (sgn x.2.1),Sum.inl ((x.2.2:Nat):Int)]
theorem qee (a b:Nd) (h:qdC a=qdC b):a=b:=by
 unfold qdC at h
 injection h with h1 h2
 injection h2 with h2 h3
 injection h3 with h3 _
 have e1:((a.1:Nat):Int)=((b.1:Nat):Int):=Sum.inl.inj h1
 have e3:((a.2.2:Nat):Int)=((b.2.2:Nat):Int):=Sum.inl.inj h3
 exact Prod.ext (by omega) (Prod.ext (qir (Sum.inr.inj h2)) (by omega))
structure Fg (H0 H:Hp) (D Q:Addr) (kvs:List (List Key×V)) (xs:List Nd) (bz:List Addr):Prop where
 s:Same H0 H
 nD:H0 D=none
 nQ:H0 Q=none
 hD:H D=some (.dT kvs)
 hQ:H Q=some (.lst (bz.map V.ref))
 kz:KS qdC kvs xs
 ql:bz.length=xs.length
 qt:∀ (i:Nat) x,xs[i]? = some x->∃ b,bz[i]? = some b/\H b=some (.tup ((qdC x).map kV))
theorem Fg.mono {H0 H H1:Hp} {D Q:Addr} {kvs:List (List Key×V)} {xs:List Nd} {bz:List Addr} (g:Fg H0 H D Q kvs xs bz) (s:Same H H1):Fg H0 H1 D Q kvs xs bz:=
 ⟨g.s.trans s,g.nD,g.nQ,s _ _ g.hD,s _ _ g.hQ,g.kz,g.ql,fun i x e=>let ⟨b,a,c⟩:=g.qt i x e;⟨b,a,s _ _ c⟩⟩
theorem Fg.put {H0 H H1:Hp} {D Q:Addr} {kvs:List (List Key×V)} {xs:List Nd} {bz:List Addr} (g:Fg H0 H D Q kvs xs bz) {z:Addr} {v:V} {x:Nd} (nx:x ∉ xs) (s1:Same (upd H D (.dT (qaN kvs (qdC x) v))) H1) (hx:H1 z=some (.tup ((qdC x).map kV))) :
  Fg H0 (upd H1 Q (.lst (bz.map V.ref++[.ref z]))) D Q (qaN kvs (qdC x) v) (xs++[x]) (bz++[z]):=by
 have DQ:D≠Q:=qaj g.hD g.hQ (fun z=>nomatch z)
 have kp:=g.kz.put qee x v
 unfold Om.adds at kp
 rw [if_neg nx] at kp
 have hQ1:H1 Q=some (.lst (bz.map V.ref)):=s1 _ _ (by rw [qac (Ne.symm DQ)];exact g.hQ)
 have tp:∀ {b:Addr} {ys:List V},H1 b=some (.tup ys)->upd H1 Q (.lst (bz.map V.ref++[.ref z])) b=some (.tup ys):=fun {b ys} h=>by rw [qac (qaj h hQ1 (fun z=>nomatch z))];exact h
 refine ⟨fun b o e=>?_,g.nD,g.nQ,by rw [qac DQ];exact s1 _ _ qaa,by rw [qaa,List.map_append];rfl,kp,by rw [lA_,lA_,g.ql];rfl,fun i y hy=>?_⟩
 ·rw [qac (qab e g.nQ)]
  refine s1 _ _ ?_
  rw [qac (qab e g.nD)]
  exact g.s _ _ e
 ·by_cases il:i < xs.length
  ·rw [List.getElem?_append_left il] at hy
   obtain ⟨b,a1,a2⟩:=g.qt i y hy
   exact ⟨b,by rw [List.getElem?_append_left (by rw [g.ql];exact il)];exact a1,tp (s1 _ _ (by rw [qac (qaj a2 g.hD (fun z=>nomatch z))];exact a2))⟩
  ·have ie:i=xs.length:=by
    have:=(gS_ hy).1
    rw [lA_] at this
    simp at this
    omega
   subst ie
   rw [List.getElem?_append_right (Nat.le_refl _)] at hy
   simp at hy
   subst hy
   exact ⟨z,by rw [List.getElem?_append_right (by rw [g.ql];exact Nat.le_refl _),g.ql];simp,tp hx⟩
def nxt (x:Nd) (r:List Bool×Nat):Nd:=(r.2,(pb x.2.1 x.2.2 r.1).1,(pb x.2.1 x.2.2 r.1).2.1)
def qgq (x:Nd) (r:List Bool×Nat):Nat:=(pb x.2.1 x.2.2 r.1).2.2
inductive Rr (rows:Om.Rows):Nd->Prop where
 | z:Rr rows (0,none,0)
 | s {x r}:Rr rows x->r∈rows.getD x.1 []->Rr rows (nxt x r)
def ql6 (rows:Om.Rows) (m:Nat):Prop:=m=0\/∃ x r,Rr rows x/\r∈rows.getD x.1 []/\m=qgq x r
structure Lm2 (rows:Om.Rows) (B:Nat) (xs:List Nd) (ed:Nat->Nat->Prop) (most:Nat):Prop where
 z:xs[0]? = some (0,none,0)
 go:∀ x∈xs,Rr rows x
 bd:∀ x∈xs,x.1 < rows.length/\x.2.2 < B
 cl:∀ i l x r,ed i l->xs[i]? = some x->(rows.getD x.1 [])[l]? = some r->nxt x r∈xs/\qgq x r<=most
 src:ql6 rows most
theorem Lm2.cong {rows:Om.Rows} {B:Nat} {xs:List Nd} {ed ed':Nat->Nat->Prop} {most:Nat} (h:Lm2 rows B xs ed most) (e:∀ i l,ed' i l->ed i l):Lm2 rows B xs ed' most:=⟨h.z,h.go,h.bd,fun i l x r a=>h.cl i l x r (e i l a),h.src⟩
theorem Lm2.put {rows:Om.Rows} {B:Nat} {xs:List Nd} {ed:Nat->Nat->Prop} {most:Nat} (h:Lm2 rows B xs ed most) {c l:Nat} {x:Nd} {r:List Bool×Nat} (hx:xs[c]? = some x) (hr:(rows.getD x.1 [])[l]? = some r) (hrl:r.2 < rows.length) (hb:(nxt x r).2.2 < B) (il:∀ i l,ed i l->i < xs.length) :
  Lm2 rows B (Om.adds xs (nxt x r)) (fun i l'=>ed i l'\/(i=c/\l'=l)) (max most (qgq x r)):=by
 have ol:∀ i y,i < xs.length->(Om.adds xs (nxt x r))[i]? = some y->xs[i]? = some y:=fun i y hi e=>by
  unfold Om.adds at e
  split at e
  ·exact e
  ·rwa [List.getElem?_append_left hi] at e
 have cl:=(gS_ hx).1
 have hm:=h.go x (mO_ hx)
 have mr:=mO_ hr
 refine ⟨?_,fun y hy=>?_,fun y hy=>?_,fun i l' y r' he hy hr'=>?_,?_⟩
 ·unfold Om.adds
  split
  ·exact h.z
  ·rw [List.getElem?_append_left (by omega)]
   exact h.z
 ·rcases Om.mem_adds.mp hy with z | rfl
  ·exact h.go y z
  ·exact .s hm mr
 ·rcases Om.mem_adds.mp hy with z | rfl
  ·exact h.bd y z
  ·exact ⟨hrl,hb⟩
 ·rcases he with he | ⟨rfl,rfl⟩
  ·have hy':=ol i y (il i l' he) hy
   obtain ⟨a1,a2⟩:=h.cl i l' y r' he hy' hr'
   exact ⟨Om.mem_adds.mpr (.inl a1),by omega⟩
  ·have hy':=ol i y cl hy
   rw [hx] at hy'
   cases hy'
   rw [hr] at hr'
   cases hr'
   exact ⟨Om.mem_adds.mpr (.inr rfl),by omega⟩
 ·by_cases c:most<=qgq x r
  ·rw [Nat.max_eq_right c]
   exact .inr ⟨x,r,hm,mr,rfl⟩
  ·rw [Nat.max_eq_left (by omega)]
   exact h.src
structure Mo (rows:Om.Rows) (B most:Nat):Prop where
 bd:∀ x,Rr rows x->x.2.2 < B
 all:∀ x r,Rr rows x->r∈rows.getD x.1 []->qgq x r<=most
 src:ql6 rows most
theorem Lm2.end {rows:Om.Rows} {B:Nat} {xs:List Nd} {most c:Nat} (h:Lm2 rows B xs (fun i _=>i < c) most) (hc:xs.length<=c):Mo rows B most:=by
 have al:∀ {x},Rr rows x->x∈xs:=by
  intro x g
  induction g with
  | z=>exact mO_ h.z
  | @s x r g hr ih=>
   obtain ⟨i,hi⟩:=mG_ ih
   obtain ⟨l,hl⟩:=mG_ hr
   exact (h.cl i l _ r (Nat.lt_of_lt_of_le (gS_ hi).1 hc) hi hl).1
 refine ⟨fun x g=>(h.bd x (al g)).2,fun x r g hr=>?_,h.src⟩
 obtain ⟨i,hi⟩:=mG_ (al g)
 obtain ⟨l,hl⟩:=mG_ hr
 exact (h.cl i l _ r (Nat.lt_of_lt_of_le (gS_ hi).1 hc) hi hl).2
def qez:Option Bool->Nat | none=>0 | some false=>1 | some true=>2
theorem qhj {xs:List Nd} (nd:xs.Nodup) (h:∀ x∈xs,x.1 < 8/\x.2.2 < 48):xs.length<=1152:=by
 have oc:∀ o,qez o < 3:=fun o=>by cases o with | none=>decide | some b=>cases b<;>decide
 have oi:∀ a b,qez a=qez b->a=b:=fun a b e=>by
  cases a with
  | none=>cases b with
   | none=>rfl
   | some y=>cases y<;>exact absurd e (by decide)
  | some x=>cases b with
   | none=>cases x<;>exact absurd e (by decide)
   | some y=>cases x<;>cases y<;>first | rfl | exact absurd e (by decide)
 have:=Om.nodup_len 1152 (xs.map fun x=>x.1 * 144+qez x.2.1 * 48+x.2.2) ?_ fun s hs=>?_
 ·rwa [lM_] at this
 ·refine Om.nodup_on (fun x hx y hy e=>?_) nd
  have h1:=h x hx
  have h2:=h y hy
  have o1:=oc x.2.1
  have o2:=oc y.2.1
  have e1:x.1=y.1:=by omega
  have e2:qez x.2.1=qez y.2.1:=by omega
  exact Prod.ext e1 (Prod.ext (oi _ _ e2) (by omega))
 ·obtain ⟨x,hx,rfl⟩:=mM_ hs
  have h1:=h x hx
  have o1:=oc x.2.1
  omega
abbrev qfj:Stmt:=top 33
def qdj:Sp:=fun vs H Q _=>match vs with
 | [cv]=>∃ (k n:Nat) (rows:Om.Rows),DV H cv (qax k n rows)/\Om.CodeOk k n rows ∧
   (∀ H',Same H H'->(∃ x,Rr rows x/\n * rows.length<=x.2.2)->Q .non H') ∧
   ∀ (most:Nat) H',Same H H'->Mo rows (n * rows.length) most->Q (.int (most:Nat)) H'
 | _=>False
theorem scLMost:FnScope ["code","found","line","at","most","state","sign","run","word","behind","last","many","top"] ["code"] (qad qfj):=⟨rfl,rfl,rfl,by decide +kernel,rfl,by decide +kernel,by decide +kernel⟩
local macro_rules | `(tactic| walk_at "T.e")=>`(tactic| ((with_reducible refine' qgV ?a0 ?a1 ?a2);(case a0=>exact Room.units (by assumption));(case a1=>walk_at "T.e");(case a2=>walk_at "T.e")))
local macro_rules | `(tactic| walk_at "T.g")=>`(tactic| ((with_reducible refine' qa3 ?a0 ?a1 ?a2);(case a0=>exact Room.units (by assumption));(case a1=>walk_at "T.e");(case a2=>walk_at "T.e")))
local macro_rules | `(tactic| walk_at "T.cmp")=>`(tactic| ((with_reducible refine' qa1 ?a0);(case a0=>exact Room.units (by assumption))))
theorem qg0 (D:FnX K mg "_law_most" qfj ["code"]) (g1:mg "len" = none) (g2:mg "max" = none) (c1:Can P w K mg base "_law_runs" 1 ["sign","run","word"] qcN):Can P w K mg base "_law_most" 2 ["code"] qdj:=by
 refine qak (k:=1) D scLMost (fun vs H Q E h=>?_) (fun f0 cdv A outer s H vs Q E hr h=>?_)
 all_goals
  unfold qdj at h
  split at h
 ·rfl
 ·exact h.elim
 ·rename_i cv
  obtain ⟨k,n,rows,hc,ok,qn,qt⟩:=h
  obtain ⟨a,b,ss,rfl,ha,hb,hss⟩:=qay hc
  have nd:=scLMost.nd
  refine ⟨_,(by walk_at "T.top"),?_⟩
  have sl:ss.length=rows.length:=by rw [hss.length,lM_]
  have n1:=ok.n1
  have n6:=ok.n6
  have s1:=ok.s1
  have s8:=ok.s8
  obtain ⟨B,hB⟩ : ∃ B,B=n * rows.length:=⟨_,rfl⟩
  have B48:B<=48:=by
   have:n * rows.length<=6 * 8:=Nat.mul_le_mul n6 s8
   omega
  have B1:1<=B:=by rw [hB];exact Nat.mul_pos n1 s1
  have eB:((n:Nat):Int) * ((ss.length:Nat):Int)=((B:Nat):Int):=by rw [sl,hB];push_cast;rfl
  rw [<-hB] at qn qt
  intro D hD
  refine ⟨lZ_ rfl,fun B0 hB0=>?_⟩
  refine ⟨by rw [qac (Ne.symm (qaO hB0).1)];exact qaa,B0,qdC (0,none,0),rfl,qaa,?_⟩
  refine ⟨lZ_ rfl,fun B1' hB1=>⟨lZ_ rfl,fun Qa hQ=>?_⟩⟩
  have G0:Fg H (upd (upd (upd (upd (upd H D (.dT [])) B0 (.tup [.int 0,.str "",.int 0])) D (.dT [(qdC (0,none,0),.bl true)])) B1' (.tup [.int 0,.str "",.int 0])) Qa (.lst [.ref B1'])) D Qa [(qdC (0,none,0),.bl true)] [(0,none,0)] [B1']:=by
   obtain ⟨QB,q1⟩:=qaO hQ
   obtain ⟨QD,q2⟩:=qaO q1
   obtain ⟨QB0,q3⟩:=qaO q2
   obtain ⟨_,q4⟩:=qaO q3
   obtain ⟨BD,b1⟩:=qaO hB1
   obtain ⟨BB,b2⟩:=qaO b1
   obtain ⟨_,b3⟩:=qaO b2
   obtain ⟨B0D,c1⟩:=qaO hB0
   refine ⟨fun c o e=>?_,hD,q4,by rw [qac (Ne.symm QD),qac (Ne.symm BD),qaa],qaa,⟨rfl,by simp⟩,rfl,fun i x hx=>?_⟩
   ·rw [qac (qab e q4),qac (qab e b3),qac (qab e hD),qac (qab e c1),qac (qab e hD)]
    exact e
   ·cases i with
    | zero=>
     cases hx
     exact ⟨B1',rfl,by rw [qac (Ne.symm QB),qaa];rfl⟩
    | succ i=>simp at hx
  have L0:Lm2 rows B [(0,none,0)] (fun i _=>i < 0) 0:=by
   refine ⟨rfl,fun x hx=>?_,fun x hx=>?_,fun i l x r h=>absurd h (Nat.not_lt_zero _),.inl rfl⟩
   ·rw [mS_ hx];exact .z
   ·rw [mS_ hx]
    exact ⟨s1,by show 0 < B;omega⟩
  generalize upd (upd (upd (upd (upd H D (.dT [])) B0 (.tup [.int 0,.str "",.int 0])) D (.dT [(qdC (0,none,0),.bl true)])) B1' (.tup [.int 0,.str "",.int 0])) Qa (.lst [.ref B1'])=H1 at G0
  refine ⟨fun mm σ H2=>∃ (v5 v6 v7 v8 v9 v10 v11 v12:Option V) (kvs:List (List Key×V)) (xs:List Nd) (bz:List Addr) (c most:Nat),σ=[some (.ref a),some (.ref D),some (.ref Qa),some (.int (c:Nat)),some (.int (most:Nat)),v5,v6,v7,v8,v9,v10,v11,v12]/\mm+c=1152/\Fg H H2 D Qa kvs xs bz/\Lm2 rows B xs (fun i _=>i < c) most/\c<=xs.length,
   ⟨1152,none,none,none,none,none,none,none,none,_,[(0,none,0)],[B1'],0,0,rfl,rfl,G0,L0,Nat.zero_le _⟩,?_⟩
  clear G0 L0
  rintro mm σ H2 ⟨v5,v6,v7,v8,v9,v10,v11,v12,kvs,xs,bz,c,most,rfl,hmm,G,L,cl⟩
  have few:∀ {ys:List Nd} {ed:Nat->Nat->Prop} {most:Nat},ys.Nodup->Lm2 rows B ys ed most->ys.length<=1152:=fun nd h=>qhj nd fun x hx=>by
   have:=h.bd x hx
   omega
  have ql:=few G.kz.nd L
  refine ⟨_,qcV G.hQ,?_⟩
  dsimp only [rN0]
  rw [lM_,G.ql]
  refine qaJ (fun lt=>?_) (fun ge=>?_)
  ·have lt:c < xs.length:=by simpa using lt
   obtain ⟨x,hx⟩ : ∃ x,xs[c]? = some x:=⟨_,gE_ lt⟩
   have xm:=mO_ hx
   obtain ⟨b0,b1,b2⟩:=G.qt c x hx
   have slt:=(L.bd x xm).1
   obtain ⟨qx,rx,e1,e2,e3⟩:=qaA hss (s:=x.1) (st:=rows[x.1]) (gE_ slt)
   have rl:rx.length=rows[x.1].length:=by rw [e3.length,lM_]
   have eg:rows.getD x.1 []=rows[x.1]:=by rw [List.getD_eq_getElem?_getD,gE_ slt];rfl
   refine ⟨fun σ' H'=>∃ (v5 v6 v7 v8 v9 v10 v11 v12:Option V) (kvs:List (List Key×V)) (xs':List Nd) (bz:List Addr) (most:Nat),σ'=[some (.ref a),some (.ref D),some (.ref Qa),some (.int ((c:Nat)+1)),some (.int (most:Nat)),v5,v6,v7,v8,v9,v10,v11,v12]/\Fg H H' D Qa kvs xs' bz/\Lm2 rows B xs' (fun i _=>i < c+1) most/\c+1<=xs'.length,?_,?_⟩
   ·rintro σ' H' ⟨v5,v6,v7,v8,v9,v10,v11,v12,kvs,xs',bz,most,rfl,G',L',cl'⟩
    exact ⟨mm - 1,by omega,v5,v6,v7,v8,v9,v10,v11,v12,kvs,xs',bz,c+1,most,rfl,by omega,G',L',cl'⟩
   ·refine ⟨.ref b0,gl G.hQ (by omega) (by rw [gM_,show ((c:Nat):Int).toNat=c by omega,b1];rfl),?_⟩
    refine ⟨_,.inl b2,rfl,rfl,?_⟩
    refine ⟨_,gt (G.s _ _ ha) (by decide) rfl,.ref qx,gl (G.s _ _ hb) (by omega) (by simpa using e1),⟨_,SqL.of (G.s _ _ e2)⟩,?_⟩
    refine qam (qag _ qx rx) (fun j σ H4=>∃ (v8 v9 v10 v11 v12:Option V) (kvs:List (List Key×V)) (xs':List Nd) (bz:List Addr) (most:Nat),σ=[some (.ref a),some (.ref D),some (.ref Qa),some (.int ((c:Nat)+1)),some (.int (most:Nat)),some (.int (x.1:Nat)),some (.str (sgn x.2.1)),some (.int (x.2.2:Nat)),v8,v9,v10,v11,v12]/\Fg H H4 D Qa kvs xs' bz/\Lm2 rows B xs' (fun i l=>i < c\/(i=c/\l < j)) most/\(∀ i,i < xs.length->xs'[i]? = xs[i]?)/\xs.length<=xs'.length)
     ⟨v8,v9,v10,v11,v12,kvs,xs,bz,most,rfl,G,L.cong (fun i l z=>z.elim id fun z=>absurd z.2 (Nat.not_lt_zero _)),fun _ _=>rfl,Nat.le_refl _⟩ (fun i σ H4 _ ⟨_,_,_,_,_,_,_,_,_,_,g,_⟩=>SqL.of (g.s _ _ e2)) ?_ ?_
    ·clear G L ql
     rintro j z σ H4 hj hz ⟨v8,v9,v10,v11,v12,kvs,xs',bz,most,rfl,G4,L4,pre,lle⟩
     have hj':j < rows[x.1].length:=by omega
     obtain ⟨r,r1,r2⟩:=qbr e3 (l:=j) (r:=rows[x.1][j]) (gE_ hj')
     rw [hz] at r1
     cases r1
     have okr:=ok.row _ (List.getElem_mem slt) _ (List.getElem_mem hj')
     have hrow:(rows.getD x.1 [])[j]? = some rows[x.1][j]:=by rw [eg];exact gE_ hj'
     generalize rows[x.1][j]=rw0 at r2 okr hrow
     refine ⟨_,.inl (G4.s _ _ r2),rfl,rfl,?_⟩
     have wne:rw0.1≠[]:=fun z=>by have:=congrArg List.length z;rw [okr.1] at this;simp at this;omega
     refine ⟨x.2.1,x.2.2,rw0.1,rfl,rfl,rfl,wne,fun p5 H5 s5 hp5=>?_⟩
     refine ⟨_,.inl hp5,rfl,rfl,?_⟩
     have G5:=G4.mono s5
     have hx':xs'[c]? = some x:=(pre c lt).trans hx
     have em:(if ((qgq x rw0:Nat):Int) > ((most:Nat):Int) then ((qgq x rw0:Nat):Int) else ((most:Nat):Int))=((max most (qgq x rw0):Nat):Int):=by split<;>omega
     refine ⟨_,gt (G5.s _ _ ha) (by decide) rfl,_,gt (G5.s _ _ ha) (by decide) rfl,_,qcV (G5.s _ _ hb),.inl ⟨by omega,by omega⟩,?_⟩
     dsimp only [rN0]
     rw [eB]
     refine qaJ (fun big=>?_) (fun small=>?_)
     ·have big:((B:Nat):Int)<=(((nxt x rw0).2.2:Nat):Int):=of_decide_eq_true big
      exact qn _ G5.s ⟨nxt x rw0,.s (L4.go x (mO_ hx')) (mO_ hrow),by omega⟩
     ·have small:(nxt x rw0).2.2 < B:=by
       have h:¬ ((B:Nat):Int)<=(((nxt x rw0).2.2:Nat):Int):=fun z=>small (decide_eq_true z)
       omega
      have L5:=(L4.put hx' hrow okr.2 small (fun i l z=>by omega)).cong (ed':=fun i l=>i < c\/(i=c/\l < j+1)) fun i l z=>by omega
      refine ⟨lZ_ rfl,fun p hp=>?_⟩
      have G6:=G5.mono (Same.upd (o:=.tup [.int (rw0.2:Nat),.str (sgn (pb x.2.1 x.2.2 rw0.1).1),.int ((pb x.2.1 x.2.2 rw0.1).2.1:Nat)]) hp)
      refine ⟨D,_,rfl,DGet.t (k:=qdC (nxt x rw0)) G6.hD qaa,?_⟩
      rw [G6.kz.has qee (nxt x rw0)]
      generalize upd H5 p (.tup [.int (rw0.2:Nat),.str (sgn (pb x.2.1 x.2.2 rw0.1).1),.int ((pb x.2.1 x.2.2 rw0.1).2.1:Nat)])=H6 at G6
      have f6:=few G6.kz.nd L4
      refine qaJ (fun c1=>?_) (fun c1=>?_)
      ·have nin:nxt x rw0 ∉ xs':=by simpa using c1
       refine ⟨lZ_ rfl,fun p2 hp2=>?_⟩
       have G7:=G6.mono (Same.upd (o:=.tup [.int (rw0.2:Nat),.str (sgn (pb x.2.1 x.2.2 rw0.1).1),.int ((pb x.2.1 x.2.2 rw0.1).2.1:Nat)]) hp2)
       refine .inr ⟨D,_,rfl,DPut.t (k:=qdC (nxt x rw0)) G7.hD qaa (qd9 (by have:=G6.kz.len;omega)),?_⟩
       generalize upd H6 p2 (.tup [.int (rw0.2:Nat),.str (sgn (pb x.2.1 x.2.2 rw0.1).1),.int ((pb x.2.1 x.2.2 rw0.1).2.1:Nat)])=H7 at G7
       have DQ:D≠Qa:=qaj G7.hD G7.hQ (fun z=>nomatch z)
       have hQ8:upd H7 D (.dT (qaN kvs (qdC (nxt x rw0)) (.bl true))) Qa=some (.lst (bz.map V.ref)):=by rw [qac (Ne.symm DQ)];exact G7.hQ
       refine ⟨⟨_,rfl,hQ8⟩,lZ_ rfl,fun p3 hp3=>?_⟩
       have s9:=Same.upd (o:=.tup [.int (rw0.2:Nat),.str (sgn (pb x.2.1 x.2.2 rw0.1).1),.int ((pb x.2.1 x.2.2 rw0.1).2.1:Nat)]) hp3
       refine ⟨_,s9 _ _ hQ8,qd9 (by rw [lM_,G7.ql];omega),?_⟩
       have ad:Om.adds xs' (nxt x rw0)=xs'++[nxt x rw0]:=by unfold Om.adds;rw [if_neg nin]
       rw [ad] at L5
       refine ⟨_,_,_,_,_,_,_,_,max most (qgq x rw0),by rw [<-em];rfl,G7.put nin s9 qaa,L5,fun i hi=>?_,by rw [lA_];omega⟩
       rw [List.getElem?_append_left (by omega)]
       exact pre i hi
      ·have nin:nxt x rw0∈xs':=by
        by_cases z:nxt x rw0∈xs'
        ·exact z
        ·exact absurd (by simpa using z) c1
       have ad:Om.adds xs' (nxt x rw0)=xs':=by unfold Om.adds;rw [if_pos nin]
       rw [ad] at L5
       exact ⟨_,_,_,_,_,_,_,_,max most (qgq x rw0),by rw [<-em];rfl,G6,L5,pre,lle⟩
    ·rintro σ H4 ⟨v8,v9,v10,v11,v12,kvs,xs',bz,most,rfl,G4,L4,pre,lle⟩
     refine ⟨_,_,_,v8,v9,v10,v11,v12,kvs,xs',bz,most,rfl,G4,⟨L4.z,L4.go,L4.bd,fun i l y r hi hy hr=>?_,L4.src⟩,by omega⟩
     by_cases e:i=c
     ·subst e
      rw [pre i lt,hx] at hy
      cases hy
      have:=(gS_ hr).1
      rw [eg] at this
      exact L4.cl i l x r (.inr ⟨rfl,by omega⟩) ((pre i lt).trans hx) hr
     ·exact L4.cl i l y r (.inl (by omega)) hy hr
  ·have ge:xs.length<=c:=by
    by_cases z:c < xs.length
    ·exact absurd (by simpa using z) ge
    ·omega
   exact qt most _ G.s (L.end ge)
 ·exact h.elim
end
end K14
end
section
namespace K14
open PySem L2
section
variable {P:Program} {w:World} {K:PySem.W.Frag} {mg:Str->Option Value} {base:Heap}
def Ed (rows:Om.Rows) (b:Bool) (s t:Nat):Prop:=∃ r∈rows.getD s [],r.2=t/\∀ x∈r.1,x=b
def StE (H:Hp) (ps:List V) (ts:List Nat):Prop:=ps.length=ts.length/\∀ (i t:Nat),ts[i]? = some t->∃ q lab,ps[i]? = some (.ref q)/\H q=some (.tup [.int lab,.int (t:Nat)])
theorem StE.mono {H H':Hp} {ps:List V} {ts:List Nat} (h:StE H ps ts) (s:∀ b ys,H b=some (.tup ys)->H' b=some (.tup ys)):StE H' ps ts:=⟨h.1,fun i t e=>let ⟨q,l,a,b⟩:=h.2 i t e;⟨q,l,a,s _ _ b⟩⟩
def aw:Nat->List (List Bool)
 | 0=>[[]]
 | n+1=>(aw n).flatMap fun w=>[false :: w,true :: w]
theorem qhN:∀ (w:List Bool),w∈aw w.length
 | []=>List.mem_singleton.mpr rfl
 | b :: w=>by
  show b :: w∈(aw w.length).flatMap fun w=>[false :: w,true :: w]
  rw [List.mem_flatMap]
  exact ⟨w,qhN w,by cases b<;>simp⟩
theorem qeX:((List.range 7).all fun n=>(aw n).all fun w=>[false,true].all fun b=>decide (Txt.stripChars (bs w) (bs [b])=("" : Str)) == w.all (· == b))=true:=by decide +kernel
theorem qeW (w:List Bool) (b:Bool) (h:w.length<=6):decide (Txt.stripChars (bs w) (bs [b])=("" : Str))=decide (∀ x∈w,x=b):=by
 have h1:=List.all_eq_true.mp qeX w.length (List.mem_range.mpr (by omega))
 have h2:=List.all_eq_true.mp (List.all_eq_true.mp h1 w (qhN w)) b (by cases b<;>simp)
 rw [eq_of_beq h2,Bool.eq_iff_iff,List.all_eq_true,decide_eq_true_eq]
 exact ⟨fun z x hx=>eq_of_beq (z x hx),fun z x hx=>by rw [z x hx];exact beq_self_eq_true b⟩
abbrev qmA:Stmt:=top 22
def qij:Sp:=fun vs H Q _=>match vs with
 | [cv,.int s0,.str z]=>∃ (k n:Nat) (rows:Om.Rows) (s:Nat) (b:Bool),DV H cv (qax k n rows)/\Om.CodeOk k n rows/\s0=(s:Nat)/\s < rows.length/\z=bs [b] ∧
   ∀ l ps (ts:List Nat) H',Same H H'->H l=none->H' l=some (.lst ps)->StE H' ps ts->(∀ t,t∈ts↔Ed rows b s t)->Q (.ref l) H'
 | _=>False
theorem scStS:FnScope ["code","state","sign"] ["code","state","sign"] (qad qmA):=⟨rfl,rfl,rfl,by decide +kernel,rfl,by decide +kernel,by decide +kernel⟩
local macro_rules | `(tactic| walk_at "T.c")=>`(tactic| (have ndc:(["letter","row","sign"]:List Str).Nodup:=(by decide +kernel));((with_reducible refine' qaF ["letter","row","sign"] [2] ?b1 ?b2 (fun cl C s H fp=>?b3) (fun cl C s H fp=>?b4) (fun cl C s H fp=>?b5));(case b1=>exact ndc);(case b2=>walk_at "T.i");(case b3=>walk_at "T.g");(case b4=>walk_at "T.pf");(case b5=>walk_at "T.e")))
theorem qlk (D:FnX K mg "standing_steps" qmA ["code","state","sign"]) (g1:mg "enumerate" = none):Can P w K mg base "standing_steps" 1 ["code","state","sign"] qij:=by
 refine qak (k:=0) D scStS (fun vs H Q E h=>?_) (fun f cdv A outer s H vs Q E hr h=>?_)
 all_goals
  unfold qij at h
  split at h
 ·rfl
 ·exact h.elim
 ·rename_i cv s0 z
  obtain ⟨k,n,rows,st,b,hc,ok,rfl,hs,rfl,q⟩:=h
  have nd:=scStS.nd
  obtain ⟨a,bb,ss,rfl,ha,hb,hss⟩:=qay hc
  obtain ⟨qx,rx,e1,e2,e3⟩:=qaA hss (s:=st) (st:=rows[st]) (gE_ hs)
  have lx:rows[st].length=2 ^ k:=ok.len _ (List.getElem_mem hs)
  have rxl:rx.length=rows[st].length:=by rw [e3.length,lM_]
  have p8:rx.length<=8:=by rw [rxl,lx];exact Om.pow8 ok.k3
  have eg:rows.getD st []=rows[st]:=by rw [List.getD_eq_getElem?_getD,gE_ hs];rfl
  have n6:=ok.n6
  refine ⟨_,(by walk_at "T.top1"),?_⟩
  refine ⟨_,gt ha (by decide) rfl,.ref qx,gl hb (by omega) (by simpa using e1),⟨_,SqL.of e2⟩,fun R hR=>?_⟩
  refine qga (qbE _ qx rx) (fun i τ H2 ys=>(∃ v1 v2,τ=[v1,v2,some (.str (bs [b]))])/\Same H H2/\H2 R=some (.lst ys)/\ys.length<=i/\∃ ts:List Nat,StE H2 ys ts/\∀ t,t∈ts↔∃ (j:Nat) (r:List Bool×Nat),j < i/\rows[st][j]? = some r/\r.2=t/\∀ x∈r.1,x=b) (qaf (by omega))
   ⟨⟨none,none,rfl⟩,Same.upd hR,qaa,Nat.le_refl _,[],⟨rfl,fun i t h=>by simp at h⟩,fun t=>⟨(fun h=>nomatch h),fun ⟨_,_,h,_⟩=>absurd h (Nat.not_lt_zero _)⟩⟩ ?_ ?_ ?_
  ·rintro i τ H2 ys hi ⟨_,s2,hR2,yl,_⟩
   exact ⟨s2 _ _ e2,hR2,yl⟩
  ·rintro i t τ H2 ys hi ⟨⟨v1,v2,rfl⟩,s2,hR2,yl,ts,se,mem⟩ ht
   have hi':i < rows[st].length:=by omega
   obtain ⟨r,r1,r2⟩:=qbr e3 (l:=i) (r:=rows[st][i]) (gE_ hi')
   have er:rx.getD i .non = .ref r:=by rw [List.getD_eq_getElem?_getD,r1];rfl
   have okr:=ok.row _ (List.getElem_mem hs) _ (List.getElem_mem hi')
   have hrow:rows[st][i]? = some rows[st][i]:=gE_ hi'
   rw [er]
   have s3:Same H2 (upd H2 t (.tup [.int (i:Nat),.ref r])):=Same.upd ht
   refine ⟨_,.inl qaa,rfl,rfl,?_⟩
   refine ⟨_,gt (s3 _ _ (s2 _ _ r2)) (by decide) rfl,rfl,by rw [qc7];exact qaf (by omega),?_⟩
   have se3:=se.mono fun b ys e=>s3 _ _ e
   generalize upd H2 t (.tup [.int (i:Nat),.ref r])=H3 at s3 se3
   dsimp only [tC,qka]
   rw [qeW _ _ (by omega)]
   generalize rows[st][i]=rw0 at r2 okr hrow
   refine qaJ (fun c=>?_) (fun c=>?_)
   ·have c:=of_decide_eq_true c
    refine ⟨_,gt (s3 _ _ (s2 _ _ r2)) (by decide) rfl,lZ_ rfl,fun p hp=>?_⟩
    have s4:=s3.trans (Same.upd (o:=.tup [.int (i:Nat),.int (rw0.2:Nat)]) hp)
    have pR:p≠R:=fun z=>by rw [z,s3 _ _ hR2] at hp;cases hp
    refine ⟨s4 _ _ hR2,⟨_,_,rfl⟩,(s2.trans s4).own hR,qaa,by simp;omega,ts++[rw0.2],⟨by rw [lA_,lA_,se.1];rfl,fun j t' hj=>?_⟩,fun t'=>?_⟩
    ·by_cases jl:j < ts.length
     ·rw [List.getElem?_append_left jl] at hj
      obtain ⟨q',lab,a1,a2⟩:=se3.2 j t' hj
      refine ⟨q',lab,by rw [List.getElem?_append_left (by rw [se.1];exact jl)];exact a1,?_⟩
      have a3:=Same.upd (o:=.tup [.int (i:Nat),.int (rw0.2:Nat)]) hp _ _ a2
      rw [qac (qaj a3 (s4 _ _ hR2) (fun z=>nomatch z))]
      exact a3
     ·have je:j=ts.length:=by
       have:=(gS_ hj).1
       rw [lA_] at this
       simp at this
       omega
      subst je
      rw [List.getElem?_append_right (Nat.le_refl _)] at hj
      simp at hj
      subst hj
      exact ⟨p,_,by rw [List.getElem?_append_right (by rw [se.1];exact Nat.le_refl _),se.1];simp,by rw [qac pR,qaa]⟩
    ·rw [List.mem_append,mem]
     constructor
     ·rintro (⟨j,r',h,e⟩ | h)
      ·exact ⟨j,r',by omega,e⟩
      ·exact ⟨i,rw0,by omega,hrow,(mS_ h).symm,c⟩
     ·rintro ⟨j,r',h,e,e2,e3⟩
      by_cases ej:j=i
      ·subst ej
       rw [hrow] at e
       cases e
       exact .inr (List.mem_singleton.mpr e2.symm)
      ·exact .inl ⟨j,r',by omega,e,e2,e3⟩
   ·have c:¬ ∀ x∈rw0.1,x=b:=fun z=>c (decide_eq_true z)
    refine ⟨⟨_,_,rfl⟩,s2.trans s3,s3 _ _ hR2,by omega,ts,se3,fun t'=>?_⟩
    rw [mem]
    constructor
    ·rintro ⟨j,r',h,e⟩
     exact ⟨j,r',by omega,e⟩
    ·rintro ⟨j,r',h,e,e2,e3⟩
     by_cases ej:j=i
     ·subst ej
      rw [hrow] at e
      cases e
      exact absurd e3 c
     ·exact ⟨j,r',by omega,e,e2,e3⟩
  ·rintro τ H2 ys ⟨_,s2,hR2,yl,ts,se,mem⟩
   refine q R ys ts _ s2 hR hR2 se fun t=>?_
   rw [mem]
   unfold Ed
   rw [eg]
   constructor
   ·rintro ⟨j,r,_,e,e2⟩
    exact ⟨r,mO_ e,e2⟩
   ·rintro ⟨r,hr,e2⟩
    obtain ⟨j,hj⟩:=mG_ hr
    exact ⟨j,r,by have:=(gS_ hj).1;omega,hj,e2⟩
 ·exact h.elim
end
end K14
end
section
namespace K14
open PySem L2
section
variable {P:Program} {w:World} {K:PySem.W.Frag} {mg:Str->Option Value} {base:Heap}
theorem qbh:∀ {ks qs:List Nat},ks.Nodup->(∀ x∈ks,x∈qs)->ks.length<=qs.length
 | [],_,_,_=>Nat.zero_le _
 | k :: ks,qs,nd,h=>by
  have hk:=h k List.mem_cons_self
  rw [List.nodup_cons] at nd
  have:=qbh (qs:=qs.erase k) nd.2 (fun x hx=>(List.mem_erase_of_ne (show x≠k from fun e=>nd.1 (e ▸ hx))).mpr (h x (mC_ _ hx)))
  rw [List.length_erase_of_mem hk] at this
  have:0 < qs.length:=List.length_pos_of_mem hk
  rw [List.length_cons];omega
def Lv (E:Nat->Nat->Prop) (qs:List Nat):Nat->Nat->Prop
 | 0,t=>t∈qs
 | j+1,t=>∃ s,Lv E qs j s/\E s t
structure Gph (H:Hp) (g:Addr) (qs:List Nat) (E:Nat->Nat->Prop):Prop where
 ex:∃ kvs,Rd H g (.dK kvs)/\KS nk kvs qs/\∀ s∈qs,∃ l ps ts,qaL kvs (nk s)=some (.ref l)/\H l=some (.lst ps)/\StE H ps ts/\∀ t,t∈ts↔E s t
theorem qdr {H H':Hp} {a:Addr} {u:HO} (h:Rd H a u) (s:∀ b o,b=a->H b=some o->H' b=some o):Rd H' a u:=h.elim (fun z=>.inl (s _ _ rfl z)) (fun ⟨o,z⟩=>.inr ⟨o,s _ _ rfl z⟩)
theorem Gph.monoT {H H':Hp} {g d:Addr} {qs:List Nat} {E:Nat->Nat->Prop} (h:Gph H g qs E) (gd:g≠d) (nt:∀ xs,H d≠some (.tup xs)) (nl:∀ xs,H d≠some (.lst xs)) (s:SameT d H H'):Gph H' g qs E:=by
 obtain ⟨kvs,h1,h2,h3⟩:=h.ex
 refine ⟨kvs,qdr h1 fun b o e z=>s _ _ (by rw [e];exact gd) z,h2,fun x hx=>?_⟩
 obtain ⟨l,ps,ts,a1,a2,a3,a4⟩:=h3 x hx
 exact ⟨l,ps,ts,a1,s _ _ (fun z=>nl _ (z ▸ a2)) a2,a3.mono fun b ys e=>s _ _ (fun z=>nt _ (z ▸ e)) e,a4⟩
structure Lay1 (H:Hp) (kvs:List (Key×V)) (ks:List Nat) (pre:V->Prop):Prop where
 kz:KS nk kvs ks
 vl:∀ t∈ks,∃ p x y,qaL kvs (nk t)=some (.ref p)/\H p=some (.tup [x,y])/\pre x
theorem Lay1.mono {H H':Hp} {kvs:List (Key×V)} {ks:List Nat} {pre:V->Prop} (h:Lay1 H kvs ks pre) (s:∀ b ys,H b=some (.tup ys)->H' b=some (.tup ys)):Lay1 H' kvs ks pre:=⟨h.kz,fun t ht=>let ⟨p,x,y,a,b,c⟩:=h.vl t ht;⟨p,x,y,a,s _ _ b,c⟩⟩
theorem Lay1.put {H:Hp} {D p:Addr} {kvs:List (Key×V)} {ks:List Nat} {pre:V->Prop} {t:Nat} {x y:V} (h:Lay1 H kvs ks pre) (hD:H D=some (.dK kvs)) (nt:t ∉ ks) (hp:H p=some (.tup [x,y])) (hx:pre x):Lay1 (upd H D (.dK (qaN kvs (nk t) (.ref p)))) (qaN kvs (nk t) (.ref p)) (ks++[t]) pre:=by
 have off:∀ {b:Addr} {ys:List V},H b=some (.tup ys)->upd H D (.dK (qaN kvs (nk t) (.ref p))) b=some (.tup ys):=fun {b ys} h=>by rw [qac (qaj h hD (fun z=>nomatch z))];exact h
 have kp:=h.kz.put (fun a b h=>qa9 h) t (.ref p)
 unfold Om.adds at kp
 rw [if_neg nt] at kp
 refine ⟨kp,fun s hs=>?_⟩
 by_cases e:s=t
 ·subst e
  exact ⟨p,x,y,by rw [qaz,if_pos rfl],off hp,hx⟩
 ·obtain ⟨p',x',y',a,b,c⟩:=h.vl s ((mA_ hs).resolve_right (fun z=>e (by simpa using z)))
  exact ⟨p',x',y',by rw [qaz,if_neg (fun z=>e (qa9 z))];exact a,off b,c⟩
abbrev qmD:Stmt:=top 6
def qil:Sp:=fun vs H Q _=>match vs with
 | [.ref ly,.ref g]=>∃ (lkvs:List (Key×V)) (ls qs:List Nat) (E:Nat->Nat->Prop) (pre:V->Prop),Rd H ly (.dK lkvs)/\Lay1 H lkvs ls pre/\(∀ s∈ls,s∈qs)/\ly≠g/\Gph H g qs E/\(∀ s t,s∈qs->E s t->t∈qs)/\qs.length<=8 ∧
   ∀ d o o' kvs ks H',SameT ly H H'->H' ly=some (.frz o' (.dK lkvs))->H d=none->H' d=some (.frz o (.dK kvs))->Lay1 H' kvs ks (fun x=>∃ n:Nat,x = .int (n:Nat)/\n∈ls)->(∀ t,t∈ks↔∃ s∈ls,E s t)->Q (.ref d) H'
 | _=>False
theorem scLyB:FnScope ["layer","graph","behind","node","label","to"] ["layer","graph"] (qad qmD):=⟨rfl,rfl,rfl,by decide +kernel,rfl,by decide +kernel,by decide +kernel⟩
local macro_rules | `(tactic| walk_at "T.e")=>`(tactic| first | (with_reducible exact qcu) | ((with_reducible refine' qbk ?a0 ?a1 ?a2);(case a0=>exact Room.units (by assumption));(case a1=>with_reducible exact vn "graph" 1);(case a2=>walk_at "T.e")) | fail "no")
local macro_rules | `(tactic| walk_at "T.g")=>`(tactic| ((with_reducible refine' qa3 ?a0 ?a1 ?a2);(case a0=>exact Room.units (by assumption));(case a1=>with_reducible exact vn "behind" 2);(case a2=>walk_at "T.e")))
local macro_rules | `(tactic| walk_at "T.i")=>`(tactic| ((with_reducible refine' qi0 ?a1);(case a1=>with_reducible exact vn "layer" 0)))
local macro_rules | `(tactic| walk_at "T.cmp")=>`(tactic| ((with_reducible refine' qa1 ?a0);(case a0=>exact Room.units (by assumption))))
local macro_rules | `(tactic| walk_at "T.st")=>`(tactic| ((with_reducible refine' qhy ?a1);(case a1=>walk_at "T.e")))
theorem qln (D:FnX K mg "layer_behind" qmD ["layer","graph"]):Can P w K mg base "layer_behind" 1 ["layer","graph"] qil:=by
 refine qak (k:=0) D scLyB (fun vs H Q E h=>?_) (fun f cdv A outer s H vs Q E hr h=>?_)
 all_goals
  unfold qil at h
  split at h
 ·rfl
 ·exact h.elim
 ·rename_i ly g
  obtain ⟨lkvs,ls,qs,Eg,pre,rd,ly1,lq,lg,gp,cl,q8,q⟩:=h
  have nd:=scLyB.nd
  refine ⟨_,(by walk_at "T.top"),?_⟩
  intro B hB
  have sB:Same H (upd H B (.dK [])):=Same.upd hB
  have hB1:upd H B (.dK []) B=some (.dK []):=qaa
  generalize upd H B (.dK [])=H1 at sB hB1
  dsimp only [qah]
  refine ⟨lkvs,qdr rd (fun b o _ z=>sB _ _ z),fun o H2 hl2 st2=>?_⟩
  have hlyX:∃ ob,H ly=some ob/\(∀ xs,ob≠.tup xs)/\(∀ xs,ob≠.lst xs):=by
   rcases rd with h | ⟨o,h⟩
   ·exact ⟨_,h,(fun _ z=>nomatch z),fun _ z=>nomatch z⟩
   ·exact ⟨_,h,(fun _ z=>nomatch z),fun _ z=>nomatch z⟩
  obtain ⟨ob,ob1,ob2,ob3⟩:=hlyX
  have BL:B≠ly:=fun z=>by rw [z,ob1] at hB;cases hB
  have S2:SameT ly H H2:=(Same.t sB).trans st2
  have nt:∀ xs,H ly≠some (.tup xs):=fun xs z=>ob2 xs (oI_ (ob1.symm.trans z))
  have nl:∀ xs,H ly≠some (.lst xs):=fun xs z=>ob3 xs (oI_ (ob1.symm.trans z))
  have gp2:=gp.monoT (Ne.symm lg) nt nl S2
  have hB2:H2 B=some (.dK []):=st2 _ _ BL hB1
  have ek:(lkvs.map fun p=>kV p.1)=ls.map fun s=>V.int (s:Nat):=by
   have:(lkvs.map fun p=>kV p.1)=(lkvs.map (·.1)).map kV:=by rw [List.map_map];rfl
   rw [this,ly1.kz.ks,List.map_map];rfl
  rw [ek]
  have gB:g≠B:=fun z=>by
   obtain ⟨kvs,h1,_⟩:=gp.ex
   rcases h1 with h | ⟨o,h⟩<;>rw [z,hB] at h<;>cases h
  refine qam (qdB ly o (ls.map fun s=>V.int (s:Nat))) (fun i σ H3=>∃ (v3 v4 v5:Option V) (kvs:List (Key×V)) (ks:List Nat),σ=[some (.ref ly),some (.ref g),some (.ref B),v3,v4,v5]/\SameT B H2 H3/\H3 B=some (.dK kvs)/\Lay1 H3 kvs ks (fun x=>∃ n:Nat,x = .int (n:Nat)/\n∈ls)/\(∀ t∈ks,t∈qs)/\∀ t,t∈ks↔∃ s∈ls.take i,Eg s t)
   ⟨none,none,none,[],[],rfl,SameT.refl _ _,hB2,⟨KS.nil,fun t ht=>nomatch ht⟩,(fun t ht=>nomatch ht),fun t=>⟨(fun z=>nomatch z),fun ⟨s,z,_⟩=>by simp at z⟩⟩ (fun i σ H3 _ ⟨_,_,_,_,_,_,s3,_⟩=>⟨_,s3 _ _ (Ne.symm BL) hl2⟩) ?_ ?_
  ·rintro i x σ H3 hi hx ⟨v3,v4,v5,kvs,ks,rfl,s3,hB3,l3,kq,mem⟩
   rw [lM_] at hi
   have hls:ls[i]? = some ls[i]:=gE_ hi
   rw [gM_,hls] at hx
   cases hx
   have sm:=List.getElem_mem hi
   have tk1:ls.take (i+1)=ls.take i++[ls[i]]:=by rw [List.take_add_one,hls];rfl
   generalize ls[i]=st at sm tk1
   have gp3:=gp2.monoT gB (fun xs z=>by rw [hB2] at z;cases z) (fun xs z=>by rw [hB2] at z;cases z) s3
   obtain ⟨gkvs,g1,g2,g3⟩:=gp3.ex
   obtain ⟨l,ps,ts,a1,a2,a3,a4⟩:=g3 st (lq st sm)
   refine .inr ⟨g,.ref l,rfl,.inl ⟨gkvs,nk st,g1,rfl,a1.symm⟩,⟨_,SqL.of a2⟩,?_⟩
   have lB:l≠B:=qaj a2 hB3 (fun z=>nomatch z)
   refine qam (qag _ l ps) (fun j σ H4=>∃ (v4 v5:Option V) (kvs:List (Key×V)) (ks:List Nat),σ=[some (.ref ly),some (.ref g),some (.ref B),some (.int (st:Nat)),v4,v5]/\SameT B H3 H4/\H4 B=some (.dK kvs)/\Lay1 H4 kvs ks (fun x=>∃ n:Nat,x = .int (n:Nat)/\n∈ls)/\(∀ t∈ks,t∈qs)/\∀ t,t∈ks↔(∃ s∈ls.take i,Eg s t)\/t∈ts.take j)
    ⟨v4,v5,kvs,ks,rfl,SameT.refl _ _,hB3,l3,kq,fun t=>by rw [mem];simp⟩ (fun j σ H4 _ ⟨_,_,_,_,_,s4,_⟩=>SqL.of (s4 _ _ lB a2)) ?_ ?_
   ·rintro j z σ H4 hj hz ⟨v4,v5,kvs,ks,rfl,s4,hB4,l4,kq,mem4⟩
    have hj':j < ts.length:=by rw [<-a3.1];exact hj
    have htj:ts[j]? = some ts[j]:=gE_ hj'
    obtain ⟨q1,lab,b1,b2⟩:=a3.2 j ts[j] htj
    rw [hz] at b1
    cases b1
    have tm:=(a4 _).mp (List.getElem_mem hj')
    have tk2:ts.take (j+1)=ts.take j++[ts[j]]:=by rw [List.take_add_one,htj];rfl
    generalize ts[j]=t at b2 tm tk2
    have tq:=cl st t (lq st sm) tm
    refine ⟨_,.inl (s4 _ _ (qaj b2 hB3 (fun z=>nomatch z)) b2),rfl,rfl,?_⟩
    refine ⟨B,_,rfl,DGet.k (k:=nk t) hB4,?_⟩
    rw [l4.kz.has (fun a b h=>qa9 h) t]
    have k8:ks.length<=qs.length:=qbh l4.kz.nd kq
    refine qaJ (fun c1=>?_) (fun c1=>?_)
    ·have nt':t ∉ ks:=by simpa using c1
     refine ⟨lZ_ rfl,fun p hp=>?_⟩
     have z5:=Same.upd (o:=.tup [.int (st:Nat),.int lab]) hp
     have l5:=l4.mono fun b ys e=>z5 _ _ e
     refine .inr ⟨B,_,rfl,DPut.k (k:=nk t) (z5 _ _ hB4) (qai (by have:=l4.kz.len;omega)),?_⟩
     refine ⟨_,_,_,ks++[t],rfl,fun b u nb e=>?_,qaa,l5.put (z5 _ _ hB4) nt' qaa ⟨st,rfl,sm⟩,fun x hx=>?_,fun x=>?_⟩
     ·rw [qac nb];exact z5 _ _ (s4 _ _ nb e)
     ·rcases mA_ hx with h | h
      ·exact kq x h
      ·rw [show x=t by simpa using h];exact tq
     ·rw [List.mem_append,mem4,tk2,List.mem_append,or_assoc]
    ·have nt':t∈ks:=by
      by_cases z:t∈ks
      ·exact z
      ·exact absurd (by simpa using z) c1
     refine ⟨_,_,kvs,ks,rfl,s4,hB4,l4,kq,fun x=>?_⟩
     rw [tk2,List.mem_append,mem4,<-or_assoc]
     refine ⟨.inl,fun h=>h.elim id fun h=>?_⟩
     rw [<-mem4,show x=t by simpa using h];exact nt'
   ·rintro σ H4 ⟨v4,v5,kvs,ks,rfl,s4,hB4,l4,kq,mem4⟩
    refine ⟨_,v4,v5,kvs,ks,rfl,s3.trans s4,hB4,l4,kq,fun t=>?_⟩
    rw [mem4,a3.1,List.take_length,tk1]
    constructor
    ·rintro (⟨s,hs,e⟩ | h)
     ·exact ⟨s,List.mem_append_left _ hs,e⟩
     ·exact ⟨st,List.mem_append_right _ (by simp),(a4 t).mp h⟩
    ·rintro ⟨s,hs,e⟩
     rcases mA_ hs with h | h
     ·exact .inl ⟨s,h,e⟩
     ·have:s=st:=by simpa using h
      subst this
      exact .inr ((a4 t).mpr e)
  ·rintro σ H3 ⟨v3,v4,v5,kvs,ks,rfl,s3,hB3,l3,kq,mem⟩
   rw [lM_,List.take_length] at mem
   refine .inl ⟨_,hB3,trivial,fun o'=>?_⟩
   have s6:SameT B H3 (upd H3 B (.frz o' (.dK kvs))):=fun b u nb z=>by rw [qac nb];exact z
   refine q B o' o kvs ks _ (fun b u nb e=>?_) (s6 _ _ (Ne.symm BL) (s3 _ _ (Ne.symm BL) hl2)) hB qaa (l3.mono fun b ys e=>s6 _ _ (qaj e hB3 (fun z=>nomatch z)) e) mem
   have bB:=qab e hB
   exact s6 _ _ bB (s3 _ _ bB (S2 _ _ nb e))
 ·exact h.elim
end
end K14
end
section
namespace K14
open PySem L2
section
variable {P:Program} {w:World} {K:PySem.W.Frag} {mg:Str->Option Value} {base:Heap}
structure LyS (H:Hp) (ds:List Addr) (qs:List Nat) (E:Nat->Nat->Prop):Prop where
 at':∀ i d,ds[i]? = some d->∃ o kvs ks,H d=some (.frz o (.dK kvs))/\ks≠[]/\(∀ t,t∈ks↔Lv E qs i t)/\Lay1 H kvs ks (fun x=>i=0\/∃ n:Nat,x = .int (n:Nat)/\Lv E qs (i - 1) n)
theorem Lv.in {E:Nat->Nat->Prop} {qs:List Nat} (cl:∀ s t,s∈qs->E s t->t∈qs):∀ {i t:Nat},Lv E qs i t->t∈qs
 | 0,_,h=>h
 | _+1,_,⟨s,h,e⟩=>cl s _ (Lv.in cl h) e
abbrev qmC:Stmt:=top 5
def qik:Sp:=fun vs H Q _=>match vs with
 | [.ref f,.ref g]=>∃ (fkvs:List (Key×V)) (qs:List Nat) (E:Nat->Nat->Prop),H f=some (.dK fkvs)/\Lay1 H fkvs qs (fun _=>True)/\f≠g/\Gph H g qs E/\(∀ s t,s∈qs->E s t->t∈qs)/\qs.length<=8/\qs≠[] ∧
   ∀ l (ds:List Addr) H',SameT f H H'->H l=none->H' l=some (.lst (ds.map V.ref))->LyS H' ds qs E->(ds.length=qs.length+1\/(ds.length<=qs.length/\∀ t,¬ Lv E qs ds.length t))->Q (.ref l) H'
 | _=>False
theorem scLyO:FnScope ["first","graph","layers","layer"] ["first","graph"] (qad qmC):=⟨rfl,rfl,rfl,by decide +kernel,rfl,by decide +kernel,by decide +kernel⟩
local macro_rules | `(tactic| walk_at "T.b")=>`(tactic| ((with_reducible refine' qjV ?a0 ?a9 ?a1);(case a0=>with_reducible assumption);(case a9=>rfl);(case a1=>walk_at "T.a")))
local macro_rules | `(tactic| walk_at "T.t")=>`(tactic| ((with_reducible refine' qhv ?a1);(case a1=>with_reducible exact vn "layer" 3)))
theorem qlm (D:FnX K mg "layers_of" qmC ["first","graph"]) (g1:mg "len" = none) (c1:Can P w K mg base "layer_behind" 1 ["layer","graph"] qil):Can P w K mg base "layers_of" 2 ["first","graph"] qik:=by
 refine qak (k:=1) D scLyO (fun vs H Q E h=>?_) (fun f cdv A outer s H vs Q E hr h=>?_)
 all_goals
  unfold qik at h
  split at h
 ·rfl
 ·exact h.elim
 ·rename_i f g
  obtain ⟨fkvs,qs,Eg,hf,lf,fg,gp,cl,q8,qne,q⟩:=h
  have nd:=scLyO.nd
  refine ⟨_,(by walk_at "T.top"),?_⟩
  refine ⟨Nat.zero_le _,fun L hL=>?_⟩
  have sL:Same H (upd H L (.lst [])):=Same.upd hL
  have Lf:L≠f:=fun z=>by rw [z,hf] at hL;cases hL
  have nf1:∀ xs,H f≠some (.tup xs):=fun xs z=>by rw [hf] at z;cases z
  have nf2:∀ xs,H f≠some (.lst xs):=fun xs z=>by rw [hf] at z;cases z
  have gn:H g≠none:=fun z=>by
   obtain ⟨kvs,h1,_⟩:=gp.ex
   rcases h1 with h | ⟨o,h⟩<;>rw [z] at h<;>cases h
  refine ⟨fun mm σ H2=>∃ (d:Addr) (ds:List Addr) (kvs:List (Key×V)) (ks:List Nat),σ=[some (.ref f),some (.ref g),some (.ref L),some (.ref d)]/\mm+ds.length=100/\ds.length<=qs.length+1/\SameT f H H2/\(∃ ob,H2 f=some ob)/\H2 L=some (.lst (ds.map V.ref))/\LyS H2 ds qs Eg/\Rd H2 d (.dK kvs)/\(d=f\/H d=none)/\d≠L/\Lay1 H2 kvs ks (fun x=>ds.length=0\/∃ n:Nat,x = .int (n:Nat)/\Lv Eg qs (ds.length - 1) n)/\∀ t,t∈ks↔Lv Eg qs ds.length t,
   ⟨100,f,[],fkvs,qs,rfl,rfl,by simp,sL.t,⟨_,sL _ _ hf⟩,qaa,⟨fun i d e=>by simp at e⟩,.inl (sL _ _ hf),.inl rfl,Ne.symm Lf,⟨lf.kz,fun t ht=>let ⟨p,x,y,a,b,c⟩:=lf.vl t ht;⟨p,x,y,a,sL _ _ b,.inl rfl⟩⟩,fun t=>Iff.rfl⟩,?_⟩
  rintro mm σ H2 ⟨d,ds,kvs,ks,rfl,hmm,dl,s2,⟨ob,hob⟩,hL2,ly,rd,df,dL,l1,mem⟩
  have dg:d≠g:=fun z=>by
   rcases df with e | e
   ·exact fg (e.symm.trans z)
   ·rw [z] at e;exact gn e
  have gp2:=gp.monoT (Ne.symm fg) nf1 nf2 s2
  obtain ⟨gkvs,g1',g2',g3'⟩:=gp2.ex
  have gl:=g2'.len
  have kl:=l1.kz.len
  have fin:(ds.length=qs.length+1\/(ds.length<=qs.length/\∀ t,¬ Lv Eg qs ds.length t))->Q (.ref L) H2:=fun h=>q L ds _ s2 hL hL2 ly h
  refine .inr (.inl ⟨kvs,rd,?_⟩)
  refine qaJ (fun c=>?_) (fun c=>?_)
  ·have kne:ks≠[]:=fun z=>by
    rw [z] at kl
    have k0:kvs=[]:=List.length_eq_zero_iff.mp (by simpa using kl)
    rw [k0] at c
    simp at c
   refine .inr ⟨_,qcV hL2,.inl ⟨g,gkvs,rfl,g1',by omega,?_⟩⟩
   dsimp only [rN0]
   rw [lM_,gl]
   refine qaJ (fun c2=>?_) (fun c2=>?_)
   ·have c2:ds.length<=qs.length:=by have:=of_decide_eq_true c2;omega
    refine ⟨fun σ' H'=>∃ (d:Addr) (ds':List Addr) (kvs:List (Key×V)) (ks:List Nat),σ'=[some (.ref f),some (.ref g),some (.ref L),some (.ref d)]/\ds'.length=ds.length+1/\SameT f H H'/\(∃ ob,H' f=some ob)/\H' L=some (.lst (ds'.map V.ref))/\LyS H' ds' qs Eg/\Rd H' d (.dK kvs)/\(d=f\/H d=none)/\d≠L/\Lay1 H' kvs ks (fun x=>ds'.length=0\/∃ n:Nat,x = .int (n:Nat)/\Lv Eg qs (ds'.length - 1) n)/\∀ t,t∈ks↔Lv Eg qs ds'.length t,?_,?_⟩
    ·rintro σ' H' ⟨d,ds',kvs,ks,rfl,dl',s',ho',hL',ly',rd',df',dL',l1',mem'⟩
     exact ⟨mm - 1,by omega,d,ds',kvs,ks,rfl,by omega,by omega,s',ho',hL',ly',rd',df',dL',l1',mem'⟩
    ·refine ⟨⟨_,rfl,hL2⟩,_,hL2,qai (by rw [lM_];omega),?_⟩
     have hL3:upd H2 L (.lst (ds.map V.ref++[.ref d])) L=some (.lst ((ds++[d]).map V.ref)):=by rw [qaa,List.map_append];rfl
     have k3:∀ b u,b≠L->H2 b=some u->upd H2 L (.lst (ds.map V.ref++[.ref d])) b=some u:=fun b u n e=>by rw [qac n];exact e
     generalize upd H2 L (.lst (ds.map V.ref++[.ref d]))=H3 at hL3 k3
     have S3:SameT f H H3:=fun b u nb e=>k3 _ _ (qab e hL) (s2 _ _ nb e)
     have gp3:=gp.monoT (Ne.symm fg) nf1 nf2 S3
     have rd3:Rd H3 d (.dK kvs):=qdr rd fun b o e z=>k3 _ _ (e ▸ dL) z
     have tpL:∀ b ys,H2 b=some (.tup ys)->H3 b=some (.tup ys):=fun b ys e=>k3 _ _ (qaj e hL2 (fun z=>nomatch z)) e
     have kq:∀ s∈ks,s∈qs:=fun s hs=>Lv.in cl ((mem s).mp hs)
     dsimp only [qaS]
     refine ⟨kvs,ks,qs,Eg,_,rd3,l1.mono tpL,kq,dg,gp3,cl,q8,fun d' o o' kvs' ks' H4 s4 hd4 nd' hd' l4 mem4=>?_⟩
     have rdn:∀ ys,H3 d≠some (.tup ys):=fun ys z=>by rcases rd3 with h | ⟨o,h⟩<;>rw [z] at h<;>cases h
     have tp4:∀ b ys,H2 b=some (.tup ys)->H4 b=some (.tup ys):=fun b ys e=>s4 _ _ (fun z=>rdn ys (z ▸ tpL b ys e)) (tpL b ys e)
     have f4:∃ ob,H4 f=some ob:=by
      by_cases z:f=d
      ·rw [z];exact ⟨_,hd4⟩
      ·exact ⟨ob,s4 _ _ z (k3 _ _ (Ne.symm Lf) hob)⟩
     refine ⟨d',ds++[d],kvs',ks',rfl,by simp,fun b u nb e=>?_,f4,s4 _ _ (Ne.symm dL) hL3,⟨fun i di e=>?_⟩,.inr ⟨o,hd'⟩,.inr ?_,(fun z=>by rw [z,hL3] at nd';cases nd'),⟨l4.kz,fun t ht=>?_⟩,fun t=>?_⟩
     ·refine s4 _ _ (fun z=>?_) (S3 _ _ nb e)
      rcases df with h | h
      ·exact nb (z.trans h)
      ·rw [z,h] at e;cases e
     ·by_cases il:i < ds.length
      ·rw [List.getElem?_append_left il] at e
       obtain ⟨o1,kv1,ks1,a1,a2,a3,a4⟩:=ly.at' i di e
       by_cases z:di=d
       ·subst z
        have ek:kv1=kvs:=by
         rcases rd with h | ⟨o2,h⟩
         ·rw [a1] at h;cases h
         ·rw [a1] at h;cases h;rfl
        subst ek
        exact ⟨o',kv1,ks1,hd4,a2,a3,a4.mono tp4⟩
       ·exact ⟨o1,kv1,ks1,s4 _ _ z (k3 _ _ (qaj a1 hL2 (fun z=>nomatch z)) a1),a2,a3,a4.mono tp4⟩
      ·have ie:i=ds.length:=by
        have:=(gS_ e).1
        rw [lA_] at this
        simp at this
        omega
       subst ie
       rw [List.getElem?_append_right (Nat.le_refl _)] at e
       simp at e
       subst e
       exact ⟨o',kvs,ks,hd4,kne,mem,l1.mono tp4⟩
     ·cases q':H d' with
      | none=>rfl
      | some u=>
       exfalso
       by_cases z:d'=f
       ·rw [z,k3 _ _ (Ne.symm Lf) hob] at nd';cases nd'
       ·rw [S3 _ _ z q'] at nd';cases nd'
     ·obtain ⟨p,x,y,a1,a2,n',a3,a4⟩:=l4.vl t ht
      refine ⟨p,x,y,a1,a2,.inr ⟨n',a3,?_⟩⟩
      rw [lA_]
      exact (mem n').mp a4
     ·rw [mem4,lA_]
      show _↔∃ s,Lv Eg qs ds.length s/\Eg s t
      exact ⟨fun ⟨s,hs,e⟩=>⟨s,(mem s).mp hs,e⟩,fun ⟨s,hs,e⟩=>⟨s,(mem s).mpr hs,e⟩⟩
   ·have c2:ds.length=qs.length+1:=by
     have h:¬ ((ds.length:Nat):Int)<=((qs.length:Nat):Int):=fun z=>c2 (decide_eq_true z)
     omega
    exact fin (.inl c2)
  ·have ke:ks=[]:=by
    have:kvs=[]:=by
     cases kvs with
     | nil=>rfl
     | cons _ _=>simp at c
    rw [this] at kl
    exact List.length_eq_zero_iff.mp kl.symm
   refine fin ?_
   by_cases z:ds.length=qs.length+1
   ·exact .inl z
   ·exact .inr ⟨by omega,fun t ht=>by have:=(mem t).mpr ht;rw [ke] at this;cases this⟩
 ·exact h.elim
abbrev sCB:Stmt:=top 7
def qmv:Sp:=fun vs H Q _=>match vs with
 | [.ref l,.ref g]=>∃ (ds:List Addr) (qs:List Nat) (E:Nat->Nat->Prop),H l=some (.lst (ds.map V.ref))/\Gph H g qs E/\qs.length<=8/\Q (.bl (decide (qs.length < ds.length))) H
 | _=>False
theorem scCB:FnScope ["layers","graph"] ["layers","graph"] (qad sCB):=⟨rfl,rfl,rfl,by decide +kernel,rfl,by decide +kernel,by decide +kernel⟩
theorem qmS (D:FnX K mg "comes_back" sCB ["layers","graph"]) (g1:mg "len" = none):Can P w K mg base "comes_back" 1 ["layers","graph"] qmv:=by
 refine qak (k:=0) D scCB (fun vs H Q E h=>?_) (fun f cdv A outer s H vs Q E hr h=>?_)
 all_goals
  unfold qmv at h
  split at h
 ·rfl
 ·exact h.elim
 ·rename_i l g
  obtain ⟨ds,qs,Eg,hl,gp,q8,q⟩:=h
  have nd:=scCB.nd
  obtain ⟨kvs,g1',g2,g3⟩:=gp.ex
  have kl:=g2.len
  refine ⟨_,(by walk_at "T.top1"),?_⟩
  refine .inr ⟨_,qcV hl,.inl ⟨g,kvs,rfl,g1',by omega,?_⟩⟩
  dsimp only [rN0]
  rw [lM_,kl]
  rw [show decide (((ds.length:Nat):Int) > ((qs.length:Nat):Int))=decide (qs.length < ds.length) by rw [Bool.eq_iff_iff,decide_eq_true_eq,decide_eq_true_eq];omega]
  exact q
 ·exact h.elim
end
end K14
end
section
namespace K14
open PySem L2
section
variable {P:Program} {w:World} {K:PySem.W.Frag} {mg:Str->Option Value} {base:Heap}
theorem qmZ {H:Hp} {l:Addr} {xs:List V} {v:V} (hl:H l=some (.lst xs)) (h:0 < xs.length) (hv:xs[xs.length - 1]? = some v):qcb H (.ref l) (-1)=some v:=by
 rw [qef hl]
 unfold atI ixN
 rw [if_neg (by decide),if_pos (by omega)]
 show xs[((-1:Int)+(xs.length:Nat)).toNat]? = _
 rw [show ((-1:Int)+(xs.length:Nat)).toNat=xs.length - 1 by omega,hv]
def WkV (H:Hp) (bz:List V) (qs:List Nat):Prop:=∀ (i:Nat) v,bz[i]? = some v->∃ b x y n,v = .ref b/\H b=some (.tup [x,y,.int ((n:Nat):Int)])/\n∈qs
theorem WkV.mono {H H':Hp} {bz:List V} {qs:List Nat} (h:WkV H bz qs) (s:∀ b ys,H b=some (.tup ys)->H' b=some (.tup ys)):WkV H' bz qs:=fun i v e=>let ⟨b,x,y,n,a,c,d⟩:=h i v e;⟨b,x,y,n,a,s _ _ c,d⟩
abbrev qix:Stmt:=top 8
def qe2:Sp:=fun vs H Q _=>match vs with
 | [.ref L]=>∃ (ds:List Addr) (qs:List Nat) (E:Nat->Nat->Prop),H L=some (.lst (ds.map V.ref))/\LyS H ds qs E/\ds≠[]/\ds.length<=9/\(∀ s t,s∈qs->E s t->t∈qs) ∧
   ∀ l bz H',Same H H'->H' l=some (.lst bz)->bz.length=ds.length->WkV H' bz qs->Q (.ref l) H'
 | _=>False
theorem scWalk:FnScope ["layers","node","walk","layer","ahead"] ["layers"] (qad qix):=⟨rfl,rfl,rfl,by decide +kernel,rfl,by decide +kernel,by decide +kernel⟩
local macro_rules | `(tactic| walk_at "T.e")=>`(tactic| first | ((with_reducible refine' qf2 ?a0 ?a8 ?a9 ?a1);(case a0=>with_reducible assumption);(case a8=>with_reducible assumption);(case a9=>rfl);(case a1=>walk_at "T.a")) | ((with_reducible refine' qbk ?a0 ?a1 ?a2);(case a0=>exact Room.units (by assumption));(case a1=>with_reducible exact vn "layer" 3);(case a2=>walk_at "T.e")) | fail "no")
local macro_rules | `(tactic| walk_at "T.i")=>`(tactic| ((with_reducible refine' qlI ?a0 ?a9 ?a1);(case a0=>with_reducible assumption);(case a9=>rfl);(case a1=>walk_at "T.a")))
local macro_rules | `(tactic| walk_at "T.b")=>`(tactic| ((with_reducible refine' qhi ?a0 ?a9 ?a1);(case a0=>with_reducible assumption);(case a9=>rfl);(case a1=>walk_at "T.a")))
theorem qjk (D:FnX K mg "longest_walk" qix ["layers"]) (g1:mg "list" = none) (g2:mg "reversed" = none):Can P w K mg base "longest_walk" 1 ["layers"] qe2:=by
 refine qak (k:=0) D scWalk (fun vs H Q E h=>?_) (fun f cdv A outer s H vs Q E hr h=>?_)
 all_goals
  unfold qe2 at h
  split at h
 ·rfl
 ·exact h.elim
 ·rename_i L
  obtain ⟨ds,qs,Eg,hL,ly,dne,d9,cl,q⟩:=h
  have nd:=scWalk.nd
  have dpos:0 < ds.length:=List.length_pos_iff.mpr dne
  refine ⟨_,(by walk_at "T.top"),?_⟩
  have hm:ds.length - 1 < ds.length:=by omega
  obtain ⟨o,kvs,ks,a1,a2,a3,a4⟩:=ly.at' (ds.length - 1) ds[ds.length - 1] (gE_ hm)
  refine ⟨.ref ds[ds.length - 1],qmZ hL (by rw [lM_];exact dpos) (by rw [lM_,gM_,gE_ hm];rfl),.inl ⟨_,kvs,rfl,.inr ⟨o,a1⟩,fun l0 hl0=>?_⟩⟩
  have ek:(kvs.map fun p=>kV p.1)=ks.map fun s=>V.int (s:Nat):=by
   have:(kvs.map fun p=>kV p.1)=(kvs.map (·.1)).map kV:=by rw [List.map_map];rfl
   rw [this,a4.kz.ks,List.map_map];rfl
  rw [ek]
  have kpos:0 < ks.length:=List.length_pos_iff.mpr a2
  have u1:=Same.upd (o:=.lst (ks.map fun s=>V.int (s:Nat))) hl0
  have hl1:upd H l0 (.lst (ks.map fun s=>V.int (s:Nat))) l0=some (.lst (ks.map fun s=>V.int (s:Nat))):=qaa
  generalize upd H l0 (.lst (ks.map fun s=>V.int (s:Nat)))=H1 at u1 hl1
  refine ⟨.int (ks[0]:Nat),gl hl1 (by decide) (by rw [gM_,show (0:Int).toNat=0 from rfl,gE_ kpos];rfl),?_⟩
  refine ⟨Nat.zero_le _,fun W hW=>?_⟩
  have nW:H W=none:=u1.free hW
  have u2:=u1.trans (Same.upd (o:=.lst []) hW)
  have hW2:upd H1 W (.lst []) W=some (.lst []):=qaa
  generalize upd H1 W (.lst [])=H2 at u2 hW2
  refine ⟨ds.map V.ref,SqL.of (u2 _ _ hL),?_⟩
  refine qam (qjQ _ L (ds.map V.ref)) (fun j σ H3=>∃ (nv:V) (v3 v4:Option V) (ws:List V),σ=[some (.ref L),some nv,some (.ref W),v3,v4]/\Same H H3/\H3 W=some (.lst ws)/\ws.length=j/\WkV H3 ws qs/\(j < ds.length->∃ n:Nat,nv = .int (n:Nat)/\Lv Eg qs (ds.length - 1 - j) n))
   ⟨_,none,none,[],rfl,u2,hW2,rfl,(fun i v h=>by simp at h),fun _=>⟨ks[0],rfl,(a3 _).mp (List.getElem_mem kpos)⟩⟩ (fun j σ H3 _ ⟨_,_,_,_,_,s3,_⟩=>SqL.of (s3 _ _ hL)) ?_ ?_
  ·rintro j x σ H3 hj hx ⟨nv,v3,v4,ws,rfl,s3,hW3,wl,wk,hn⟩
   rw [List.length_reverse,lM_] at hj
   obtain ⟨n,rfl,hln⟩:=hn hj
   have hi:ds.length - 1 - j < ds.length:=by omega
   rw [List.getElem?_reverse (by rw [lM_];exact hj),lM_,gM_,gE_ hi] at hx
   cases hx
   obtain ⟨o,kvs,ks,b1,b2,b3,b4⟩:=ly.at' (ds.length - 1 - j) ds[ds.length - 1 - j] (gE_ hi)
   obtain ⟨p,x,y,c1,c2,c3⟩:=b4.vl n ((b3 n).mpr hln)
   generalize ds[ds.length - 1 - j]=dd at b1
   refine .inr ⟨dd,.ref p,rfl,.inl ⟨kvs,nk n,.inr ⟨o,s3 _ _ b1⟩,rfl,c1.symm⟩,?_⟩
   refine ⟨⟨_,rfl,hW3⟩,x,gt (s3 _ _ c2) (by decide) rfl,y,gt (s3 _ _ c2) (by decide) rfl,lZ_ rfl,fun e he=>?_⟩
   have z:=Same.upd (o:=.tup [x,y,.int (n:Nat)]) he
   have We:W≠e:=qab hW3 he
   refine ⟨_,z _ _ hW3,qai (by omega),?_⟩
   have hW4:upd (upd H3 e (.tup [x,y,.int (n:Nat)])) W (.lst (ws++[.ref e])) W=some (.lst (ws++[.ref e])):=qaa
   have tp:∀ b ys,upd H3 e (.tup [x,y,.int (n:Nat)]) b=some (.tup ys)->upd (upd H3 e (.tup [x,y,.int (n:Nat)])) W (.lst (ws++[.ref e])) b=some (.tup ys):=fun b ys h=>by rw [qac (qaj h (z _ _ hW3) (fun z=>nomatch z))];exact h
   have s4:=(s3.trans z).own (o:=.lst (ws++[.ref e])) nW
   have he4:=tp e _ qaa
   have wk4:=wk.mono fun b ys h=>tp b ys (z _ _ h)
   generalize upd (upd H3 e (.tup [x,y,.int (n:Nat)])) W (.lst (ws++[.ref e]))=H4 at hW4 s4 he4 wk4
   dsimp only [qaS]
   refine ⟨x,gt (s4 _ _ c2) (by decide) rfl,?_⟩
   refine ⟨x,_,_,ws++[.ref e],rfl,s4,hW4,by simp [wl],fun i v hv=>?_,fun hj1=>?_⟩
   ·by_cases il:i < ws.length
    ·rw [List.getElem?_append_left il] at hv
     exact wk4 i v hv
    ·rw [List.getElem?_append_right (by omega)] at hv
     have e4:i - ws.length=0:=by
      cases h:i - ws.length with
      | zero=>rfl
      | succ _=>rw [h] at hv;simp at hv
     rw [e4] at hv
     have:v = .ref e:=by simpa using hv.symm
     exact ⟨e,x,y,n,this,he4,Lv.in cl hln⟩
   ·rcases c3 with h | ⟨n',e1,e2⟩
    ·omega
    ·exact ⟨n',e1,by rw [show ds.length - 1 - (j+1)=ds.length - 1 - j - 1 by omega];exact e2⟩
  ·rintro σ H3 ⟨nv,v3,v4,ws,rfl,s3,hW3,wl,wk,hn⟩
   rw [List.length_reverse,lM_] at wl
   refine ⟨ws,hW3,fun l hl=>?_⟩
   have z:=Same.upd (o:=.lst ws.reverse) hl
   refine q l ws.reverse _ (s3.trans z) qaa (by rw [List.length_reverse];exact wl) fun i v hv=>?_
   have hm:=List.mem_reverse.mp (mO_ hv)
   obtain ⟨i',hi'⟩:=mG_ hm
   exact (wk.mono fun b ys h=>z _ _ h) i' v hi'
 ·exact h.elim
abbrev qfm:Stmt:=top 9
def qdm:Sp:=fun vs H Q _=>match vs with
 | [.ref W]=>∃ (bz:List V) (qs:List Nat),H W=some (.lst bz)/\WkV H bz qs/\qs.length < bz.length/\bz.length<=9 ∧
   ∀ t (i j:Nat) H',Same H H'->i < j->j < bz.length->H' t=some (.tup [.int (i:Nat),.int (j:Nat)])->Q (.ref t) H'
 | _=>False
theorem scFirst:FnScope ["walk","places","place","step"] ["walk"] (qad qfm):=⟨rfl,rfl,rfl,by decide +kernel,rfl,by decide +kernel,by decide +kernel⟩
local macro_rules | `(tactic| walk_at "T.i")=>`(tactic| ((with_reducible refine' qfP ?a0 ?a9 ?a1);(case a0=>with_reducible assumption);(case a9=>rfl);(case a1=>walk_at "T.a")))
local macro_rules | `(tactic| walk_at "T.e")=>`(tactic| first | (with_reducible exact qcu) | ((with_reducible refine' qbk ?a0 ?a1 ?a2);(case a0=>exact Room.units (by assumption));(case a1=>with_reducible exact vn "places" 1);(case a2=>walk_at "T.e")) | fail "no")
local macro_rules | `(tactic| walk_at "T.cmp")=>`(tactic| ((with_reducible refine' qfD ?a1);(case a1=>exact Room.units (by assumption))))
local macro_rules | `(tactic| walk_at "T.g")=>`(tactic| ((with_reducible refine' qa3 ?a0 ?a1 ?a2);(case a0=>exact Room.units (by assumption));(case a1=>with_reducible exact vn "places" 1);(case a2=>walk_at "T.e")))
theorem qg3 (D:FnX K mg "first_return" qfm ["walk"]) (g1:mg "enumerate" = none):Can P w K mg base "first_return" 1 ["walk"] qdm:=by
 refine qak (k:=0) D scFirst (fun vs H Q E h=>?_) (fun f cdv A outer s H vs Q E hr h=>?_)
 all_goals
  unfold qdm at h
  split at h
 ·rfl
 ·exact h.elim
 ·rename_i W
  obtain ⟨bz,qs,hW,wk,ql,b9,q⟩:=h
  have nd:=scFirst.nd
  refine ⟨_,(by walk_at "T.top"),?_⟩
  intro B hB
  have sB:Same H (upd H B (.dK [])):=Same.upd hB
  have hB1:upd H B (.dK []) B=some (.dK []):=qaa
  generalize upd H B (.dK [])=H1 at sB hB1
  dsimp only [qah]
  refine ⟨⟨_,SqL.of (sB _ _ hW)⟩,?_⟩
  refine qhU (qbE _ W bz) (fun i σ H2=>∃ (v2 v3:Option V) (kvs:List (Key×V)) (ns:List Nat),σ=[some (.ref W),some (.ref B),v2,v3]/\Same H H2/\H2 B=some (.dK kvs)/\KS nk kvs ns/\ns.length=i/\(∀ n∈ns,n∈qs)/\∀ n∈ns,∃ j:Nat,qaL kvs (nk n)=some (.int (j:Nat))/\j < i)
   ⟨none,none,[],[],rfl,sB,hB1,KS.nil,rfl,(fun n h=>nomatch h),fun n h=>nomatch h⟩ (fun i σ H2 _ ⟨_,_,_,_,_,s2,_⟩=>s2 _ _ hW) ?_ ?_
  ·rintro i t σ H2 hi ⟨v2,v3,kvs,ns,rfl,s2,hB2,kz,nl,nq,nv⟩ ht
   obtain ⟨b,x,y,n,ev,hb,hn⟩:=wk i bz[i] (gE_ hi)
   have er:bz.getD i .non = .ref b:=by rw [List.getD_eq_getElem?_getD,gE_ hi,ev];rfl
   dsimp only
   rw [er]
   refine ⟨_,.inl qaa,rfl,rfl,?_⟩
   have z:=Same.upd (o:=.tup [.int (i:Nat),.ref b]) ht
   have s3:=s2.trans z
   have hB3:=z _ _ hB2
   generalize upd H2 t (.tup [.int (i:Nat),.ref b])=H3 at s3 hB3
   refine ⟨_,gt (s3 _ _ hb) (by decide) rfl,B,_,rfl,DGet.k (k:=nk n) hB3,?_⟩
   rw [kz.has (fun a b h=>qa9 h) n]
   refine qaJ (fun c=>?_) (fun c=>?_)
   ·have c:n∈ns:=by simpa using c
    obtain ⟨j,ej,jl⟩:=nv n c
    refine ⟨_,gt (s3 _ _ hb) (by decide) rfl,.inr ⟨B,.int (j:Nat),rfl,ej ▸ DGet.k (k:=nk n) hB3,?_⟩⟩
    refine ⟨lZ_ rfl,fun t' ht'=>?_⟩
    exact q t' j i _ (s3.trans (Same.upd ht')) jl hi qaa
   ·have c:n ∉ ns:=by simpa using c
    refine ⟨_,gt (s3 _ _ hb) (by decide) rfl,.inr ⟨B,_,rfl,DPut.k (k:=nk n) hB3 (qai (by have:=kz.len;omega)),?_⟩⟩
    have kp:=kz.put (fun a b h=>qa9 h) n (.int (i:Nat))
    unfold Om.adds at kp
    rw [if_neg c] at kp
    refine ⟨_,_,_,ns++[n],rfl,s3.own hB,qaa,kp,by simp [nl],fun m hm=>?_,fun m hm=>?_⟩
    ·rcases mA_ hm with h | h
     ·exact nq m h
     ·rw [show m=n by simpa using h];exact hn
    ·by_cases e:m=n
     ·subst e
      exact ⟨i,by rw [qaz,if_pos rfl],by omega⟩
     ·obtain ⟨j,ej,jl⟩:=nv m ((mA_ hm).resolve_right (fun z=>e (by simpa using z)))
      exact ⟨j,by rw [qaz,if_neg (fun z=>e (qa9 z))];exact ej,by omega⟩
  ·rintro σ H2 ⟨v2,v3,kvs,ns,rfl,s2,hB2,kz,nl,nq,nv⟩
   exfalso
   have:=qbh kz.nd nq
   omega
 ·exact h.elim
abbrev qmE:Stmt:=top 23
def qim:Sp:=fun vs H Q _=>match vs with
 | [.ref W]=>∃ (bz:List V) (qs:List Nat),H W=some (.lst bz)/\WkV H bz qs/\qs.length < bz.length/\bz.length<=9/\∀ p H',Same H H'->Q (.ref p) H'
 | _=>False
theorem scLpO:FnScope ["walk","places"] ["walk"] (qad qmE):=⟨rfl,rfl,rfl,by decide +kernel,rfl,by decide +kernel,by decide +kernel⟩
local macro_rules | `(tactic| walk_at "T.c")=>`(tactic| (have ndc:(["step"]:List Str).Nodup:=(by decide +kernel));((with_reducible refine' qaF ["step"] [] ?b1 ?b2 (fun cl C s H fp=>?b3) (fun cl C s H fp=>?b4) (fun cl C s H fp=>?b5));(case b1=>exact ndc);(case b2=>walk_at "T.i");(case b3=>walk_at "T.g");(case b4=>walk_at "T.pf");(case b5=>walk_at "T.e")))
theorem qlp (D:FnX K mg "loop_of" qmE ["walk"]) (c1:Can P w K mg base "first_return" 1 ["walk"] qdm):Can P w K mg base "loop_of" 2 ["walk"] qim:=by
 refine qak (k:=1) D scLpO (fun vs H Q E h=>?_) (fun f cdv A outer s H vs Q E hr h=>?_)
 all_goals
  unfold qim at h
  split at h
 ·rfl
 ·exact h.elim
 ·rename_i W
  obtain ⟨bz,qs,hW,wk,ql,b9,q⟩:=h
  have nd:=scLpO.nd
  refine ⟨_,(by walk_at "T.top"),?_⟩
  refine ⟨bz,qs,hW,wk,ql,b9,fun t i j H1 s1 ij jl ht=>?_⟩
  have hW1:=s1 _ _ hW
  have wk1:=wk.mono fun b ys h=>s1 _ _ h
  have hi:i < bz.length:=by omega
  obtain ⟨b,x,y,n,ev,hb,hn⟩:=wk1 i bz[i] (gE_ hi)
  refine .inl ⟨_,gt ht (by decide) rfl,.ref b,gl hW1 (by omega) (by rw [Int.toNat_natCast,gE_ hi,ev]),_,gt hb (by decide) rfl,?_⟩
  refine .inl ⟨_,gt ht (by decide) rfl,.inl ⟨_,gt ht (by decide) rfl,bz,hW1,fun c nc=>?_⟩⟩
  have z:=Same.upd (o:=.lst (cutV bz (some ((i:Nat)+1)) (some ((j:Nat)+1)))) nc
  have hc:upd H1 c (.lst (cutV bz (some ((i:Nat)+1)) (some ((j:Nat)+1)))) c=some (.lst (cutV bz (some ((i:Nat)+1)) (some ((j:Nat)+1)))):=qaa
  have sub:∀ v∈cutV bz (some ((i:Nat)+1:Int)) (some ((j:Nat)+1:Int)),v∈bz:=fun v hv=>by unfold cutV at hv;exact List.mem_of_mem_drop (List.mem_of_mem_take hv)
  have cl:=qaK bz (some ((i:Nat)+1:Int)) (some ((j:Nat)+1:Int))
  generalize cutV bz (some ((i:Nat)+1:Int)) (some ((j:Nat)+1:Int))=cz at z hc sub cl
  generalize upd H1 c (.lst cz)=H2 at z hc
  refine ⟨⟨_,SqL.of hc⟩,fun R hR=>?_⟩
  have cR:c≠R:=qab hc hR
  refine qaE (qag _ c cz) (fun i τ H3 ys=>(∃ v,τ=[v])/\H3=upd H2 R (.lst ys)/\ys.length=i) (qaf (by omega)) ⟨⟨none,rfl⟩,rfl,rfl⟩ ?_ ?_ ?_
  ·rintro i τ H3 ys hi ⟨_,rfl,yl⟩
   exact ⟨SqL.upd hc hR,qaa,by omega⟩
  ·rintro i' v τ H3 ys hi' hv ⟨⟨v0,rfl⟩,rfl,yl⟩
   obtain ⟨i2,hi2⟩:=mG_ (sub v (mO_ hv))
   obtain ⟨b',x',y',n',ev',hb',_⟩:=wk1 i2 v hi2
   subst ev'
   have hb2:=z _ _ hb'
   exact ⟨_,gt (by rw [qac (qab hb2 hR)];exact hb2) (by decide) rfl,qaa,⟨_,rfl⟩,qbI,by simp [yl]⟩
  ·rintro τ H3 ys ⟨_,rfl,yl⟩
   refine ⟨lZ_ rfl,fun p hp=>?_⟩
   exact q p _ (((s1.trans z).trans (Same.upd hR)).trans (Same.upd hp))
 ·exact h.elim
end
end K14
end
section
namespace K14
open PySem L2
section
variable {P:Program} {w:World} {K:PySem.W.Frag} {mg:Str->Option Value} {base:Heap}
abbrev qdX:Stmt:=top 2
def qdh (f:Addr) (spF:Sp):Sp:=fun vs H Q _=>match vs with
 | [.int s0,.ref f']=>s0=0/\f'=f/\∃ (nx:Nat->List Nat) (m:Nat) (W:Hp->Prop),(∀ H H',W H->Same H H'->W H')/\W H/\0 < m/\m<=8/\(∀ s,s < m->(nx s).length<=8/\∀ t∈nx s,t < m) ∧
   (∀ (s:Nat) H Q,s < m->W H->(∀ l ps H',Same H H'->H l=none->H' l=some (.lst ps)->qmh H' ps (nx s)->Q (.ref l) H')->spF [.int (s:Nat)] H Q E0) ∧
   ∀ d o (kvs:List (Key×V)) (qs:List Nat) H',Same H H'->H d=none->H' d=some (.frz o (.dK kvs))->kvs.map (·.1)=qs.map nk->qs.Nodup->(∀ s,s∈qs↔Om.Rch nx s)->qs.length<=8->Q (.ref d) H'
 | _=>False
theorem scTexts:FnScope ["start","steps","texts","queue","place","node","letter","to"] ["start","steps"] (qad qdX):=⟨rfl,rfl,rfl,by decide +kernel,rfl,by decide +kernel,by decide +kernel⟩
local macro_rules | `(tactic| walk_at "T.ps")=>`(tactic| first | (with_reducible exact qiY) | ((with_reducible refine' qgO ?a1 ?a2 ?a3);(case a1=>walk_at "T.e");(case a2=>walk_at "T.e");(case a3=>walk_at "T.ps")))
local macro_rules | `(tactic| walk_at "T.e")=>`(tactic| first | ((with_reducible refine' qi6 ?a1 ?a2 ?a3 ?a4 ?a5);(case a1=>walk_at "T.ps");(case a2=>kernel_rfl);(case a3=>kernel_rfl);(case a4=>exact fun z=>nomatch z);(case a5=>decide)) | ((with_reducible refine' qbk ?a0 ?a1 ?a2);(case a0=>exact Room.units (by assumption));(case a1=>walk_at "T.e");(case a2=>walk_at "T.e")))
local macro_rules | `(tactic| walk_at "T.cmp")=>`(tactic| ((with_reducible refine' qa1 ?a0);(case a0=>exact Room.units (by assumption))))
local macro_rules | `(tactic| walk_at "T.b")=>`(tactic| ((with_reducible refine' qjW "steps" 1 ?a0 ?a9 ?a1 ?a2);(case a0=>with_reducible assumption);(case a9=>exact ⟨rfl,rfl,rfl,rfl,rfl⟩);(case a1=>exact Room.mono (by assumption) (Nat.le_refl _));(case a2=>walk_at "T.a")))
local macro_rules | `(tactic| walk_at "T.g")=>`(tactic| ((with_reducible refine' qa3 ?a0 ?a1 ?a2);(case a0=>exact Room.units (by assumption));(case a1=>walk_at "T.e");(case a2=>walk_at "T.e")))
local macro_rules | `(tactic| walk_at "T.st")=>`(tactic| first | ((with_reducible refine' qhy ?a1);(case a1=>walk_at "T.e")) | ((with_reducible refine' qmy "place" 4 ?b0 ?a1);(case b0=>with_unfolding_all assumption);(case a1=>walk_at "T.e")))
theorem qgY {f:Addr} {k:Nat} {p:Str} {spF:Sp} (D:FnX K mg "texts_from" qdX ["start","steps"]) (g1:mg "len" = none) (c1:qmj P w K mg base f k p spF):Can P w K mg base "texts_from" (k+1) ["start","steps"] (qdh f spF):=by
 refine qak (k:=k) D scTexts (fun vs H Q E h=>?_) (fun f0 cdv A outer s H vs Q E hr h=>?_)
 all_goals
  unfold qdh at h
  split at h
 ·rfl
 ·exact h.elim
 ·rename_i s0 f'
  obtain ⟨rfl,rfl,nx,m,W,Wm,hW,m0,m8,hn,hF,q⟩:=h
  have nd:=scTexts.nd
  refine ⟨_,(by walk_at "T.top"),?_⟩
  refine fun D hD=>⟨Nat.zero_le _,fun Z hZ=>⟨by rw [qac (Ne.symm (qaO hZ).1)];exact qaa,[(nk 0,.ref Z)],rfl,Nat.le_of_ble_eq_true rfl,?_⟩⟩
  refine ⟨lZ_ rfl,fun Qa hQ=>?_⟩
  have G0:=Tq.start hD hZ hQ
  refine ⟨fun mm σ H2=>∃ (v5 v6 v7:Option V) (kvs:List (Key×V)) (qs:List Nat) (c:Nat),σ=[some (.int 0),some (.ref f'),some (.ref D),some (.ref Qa),some (.int (c:Nat)),v5,v6,v7]/\mm+c=m/\Tq H H2 D Qa kvs qs qs.length/\(∀ s∈qs,s < m)/\0∈qs/\(∀ s∈qs,Om.Rch nx s)/\c<=qs.length/\∀ (i s:Nat),i < c->qs[i]? = some s->∀ t∈nx s,t∈qs,
   ⟨m,none,none,none,_,[0],0,rfl,rfl,G0.le (Nat.zero_le _),by simpa using m0,by simp,(fun s hs=>by rw [mS_ hs];exact .z),Nat.zero_le _,fun i s h=>absurd h (Nat.not_lt_zero _)⟩,?_⟩
  rintro mm σ H2 ⟨v5,v6,v7,kvs,qs,c,rfl,hmm,G,hlt,h0,hrc,cl,hdone⟩
  have ql:=Om.nodup_len m qs G.nd hlt
  refine ⟨_,qcV G.hQ,?_⟩
  dsimp only [rN0]
  rw [lM_]
  refine qaJ (fun lt=>?_) (fun ge=>?_)
  ·have lt:c < qs.length:=by simpa using lt
   obtain ⟨s,hs⟩ : ∃ s,qs[c]? = some s:=⟨_,gE_ lt⟩
   have sm:=mO_ hs
   have slt:=hlt s sm
   obtain ⟨n8,nlt⟩:=hn s slt
   refine ⟨fun σ' H'=>∃ (v6 v7:Option V) (kvs:List (Key×V)) (more:List Nat),σ'=[some (.int 0),some (.ref f'),some (.ref D),some (.ref Qa),some (.int ((c:Nat)+1)),some (.int (s:Nat)),v6,v7]/\Tq H H' D Qa kvs (qs++more) (qs++more).length/\(∀ s∈more,s < m/\Om.Rch nx s)/\∀ t∈nx s,t∈qs++more,?_,?_⟩
   ·rintro σ' H' ⟨v6,v7,kvs,more,rfl,G',hm',hd'⟩
    refine ⟨mm - 1,by omega,_,v6,v7,kvs,qs++more,c+1,rfl,by omega,G',fun x hx=>?_,List.mem_append_left _ h0,fun x hx=>?_,by rw [lA_];omega,fun i x hi hx t ht=>?_⟩
    ·exact (mA_ hx).elim (hlt x) fun z=>(hm' x z).1
    ·exact (mA_ hx).elim (hrc x) fun z=>(hm' x z).2
    ·rw [List.getElem?_append_left (by omega)] at hx
     by_cases e:i=c
     ·subst e
      rw [hs] at hx
      cases hx
      exact hd' t ht
     ·exact List.mem_append_left _ (hdone i x (by omega) hx t ht)
   ·refine .inl ⟨_,gl G.hQ (by omega) (by rw [gM_,show ((c:Nat):Int).toNat=c by omega,hs];rfl),?_⟩
    refine ⟨rfl,hF s _ _ slt (Wm _ _ hW G.s) fun l ps H3 s3 nl hl st=>?_⟩
    have lD:l≠D:=Ne.symm (qab G.hD nl)
    have lQ:l≠Qa:=Ne.symm (qab G.hQ nl)
    refine ⟨⟨_,SqL.of hl⟩,qam (qag _ l ps) (fun i σ H4=>∃ (v6 v7:Option V) (kvs:List (Key×V)) (more:List Nat),σ=[some (.int 0),some (.ref f'),some (.ref D),some (.ref Qa),some (.int ((c:Nat)+1)),some (.int (s:Nat)),v6,v7]/\Tq H H4 D Qa kvs (qs++more) (qs++more).length/\(∀ s∈more,s < m/\Om.Rch nx s)/\H4 l=some (.lst ps)/\qmh H4 ps (nx s)/\∀ (j t:Nat),j < i->(nx s)[j]? = some t->t∈qs++more)
     ⟨v6,v7,kvs,[],rfl,by rw [List.append_nil];exact G.mono s3,by simp,hl,st,fun j t h=>absurd h (Nat.not_lt_zero _)⟩ (fun i σ H4 _ ⟨_,_,_,_,_,_,_,h,_⟩=>SqL.of h) ?_ ?_⟩
    ·rintro i x σ H4 hi hx ⟨v6,v7,kvs,more,rfl,G4,hm4,hl4,st4,hd4⟩
     have hi':i < (nx s).length:=by rw [<-st4.1];exact hi
     obtain ⟨qa,e1,e2⟩:=st4.2 i (nx s)[i] (gE_ hi')
     rw [e1] at hx
     cases hx
     have tm:(nx s)[i]∈nx s:=List.getElem_mem hi'
     have tlt:=nlt _ tm
     generalize et:(nx s)[i]=t at e2 tm tlt
     have ei:(nx s)[i]? = some t:=by rw [gE_ hi',et]
     refine ⟨_,.inl e2,rfl,rfl,?_⟩
     refine ⟨D,_,rfl,DGet.k (k:=nk t) G4.hD,?_⟩
     rw [G4.has t]
     have l4:(qs++more).length<=m:=Om.nodup_len m _ G4.nd fun x hx=>(mA_ hx).elim (hlt x) fun z=>(hm4 x z).1
     refine qaJ (fun c1=>?_) (fun c1=>?_)
     ·have nt:t ∉ qs++more:=by simpa using c1
      obtain ⟨t0,zs,w1,w2,w3,w4⟩:=G4.vl s (List.mem_append_left _ sm)
      refine .inr ⟨D,.ref t0,rfl,w1 ▸ DGet.k (k:=nk s) G4.hD,?_⟩
      refine ⟨lZ_ rfl,fun B hB=>?_⟩
      have s5:Same H4 (upd H4 B (.lst [.int (i:Nat)])):=Same.upd hB
      refine ⟨zs,[.int (i:Nat)],s5 _ _ w2,qaa,qaf (by simp;omega),fun U hU=>?_⟩
      have s6:=s5.trans (Same.upd (o:=.lst (zs++[.int (i:Nat)])) hU)
      have G6:=G4.mono s6
      have UQ:U≠Qa:=Ne.symm (qab (s5 _ _ G4.hQ) hU)
      have kl:=G6.klen
      refine .inr ⟨D,_,rfl,DPut.k (k:=nk t) G6.hD (qai (by omega)),?_⟩
      have DQ:D≠Qa:=qaj G6.hD G6.hQ (fun z=>nomatch z)
      refine ⟨⟨_,rfl,by rw [qac (Ne.symm DQ)];exact G6.hQ⟩,_,by rw [qac (Ne.symm DQ)];exact G6.hQ,qai (by rw [lM_];omega),?_⟩
      have G7:=(G6.le (Nat.le_succ _)).put (u:=U) (zs:=zs++[.int (i:Nat)]) nt qaa UQ (by rw [lA_];exact Nat.add_le_add_right w3 1)
      rw [show (qs++more).length.succ=(qs++more++[t]).length from (lA_ (as:=qs++more) (bs:=[t])).symm,List.append_assoc] at G7
      refine ⟨_,_,_,more++[t],rfl,G7,fun x hx=>?_,Tq.put_at (s6 _ _ hl4) lD lQ,⟨st4.1,fun j t' hj=>?_⟩,fun j t' hj ht'=>?_⟩
      ·rcases mA_ hx with z | z
       ·exact hm4 x z
       ·have:x=t:=by simpa using z
        subst this
        exact ⟨tlt,.s (hrc s sm) tm⟩
      ·obtain ⟨qb,a1,a2⟩:=st4.2 j t' hj
       exact ⟨qb,a1,Tq.put_at (s6 _ _ a2) (qaj (s6 _ _ a2) G6.hD (fun z=>nomatch z)) (qaj (s6 _ _ a2) G6.hQ (fun z=>nomatch z))⟩
      ·rw [<-List.append_assoc]
       by_cases e:j=i
       ·subst e
        rw [ei] at ht'
        cases ht'
        exact List.mem_append_right _ (by simp)
       ·exact List.mem_append_left _ (hd4 j t' (by omega) ht')
     ·have nt:t∈qs++more:=by
       by_cases z:t∈qs++more
       ·exact z
       ·exact absurd (by simpa using z) c1
      refine ⟨_,_,kvs,more,rfl,G4,hm4,hl4,st4,fun j t' hj ht'=>?_⟩
      by_cases e:j=i
      ·subst e
       rw [ei] at ht'
       cases ht'
       exact nt
      ·exact hd4 j t' (by omega) ht'
    ·rintro σ H4 ⟨v6,v7,kvs,more,rfl,G4,hm4,hl4,st4,hd4⟩
     refine ⟨v6,v7,kvs,more,rfl,G4,hm4,fun t ht=>?_⟩
     obtain ⟨j,hj⟩:=mG_ ht
     have lj:=(gS_ hj).1
     exact hd4 j t (by rw [st4.1];exact lj) hj
  ·have ge:qs.length<=c:=by
    by_cases z:c < qs.length
    ·exact absurd (by simpa using z) ge
    ·omega
   refine .inl ⟨_,G.hD,trivial,fun o=>?_⟩
   refine q D o kvs qs _ (fun b u e=>?_) hD qaa G.ks G.nd (fun s=>⟨hrc s,Om.rch_in h0 (fun a ha b hb=>?_) s⟩) (by omega)
   ·rw [qac (qab e hD)]
    exact G.s _ _ e
   ·obtain ⟨i,hi⟩:=mG_ ha
    have li:=(gS_ hi).1
    exact hdone i a (by omega) hi b hb
 ·exact h.elim
end
end K14
end
section
namespace K14
open PySem L2
section
variable {P:Program} {w:World} {K:PySem.W.Frag} {mg:Str->Option Value} {base:Heap}
abbrev qkA:Stmt:=top 3
abbrev qav:Expr:=qj2 1 (qnJ (.Name "" ⟨0,0,0,0⟩) ((qar qkA).getD 0 (.Pass ⟨0,0,0,0⟩)))
abbrev qSt:Str:=("state_texts"++".<locals>." : Str)++"<lambda>"
def qcn (c:Addr) (fvs:List V):Sp:=fun vs H Q _=>match vs with
 | [.int s0]=>∃ (k n:Nat) (rows:Om.Rows) (cv:V) (s:Nat),s0=(s:Nat)/\fvs=[cv]/\DV H cv (qax k n rows)/\Om.CodeOk k n rows/\s < rows.length/\H c=some (CodeO c qSt) ∧
   ∀ l ps H',Same H H'->H l=none->H' l=some (.lst ps)->qmh H' ps (Om.nxR rows s)->Q (.ref l) H'
 | _=>False
local macro_rules | `(tactic| walk_at "T.c")=>`(tactic| (have ndc:(["letter","row"]:List Str).Nodup:=(by decide +kernel));((with_reducible refine' qaF ["letter","row"] [] ?b1 ?b2 (fun cl C s H fp=>?b3) (fun cl C s H fp=>?b4) (fun cl C s H fp=>?b5));(case b1=>exact ndc);(case b2=>walk_at "T.i");(case b3=>walk_at "T.g");(case b4=>walk_at "T.pf");(case b5=>walk_at "T.e")))
theorem qly {f c:Addr} {fvs:List V} (L:qhs base f (qjM qav) (qjL qav) (qeb qav) qSt c ["code"] fvs) (hl:["code"].length=fvs.length) (g1:mg "enumerate" = none):qmj P w K mg base f 1 "state" (qcn c fvs):=by
 refine qlz (k:=0) L ⟨rfl,rfl,rfl,rfl,by decide +kernel,by decide +kernel⟩ hl (fun _ _ _ _=>rfl) (fun vs H Q E h=>?_) (fun clos A outer s H v Q E hr h=>?_)
 ·unfold qcn at h
  split at h
  ·rfl
  ·exact h.elim
 ·unfold qcn at h
  split at h
  ·rename_i s0 hv
   cases hv
   obtain ⟨k,n,rows,cv,st,rfl,rfl,hc,ok,hs,hcd,q⟩:=h
   refine ⟨hcd,?_⟩
   have ndc:(["letter","row"]:List Str).Nodup:=by decide +kernel
   refine ⟨_,(by (refine' qaF ["letter","row"] [] ?b1 ?b2 (fun cl C s H fp=>?b3) (fun cl C s H fp=>?b4) (fun cl C s H fp=>?b5));(case b1=>exact ndc);(case b2=>walk_at "T.i");(case b3=>walk_at "T.g");(case b4=>walk_at "T.pf");(case b5=>walk_at "T.e")),?_⟩
   obtain ⟨a,b,ss,rfl,ha,hb,hss⟩:=qay hc
   obtain ⟨qx,rx,e1,e2,e3⟩:=qaA hss (s:=st) (st:=rows[st]) (gE_ hs)
   have lx:rows[st].length=2 ^ k:=ok.len _ (List.getElem_mem hs)
   have rxl:rx.length=rows[st].length:=by rw [e3.length,lM_]
   have p8:rx.length<=8:=by rw [rxl,lx];exact Om.pow8 ok.k3
   have gx:Om.nxR rows st=rows[st].map (·.2):=by unfold Om.nxR;rw [List.getD_eq_getElem?_getD,gE_ hs];rfl
   refine ⟨_,gt ha (by decide) rfl,.ref qx,gl hb (by omega) (by simpa using e1),⟨_,SqL.of e2⟩,fun R hR=>?_⟩
   refine qga (qbE _ qx rx) (fun i τ H2 ys=>(∃ v1 v2,τ=[v1,v2])/\Same H H2/\H2 R=some (.lst ys)/\qmh H2 ys ((Om.nxR rows st).take i)) (qaf (by omega)) ⟨⟨none,none,rfl⟩,Same.upd hR,qaa,rfl,fun i t h=>by simp at h⟩ ?_ ?_ ?_
   ·rintro i τ H2 ys hi ⟨_,s2,hR2,st2⟩
    exact ⟨s2 _ _ e2,hR2,by rw [st2.1,List.length_take];exact Nat.min_le_left _ _⟩
   ·rintro i t τ H2 ys hi ⟨⟨v1,v2,rfl⟩,s2,hR2,st2⟩ ht
    have hi':i < rows[st].length:=by omega
    obtain ⟨r,r1,r2⟩:=qbr e3 (l:=i) (r:=rows[st][i]) (gE_ hi')
    have er:rx.getD i .non = .ref r:=by rw [List.getD_eq_getElem?_getD,r1];rfl
    rw [er]
    have s3:Same H2 (upd H2 t (.tup [.int (i:Nat),.ref r])):=Same.upd ht
    refine ⟨_,.inl qaa,rfl,rfl,?_⟩
    refine ⟨_,gt (s3 _ _ (s2 _ _ r2)) (by decide) rfl,lZ_ rfl,fun p hp=>?_⟩
    have s4:=s3.trans (Same.upd (o:=.tup [.int (i:Nat),.int (rows[st][i].2:Nat)]) hp)
    refine ⟨s4 _ _ hR2,⟨_,_,rfl⟩,(s2.trans s4).own hR,qaa,?_,fun j t' hj=>?_⟩
    ·rw [lA_,st2.1,List.length_take,List.length_take,gx,lM_]
     simp
     omega
    ·have il:ys.length=i:=by rw [st2.1,List.length_take,gx,lM_];omega
     have jl:j < i+1:=by
      have:=(gS_ hj).1
      rw [List.length_take] at this
      omega
     rw [List.getElem?_take_of_lt jl] at hj
     by_cases e:j=i
     ·subst e
      have et:t'=rows[st][j].2:=by
       rw [gx,gM_,gE_ hi'] at hj
       exact (oI_ hj).symm
      subst et
      refine ⟨p,by rw [List.getElem?_append_right (by omega),il];simp,?_⟩
      rw [qac (qaj (u:=.lst ys) qaa (s4 _ _ hR2) (fun z=>nomatch z))]
      exact qaa
     ·obtain ⟨q',a1,a2⟩:=st2.2 j t' (by rw [List.getElem?_take_of_lt (by omega)];exact hj)
      refine ⟨q',by rw [List.getElem?_append_left (by omega)];exact a1,?_⟩
      rw [qac (qaj a2 hR2 (fun z=>nomatch z))]
      exact s4 _ _ a2
   ·rintro τ H2 ys ⟨_,s2,hR2,st2⟩
    rw [List.take_of_length_le (by rw [gx,lM_];omega)] at st2
    exact q R ys _ s2 hR hR2 st2
  ·rename_i hv
   exact h.elim
end
section
variable {P:Program} {w:World} {K:PySem.W.Frag} {mg:Str->Option Value} {base:Heap}
def qii (P0:Addr):Sp:=fun vs H Q _=>match vs with
 | [cv]=>∃ (k n:Nat) (rows:Om.Rows),DV H cv (qax k n rows)/\Om.CodeOk k n rows/\Tab P0 (qan qav) qSt H ∧
   ∀ d o (kvs:List (Key×V)) (qs:List Nat) H',SameT P0 H H'->Tab P0 (qan qav) qSt H'->H d=none->H' d=some (.frz o (.dK kvs))->kvs.map (·.1)=qs.map nk->qs.Nodup->(∀ s,s∈qs↔Om.Rch (Om.nxR rows) s)->qs.length<=8->Q (.ref d) H'
 | _=>False
theorem qmx:FnScope ["code"] ["code"] (qad qkA):=⟨rfl,rfl,rfl,by decide +kernel,rfl,by decide +kernel,by decide +kernel⟩
theorem qlj {c P0:Addr} (D:FnC K mg "state_texts" qkA ["code"] c) (D2:FnX K mg "texts_from" qdX ["start","steps"]) (g1:mg "len" = none) (g2:mg "enumerate" = none) (M:Maker mg base c P0):Can P w K mg base "state_texts" 3 ["code"] (qii P0):=by
 refine qj1 (k:=2) D qmx (fun vs H Q E h=>?_) (fun f A outer s H vs Q E hr h=>?_)
 all_goals
  unfold qii at h
  split at h
 ·rfl
 ·exact h.elim
 ·rename_i cv
  obtain ⟨k,n,rows,hc,ok,tb,q⟩:=h
  have hm:∃ f,mg "texts_from" = some (.ref f)/\PySem.W.keepIn K (.ref f)=true:=by
   obtain ⟨f,fd,F,hm,_⟩:=D2
   exact ⟨f,hm,F.kp⟩
  have hf0:∀ y∈(qeb qav).names,y.2 = .free->(qad qkA).names.lookup y.1=some .cell:=by decide +kernel
  refine ⟨_,(by
   refine' qdt ?a1
   case a1=>
    refine' qhG ?a2
    case a2=>
     refine' qf3 "texts_from" (F:=["code"]) (js:=[0]) (k:=2) (ps:=["start","steps"]) (sp:=fun f c fvs=>qdh f (qcn c fvs)) hm M rfl ?hF rfl ?hFs (fun _=>rfl) ?hfree ?hC hr ?ha ?hg rfl rfl ?he
     case hF=>
      intro i y h
      cases i with
      | zero=>cases h;exact ⟨0,rfl,rfl,by kernel_rfl⟩
      | succ i=>simp at h
     case hFs=>decide +kernel
     case hfree=>exact hf0
     case hC=>exact fun B f c' fvs m0 kb hl L=>qgY D2 g1 (qly L hl g2)
     case ha=>exact qhK
     case hg=>kernel_rfl
     case he=>kernel_rfl),?_⟩
  refine ⟨tb,[cv],rfl,fun f' c' H2 sm e1 e2 nf=>?_⟩
  have rl:∀ s,s < rows.length->Om.nxR rows s=(rows.getD s []).map (·.2):=fun _ _=>rfl
  refine ⟨rfl,rfl,Om.nxR rows,rows.length,fun H=>DV H cv (qax k n rows)/\H c'=some (CodeO c' qSt),fun H H' ⟨a,b⟩ s=>⟨a.mono s,s _ _ b⟩,⟨hc.monoT tb sm,e2⟩,ok.s1,ok.s8,fun s hs=>?_,fun s H Q hs ⟨a,b⟩ h=>⟨k,n,rows,cv,s,rfl,rfl,a,ok,hs,b,h⟩,
   fun d o kvs qs H' s' nd hd ks ndq hrr hl=>q d o kvs qs H' (sm.trans s'.t) (.inr ⟨c',s' _ _ e1,s' _ _ e2⟩) (sm.free nd fun z=>by rw [z,e1] at nd;cases nd) hd ks ndq hrr hl⟩
  exact Om.nx_ok ok hs
 ·exact h.elim
end
end K14
end
section
namespace K14
open PySem L2
section
variable {P:Program} {w:World} {K:PySem.W.Frag} {mg:Str->Option Value} {base:Heap}
abbrev qcp:Stmt:=top 4
def qbf (P0:Addr):Sp:=fun vs H Q _=>match vs with
 | [cv]=>∃ (k n:Nat) (rows:Om.Rows),DV H cv (qax k n rows)/\Om.CodeOk k n rows/\Tab P0 (qan qav) qSt H ∧
   ∀ l (qs:List Nat) H',SameT P0 H H'->Tab P0 (qan qav) qSt H'->H l=none->H' l=some (.lst (qs.map fun s=>V.int (s:Nat)))->qs.Pairwise (· < ·)->(∀ s,s∈qs↔Om.Rch (Om.nxR rows) s)->qs.length<=8->Q (.ref l) H'
 | _=>False
theorem scReached:FnScope ["code"] ["code"] (qad qcp):=⟨rfl,rfl,rfl,by decide +kernel,rfl,by decide +kernel,by decide +kernel⟩
local macro_rules | `(tactic| walk_at "T.b")=>`(tactic| ((with_reducible refine' qeE ?a0 ?a9 ?a1);(case a0=>with_reducible assumption);(case a9=>rfl);(case a1=>walk_at "T.a")))
theorem qey {P0:Addr} (D:FnX K mg "reached" qcp ["code"]) (g1:mg "sorted" = none) (c1:Can P w K mg base "state_texts" 3 ["code"] (qii P0)):Can P w K mg base "reached" 4 ["code"] (qbf P0):=by
 refine qak (k:=3) D scReached (fun vs H Q E h=>?_) (fun f cdv A outer s H vs Q E hr h=>?_)
 all_goals
  unfold qbf at h
  split at h
 ·rfl
 ·exact h.elim
 ·rename_i cv
  obtain ⟨k,n,rows,hc,ok,tb,q⟩:=h
  have nd:=scReached.nd
  refine ⟨_,(by walk_at "T.top1"),?_⟩
  refine ⟨k,n,rows,hc,ok,tb,fun d o kvs qs H' s1 t1 nd1 hd ks ndq hr8 l8=>?_⟩
  refine .inl ⟨d,kvs,qs.map fun s=>((s:Nat):Int),rfl,.inr ⟨o,hd⟩,by rw [ks,List.map_map];rfl,by rw [lM_];omega,fun l ns hl pm srt=>?_⟩
  obtain ⟨qs',rfl,pm'⟩:=Om.perm_nats pm
  refine q l qs' _ (s1.trans (Same.upd hl).t) (t1.mono (Same.upd hl)) (s1.free hl fun z=>by obtain ⟨ps,e⟩:=t1.tbl;rw [z,e] at hl;cases hl) ?_ ?_ (fun s=>?_) (by rw [pm'.length_eq];exact l8)
  ·rw [qaa,List.map_map];rfl
  ·exact Om.lt_of_le (pm'.nodup_iff.mpr ndq) srt
  ·rw [pm'.mem_iff];exact hr8 s
 ·exact h.elim
end
section
variable {P:Program} {w:World} {K:PySem.W.Frag} {mg:Str->Option Value} {base:Heap}
end
end K14
end
section
namespace K14
open PySem L2
def RchL (rows:Om.Rows) (qs:List Nat):Prop:=qs.Pairwise (· < ·)/\(∀ s,s∈qs↔Om.Rch (Om.nxR rows) s)/\qs.length<=8
theorem qd8:∀ {l m:List Nat},l.Pairwise (· < ·)->m.Pairwise (· < ·)->(∀ x,x∈l↔x∈m)->l=m
 | [],[],_,_,_=>rfl
 | [],b :: m,_,_,h=>absurd ((h b).mpr (List.mem_cons_self ..)) (by simp)
 | a :: l,[],_,_,h=>absurd ((h a).mp (List.mem_cons_self ..)) (by simp)
 | a :: l,b :: m,hl,hm,h=>by
  rw [List.pairwise_cons] at hl hm
  have e:a=b:=by
   rcases List.mem_cons.mp ((h a).mp List.mem_cons_self) with z | z
   ·exact z
   ·rcases List.mem_cons.mp ((h b).mpr List.mem_cons_self) with y | y
    ·exact y.symm
    ·have:=hm.1 a z
     have:=hl.1 b y
     omega
  subst e
  rw [qd8 hl.2 hm.2 fun x=>⟨fun z=>?_,fun z=>?_⟩]
  ·rcases List.mem_cons.mp ((h x).mp (mC_ _ z)) with y | y
   ·have:=hl.1 x z
    omega
   ·exact y
  ·rcases List.mem_cons.mp ((h x).mpr (mC_ _ z)) with y | y
   ·have:=hm.1 x z
    omega
   ·exact y
theorem RchL.uniq {rows:Om.Rows} {qs qs':List Nat} (h:RchL rows qs) (h':RchL rows qs'):qs=qs':=qd8 h.1 h'.1 fun s=>(h.2.1 s).trans (h'.2.1 s).symm
end K14
end
section
namespace K14
open PySem L2
section
variable {P:Program} {w:World} {K:PySem.W.Frag} {mg:Str->Option Value} {base:Heap}
def SgT (K:PySem.W.Frag) (mg:Str->Option Value) (a:Addr):Prop:=mg "SIGNS" = some (.ref a)/\∀ H,SqT K H a [.str (bs [false]),.str (bs [true])]
def GphP (H:Hp) (kvs:List (Key×V)) (ks:List Nat) (E:Nat->Nat->Prop):Prop:=KS nk kvs ks/\∀ s∈ks,∃ l ps ts,qaL kvs (nk s)=some (.ref l)/\H l=some (.lst ps)/\StE H ps ts/\∀ t,t∈ts↔E s t
theorem GphP.mono {H H':Hp} {kvs:List (Key×V)} {ks:List Nat} {E:Nat->Nat->Prop} (h:GphP H kvs ks E) (s:∀ b u,(∀ kv,u≠.dK kv)->H b=some u->H' b=some u):GphP H' kvs ks E:=
 ⟨h.1,fun x hx=>let ⟨l,ps,ts,a,b,c,d⟩:=h.2 x hx;⟨l,ps,ts,a,s _ _ (fun _ z=>nomatch z) b,c.mono fun b ys e=>s _ _ (fun _ z=>nomatch z) e,d⟩⟩
theorem GphP.put {H:Hp} {D l:Addr} {kvs:List (Key×V)} {ks ts:List Nat} {ps:List V} {E:Nat->Nat->Prop} {t:Nat} (h:GphP H kvs ks E) (hD:H D=some (.dK kvs)) (nt:t ∉ ks) (hl:H l=some (.lst ps)) (se:StE H ps ts) (mem:∀ x,x∈ts↔E t x):GphP (upd H D (.dK (qaN kvs (nk t) (.ref l)))) (qaN kvs (nk t) (.ref l)) (ks++[t]) E:=by
 have off:∀ b u,(∀ kv,u≠.dK kv)->H b=some u->upd H D (.dK (qaN kvs (nk t) (.ref l))) b=some u:=fun b u n e=>by rw [qac (fun z=>by rw [z,hD] at e;exact n _ (oI_ e).symm)];exact e
 have h':=h.mono off
 have kp:=h.1.put (fun a b h=>qa9 h) t (.ref l)
 unfold Om.adds at kp
 rw [if_neg nt] at kp
 refine ⟨kp,fun s hs=>?_⟩
 by_cases e:s=t
 ·subst e
  exact ⟨l,ps,ts,by rw [qaz,if_pos rfl],off _ _ (fun _ z=>nomatch z) hl,se.mono fun b ys e=>off _ _ (fun _ z=>nomatch z) e,mem⟩
 ·obtain ⟨l',ps',ts',a,b,c⟩:=h'.2 s ((mA_ hs).resolve_right (fun z=>e (by simpa using z)))
  exact ⟨l',ps',ts',by rw [qaz,if_neg (fun z=>e (qa9 z))];exact a,b,c⟩
theorem qhF {qs:List Nat} (h:qs.Pairwise (· < ·)) {i:Nat} (hi:i < qs.length):qs[i] ∉ qs.take i:=fun z=>by
 obtain ⟨j,hj,e⟩:=List.mem_iff_getElem.mp z
 rw [List.length_take] at hj
 rw [List.getElem_take] at e
 have:=List.pairwise_iff_getElem.mp h j i (by omega) hi (by omega)
 omega
abbrev qfi:Stmt:=top 21
def qdi (P0:Addr):Sp:=fun vs H Q _=>match vs with
 | [cv]=>∃ (k n:Nat) (rows:Om.Rows),DV H cv (qax k n rows)/\Om.CodeOk k n rows/\Tab P0 (qan qav) qSt H ∧
   (∀ qs H',SameT P0 H H'->Tab P0 (qan qav) qSt H'->RchL rows qs->(∀ b t,¬ Lv (Ed rows b) qs qs.length t)->Q .non H') ∧
   ∀ p qs H',SameT P0 H H'->Tab P0 (qan qav) qSt H'->RchL rows qs->(∃ b t,Lv (Ed rows b) qs qs.length t)->Q (.ref p) H'
 | _=>False
theorem scStand:FnScope ["code","states","sign","graph","state","first","layers"] ["code"] (qad qfi):=⟨rfl,rfl,rfl,by decide +kernel,rfl,by decide +kernel,by decide +kernel⟩
local macro_rules | `(tactic| walk_at "T.i")=>`(tactic| ((with_reducible refine' qfv ?a1);(case a1=>((with_reducible refine' qhW ?c1 ?c2);(case c1=>with_reducible assumption);(case c2=>rfl)))))
local macro_rules | `(tactic| walk_at "T.e")=>`(tactic| (with_reducible exact qcu))
local macro_rules | `(tactic| walk_at "T.g")=>`(tactic| first | ((with_reducible refine' qa3 ?a0 ?a1 ?a2);(case a0=>exact Room.units (by assumption));(case a1=>with_reducible exact vn "graph" 3);(case a2=>walk_at "T.e")) | ((with_reducible refine' qa3 ?a0 ?a1 ?a2);(case a0=>exact Room.units (by assumption));(case a1=>with_reducible exact vn "first" 5);(case a2=>walk_at "T.e")) | fail "no")
theorem qgZ {P0 aS:Addr} (D:FnX K mg "standing_loop" qfi ["code"]) (sg:SgT K mg aS) (c1:Can P w K mg base "reached" 4 ["code"] (qbf P0)) (c2:Can P w K mg base "standing_steps" 1 ["code","state","sign"] qij) (c3:Can P w K mg base "layers_of" 2 ["first","graph"] qik) (c4:Can P w K mg base "comes_back" 1 ["layers","graph"] qmv)
  (c5:Can P w K mg base "loop_of" 2 ["walk"] qim) (c6:Can P w K mg base "longest_walk" 1 ["layers"] qe2):Can P w K mg base "standing_loop" 5 ["code"] (qdi P0):=by
 refine qak (k:=4) D scStand (fun vs H Q E h=>?_) (fun f0 cdv A outer s H vs Q X hr h=>?_)
 all_goals
  unfold qdi at h
  split at h
 ·rfl
 ·exact h.elim
 ·rename_i cv
  obtain ⟨k,n,rows,hc,ok,tb,qn,qt⟩:=h
  have nd:=scStand.nd
  obtain ⟨sg1,sg2⟩:=sg
  refine ⟨_,(by walk_at "T.top"),?_⟩
  refine ⟨k,n,rows,hc,ok,tb,fun l qs H1 s1 t1 nl hl srt mem l8=>?_⟩
  have rc:RchL rows qs:=⟨srt,mem,l8⟩
  have hc1:=hc.monoT tb s1
  have qlt:∀ s∈qs,s < rows.length:=fun s hs=>Om.rch_ok ok s ((mem s).mp hs)
  have qne:qs≠[]:=fun z=>by have:=(mem 0).mpr .z;rw [z] at this;cases this
  have cl:∀ b s t,s∈qs->Ed rows b s t->t∈qs:=fun b s t hs ⟨r,hr,e,_⟩=>(mem t).mpr (.s ((mem s).mp hs) (List.mem_map.mpr ⟨r,hr,e⟩))
  refine ⟨aS,rfl,⟨_,sg2 _⟩,?_⟩
  refine qam (qhR _ aS [.str (bs [false]),.str (bs [true])]) (fun i σ H2=>∃ (v2 v3 v4 v5 v6:Option V),σ=[some cv,some (.ref l),v2,v3,v4,v5,v6]/\Same H1 H2/\∀ b:Bool,V.str (bs [b])∈[V.str (bs [false]),.str (bs [true])].take i->∀ t,¬ Lv (Ed rows b) qs qs.length t)
   ⟨none,none,none,none,none,rfl,Same.refl _,fun b h=>by simp at h⟩ (fun i σ H2 _ _=>sg2 _) ?_ ?_
  ·rintro i x σ H2 hi hx ⟨v2,v3,v4,v5,v6,rfl,s2,dn⟩
   obtain ⟨b,rfl⟩ : ∃ b,x = .str (bs [b]):=by
    have:=mO_ hx
    simp only [List.mem_cons,List.not_mem_nil,or_false] at this
    rcases this with h | h
    ·exact ⟨false,h⟩
    ·exact ⟨true,h⟩
   have tk1:[V.str (bs [false]),.str (bs [true])].take (i+1)=[V.str (bs [false]),.str (bs [true])].take i++[V.str (bs [b])]:=by rw [List.take_add_one,hx];rfl
   intro G hG
   have z1:=Same.upd (o:=.dK []) hG
   have hG1:upd H2 G (.dK []) G=some (.dK []):=qaa
   generalize upd H2 G (.dK [])=H3 at z1 hG1
   dsimp only [qah]
   refine ⟨⟨_,SqL.of (z1 _ _ (s2 _ _ hl))⟩,?_⟩
   refine qam (qag _ l (qs.map fun s=>V.int (s:Nat))) (fun j σ H4=>∃ (v4:Option V) (kvs:List (Key×V)),σ=[some cv,some (.ref l),some (.str (bs [b])),some (.ref G),v4,v5,v6]/\Same H2 H4/\H4 G=some (.dK kvs)/\GphP H4 kvs (qs.take j) (Ed rows b))
    ⟨v4,[],rfl,z1,hG1,KS.nil,fun s hs=>by simp at hs⟩ (fun j σ H4 _ ⟨_,_,_,s4,_⟩=>SqL.of (s4 _ _ (s2 _ _ hl))) ?_ ?_
   ·rintro j y σ H4 hj hy ⟨v4,kvs,rfl,s4,hG4,gp4⟩
    rw [lM_] at hj
    rw [gM_,gE_ hj] at hy
    cases hy
    have sm:=List.getElem_mem hj
    refine ⟨k,n,rows,qs[j],b,(hc1.mono s2).mono s4,ok,rfl,qlt _ sm,rfl,fun l' ps ts H5 s5 nl' hl' se me=>?_⟩
    have gp5:=gp4.mono fun b u _ e=>s5 _ _ e
    have kl:=gp4.1.len
    rw [List.length_take] at kl
    refine .inr ⟨G,_,rfl,DPut.k (k:=nk qs[j]) (s5 _ _ hG4) (qai (by omega)),?_⟩
    refine ⟨_,_,rfl,(s4.trans s5).own hG,qaa,?_⟩
    rw [List.take_add_one,gE_ hj]
    exact gp5.put (s5 _ _ hG4) (qhF srt hj) hl' se me
   ·rintro σ H4 ⟨v4,kvs,rfl,s4,hG4,gp4⟩
    rw [lM_,List.take_length] at gp4
    intro F hF
    have z2:=Same.upd (o:=.dK []) hF
    have hF1:upd H4 F (.dK []) F=some (.dK []):=qaa
    generalize upd H4 F (.dK [])=H5 at z2 hF1
    have S5:=s4.trans z2
    have nF:H2 F=none:=s4.free hF
    have GF:G≠F:=qab hG4 hF
    dsimp only [qah]
    refine ⟨⟨_,SqL.of (S5 _ _ (s2 _ _ hl))⟩,?_⟩
    refine qam (qag _ l (qs.map fun s=>V.int (s:Nat))) (fun j σ H6=>∃ (v4:Option V) (fkvs:List (Key×V)),σ=[some cv,some (.ref l),some (.str (bs [b])),some (.ref G),v4,some (.ref F),v6]/\Same H4 H6/\H6 F=some (.dK fkvs)/\Lay1 H6 fkvs (qs.take j) (fun _=>True))
     ⟨v4,[],rfl,z2,hF1,KS.nil,fun s hs=>by simp at hs⟩ (fun j σ H6 _ ⟨_,_,_,s6,_⟩=>SqL.of (s6 _ _ (s4 _ _ (s2 _ _ hl)))) ?_ ?_
    ·rintro j y σ H6 hj hy ⟨v4,fkvs,rfl,s6,hF6,ly6⟩
     rw [lM_] at hj
     rw [gM_,gE_ hj] at hy
     cases hy
     refine ⟨lZ_ rfl,fun p hp=>?_⟩
     have z3:=Same.upd (o:=.tup [.non,.non]) hp
     have kl:=ly6.kz.len
     rw [List.length_take] at kl
     refine .inr ⟨F,_,rfl,DPut.k (k:=nk qs[j]) (z3 _ _ hF6) (qai (by omega)),?_⟩
     refine ⟨_,_,rfl,(s6.trans z3).own hF,qaa,?_⟩
     rw [List.take_add_one,gE_ hj]
     exact (ly6.mono fun b ys e=>z3 _ _ e).put (z3 _ _ hF6) (qhF srt hj) qaa trivial
    ·rintro σ H6 ⟨v4,fkvs,rfl,s6,hF6,ly6⟩
     rw [lM_,List.take_length] at ly6
     have gph6:Gph H6 G qs (Ed rows b):=⟨kvs,.inl (s6 _ _ hG4),(gp4.mono fun b u _ e=>s6 _ _ e)⟩
     refine ⟨fkvs,qs,Ed rows b,hF6,ly6,Ne.symm GF,gph6,cl b,l8,qne,fun Ly ds H7 s7 nLy hLy lys fin=>?_⟩
     have gph7:=gph6.monoT GF (fun xs z=>by rw [hF6] at z;cases z) (fun xs z=>by rw [hF6] at z;cases z) s7
     have S7:Same H1 H7:=fun b u e=>by
      have e2:=s2 _ _ e
      exact s7 _ _ (qab e2 nF) (s6 _ _ (s4 _ _ e2))
     refine ⟨ds,qs,Ed rows b,hLy,gph7,l8,?_⟩
     refine qaJ (fun c=>?_) (fun c=>?_)
     ·have c:=of_decide_eq_true c
      have dl:ds.length=qs.length+1:=fin.elim id fun z=>by omega
      have dne:ds≠[]:=fun z=>by rw [z] at dl;simp at dl
      refine ⟨ds,qs,Ed rows b,hLy,lys,dne,by omega,cl b,fun lw bz H8 s8 hlw bl wk=>?_⟩
      refine ⟨bz,qs,hlw,wk,by omega,by omega,fun p H9 s9=>?_⟩
      have S9:=(S7.trans s8).trans s9
      obtain ⟨o,kv,ks,d1,d2,d3,d4⟩:=lys.at' qs.length (ds[qs.length]'(by omega)) (gE_ _)
      obtain ⟨t,ht⟩ : ∃ t,t∈ks:=by
       cases ks with
       | nil=>exact absurd rfl d2
       | cons t _=>exact ⟨t,List.mem_cons_self⟩
      exact qt p qs _ (s1.trans S9.t) (t1.mono S9) rc ⟨b,t,(d3 t).mp ht⟩
     ·have c:¬ qs.length < ds.length:=fun z=>c (decide_eq_true z)
      refine ⟨_,_,_,_,_,rfl,S7,fun b' hb' t ht=>?_⟩
      rw [tk1] at hb'
      rcases mA_ hb' with h | h
      ·exact dn b' h t ht
      ·have eb:b'=b:=by
        have:V.str (bs [b'])=V.str (bs [b]):=by simpa using h
        injection this with this
        simpa using qh0 this
       subst eb
       rcases fin with f | ⟨f1,f2⟩
       ·omega
       ·have:∀ i t,Lv (Ed rows b') qs (ds.length+i) t->∃ t',Lv (Ed rows b') qs ds.length t':=fun i=>by
         induction i with
         | zero=>exact fun t h=>⟨t,h⟩
         | succ i ih=>exact fun t ⟨s,h,_⟩=>ih s h
        obtain ⟨t',ht'⟩:=this (qs.length - ds.length) t (by rw [show ds.length+(qs.length - ds.length)=qs.length by omega];exact ht)
        exact f2 t' ht'
  ·rintro σ H2 ⟨v2,v3,v4,v5,v6,rfl,s2,dn⟩
   exact qn qs _ (s1.trans s2.t) (t1.mono s2) rc fun b t=>dn b (by cases b<;>simp) t
 ·exact h.elim
end
end K14
end
section
namespace K14
open PySem L2
section
variable {P:Program} {w:World} {K:PySem.W.Frag} {mg:Str->Option Value} {base:Heap}
abbrev Ky:=Nat×Bool
def qaM (x:Ky):List Key:=[Sum.inl ((x.1:Nat):Int),Sum.inr (bs [x.2])]
theorem qa7 (a b:Ky) (h:qaM a=qaM b):a=b:=by
 unfold qaM at h
 injection h with h1 h2
 injection h2 with h2 _
 have e1:((a.1:Nat):Int)=((b.1:Nat):Int):=Sum.inl.inj h1
 have e2:=qh0 (Sum.inr.inj h2)
 exact Prod.ext (by omega) (by simpa using e2)
def qae (qs:List Nat):List Ky:=qs.flatMap fun s=>[(s,false),(s,true)]
theorem mem_keysOf {qs:List Nat} {x:Ky}:x∈qae qs↔x.1∈qs:=by
 unfold qae
 rw [List.mem_flatMap]
 constructor
 ·rintro ⟨s,hs,h⟩
  simp only [List.mem_cons,List.not_mem_nil,or_false] at h
  rcases h with rfl | rfl<;>exact hs
 ·intro h
  obtain ⟨s,b⟩:=x
  exact ⟨s,h,by cases b<;>simp⟩
theorem qao (qs:List Nat):(qae qs).length=2 * qs.length:=by
 unfold qae
 induction qs with
 | nil=>rfl
 | cons s qs ih=>rw [List.flatMap_cons,lA_,ih,List.length_cons];simp;omega
theorem qbT {qs:List Nat} (h:qs.Nodup):(qae qs).Nodup:=by
 induction qs with
 | nil=>exact List.nodup_nil
 | cons s qs ih=>
  rw [List.nodup_cons] at h
  show ([(s,false),(s,true)]++qae qs).Nodup
  rw [List.nodup_append]
  refine ⟨by simp,ih h.2,fun a ha b hb e=>?_⟩
  subst e
  have h1:=mem_keysOf.mp hb
  simp only [List.mem_cons,List.not_mem_nil,or_false] at ha
  rcases ha with rfl | rfl<;>exact h.1 h1
def KyL (H:Hp) (bz:List V) (ks:List Ky):Prop:=bz.length=ks.length/\∀ (i:Nat) x,ks[i]? = some x->∃ b,bz[i]? = some (.ref b)/\H b=some (.tup ((qaM x).map kV))
theorem KyL.mono {H H':Hp} {bz:List V} {ks:List Ky} (h:KyL H bz ks) (s:∀ b ys,H b=some (.tup ys)->H' b=some (.tup ys)):KyL H' bz ks:=⟨h.1,fun i x e=>let ⟨b,a,c⟩:=h.2 i x e;⟨b,a,s _ _ c⟩⟩
theorem KyL.add {H:Hp} {bz:List V} {ks:List Ky} {b:Addr} {x:Ky} (h:KyL H bz ks) (hb:H b=some (.tup ((qaM x).map kV))):KyL H (bz++[.ref b]) (ks++[x]):=by
 refine ⟨by rw [lA_,lA_,h.1];rfl,fun i y hy=>?_⟩
 by_cases il:i < ks.length
 ·rw [List.getElem?_append_left il] at hy
  obtain ⟨b',a,c⟩:=h.2 i y hy
  exact ⟨b',by rw [List.getElem?_append_left (by rw [h.1];exact il)];exact a,c⟩
 ·have ie:i=ks.length:=by
   have:=(gS_ hy).1
   rw [lA_] at this
   simp at this
   omega
  subst ie
  rw [List.getElem?_append_right (Nat.le_refl _)] at hy
  simp at hy
  subst hy
  exact ⟨b,by rw [List.getElem?_append_right (by rw [h.1];exact Nat.le_refl _),h.1];simp,hb⟩
abbrev qiH:Stmt:=top 15
def qcO (P0:Addr):Sp:=fun vs H Q _=>match vs with
 | [cv]=>∃ (k n:Nat) (rows:Om.Rows),DV H cv (qax k n rows)/\Om.CodeOk k n rows/\Tab P0 (qan qav) qSt H ∧
   ∀ l bz qs H',SameT P0 H H'->Tab P0 (qan qav) qSt H'->H' l=some (.lst bz)->RchL rows qs->KyL H' bz (qae qs)->Q (.ref l) H'
 | _=>False
theorem scKeys:FnScope ["code","keys","state","sign"] ["code"] (qad qiH):=⟨rfl,rfl,rfl,by decide +kernel,rfl,by decide +kernel,by decide +kernel⟩
local macro_rules | `(tactic| walk_at "T.i")=>`(tactic| ((with_reducible refine' qfv ?a1);(case a1=>((with_reducible refine' qhW ?c1 ?c2);(case c1=>with_reducible assumption);(case c2=>rfl)))))
theorem qjt {P0 aS:Addr} (D:FnX K mg "paper_keys" qiH ["code"]) (sg:SgT K mg aS) (c1:Can P w K mg base "reached" 4 ["code"] (qbf P0)):Can P w K mg base "paper_keys" 5 ["code"] (qcO P0):=by
 refine qak (k:=4) D scKeys (fun vs H Q E h=>?_) (fun f0 cdv A outer s H vs Q X hr h=>?_)
 all_goals
  unfold qcO at h
  split at h
 ·rfl
 ·exact h.elim
 ·rename_i cv
  obtain ⟨k,n,rows,hc,ok,tb,q⟩:=h
  have nd:=scKeys.nd
  obtain ⟨sg1,sg2⟩:=sg
  refine ⟨_,(by walk_at "T.top"),?_⟩
  refine ⟨Nat.zero_le _,fun L hL=>?_⟩
  have z0:=Same.upd (o:=.lst []) hL
  have hL0:upd H L (.lst []) L=some (.lst []):=qaa
  have LP:L≠P0:=fun z=>by obtain ⟨ps,e⟩:=tb.tbl;rw [z,e] at hL;cases hL
  have t0:=tb.mono z0
  have hc0:=hc.mono z0
  generalize upd H L (.lst [])=H0 at z0 hL0 t0 hc0
  refine ⟨k,n,rows,hc0,ok,t0,fun l qs H1 s1 t1 nl hl srt mem l8=>?_⟩
  have hL1:=s1 _ _ LP hL0
  have lL:l≠L:=fun z=>by rw [z,hL0] at nl;cases nl
  have S1:SameT P0 H H1:=z0.t.trans s1
  refine ⟨⟨_,SqL.of hl⟩,?_⟩
  refine qam (qag _ l (qs.map fun s=>V.int (s:Nat))) (fun i σ H2=>∃ (v2 v3:Option V) (bz:List V),σ=[some cv,some (.ref L),v2,v3]/\SameT L H1 H2/\H2 L=some (.lst bz)/\KyL H2 bz (qae (qs.take i)))
   ⟨none,none,[],rfl,SameT.refl _ _,hL1,rfl,fun i x h=>by simp [qae] at h⟩ (fun i σ H2 _ ⟨_,_,_,_,s2,_⟩=>SqL.of (s2 _ _ lL hl)) ?_ ?_
  ·rintro i x σ H2 hi hx ⟨v2,v3,bz,rfl,s2,hL2,kl⟩
   rw [lM_] at hi
   rw [gM_,gE_ hi] at hx
   cases hx
   refine ⟨aS,rfl,⟨_,sg2 _⟩,?_⟩
   have ek:qae (qs.take (i+1))=qae (qs.take i)++[(qs[i],false),(qs[i],true)]:=by
    unfold qae
    rw [List.take_add_one,gE_ hi,List.flatMap_append];rfl
   have bl:bz.length<=16:=by
    rw [kl.1,qao,List.length_take];omega
   refine qam (qhR _ aS [.str (bs [false]),.str (bs [true])]) (fun j σ H3=>∃ (v3:Option V) (bz:List V),σ=[some cv,some (.ref L),some (.int (qs[i]:Nat)),v3]/\SameT L H1 H3/\H3 L=some (.lst bz)/\KyL H3 bz (qae (qs.take i)++[(qs[i],false),(qs[i],true)].take j))
    ⟨v3,bz,rfl,s2,hL2,by simpa using kl⟩ (fun j σ H3 _ _=>sg2 _) ?_ ?_
   ·rintro j y σ H3 hj hy ⟨v3,bz,rfl,s3,hL3,kl3⟩
    obtain ⟨b,rfl,eb⟩ : ∃ b,y = .str (bs [b])/\[(qs[i],false),(qs[i],true)][j]? = some (qs[i],b):=by
     have hj2:j < 2:=hj
     match j,hj2 with
     | 0,_=>cases hy;exact ⟨false,rfl,rfl⟩
     | 1,_=>cases hy;exact ⟨true,rfl,rfl⟩
    have bl3:bz.length<=20:=by
     rw [kl3.1,lA_,qao,List.length_take,List.length_take]
     have:min j [(qs[i],false),(qs[i],true)].length<=2:=Nat.min_le_right _ _
     omega
    refine ⟨⟨_,rfl,hL3⟩,lZ_ rfl,fun p hp=>?_⟩
    have z:=Same.upd (o:=.tup [.int (qs[i]:Nat),.str (bs [b])]) hp
    refine ⟨_,z _ _ hL3,qai (by omega),?_⟩
    have tp:∀ b' ys,upd H3 p (.tup [.int (qs[i]:Nat),.str (bs [b])]) b'=some (.tup ys)->upd (upd H3 p (.tup [.int (qs[i]:Nat),.str (bs [b])])) L (.lst (bz++[.ref p])) b'=some (.tup ys):=fun b' ys h=>by rw [qac (qaj h (z _ _ hL3) (fun z=>nomatch z))];exact h
    refine ⟨_,bz++[.ref p],rfl,fun b' u nb e=>?_,qaa,?_⟩
    ·rw [qac nb];exact z _ _ (s3 _ _ nb e)
    ·rw [List.take_add_one,eb,<-List.append_assoc]
     exact (kl3.mono fun b' ys h=>tp b' ys (z _ _ h)).add (x:=(qs[i],b)) (tp p _ qaa)
   ·rintro σ H3 ⟨v3,bz,rfl,s3,hL3,kl3⟩
    refine ⟨_,_,bz,rfl,s3,hL3,?_⟩
    rw [ek]
    exact kl3
  ·rintro σ H2 ⟨v2,v3,bz,rfl,s2,hL2,kl⟩
   rw [lM_,List.take_length] at kl
   have hLn:H L=none:=hL
   have S2:SameT P0 H H2:=fun b u nb e=>s2 _ _ (qab e hLn) (S1 _ _ nb e)
   have t2:Tab P0 (qan qav) qSt H2:=by
    rcases t1 with z | ⟨c,z1,z2⟩
    ·exact .inl (s2 _ _ (Ne.symm LP) z)
    ·exact .inr ⟨c,s2 _ _ (Ne.symm LP) z1,s2 _ _ (qaj z2 hL1 (fun y=>nomatch y)) z2⟩
   exact q L bz qs _ S2 t2 hL2 ⟨srt,mem,l8⟩ kl
 ·exact h.elim
end
end K14
end
section
namespace K14
open PySem L2
section
variable {P:Program} {w:World} {K:PySem.W.Frag} {mg:Str->Option Value} {base:Heap}
theorem qcW {N:Type} {key:N->List Key} {H:Hp}:∀ {kvs:List (List Key×V)} {bz:List Addr} {xs:List N} {i:Nat} {x:N},qbx H kvs bz->KS key kvs xs->xs[i]? = some x->∃ b,bz[i]? = some b/\H b=some (.tup ((key x).map kV)):=by
 intro kvs bz xs i x kb ks hx
 have h1:(kvs.map (·.1))[i]? = some (key x):=by rw [ks.ks,gM_,hx];rfl
 clear ks hx
 induction kb generalizing i with
 | nil=>simp at h1
 | @cons p b ps bs' h t ih=>
  cases i with
  | zero=>
   have e:p.1=key x:=by simpa using h1
   rw [e] at h
   exact ⟨b,rfl,h⟩
  | succ i=>
   obtain ⟨b',a1,a2⟩:=ih (i:=i) (by simpa using h1)
   exact ⟨b',by simpa using a1,a2⟩
theorem qed {H:Hp} {kvs:List (List Key×V)} {bz:List Addr} (h:qbx H kvs bz):bz.length=kvs.length:=by
 induction h with
 | nil=>rfl
 | cons _ _ ih=>rw [List.length_cons,List.length_cons,ih]
structure RunV (kvs:List (List Key×V)) (ks:List Ky) (F:Ky->Nat):Prop where
 kz:KS qaM kvs ks
 vl:∀ x∈ks,qaL kvs (qaM x)=some (.int (F x:Nat))
def tpF (F:Ky->Nat) (x:Ky) (r:List Bool×Nat):Nat:=(pb (some x.2) (F x) r.1).2.2
structure Pk (rows:Om.Rows) (F:Ky->Nat) (S:Ky->Nat->Prop) (m:Nat):Prop where
 all:∀ x l r,S x l->(rows.getD x.1 [])[l]? = some r->tpF F x r<=m
 src:m=0\/∃ x l r,S x l/\(rows.getD x.1 [])[l]? = some r/\m=tpF F x r
theorem Pk.cong {rows:Om.Rows} {F:Ky->Nat} {S S':Ky->Nat->Prop} {m:Nat} (h:Pk rows F S m) (e1:∀ x l r,(rows.getD x.1 [])[l]? = some r->S' x l->S x l) (e2:∀ x l r,(rows.getD x.1 [])[l]? = some r->S x l->S' x l):Pk rows F S' m:=
 ⟨fun x l r a b=>h.all x l r (e1 x l r b a) b,h.src.imp id fun ⟨x,l,r,a,b,c⟩=>⟨x,l,r,e2 x l r b a,b,c⟩⟩
theorem Pk.put {rows:Om.Rows} {F:Ky->Nat} {S:Ky->Nat->Prop} {m:Nat} (h:Pk rows F S m) {x:Ky} {l:Nat} {r:List Bool×Nat} (hr:(rows.getD x.1 [])[l]? = some r):Pk rows F (fun y j=>S y j\/(y=x/\j=l)) (max m (tpF F x r)):=by
 refine ⟨fun y j r' a b=>?_,?_⟩
 ·rcases a with a | ⟨rfl,rfl⟩
  ·have:=h.all y j r' a b;omega
  ·rw [hr] at b;cases b;omega
 ·by_cases c:m<=tpF F x r
  ·exact .inr ⟨x,l,r,.inr ⟨rfl,rfl⟩,hr,by omega⟩
  ·rw [Nat.max_eq_left (by omega)]
   exact h.src.imp id fun ⟨y,j,r',a,b,c⟩=>⟨y,j,r',.inl a,b,c⟩
abbrev qiD:Stmt:=top 16
def qe7:Sp:=fun vs H Q _=>match vs with
 | [cv,.ref D]=>∃ (k n:Nat) (rows:Om.Rows) (kvs:List (List Key×V)) (ks:List Ky) (F:Ky->Nat),DV H cv (qax k n rows)/\Om.CodeOk k n rows/\H D=some (.dT kvs)/\RunV kvs ks F/\(∀ x∈ks,x.1 < rows.length) ∧
   ∀ (m:Nat) H',Same H H'->Pk rows F (fun x _=>x∈ks) m->Q (.int (m:Nat)) H'
 | _=>False
theorem scPeak:FnScope ["code","runs","peak","state","sign","row"] ["code","runs"] (qad qiD):=⟨rfl,rfl,rfl,by decide +kernel,rfl,by decide +kernel,by decide +kernel⟩
local macro_rules | `(tactic| walk_at "T.e")=>`(tactic| ((with_reducible refine' qbk ?a0 ?a1 ?a2);(case a0=>exact Room.units (by assumption));(case a1=>with_reducible exact vn "runs" 1);(case a2=>walk_at "T.e")))
local macro_rules | `(tactic| walk_at "T.st")=>`(tactic| first | ((with_reducible refine' qhx ?a0);(case a0=>((with_reducible refine' qiu ?a1 ?a2 ?a3);(case a1=>((with_reducible refine' qfw ?b1);(case b1=>with_reducible exact vn "runs" 1)));(case a2=>walk_at "T.g");(case a3=>walk_at "T.s")))) | fail "no")
theorem qjr (D:FnX K mg "greatest_peak" qiD ["code","runs"]) (g2:mg "max" = none) (c1:Can P w K mg base "put_behind" 1 ["sign","count","word"] qgB):Can P w K mg base "greatest_peak" 2 ["code","runs"] qe7:=by
 refine qak (k:=1) D scPeak (fun vs H Q E h=>?_) (fun f0 cdv A outer s H vs Q E hr h=>?_)
 all_goals
  unfold qe7 at h
  split at h
 ·rfl
 ·exact h.elim
 ·rename_i cv D
  obtain ⟨k,n,rows,kvs,ks,F,hc,ok,hD,rv,kb,q⟩:=h
  obtain ⟨a,b,ss,rfl,ha,hb,hss⟩:=qay hc
  have nd:=scPeak.nd
  have n1:=ok.n1
  refine ⟨_,(by walk_at "T.top"),?_⟩
  dsimp only [qah,qid]
  refine .inl ⟨kvs,hD,fun o bz kz=>?_⟩
  have bl:bz.length=ks.length:=by rw [qed kz,rv.kz.len]
  have s0:SameT D H (upd H D (.frz o (.dT kvs))):=fun b u nb e=>by rw [qac nb];exact e
  have hD0:upd H D (.frz o (.dT kvs)) D=some (.frz o (.dT kvs)):=qaa
  generalize upd H D (.frz o (.dT kvs))=H0 at s0 hD0
  refine qam (qdB D o (bz.map V.ref)) (fun i σ H2=>∃ (v3 v4 v5:Option V) (m:Nat),σ=[some (.ref a),some (.ref D),some (.int (m:Nat)),v3,v4,v5]/\Same H0 H2/\Pk rows F (fun x _=>x∈ks.take i) m)
   ⟨none,none,none,0,rfl,Same.refl _,⟨fun x l r h=>by simp at h,.inl rfl⟩⟩ (fun i σ H2 _ ⟨_,_,_,_,_,s2,_⟩=>⟨_,s2 _ _ hD0⟩) ?_ ?_
  ·rintro i v σ H2 hi hv ⟨v3,v4,v5,m,rfl,s2,pk⟩
   rw [lM_,bl] at hi
   have hx:ks[i]? = some ks[i]:=gE_ hi
   have xm:ks[i]∈ks:=List.getElem_mem hi
   have tk:ks.take (i+1)=ks.take i++[ks[i]]:=by rw [List.take_add_one,hx];rfl
   generalize ks[i]=x at hx xm tk
   obtain ⟨b0,b1,b2⟩:=qcW kz rv.kz hx
   have b2:=s2 _ _ (s0 _ _ (qaj b2 hD (fun z=>nomatch z)) b2)
   rw [gM_,b1] at hv
   cases hv
   have slt:=kb x xm
   obtain ⟨qx,rx,e1,e2,e3⟩:=qaA hss (s:=x.1) (st:=rows[x.1]) (gE_ slt)
   have rl:rx.length=rows[x.1].length:=by rw [e3.length,lM_]
   have eg:rows.getD x.1 []=rows[x.1]:=by rw [List.getD_eq_getElem?_getD,gE_ slt];rfl
   have ha0:=s0 _ _ (qaj ha hD (fun z=>nomatch z)) ha
   have hb0:=s0 _ _ (qaj hb hD (fun z=>nomatch z)) hb
   have e20:=s0 _ _ (qaj e2 hD (fun z=>nomatch z)) e2
   refine ⟨_,.inl b2,rfl,rfl,?_⟩
   refine ⟨_,gt (s2 _ _ ha0) (by decide) rfl,.ref qx,gl (s2 _ _ hb0) (by omega) (by simpa using e1),⟨_,SqL.of (s2 _ _ e20)⟩,?_⟩
   refine qam (qag _ qx rx) (fun j σ H3=>∃ (v5:Option V) (m:Nat),σ=[some (.ref a),some (.ref D),some (.int (m:Nat)),some (.int (x.1:Nat)),some (.str (bs [x.2])),v5]/\Same H0 H3/\Pk rows F (fun y l=>y∈ks.take i\/(y=x/\l < j)) m)
    ⟨v5,m,rfl,s2,pk.cong (fun y l _ _ h=>h.elim id fun z=>absurd z.2 (Nat.not_lt_zero _)) fun y l _ _ h=>.inl h⟩ (fun j σ H3 _ ⟨_,_,_,s3,_⟩=>SqL.of (s3 _ _ e20)) ?_ ?_
   ·clear pk
    rintro j z σ H3 hj hz ⟨v5,m,rfl,s3,pk⟩
    have hj':j < rows[x.1].length:=by omega
    obtain ⟨r,r1,r2⟩:=qbr e3 (l:=j) (r:=rows[x.1][j]) (gE_ hj')
    rw [hz] at r1
    cases r1
    have okr:=ok.row _ (List.getElem_mem slt) _ (List.getElem_mem hj')
    have hrow:(rows.getD x.1 [])[j]? = some rows[x.1][j]:=by rw [eg];exact gE_ hj'
    generalize rows[x.1][j]=rw0 at r2 okr hrow
    have wne:rw0.1≠[]:=fun z=>by have:=congrArg List.length z;rw [okr.1] at this;simp at this;omega
    have r2:=s0 _ _ (qaj r2 hD (fun z=>nomatch z)) r2
    refine ⟨lZ_ rfl,fun p hp=>?_⟩
    have z4:=Same.upd (o:=.tup [.int (x.1:Nat),.str (bs [x.2])]) hp
    refine .inr ⟨D,.int (F x:Nat),rfl,.inr ⟨kvs,qaM x,p,.inr ⟨o,z4 _ _ (s3 _ _ hD0)⟩,rfl,qaa,(rv.vl x xm).symm⟩,?_⟩
    have s4:=s3.trans z4
    generalize upd H3 p (.tup [.int (x.1:Nat),.str (bs [x.2])])=H4 at s4
    refine ⟨_,gt (s4 _ _ r2) (by decide) rfl,some x.2,F x,rw0.1,rfl,rfl,rfl,wne,fun p5 H5 s5 hp5 _=>?_⟩
    refine ⟨_,gt hp5 (by decide) rfl,?_⟩
    have em:(if ((tpF F x rw0:Nat):Int) > ((m:Nat):Int) then ((tpF F x rw0:Nat):Int) else ((m:Nat):Int))=((max m (tpF F x rw0):Nat):Int):=by split<;>omega
    refine ⟨_,max m (tpF F x rw0),by rw [<-em];rfl,s4.trans s5,(pk.put hrow).cong (fun y l _ _ h=>?_) fun y l _ _ h=>?_⟩
    ·rcases h with h | ⟨h,h'⟩
     ·exact .inl (.inl h)
     ·rcases Nat.lt_succ_iff_lt_or_eq.mp h' with h' | h'
      ·exact .inl (.inr ⟨h,h'⟩)
      ·exact .inr ⟨h,h'⟩
    ·rcases h with (h | ⟨h,h'⟩) | ⟨h,h'⟩
     ·exact .inl h
     ·exact .inr ⟨h,by omega⟩
     ·exact .inr ⟨h,by omega⟩
   ·rintro σ H3 ⟨v5,m,rfl,s3,pk⟩
    refine ⟨_,_,v5,m,rfl,s3,pk.cong (fun y l r hr h=>?_) fun y l r hr h=>?_⟩
    ·rw [tk] at h
     rcases mA_ h with h | h
     ·exact .inl h
     ·have h:y=x:=by simpa using h
      subst h
      have:=(gS_ hr).1
      rw [eg] at this
      exact .inr ⟨rfl,by omega⟩
    ·rw [tk]
     rcases h with h | ⟨h,_⟩
     ·exact List.mem_append_left _ h
     ·exact List.mem_append_right _ (by rw [h];simp)
  ·rintro σ H2 ⟨v3,v4,v5,m,rfl,s2,pk⟩
   rw [lM_,bl,List.take_length] at pk
   refine ⟨D,o,.dT kvs,s2 _ _ hD0,trivial,(fun o' u' e=>nomatch (show some (HO.dT kvs)=some (HO.frz o' u') from hD.symm.trans e)),?_⟩
   refine q m _ (fun b u e=>?_) pk
   by_cases bD:b=D
   ·subst bD;rw [qaa,<-hD,e]
   ·rw [qac bD]
    exact s2 _ _ (s0 _ _ bD e)
 ·exact h.elim
end
end K14
end
section
namespace K14
open PySem L2
section
variable {P:Program} {w:World} {K:PySem.W.Frag} {mg:Str->Option Value} {base:Heap}
def lb (ws:List Bool):Bool:=((pb none 0 ws).1).getD false
theorem qbo {ws:List Bool} (h:ws≠[]) (o:Option Bool) (c:Nat):(pb o c ws).1=some (lb ws):=by
 obtain ⟨b,_,h2⟩:=qd5 h o c c
 have e1:(pb o c ws).1=some b:=h2 o c c
 have e2:(pb none 0 ws).1=some b:=h2 none 0 0
 unfold lb
 rw [e1,e2];rfl
def tgt (r:List Bool×Nat):Ky:=(r.2,lb r.1)
def ctF (F:Ky->Nat) (x:Ky) (r:List Bool×Nat):Nat:=(pb (some x.2) (F x) r.1).2.1
open Classical in
def cur (F:Ky->Nat) (oks:List Ky) (G:Ky->Nat) (y:Ky):Nat:=if y∈oks then G y else F y
structure Ov (rows:Om.Rows) (F:Ky->Nat) (S:Ky->Nat->Prop) (oks:List Ky) (G:Ky->Nat):Prop where
 all:∀ x l r,S x l->(rows.getD x.1 [])[l]? = some r->ctF F x r<=cur F oks G (tgt r)
 up:∀ y∈oks,F y < G y
 src:∀ y∈oks,∃ x l r,S x l/\(rows.getD x.1 [])[l]? = some r/\y=tgt r/\G y=ctF F x r
theorem Ov.cong {rows:Om.Rows} {F G:Ky->Nat} {S S':Ky->Nat->Prop} {oks:List Ky} (h:Ov rows F S oks G) (e1:∀ x l r,(rows.getD x.1 [])[l]? = some r->S' x l->S x l) (e2:∀ x l r,(rows.getD x.1 [])[l]? = some r->S x l->S' x l):Ov rows F S' oks G:=
 ⟨fun x l r a b=>h.all x l r (e1 x l r b a) b,h.up,fun y hy=>let ⟨x,l,r,a,b,c⟩:=h.src y hy;⟨x,l,r,e2 x l r b a,b,c⟩⟩
theorem Ov.small {rows:Om.Rows} {F G:Ky->Nat} {S:Ky->Nat->Prop} {oks:List Ky} (h:Ov rows F S oks G) {x:Ky} {l:Nat} {r:List Bool×Nat} (hr:(rows.getD x.1 [])[l]? = some r) (le:ctF F x r<=cur F oks G (tgt r)):Ov rows F (fun y j=>S y j\/(y=x/\j=l)) oks G:=by
 refine ⟨fun y j r' a b=>?_,h.up,fun y hy=>let ⟨x,l,r,a,b,c⟩:=h.src y hy;⟨x,l,r,.inl a,b,c⟩⟩
 rcases a with a | ⟨rfl,rfl⟩
 ·exact h.all y j r' a b
 ·rw [hr] at b;cases b;exact le
theorem Ov.big {rows:Om.Rows} {F G:Ky->Nat} {S:Ky->Nat->Prop} {oks:List Ky} (h:Ov rows F S oks G) {x:Ky} {l:Nat} {r:List Bool×Nat} (hr:(rows.getD x.1 [])[l]? = some r) (lt:cur F oks G (tgt r) < ctF F x r):Ov rows F (fun y j=>S y j\/(y=x/\j=l)) (Om.adds oks (tgt r)) (fun z=>if z=tgt r then ctF F x r else G z):=by
 have c1:cur F (Om.adds oks (tgt r)) (fun z=>if z=tgt r then ctF F x r else G z) (tgt r)=ctF F x r:=by
  unfold cur
  rw [if_pos (Om.mem_adds.mpr (.inr rfl))]
  show (if tgt r=tgt r then _ else _)=_
  rw [if_pos rfl]
 have c2:∀ z,z≠tgt r->cur F (Om.adds oks (tgt r)) (fun z=>if z=tgt r then ctF F x r else G z) z=cur F oks G z:=fun z hz=>by
  unfold cur
  by_cases m:z∈oks
  ·rw [if_pos (Om.mem_adds.mpr (.inl m)),if_pos m]
   show (if z=tgt r then _ else _)=_
   rw [if_neg hz]
  ·rw [if_neg (fun c=>(Om.mem_adds.mp c).elim m hz),if_neg m]
 have fy:F (tgt r)<=cur F oks G (tgt r):=by
  unfold cur
  split
  ·rename_i m
   exact Nat.le_of_lt (h.up _ m)
  ·exact Nat.le_refl _
 refine ⟨fun y j r' a b=>?_,fun y hy=>?_,fun y hy=>?_⟩
 ·rcases a with a | ⟨rfl,rfl⟩
  ·have:=h.all y j r' a b
   by_cases e:tgt r'=tgt r
   ·rw [e] at this ⊢;rw [c1];omega
   ·rw [c2 _ e];exact this
  ·rw [hr] at b;cases b;rw [c1];exact Nat.le_refl _
 ·show F y < (if y=tgt r then ctF F x r else G y)
  by_cases e:y=tgt r
  ·rw [if_pos e,e];omega
  ·rw [if_neg e];exact h.up y ((Om.mem_adds.mp hy).resolve_right e)
 ·show ∃ x' l' r',_/\_/\_/\(if y=tgt r then ctF F x r else G y)=_
  by_cases e:y=tgt r
  ·rw [if_pos e];exact ⟨x,l,r,.inr ⟨rfl,rfl⟩,hr,e,rfl⟩
  ·rw [if_neg e]
   obtain ⟨x',l',r',a,b,c⟩:=h.src y ((Om.mem_adds.mp hy).resolve_right e)
   exact ⟨x',l',r',.inl a,b,c⟩
theorem RunV.put {kvs:List (List Key×V)} {ks:List Ky} {F:Ky->Nat} (h:RunV kvs ks F) (y:Ky) (c:Nat):RunV (qaN kvs (qaM y) (.int (c:Nat))) (Om.adds ks y) (fun z=>if z=y then c else F z):=by
 refine ⟨h.kz.put qa7 y _,fun z hz=>?_⟩
 show _=some (V.int ((if z=y then c else F z:Nat):Int))
 rw [qaz]
 by_cases e:z=y
 ·subst e;rw [if_pos rfl,if_pos rfl]
 ·rw [if_neg (fun k=>e (qa7 _ _ k)),if_neg e]
  exact h.vl z ((Om.mem_adds.mp hz).resolve_right e)
theorem RunV.curV {kvs:List (List Key×V)} {ks:List Ky} {G:Ky->Nat} (h:RunV kvs ks G) (F:Ky->Nat) (y:Ky):(qaL kvs (qaM y)).getD (.int (F y:Nat)) = .int (cur F ks G y:Nat):=by
 unfold cur
 by_cases m:y∈ks
 ·rw [if_pos m,h.vl y m];rfl
 ·rw [if_neg m]
  have this:(qaL kvs (qaM y)).isSome=false:=by
   have t:=h.kz.has qa7 y
   cases hv:(qaL kvs (qaM y)).isSome with
   | false=>rfl
   | true=>rw [hv] at t;exact absurd (by simpa using t) m
  rw [Option.isSome_eq_false_iff,Option.isNone_iff_eq_none] at this
  rw [this];rfl
theorem qhk {xs:List Ky} (nd:xs.Nodup) (h:∀ x∈xs,x.1 < 8):xs.length<=16:=by
 have bt:∀ b:Bool,b.toNat < 2:=fun b=>by cases b<;>decide
 have:=Om.nodup_len 16 (xs.map fun x=>x.1 * 2+x.2.toNat) ?_ fun s hs=>?_
 ·rwa [lM_] at this
 ·refine Om.nodup_on (fun x hx y hy e=>?_) nd
  have h1:=bt x.2
  have h2:=bt y.2
  have e1:x.1=y.1:=by omega
  have e2:x.2.toNat=y.2.toNat:=by omega
  exact Prod.ext e1 (by revert e2;cases x.2<;>cases y.2<;>simp)
 ·obtain ⟨x,hx,rfl⟩:=mM_ hs
  have h1:=h x hx
  have h2:=bt x.2
  omega
theorem qhb {u c:Nat} (h:u+64 < c):u+1 < c:=by omega
abbrev qiF:Stmt:=top 17
def qdU:Sp:=fun vs H Q _=>match vs with
 | [cv,.ref D]=>∃ (k n:Nat) (rows:Om.Rows) (kvs:List (List Key×V)) (ks:List Ky) (F:Ky->Nat),DV H cv (qax k n rows)/\Om.CodeOk k n rows/\H D=some (.dT kvs)/\RunV kvs ks F/\(∀ x∈ks,x.1 < rows.length)/\(∀ x∈ks,∀ r∈rows.getD x.1 [],∀ b,(r.2,b)∈ks) ∧
   ∀ L okvs oks G H',Same H H'->H L=none->H' L=some (.dT okvs)->RunV okvs oks G->Ov rows F (fun x _=>x∈ks) oks G->Q (.ref L) H'
 | _=>False
theorem scOver:FnScope ["code","runs","over","state","sign","row","run","key"] ["code","runs"] (qad qiF):=⟨rfl,rfl,rfl,by decide +kernel,rfl,by decide +kernel,by decide +kernel⟩
local macro_rules | `(tactic| walk_at "T.e")=>`(tactic| first | (with_reducible exact qbg) | ((with_reducible refine' qbk ?a0 ?a1 ?a2);(case a0=>exact Room.units (by assumption));(case a1=>with_reducible exact vn "runs" 1);(case a2=>walk_at "T.e")) | ((with_reducible refine' qgW ?a0 ?a1 ?a2 ?a3 ⟨?a4,?a5,?a6,?a7⟩);(case a0=>exact qhb (Room.units (by assumption)));(case a1=>with_reducible exact vn "over" 2);(case a2=>walk_at "T.e");(case a3=>walk_at "T.e");(case a4=>kernel_rfl);(case a5=>kernel_rfl);(case a6=>kernel_rfl);(case a7=>kernel_rfl)) | fail "no")
local macro_rules | `(tactic| walk_at "T.g")=>`(tactic| ((with_reducible refine' qa3 ?a0 ?a1 ?a2);(case a0=>exact Room.units (by assumption));(case a1=>with_reducible exact vn "over" 2);(case a2=>walk_at "T.e")))
local macro_rules | `(tactic| walk_at "T.st")=>`(tactic| first | ((with_reducible refine' qhx ?a0);(case a0=>((with_reducible refine' qiu ?a1 ?a2 ?a3);(case a1=>((with_reducible refine' qfw ?b1);(case b1=>with_reducible exact vn "runs" 1)));(case a2=>walk_at "T.g");(case a3=>walk_at "T.s")))) | fail "no")
theorem qjs (D:FnX K mg "runs_over" qiF ["code","runs"]) (c1:Can P w K mg base "put_behind" 1 ["sign","count","word"] qgB):Can P w K mg base "runs_over" 2 ["code","runs"] qdU:=by
 refine qak (k:=1) D scOver (fun vs H Q E h=>?_) (fun f0 cdv A outer s H vs Q E hr h=>?_)
 all_goals
  unfold qdU at h
  split at h
 ·rfl
 ·exact h.elim
 ·rename_i cv D
  obtain ⟨k,n,rows,kvs,ks,F,hc,ok,hD,rv,kb,cl,q⟩:=h
  obtain ⟨a,b,ss,rfl,ha,hb,hss⟩:=qay hc
  have nd:=scOver.nd
  have n1:=ok.n1
  have s8:=ok.s8
  refine ⟨_,(by walk_at "T.top"),?_⟩
  intro L hL
  have DL:D≠L:=qab hD hL
  have u1:=Same.upd (o:=.dT []) hL
  have hL1:upd H L (.dT []) L=some (.dT []):=qaa
  generalize upd H L (.dT [])=H1 at u1 hL1
  have hD1:=u1 _ _ hD
  dsimp only [qah,qid]
  refine .inl ⟨kvs,hD1,fun o bz kz=>?_⟩
  have bl:bz.length=ks.length:=by rw [qed kz,rv.kz.len]
  have s0:SameT D H1 (upd H1 D (.frz o (.dT kvs))):=fun b u nb e=>by rw [qac nb];exact e
  have hD0:upd H1 D (.frz o (.dT kvs)) D=some (.frz o (.dT kvs)):=qaa
  generalize upd H1 D (.frz o (.dT kvs))=H0 at s0 hD0
  have hL0:=s0 _ _ (Ne.symm DL) hL1
  refine qam (qdB D o (bz.map V.ref)) (fun i σ H2=>∃ (v3 v4 v5 v6 v7:Option V) (okvs:List (List Key×V)) (oks:List Ky) (G:Ky->Nat),σ=[some (.ref a),some (.ref D),some (.ref L),v3,v4,v5,v6,v7]/\SameT L H0 H2/\H2 L=some (.dT okvs)/\RunV okvs oks G/\Ov rows F (fun x _=>x∈ks.take i) oks G)
   ⟨none,none,none,none,none,[],[],fun _=>0,rfl,SameT.refl _ _,hL0,⟨KS.nil,fun x h=>nomatch h⟩,⟨(fun x l r h=>by simp at h),(fun y h=>nomatch h),fun y h=>nomatch h⟩⟩ (fun i σ H2 _ ⟨_,_,_,_,_,_,_,_,_,s2,_⟩=>⟨_,s2 _ _ DL hD0⟩) ?_ ?_
  ·rintro i v σ H2 hi hv ⟨v3,v4,v5,v6,v7,okvs,oks,G,rfl,s2,hL2,ov,oo⟩
   rw [lM_,bl] at hi
   have hx:ks[i]? = some ks[i]:=gE_ hi
   have xm:ks[i]∈ks:=List.getElem_mem hi
   have tk:ks.take (i+1)=ks.take i++[ks[i]]:=by rw [List.take_add_one,hx];rfl
   generalize ks[i]=x at hx xm tk
   obtain ⟨b0,b1,b2⟩:=qcW kz rv.kz hx
   have b2L:b0≠L:=qaj b2 hL1 (fun z=>nomatch z)
   have b2:=s2 _ _ b2L (s0 _ _ (qaj b2 hD1 (fun z=>nomatch z)) b2)
   rw [gM_,b1] at hv
   cases hv
   have slt:=kb x xm
   obtain ⟨qx,rx,e1,e2,e3⟩:=qaA hss (s:=x.1) (st:=rows[x.1]) (gE_ slt)
   have rl:rx.length=rows[x.1].length:=by rw [e3.length,lM_]
   have eg:rows.getD x.1 []=rows[x.1]:=by rw [List.getD_eq_getElem?_getD,gE_ slt];rfl
   have ha0:=s0 _ _ (qaj ha hD (fun z=>nomatch z)) (u1 _ _ ha)
   have hb0:=s0 _ _ (qaj hb hD (fun z=>nomatch z)) (u1 _ _ hb)
   have e20:=s0 _ _ (qaj e2 hD (fun z=>nomatch z)) (u1 _ _ e2)
   have aL:=qab ha hL
   have bL:=qab hb hL
   have qL:=qab e2 hL
   refine ⟨_,.inl b2,rfl,rfl,?_⟩
   refine ⟨_,gt (s2 _ _ aL ha0) (by decide) rfl,.ref qx,gl (s2 _ _ bL hb0) (by omega) (by simpa using e1),⟨_,SqL.of (s2 _ _ qL e20)⟩,?_⟩
   refine qam (qag _ qx rx) (fun j σ H3=>∃ (v5 v6 v7:Option V) (okvs:List (List Key×V)) (oks:List Ky) (G:Ky->Nat),σ=[some (.ref a),some (.ref D),some (.ref L),some (.int (x.1:Nat)),some (.str (bs [x.2])),v5,v6,v7]/\SameT L H0 H3/\H3 L=some (.dT okvs)/\RunV okvs oks G/\Ov rows F (fun y l=>y∈ks.take i\/(y=x/\l < j)) oks G)
    ⟨v5,v6,v7,okvs,oks,G,rfl,s2,hL2,ov,oo.cong (fun y l _ _ h=>h.elim id fun z=>absurd z.2 (Nat.not_lt_zero _)) fun y l _ _ h=>.inl h⟩ (fun j σ H3 _ ⟨_,_,_,_,_,_,_,s3,_⟩=>SqL.of (s3 _ _ qL e20)) ?_ ?_
   ·clear oo ov hL2 s2 b2
    rintro j z σ H3 hj hz ⟨v5,v6,v7,okvs,oks,G,rfl,s3,hL3,ov,oo⟩
    have hj':j < rows[x.1].length:=by omega
    obtain ⟨r,r1,r2⟩:=qbr e3 (l:=j) (r:=rows[x.1][j]) (gE_ hj')
    rw [hz] at r1
    cases r1
    have okr:=ok.row _ (List.getElem_mem slt) _ (List.getElem_mem hj')
    have hrow:(rows.getD x.1 [])[j]? = some rows[x.1][j]:=by rw [eg];exact gE_ hj'
    generalize rows[x.1][j]=rw0 at r2 okr hrow
    have wne:rw0.1≠[]:=fun z=>by have:=congrArg List.length z;rw [okr.1] at this;simp at this;omega
    have ym:tgt rw0∈ks:=cl x xm rw0 (mO_ hrow) _
    have rL:=qab r2 hL
    have r2:=s0 _ _ (qaj r2 hD (fun z=>nomatch z)) (u1 _ _ r2)
    refine ⟨lZ_ rfl,fun p hp=>?_⟩
    have z4:=Same.upd (o:=.tup [.int (x.1:Nat),.str (bs [x.2])]) hp
    refine .inr ⟨D,.int (F x:Nat),rfl,.inr ⟨kvs,qaM x,p,.inr ⟨o,z4 _ _ (s3 _ _ DL hD0)⟩,rfl,qaa,(rv.vl x xm).symm⟩,?_⟩
    have s4:SameT L H0 (upd H3 p (.tup [.int (x.1:Nat),.str (bs [x.2])])):=fun b u nb e=>z4 _ _ (s3 _ _ nb e)
    have hL4:=z4 _ _ hL3
    generalize upd H3 p (.tup [.int (x.1:Nat),.str (bs [x.2])])=H4 at s4 hL4
    refine ⟨_,gt (s4 _ _ rL r2) (by decide) rfl,some x.2,F x,rw0.1,rfl,rfl,rfl,wne,fun p5 H5 s5 hp5 _=>?_⟩
    rw [qbo wne] at hp5
    have s5':SameT L H0 H5:=fun b u nb e=>s5 _ _ (s4 _ _ nb e)
    have hL5:=s5 _ _ hL4
    refine ⟨_,gt (s5' _ _ rL r2) (by decide) rfl,_,gt hp5 (by decide) rfl,lZ_ rfl,fun pk hpk=>?_⟩
    have z6:=Same.upd (o:=.tup [.int (rw0.2:Nat),.str (sgn (some (lb rw0.1)))]) hpk
    have s6:SameT L H0 (upd H5 pk (.tup [.int (rw0.2:Nat),.str (sgn (some (lb rw0.1)))])):=fun b u nb e=>z6 _ _ (s5' _ _ nb e)
    have hL6:=z6 _ _ hL5
    have hp6:=z6 _ _ hp5
    have hk6:upd H5 pk (.tup [.int (rw0.2:Nat),.str (sgn (some (lb rw0.1)))]) pk=some (.tup ((qaM (tgt rw0)).map kV)):=qaa
    generalize upd H5 pk (.tup [.int (rw0.2:Nat),.str (sgn (some (lb rw0.1)))])=H6 at s6 hL6 hp6 hk6
    dsimp only [qah]
    refine ⟨_,gt hp6 (by decide) rfl,L,rfl,.inr ⟨okvs,.inl hL6⟩,.inr ⟨D,.int (F (tgt rw0):Nat),rfl,.inr ⟨kvs,qaM (tgt rw0),pk,.inr ⟨o,s6 _ _ DL hD0⟩,rfl,hk6,(rv.vl _ ym).symm⟩,?_⟩⟩
    refine ⟨_,DGet.t (k:=qaM (tgt rw0)) hL6 hk6,?_⟩
    rw [ov.curV F]
    have c8:∀ (y:Ky) l,(y∈ks.take i\/(y=x/\l < j))\/(y=x/\l=j)↔(y∈ks.take i\/(y=x/\l < j+1)):=fun y l=>by
     constructor
     ·rintro ((h | ⟨h,h'⟩) | ⟨h,h'⟩)
      ·exact .inl h
      ·exact .inr ⟨h,by omega⟩
      ·exact .inr ⟨h,by omega⟩
     ·rintro (h | ⟨h,h'⟩)
      ·exact .inl (.inl h)
      ·rcases Nat.lt_succ_iff_lt_or_eq.mp h' with h' | h'
       ·exact .inl (.inr ⟨h,h'⟩)
       ·exact .inr ⟨h,h'⟩
    refine qaJ (fun big=>?_) (fun small=>?_)
    ·have big:((cur F oks G (tgt rw0):Nat):Int) < ((ctF F x rw0:Nat):Int):=of_decide_eq_true big
     have kl:oks.length<=16:=qhk ov.kz.nd fun y hy=>by
      obtain ⟨x',l',r',_,h1,h2,_⟩:=oo.src y hy
      have:y∈ks:=by
       rcases ‹_\/_› with h | ⟨h,_⟩
       ·rw [h2];exact cl x' (List.mem_of_mem_take h) r' (mO_ h1) _
       ·rw [h2];exact cl x' (h ▸ xm) r' (mO_ h1) _
      have:=kb y this
      omega
     refine ⟨_,gt hp6 (by decide) rfl,.inr ⟨L,_,rfl,DPut.t (k:=qaM (tgt rw0)) hL6 hk6 (qai (by have:=ov.kz.len;omega)),?_⟩⟩
     exact ⟨_,_,_,_,_,_,rfl,fun b u nb e=>by rw [qac nb];exact s6 _ _ nb e,qaa,ov.put (tgt rw0) (ctF F x rw0),(oo.big hrow (by omega)).cong (fun y l _ _ h=>(c8 y l).mpr h) fun y l _ _ h=>(c8 y l).mp h⟩
    ·have small:¬ ((cur F oks G (tgt rw0):Nat):Int) < ((ctF F x rw0:Nat):Int):=fun z=>small (decide_eq_true z)
     exact ⟨_,_,_,okvs,oks,G,rfl,s6,hL6,ov,(oo.small hrow (by omega)).cong (fun y l _ _ h=>(c8 y l).mpr h) fun y l _ _ h=>(c8 y l).mp h⟩
   ·rintro σ H3 ⟨v5,v6,v7,okvs,oks,G,rfl,s3,hL3,ov,oo⟩
    refine ⟨_,_,v5,v6,v7,okvs,oks,G,rfl,s3,hL3,ov,oo.cong (fun y l r hr h=>?_) fun y l r hr h=>?_⟩
    ·rw [tk] at h
     rcases mA_ h with h | h
     ·exact .inl h
     ·have h:y=x:=by simpa using h
      subst h
      have:=(gS_ hr).1
      rw [eg] at this
      exact .inr ⟨rfl,by omega⟩
    ·rw [tk]
     rcases h with h | ⟨h,_⟩
     ·exact List.mem_append_left _ h
     ·exact List.mem_append_right _ (by rw [h];simp)
  ·rintro σ H2 ⟨v3,v4,v5,v6,v7,okvs,oks,G,rfl,s2,hL2,ov,oo⟩
   rw [lM_,bl,List.take_length] at oo
   refine ⟨D,o,.dT kvs,s2 _ _ DL hD0,trivial,(fun o' u' e=>nomatch (show some (HO.dT kvs)=some (HO.frz o' u') from hD.symm.trans e)),?_⟩
   refine q L okvs oks G _ (fun b u e=>?_) hL (by rw [qac (Ne.symm DL)];exact hL2) ov oo
   by_cases bD:b=D
   ·subst bD;rw [qaa,<-hD,e]
   ·rw [qac bD]
    exact s2 _ _ (qab e hL) (s0 _ _ bD (u1 _ _ e))
 ·exact h.elim
end
end K14
end
section
namespace K14
open PySem L2
section
variable {P:Program} {w:World} {K:PySem.W.Frag} {mg:Str->Option Value} {base:Heap}
theorem qhA {rows:Om.Rows} {s:Nat} (h:Om.Rch (Om.nxR rows) s):∃ o c,Rr rows (s,o,c):=by
 induction h with
 | z=>exact ⟨_,_,.z⟩
 | @s a b _ hb ih=>
  obtain ⟨o,c,g⟩:=ih
  obtain ⟨r,hr,rfl⟩:=mM_ hb
  exact ⟨_,_,g.s hr⟩
theorem qcR {rows:Om.Rows} {x:Nd} (h:Rr rows x):Om.Rch (Om.nxR rows) x.1:=by
 induction h with
 | z=>exact .z
 | @s x r _ hr ih=>exact .s ih (List.mem_map.mpr ⟨r,hr,rfl⟩)
theorem qaY {kvs:List (List Key×V)} {k:List Key} (h:k ∉ kvs.map (·.1)):qaL kvs k=none:=by
 induction kvs with
 | nil=>rfl
 | cons p r ih=>
  rw [List.map_cons,List.mem_cons,not_or] at h
  rw [qat (fun z=>h.1 z.symm)]
  exact ih h.2
theorem qdQ:∀ {more kvs:List (List Key×V)} (k:List Key),(more.map (·.1)).Nodup->qaL (qem kvs more) k=(qaL more k).or (qaL kvs k)
 | [],kvs,k,_=>rfl
 | p :: ps,kvs,k,nd=>by
  rw [List.map_cons,List.nodup_cons] at nd
  show qaL (qem (qaN kvs p.1 p.2) ps) k=_
  rw [qdQ k nd.2,qaz]
  by_cases e:k=p.1
  ·subst e
   rw [if_pos rfl,qas rfl,qaY nd.1];rfl
  ·rw [if_neg e,qat (fun z=>e z.symm)]
theorem RunV.upd {kvs okvs:List (List Key×V)} {ks oks:List Ky} {F G:Ky->Nat} (h:RunV kvs ks F) (h':RunV okvs oks G) (sub:∀ y∈oks,y∈ks):RunV (qem kvs okvs) ks (cur F oks G):=by
 have hk:∀ p∈okvs,p.1∈kvs.map (·.1):=fun p hp=>by
  have:p.1∈okvs.map (·.1):=List.mem_map.mpr ⟨p,hp,rfl⟩
  rw [h'.kz.ks] at this
  obtain ⟨y,hy,e⟩:=mM_ this
  rw [h.kz.ks,<-e]
  exact List.mem_map.mpr ⟨y,sub y hy,rfl⟩
 refine ⟨⟨by rw [qcj hk];exact h.kz.ks,h.kz.nd⟩,fun x hx=>?_⟩
 have ndk:(okvs.map (·.1)).Nodup:=by
  rw [h'.kz.ks]
  exact Om.nodup_on (fun a _ b _ e=>qa7 a b e) h'.kz.nd
 rw [qdQ _ ndk]
 unfold cur
 by_cases m:x∈oks
 ·rw [if_pos m,h'.vl x m];rfl
 ·rw [if_neg m,qaY (fun z=>m ?_),h.vl x hx]
  ·rfl
  ·rw [h'.kz.ks] at z
   obtain ⟨y,hy,e⟩:=mM_ z
   exact qa7 _ _ e ▸ hy
def Snd (rows:Om.Rows) (ks:List Ky) (F:Ky->Nat):Prop:=∀ x∈ks,F x=0\/∃ c,Rr rows (x.1,some x.2,c)/\F x<=c
theorem Snd.step {rows:Om.Rows} {ks oks:List Ky} {F G:Ky->Nat} (h:Snd rows ks F) (rr:∀ x∈ks,∃ o c,Rr rows (x.1,o,c)) (wne:∀ x∈ks,∀ r∈rows.getD x.1 [],r.1≠[]) (ov:Ov rows F (fun x _=>x∈ks) oks G):Snd rows ks (cur F oks G):=by
 intro y hy
 unfold cur
 by_cases m:y∈oks
 ·rw [if_pos m]
  obtain ⟨x,l,r,hx,hr,rfl,e⟩:=ov.src y m
  have hr:=mO_ hr
  have hw:=wne x hx r hr
  right
  rw [e]
  have key:∀ o c,Rr rows (x.1,o,c)->Le (some x.2) (F x) o c->F x<=c->∃ c',Rr rows ((tgt r).1,some (tgt r).2,c')/\ctF F x r<=c':=fun o c g le lc=>by
   refine ⟨(pb o c r.1).2.1,?_,(qfA hw le lc).1⟩
   have:=g.s (r:=r) hr
   unfold nxt at this
   dsimp only at this
   rw [qbo hw] at this
   exact this
  rcases h x hx with z | ⟨c,g,lc⟩
  ·obtain ⟨o,c,g⟩:=rr x hx
   exact key o c g (.inr z) (by omega)
  ·exact key _ c g (.inl ⟨rfl,lc⟩) lc
 ·rw [if_neg m]
  exact h y hy
def msr (B:Nat) (ks:List Ky) (F:Ky->Nat):Nat:=(ks.map fun x=>B - F x).sum
theorem qhM {B:Nat} {F G:Ky->Nat}:∀ {ks:List Ky},(∀ x∈ks,F x<=G x)->msr B ks G<=msr B ks F
 | [],_=>Nat.le_refl _
 | x :: ks,h=>by
  have h1:=h x List.mem_cons_self
  have:=qhM (B:=B) (F:=F) (G:=G) (ks:=ks) fun y hy=>h y (mC_ _ hy)
  unfold msr at *
  rw [List.map_cons,List.map_cons,List.sum_cons,List.sum_cons]
  omega
theorem qhL {B:Nat} {F G:Ky->Nat}:∀ {ks:List Ky},(∀ x∈ks,F x<=G x)->(∃ y∈ks,F y < G y/\F y < B)->msr B ks G < msr B ks F
 | [],_,⟨_,h,_⟩=>nomatch h
 | x :: ks,h,⟨y,hy,h1,h2⟩=>by
  have h3:=h x List.mem_cons_self
  have h4:∀ y∈ks,F y<=G y:=fun y hy=>h y (mC_ _ hy)
  rcases List.mem_cons.mp hy with e | hy
  ·subst e
   have:=qhM (B:=B) h4
   unfold msr at *
   rw [List.map_cons,List.map_cons,List.sum_cons,List.sum_cons]
   omega
  ·have:=qhL (B:=B) h4 ⟨y,hy,h1,h2⟩
   unfold msr at *
   rw [List.map_cons,List.map_cons,List.sum_cons,List.sum_cons]
   omega
theorem qlZ {rows:Om.Rows} {F G:Ky->Nat} {S:Ky->Nat->Prop} {oks:List Ky} (h:Ov rows F S oks G) (y:Ky):F y<=cur F oks G y:=by
 unfold cur
 split
 ·rename_i m
  exact Nat.le_of_lt (h.up y m)
 ·exact Nat.le_refl _
theorem qeU {P0 D:Addr} {pos:Pos} {q:Str} {H H':Hp} {kvs:List (List Key×V)} (t:Tab P0 pos q H) (hD:H D=some (.dT kvs)) (s:SameT D H H'):Tab P0 pos q H':=by
 rcases t with z | ⟨c,z1,z2⟩
 ·exact .inl (s _ _ (qaj z hD (fun y=>nomatch y)) z)
 ·exact .inr ⟨c,s _ _ (qaj z1 hD (fun y=>nomatch y)) z1,s _ _ (qaj z2 hD (fun y=>nomatch y)) z2⟩
theorem qbJ {ks:List Ky} {i:Nat} {x:Ky} (nd:ks.Nodup) (h:ks[i]? = some x):Om.adds (ks.take i) x=ks.take (i+1):=by
 have hx:x ∉ ks.take i:=fun m=>by
  have hd:x∈ks.drop i:=by
   have:=mO_ (l:=ks.drop i) (i:=0) (a:=x) (by rw [List.getElem?_drop];exact h)
   exact this
  rw [<-List.take_append_drop i ks] at nd
  exact (List.nodup_append.mp nd).2.2 x m x hd rfl
 unfold Om.adds
 rw [if_neg hx,List.take_add_one,h];rfl
abbrev sGR:Stmt:=top 18
def qmu (P0:Addr):Sp:=fun vs H Q _=>match vs with
 | [cv]=>∃ (k n:Nat) (rows:Om.Rows),DV H cv (qax k n rows)/\Om.CodeOk k n rows/\Tab P0 (qan qav) qSt H/\(∀ x,Rr rows x->x.2.2 < n * rows.length) ∧
   ∀ D kvs qs F H',SameT P0 H H'->Tab P0 (qan qav) qSt H'->H D=none->H' D=some (.dT kvs)->RchL rows qs->RunV kvs (qae qs) F->Snd rows (qae qs) F->(∀ x∈qae qs,∀ r∈rows.getD x.1 [],ctF F x r<=F (tgt r))->Q (.ref D) H'
 | _=>False
theorem scGR:FnScope ["code","runs","key","over"] ["code"] (qad sGR):=⟨rfl,rfl,rfl,by decide +kernel,rfl,by decide +kernel,by decide +kernel⟩
local macro_rules | `(tactic| walk_at "T.e")=>`(tactic| first | (with_reducible exact qbg) | ((with_reducible refine' qlu ?a0 ?a1 ?a2);(case a0=>exact Room.units (by assumption));(case a1=>with_reducible exact vn "runs" 1);(case a2=>walk_at "T.a")) | fail "no")
local macro_rules | `(tactic| walk_at "T.t")=>`(tactic| ((with_reducible refine' qhv ?a1);(case a1=>with_reducible exact vn "over" 3)))
local macro_rules | `(tactic| walk_at "T.g")=>`(tactic| ((with_reducible refine' qa3 ?a0 ?a1 ?a2);(case a0=>exact Room.units (by assumption));(case a1=>with_reducible exact vn "runs" 1);(case a2=>walk_at "T.e")))
theorem qmR {P0:Addr} (D:FnX K mg "greatest_runs" sGR ["code"]) (c1:Can P w K mg base "paper_keys" 5 ["code"] (qcO P0)) (c2:Can P w K mg base "runs_over" 2 ["code","runs"] qdU):Can P w K mg base "greatest_runs" 6 ["code"] (qmu P0):=by
 refine qak (k:=5) D scGR (fun vs H Q E h=>?_) (fun f0 cdv A outer s H vs Q X hr h=>?_)
 all_goals
  unfold qmu at h
  split at h
 ·rfl
 ·exact h.elim
 ·rename_i cv
  obtain ⟨k,n,rows,hc,ok,tb,bd,q⟩:=h
  have nd:=scGR.nd
  have n1:=ok.n1
  have s1':=ok.s1
  obtain ⟨B,hB⟩ : ∃ B,B=n * rows.length:=⟨_,rfl⟩
  have B1:1<=B:=by rw [hB];exact Nat.mul_pos n1 s1'
  rw [<-hB] at bd
  refine ⟨_,(by walk_at "T.top"),?_⟩
  intro D hD
  have z0:=Same.upd (o:=.dT []) hD
  have hD0:upd H D (.dT []) D=some (.dT []):=qaa
  have DP:D≠P0:=fun z=>by obtain ⟨ps,e⟩:=tb.tbl;rw [z,e] at hD;cases hD
  have t0:=tb.mono z0
  have hc0:=hc.mono z0
  generalize upd H D (.dT [])=H0 at z0 hD0 t0 hc0
  dsimp only [qah]
  refine ⟨k,n,rows,hc0,ok,t0,fun l bz qs H1 s1 t1 hl rc kl=>?_⟩
  have hD1:=s1 _ _ DP hD0
  have S1:SameT P0 H H1:=z0.t.trans s1
  obtain ⟨ks,hks⟩ : ∃ ks,ks=qae qs:=⟨_,rfl⟩
  have mk:∀ {x:Ky},x∈ks↔Om.Rch (Om.nxR rows) x.1:=fun {x}=>by rw [hks];exact mem_keysOf.trans (rc.2.1 _)
  have ndk:ks.Nodup:=by
   rw [hks]
   exact qbT (rc.1.imp fun h=>Nat.ne_of_lt h)
  have kl16:ks.length<=16:=by rw [hks,qao];have:=rc.2.2;omega
  have kb:∀ x∈ks,x.1 < rows.length:=fun x hx=>Om.rch_ok ok _ (mk.mp hx)
  have cl:∀ x∈ks,∀ r∈rows.getD x.1 [],∀ b,((r.2,b):Ky)∈ks:=fun x hx r hr b=>mk.mpr (.s (mk.mp hx) (List.mem_map.mpr ⟨r,hr,rfl⟩))
  have wne:∀ x∈ks,∀ r∈rows.getD x.1 [],r.1≠[]:=fun x hx r hr z=>by
   have slt:=kb x hx
   rw [List.getD_eq_getElem?_getD,gE_ slt] at hr
   have okr:=ok.row _ (List.getElem_mem slt) _ hr
   have:=congrArg List.length z
   rw [okr.1] at this
   simp at this
   omega
  rw [<-hks] at kl
  refine ⟨⟨_,SqL.of hl⟩,?_⟩
  have lD:l≠D:=qaj hl hD1 (fun z=>nomatch z)
  refine qam (qag _ l bz) (fun i σ H2=>∃ (v2 v3:Option V) (kvs:List (List Key×V)),σ=[some cv,some (.ref D),v2,v3]/\SameT D H1 H2/\H2 D=some (.dT kvs)/\RunV kvs (ks.take i) (fun _=>0))
   ⟨none,none,[],rfl,SameT.refl _ _,hD1,⟨by simpa using KS.nil,fun x h=>by simp at h⟩⟩ (fun i σ H2 _ ⟨_,_,_,_,s2,_⟩=>SqL.of (s2 _ _ lD hl)) ?_ ?_
  ·rintro i x σ H2 hi hx ⟨v2,v3,kvs,rfl,s2,hD2,rv⟩
   have hi':i < ks.length:=by rw [<-kl.1];exact hi
   obtain ⟨b,b1,b2⟩:=kl.2 i ks[i] (gE_ hi')
   have ta:=qbJ ndk (gE_ hi')
   rw [hx] at b1
   cases b1
   have b2:=s2 _ _ (qaj b2 hD1 (fun z=>nomatch z)) b2
   generalize ks[i]=y at b2 ta
   refine .inr ⟨D,_,rfl,DPut.t (k:=qaM y) hD2 b2 (qai (by have:=rv.kz.len;rw [List.length_take] at this;omega)),?_⟩
   have rp:=rv.put y 0
   rw [ta] at rp
   exact ⟨_,v3,_,rfl,fun b u nb e=>by rw [qac nb];exact s2 _ _ nb e,qaa,⟨rp.kz,fun x hx=>by have:=rp.vl x hx;simpa using this⟩⟩
  ·rintro σ H2 ⟨v2,v3,kvs,rfl,s2,hD2,rv⟩
   rw [kl.1,List.take_length] at rv
   have S2:SameT P0 H H2:=fun b u nb e=>s2 _ _ (qab e hD) (S1 _ _ nb e)
   have t2:=qeU t1 hD1 s2
   clear s2 hD1 hl t1 S1 s1 kl lD
   refine ⟨k,n,rows,kvs,ks,fun _=>0,hc.monoT tb S2,ok,hD2,rv,kb,cl,fun L okvs oks G H3 s3 nL hL ov oo=>?_⟩
   have DL:D≠L:=qab hD2 nL
   refine ⟨fun mm σ H2=>∃ (kvs:List (List Key×V)) (F:Ky->Nat) (L:Addr) (okvs:List (List Key×V)) (oks:List Ky) (G:Ky->Nat),σ=[some cv,some (.ref D),v2,some (.ref L)]/\SameT P0 H H2/\Tab P0 (qan qav) qSt H2/\H2 D=some (.dT kvs)/\RunV kvs ks F/\Snd rows ks F/\D≠L/\H2 L=some (.dT okvs)/\RunV okvs oks G/\Ov rows F (fun x _=>x∈ks) oks G/\mm=msr B ks F,
    ⟨_,kvs,fun _=>0,L,okvs,oks,G,rfl,S2.trans s3.t,t2.mono s3,s3 _ _ hD2,rv,fun x _=>.inl rfl,DL,hL,ov,oo,rfl⟩,?_⟩
   clear S2 t2 hD2 rv s3 nL hL ov oo DL
   rintro mm σ H2 ⟨kvs,F,L,okvs,oks,G,rfl,S2,t2,hD2,rv,sd,DL,hL,ov,oo,rfl⟩
   have sub:∀ y∈oks,y∈ks:=fun y hy=>by
    obtain ⟨x,l,r,hx,hr,rfl,_⟩:=oo.src y hy
    exact cl x hx r (mO_ hr) _
   have Fb:∀ x∈ks,F x < B:=fun x hx=>by
    rcases sd x hx with z | ⟨c,g,le⟩
    ·omega
    ·have:c < B:=bd _ g
     omega
   refine .inr (.inr ⟨okvs,.inl hL,?_⟩)
   refine qaJ (fun c=>?_) (fun c=>?_)
   ·have one:oks≠[]:=fun z=>by
     have h:=ov.kz.len
     rw [z] at h
     have h:okvs=[]:=List.length_eq_zero_iff.mp h
     rw [h] at c
     cases c
    obtain ⟨y,hy⟩:=List.exists_mem_of_ne_nil _ one
    refine ⟨fun σ' H'=>∃ (kvs:List (List Key×V)) (L:Addr) (okvs:List (List Key×V)) (oks':List Ky) (G':Ky->Nat),σ'=[some cv,some (.ref D),v2,some (.ref L)]/\SameT P0 H H'/\Tab P0 (qan qav) qSt H'/\H' D=some (.dT kvs)/\RunV kvs ks (cur F oks G)/\D≠L/\H' L=some (.dT okvs)/\RunV okvs oks' G'/\Ov rows (cur F oks G) (fun x _=>x∈ks) oks' G',?_,?_⟩
    ·rintro σ' H' ⟨kvs,L,okvs,oks',G',rfl,S',t',hD',rv',DL',hL',ov',oo'⟩
     refine ⟨msr B ks (cur F oks G),qhL (fun x _=>qlZ oo x) ⟨y,sub y hy,?_,Fb y (sub y hy)⟩,kvs,cur F oks G,L,okvs,oks',G',rfl,S',t',hD',rv',sd.step (fun x hx=>qhA (mk.mp hx)) wne oo,DL',hL',ov',oo',rfl⟩
     unfold cur
     rw [if_pos hy]
     exact oo.up y hy
    ·have kne:kvs≠[]:=fun z=>by
      have h:=rv.kz.len
      rw [z] at h
      have h:ks=[]:=List.length_eq_zero_iff.mp h.symm
      have:=sub y hy
      rw [h] at this
      cases this
     have hin:∀ p∈okvs,p.1∈kvs.map (·.1):=fun p hp=>by
      have:p.1∈okvs.map (·.1):=List.mem_map.mpr ⟨p,hp,rfl⟩
      rw [ov.kz.ks] at this
      obtain ⟨z,hz,e⟩:=mM_ this
      rw [rv.kz.ks,<-e]
      exact List.mem_map.mpr ⟨z,sub z hz,rfl⟩
     refine ⟨.inr (.inr (.inl ⟨rfl,.inr ⟨_,hD2⟩⟩)),D,L,kvs,okvs,rfl,rfl,DL,hD2,.inl hL,kne,hin,?_⟩
     have s4:SameT D H2 (upd H2 D (.dT (qem kvs okvs))):=fun b u nb e=>by rw [qac nb];exact e
     have hD4:upd H2 D (.dT (qem kvs okvs)) D=some (.dT (qem kvs okvs)):=qaa
     generalize upd H2 D (.dT (qem kvs okvs))=H4 at s4 hD4
     have S4:SameT P0 H H4:=fun b u nb e=>s4 _ _ (qab e hD) (S2 _ _ nb e)
     have t4:=qeU t2 hD2 s4
     have rv4:=rv.upd ov sub
     refine ⟨k,n,rows,qem kvs okvs,ks,cur F oks G,hc.monoT tb S4,ok,hD4,rv4,kb,cl,fun L' okvs' oks' G' H5 s5 nL' hL' ov' oo'=>?_⟩
     exact ⟨_,L',okvs',oks',G',rfl,S4.trans s5.t,t4.mono s5,s5 _ _ hD4,rv4,qab hD4 nL',hL',ov',oo'⟩
   ·have on:oks=[]:=by
     have h:okvs=[]:=by
      cases okvs with
      | nil=>rfl
      | cons _ _=>exact absurd rfl c
     have:=ov.kz.len
     rw [h] at this
     exact List.length_eq_zero_iff.mp this.symm
    subst on
    subst hks
    refine q D kvs qs F _ S2 t2 hD hD2 rc rv sd fun x hx r hr=>?_
    obtain ⟨l,hl⟩:=mG_ hr
    have:=oo.all x l r hx hl
    unfold cur at this
    rwa [if_neg (fun z=>nomatch z)] at this
 ·exact h.elim
end
end K14
end
section
namespace K14
open PySem L2
theorem Lv.cat {E:Nat->Nat->Prop} {a:Nat} {s t:Nat} (h:Lv E [s] a t):∀ {b u:Nat},Lv E [t] b u->Lv E [s] (a+b) u
 | 0,u,h'=>by
  have:u=t:=by simpa [Lv] using h'
  subst this
  exact h
 | b+1,u,⟨v,h1,h2⟩=>⟨v,h.cat h1,h2⟩
theorem Lv.many {E:Nat->Nat->Prop} {d s:Nat} (h:Lv E [s] d s):∀ q,Lv E [s] (d * q) s
 | 0=>List.mem_singleton.mpr rfl
 | q+1=>by rw [Nat.mul_succ];exact (h.many q).cat h
theorem Lv.path {E:Nat->Nat->Prop} {qs:List Nat}:∀ {m t:Nat},Lv E qs m t->∃ f:Nat->Nat,f m=t/\f 0∈qs/\∀ i,i < m->E (f i) (f (i+1))
 | 0,t,h=>⟨fun _=>t,rfl,h,fun i hi=>absurd hi (Nat.not_lt_zero _)⟩
 | m+1,t,⟨s,h1,h2⟩=>by
  obtain ⟨f,f1,f2,f3⟩:=h1.path
  refine ⟨fun i=>if i<=m then f i else t,?_,?_,fun i hi=>?_⟩
  ·show (if m+1<=m then _ else _)=_
   rw [if_neg (by omega)]
  ·show (if 0<=m then _ else _)∈qs
   rw [if_pos (by omega)]
   exact f2
  ·show E (if i<=m then f i else t) (if i+1<=m then f (i+1) else t)
   rw [if_pos (by omega)]
   by_cases c:i+1<=m
   ·rw [if_pos c]
    exact f3 i (by omega)
   ·rw [if_neg c,show i=m by omega,f1]
    exact h2
theorem Lv.round {E:Nat->Nat->Prop} {qs:List Nat} {m t:Nat} (h:Lv E qs m t) (hm:qs.length<=m) (cl:∀ s t,s∈qs->E s t->t∈qs):∃ s∈qs,∃ d,1<=d/\Lv E [s] d s:=by
 obtain ⟨f,f1,f2,f3⟩:=h.path
 have fq:∀ i,i<=m->f i∈qs:=fun i=>by
  induction i with
  | zero=>exact fun _=>f2
  | succ i ih=>exact fun hi=>cl _ _ (ih (by omega)) (f3 i (by omega))
 have two:∃ i j,i < j/\j<=m/\f i=f j:=by
  refine Classical.byContradiction fun z=>?_
  have nd:((List.range (m+1)).map f).Nodup:=Om.nodup_on (fun a ha b hb e=>by
   rw [List.mem_range] at ha hb
   refine Classical.byContradiction fun ne=>?_
   rcases Nat.lt_or_gt_of_ne ne with l | l
   ·exact z ⟨a,b,l,by omega,e⟩
   ·exact z ⟨b,a,l,by omega,e.symm⟩) List.nodup_range
  have:=qbh nd fun x hx=>by
   obtain ⟨i,hi,rfl⟩:=mM_ hx
   rw [List.mem_range] at hi
   exact fq i (by omega)
  rw [lM_,List.length_range] at this
  omega
 obtain ⟨i,j,ij,jm,e⟩:=two
 have go:∀ d,i+d<=m->Lv E [f i] d (f (i+d)):=fun d=>by
  induction d with
  | zero=>exact fun _=>List.mem_singleton.mpr rfl
  | succ d ih=>exact fun hd=>⟨_,ih (by omega),f3 (i+d) (by omega)⟩
 refine ⟨f i,fq i (by omega),j - i,by omega,?_⟩
 have:=go (j - i) (by omega)
 rwa [show i+(j - i)=j by omega,<-e] at this
theorem qfG {rows:Om.Rows} {x:Nd} (wne:∀ s,Om.Rch (Om.nxR rows) s->∀ r∈rows.getD s [],r.1≠[]) (h:Rr rows x):x.2.1=none->x.2.2=0:=by
 cases h with
 | z=>exact fun _=>rfl
 | @s x r g hr=>
  intro e
  have:=qbo (wne _ (qcR g) r hr) x.2.1 x.2.2
  rw [show (nxt x r).2.1=(pb x.2.1 x.2.2 r.1).1 from rfl,this] at e
  cases e
theorem qeh {rows:Om.Rows} {k n:Nat} (ok:Om.CodeOk k n rows) {s:Nat} (hs:Om.Rch (Om.nxR rows) s) {r:List Bool×Nat} (hr:r∈rows.getD s []):r.1.length=n/\r.1≠[]:=by
 have slt:=Om.rch_ok ok _ hs
 rw [List.getD_eq_getElem?_getD,gE_ slt] at hr
 have okr:=ok.row _ (List.getElem_mem slt) _ hr
 refine ⟨okr.1,fun z=>?_⟩
 have h1:=okr.1
 rw [z] at h1
 have:=ok.n1
 simp at h1
 omega
theorem qgE {rows:Om.Rows} {k n:Nat} (ok:Om.CodeOk k n rows) {qs:List Nat} (rc:RchL rows qs) {x:Nd} (h:Rr rows x):∀ j b,x.2.1=some b->n * j<=x.2.2->Lv (Ed rows b) qs j x.1:=by
 induction h with
 | z=>exact fun j b e=>nomatch e
 | @s x r g hr ih=>
  intro j b e le
  obtain ⟨wl,wne⟩:=qeh ok (qcR g) hr
  cases j with
  | zero=>exact (rc.2.1 _).mpr (.s (qcR g) (List.mem_map.mpr ⟨r,hr,rfl⟩))
  | succ i=>
   have le:n * (i+1)<=(pb x.2.1 x.2.2 r.1).2.1:=le
   rw [Nat.mul_succ] at le
   obtain ⟨b',b1,b2,b3⟩:=qje (o:=x.2.1) (c:=x.2.2) (p:=x.2.2) wne (by rw [wl];exact Nat.le_trans (Nat.le_add_left _ _) le)
   have e:(pbs x.2.1 x.2.2 x.2.2 r.1).1=some b:=e
   rw [b2] at e
   cases e
   have le:n * i+n<=(pbs x.2.1 x.2.2 x.2.2 r.1).2.1:=le
   rw [b3,wl] at le
   refine ⟨x.1,?_,r,hr,rfl,b1⟩
   by_cases c:x.2.1=some b
   ·rw [if_pos c] at le
    exact ih i b c (by omega)
   ·rw [if_neg c] at le
    have z:n * i=0:=by omega
    have:=ok.n1
    have i0:i=0:=by
     rcases Nat.mul_eq_zero.mp z with h | h
     ·omega
     ·exact h
    subst i0
    exact (rc.2.1 _).mpr (qcR g)
theorem qdL {rows:Om.Rows} {k n:Nat} (ok:Om.CodeOk k n rows) {s:Nat} {b:Bool} (h0:∃ o c,Rr rows (s,o,c)):∀ {j t:Nat},Lv (Ed rows b) [s] j t->j=0\/∃ c,Rr rows (t,some b,c)/\n * j<=c
 | 0,_,_=>.inl rfl
 | j+1,t,⟨s',h1,r,hr,e,all⟩=>by
  subst e
  right
  have key:∀ o c,Rr rows (s',o,c)->n * j<=c->(j=0\/o=some b)->∃ c',Rr rows (r.2,some b,c')/\n * (j+1)<=c':=fun o c g le z=>by
   obtain ⟨wl,wne⟩:=qeh ok (qcR g) hr
   have sm:=qd4 all (c:=0) (p:=0)
   have lbb:lb r.1=b:=by
    have:=qbo wne (some b) 0
    rw [show (pb (some b) 0 r.1).1=some b from sm.2] at this
    exact (oI_ this).symm
   have gn:=g.s (r:=r) hr
   unfold nxt at gn
   dsimp only at gn
   rw [qbo wne,lbb] at gn
   refine ⟨_,gn,?_⟩
   rcases z with z | z
   ·subst z
    have h1:=(qfA wne (o:=some b) (c:=0) (o':=o) (c':=c) (.inr rfl) (Nat.zero_le _)).1
    have h2:(pb (some b) 0 r.1).2.1=0+r.1.length:=sm.1
    rw [h2,wl] at h1
    omega
   ·subst z
    have h2:(pb (some b) c r.1).2.1=c+r.1.length:=(qd4 all (c:=c) (p:=c)).1
    rw [h2,wl,Nat.mul_succ]
    omega
  rcases qdL ok h0 h1 with z | ⟨c,g,le⟩
  ·subst z
   have:s'=s:=by simpa [Lv] using h1
   subst this
   obtain ⟨o,c,g⟩:=h0
   exact key o c g (by omega) (.inl rfl)
  ·exact key _ c g le (.inr rfl)
theorem qjA {rows:Om.Rows} {k n:Nat} (ok:Om.CodeOk k n rows) {qs:List Nat} (rc:RchL rows qs) (h:∀ b t,¬ Lv (Ed rows b) qs qs.length t):∀ x,Rr rows x->x.2.2 < n * rows.length:=fun x g=>by
 refine Classical.byContradiction fun z=>?_
 have z:n * rows.length<=x.2.2:=by omega
 have ql:qs.length<=rows.length:=Om.nodup_len _ _ (rc.1.imp fun h=>Nat.ne_of_lt h) fun s hs=>Om.rch_ok ok _ ((rc.2.1 s).mp hs)
 have:=Nat.mul_le_mul_left n ql
 have pos:0 < n * rows.length:=Nat.mul_pos ok.n1 ok.s1
 cases e:x.2.1 with
 | none=>
  have:=qfG (fun s hs r hr=>(qeh ok hs hr).2) g e
  omega
 | some b=>exact h b x.1 (qgE ok rc g _ b e (by omega))
theorem qhc {rows:Om.Rows} {k n:Nat} (ok:Om.CodeOk k n rows) {qs:List Nat} (rc:RchL rows qs) (h:∃ b t,Lv (Ed rows b) qs qs.length t):∃ x,Rr rows x/\n * rows.length<=x.2.2:=by
 obtain ⟨b,t,h⟩:=h
 obtain ⟨s,hs,d,d1,hd⟩:=h.round (Nat.le_refl _) fun s t hs ⟨r,hr,e,_⟩=>(rc.2.1 t).mpr (.s ((rc.2.1 s).mp hs) (List.mem_map.mpr ⟨r,hr,e⟩))
 have s1:=ok.s1
 rcases qdL ok (qhA ((rc.2.1 s).mp hs)) (hd.many rows.length) with z | ⟨c,g,le⟩
 ·rcases Nat.mul_eq_zero.mp z with h | h<;>omega
 ·refine ⟨_,g,Nat.le_trans (Nat.mul_le_mul_left n ?_) le⟩
  have:=Nat.mul_le_mul_right rows.length d1
  omega
end K14
end
section
namespace K14
open PySem L2
section
variable {P:Program} {w:World} {K:PySem.W.Frag} {mg:Str->Option Value} {base:Heap}
abbrev qfn:Stmt:=top 25
def Drn (ds:List Int):Prop:=∀ d∈ds,0<=d/\d < 10007
theorem Drn.add {ds:List Int} (h:Drn ds) {c:Int} (h0:0<=c) (h1:c < 10007):Drn (ds++[c]):=fun d hd=>by
 rcases mA_ hd with z | z
 ·exact h d z
 ·have e:d=c:=by simpa using z
  rw [e];exact ⟨h0,h1⟩
def qdn (K:PySem.W.Frag):Sp:=fun vs H Q _=>match vs with
 | [.ref a,.int many]=>∃ (ns:List Int) (mN:Nat),SqL K H a (ns.map V.int)/\ns.length<=63/\many=(mN:Nat)/\mN<=170/\∀ l (ds:List Int) H',Same H H'->H' l=some (.lst (ds.map V.int))->mN<=ds.length->Drn ds->Q (.ref l) H'
 | _=>False
theorem scDraws:FnScope ["script","many","drawn","base","k","cell","number","one"] ["script","many"] (qad qfn):=⟨rfl,rfl,rfl,by decide +kernel,rfl,by decide +kernel,by decide +kernel⟩
local macro_rules | `(tactic| walk_at "T.b")=>`(tactic| ((with_reducible refine' qlU ?a0 ?a9 ?a1);(case a0=>with_reducible assumption);(case a9=>rfl);(case a1=>walk_at "T.a")))
local macro_rules | `(tactic| walk_at "T.e")=>`(tactic| ((with_reducible refine' qct slS ?a1 ?a2 ?a3);(case a1=>with_reducible exact vn "script" 0);(case a2=>walk_at "T.o");(case a3=>walk_at "T.o")))
theorem qg4 (D:FnX K mg "_law_draws" qfn ["script","many"]) (g1:mg "enumerate" = none) (g2:mg "abs" = none) (g3:mg "len" = none) (g4:mg "range" = none):Can P w K mg base "_law_draws" 1 ["script","many"] (qdn K):=by
 refine qak (k:=0) D scDraws (fun vs H Q E h=>?_) (fun f cdv A outer s H vs Q E hr h=>?_)
 all_goals
  unfold qdn at h
  split at h
 ·rfl
 ·exact h.elim
 ·rename_i a many
  obtain ⟨ns,mN,hS,h63,rfl,m200,q⟩:=h
  have nd:=scDraws.nd
  refine ⟨_,(by walk_at "T.top"),?_⟩
  refine ⟨Nat.zero_le _,fun L hL=>?_⟩
  have s0:Same H (upd H L (.lst [])):=Same.upd hL
  refine ⟨_,s0.seq hS,fun S hSl=>?_⟩
  obtain ⟨ms,em,ml⟩:=qf9 ns none (some 63)
  rw [em]
  have s1:=s0.trans (Same.upd (o:=.lst (ms.map V.int)) hSl)
  have SL:S≠L:=fun z=>by rw [z,qaa] at hSl;cases hSl
  refine ⟨⟨_,SqL.of qaa⟩,?_⟩
  have nS:H S=none:=s0.free hSl
  refine qhU (qbE _ S (ms.map V.int)) (fun i σ H2=>∃ (v4 v5 v6 v7:Option V) (b:Int) (ds:List Int),σ=[some (.ref a),some (.int (mN:Nat)),some (.ref L),some (.int b),v4,v5,v6,v7]/\Same H H2/\H2 L=some (.lst (ds.map V.int))/\H2 S=some (.lst (ms.map V.int))/\Drn ds/\ds.length<=(mN:Nat)+2 * i)
   ⟨none,none,none,none,7,[],rfl,s1,Same.upd hSl _ _ qaa,qaa,(fun d hd=>nomatch hd),Nat.zero_le _⟩ (fun i σ H2 _ ⟨_,_,_,_,_,_,_,_,_,h,_⟩=>h) ?_ ?_
  ·rintro i t σ H2 hi ⟨v4,v5,v6,v7,b,ds,rfl,s2,hL2,hS2,dr,dl⟩ ht
   rw [lM_] at hi
   have ei:(ms.map V.int).getD i .non = .int ms[i]:=by rw [List.getD_eq_getElem?_getD,gM_,gE_ hi];rfl
   rw [ei]
   generalize ms[i]=c
   have s3:=s2.trans (Same.upd (o:=.tup [.int (i:Nat),.int c]) ht)
   have hL3:=Same.upd (o:=.tup [.int (i:Nat),.int c]) ht _ _ hL2
   have hS3:=Same.upd (o:=.tup [.int (i:Nat),.int c]) ht _ _ hS2
   have ht3:upd H2 t (.tup [.int (i:Nat),.int c]) t=some (.tup [.int (i:Nat),.int c]):=qaa
   generalize upd H2 t (.tup [.int (i:Nat),.int c])=H3 at s3 hL3 hS3 ht3 ⊢
   refine ⟨_,.inl ht3,rfl,rfl,?_⟩
   have n0:0<=(if c < 0 then -c else c):=by split<;>omega
   refine ⟨.inr ⟨by decide,by decide⟩,(by decide:(0:Int) < 2147483629),?_⟩
   dsimp only [qah,qaS]
   generalize (b * 31+(if c < 0 then -c else c)) % 2147483629=b2
   generalize (if c < 0 then -c else c)=number at n0
   refine ⟨⟨by decide,by decide,by decide⟩,qaJ (fun _=>?_) (fun _=>?_)⟩
   ·refine ⟨fun m σ H4=>∃ (z:Int) (ds:List Int),σ=[some (.ref a),some (.int (mN:Nat)),some (.ref L),some (.int b2),some (.int (i:Nat)),some (.int c),some (.int z),v7]/\Same H H4/\H4 L=some (.lst (ds.map V.int))/\H4 S=some (.lst (ms.map V.int))/\Drn ds/\ds.length<=(mN:Nat)+2 * i/\m=z.toNat,⟨_,number,ds,rfl,s3,hL3,hS3,dr,dl,rfl⟩,?_⟩
    rintro m σ H4 ⟨z,ds,rfl,s4,hL4,hS4,dr4,dl4,rfl⟩
    have out:∃ (v4 v5 v6 v7':Option V) (b:Int) (ds':List Int),[some (V.ref a),some (V.int (mN:Nat)),some (V.ref L),some (V.int b2),some (V.int (i:Nat)),some (V.int c),some (V.int z),v7]=[some (V.ref a),some (V.int (mN:Nat)),some (V.ref L),some (V.int b),v4,v5,v6,v7']/\Same H H4/\H4 L=some (HO.lst (ds'.map V.int))/\H4 S=some (HO.lst (ms.map V.int))/\Drn ds'/\ds'.length<=(mN:Nat)+2 * (i+1):=⟨_,_,_,_,_,ds,rfl,s4,hL4,hS4,dr4,by omega⟩
    refine qaJ (fun c1=>?_) (fun c1=>?_)
    ·have z0:0 < z:=of_decide_eq_true c1
     refine ⟨_,qcV hL4,qaJ (fun c2=>?_) (fun c2=>?_)⟩
     ·have l0:=of_decide_eq_true c2
      rw [lM_] at l0
      refine ⟨fun σ H4=>∃ (z':Int) (ds:List Int),σ=[some (.ref a),some (.int (mN:Nat)),some (.ref L),some (.int b2),some (.int (i:Nat)),some (.int c),some (.int z'),v7]/\Same H H4/\H4 L=some (.lst (ds.map V.int))/\H4 S=some (.lst (ms.map V.int))/\Drn ds/\ds.length<=(mN:Nat)+2 * i/\z'.toNat < z.toNat,fun σ' H' ⟨z',ds',e,a1,a2,a3,a4,a5,a6⟩=>⟨z'.toNat,a6,z',ds',e,a1,a2,a3,a4,a5,rfl⟩,?_⟩
      have r0:=Int.emod_nonneg z (show (10007:Int)≠0 by decide)
      have r1:=Int.emod_lt_of_pos z (show (0:Int) < 10007 by decide)
      refine ⟨⟨_,rfl,hL4⟩,(by decide:(0:Int) < 10007),_,hL4,qai (by rw [lM_];omega),⟨by decide,by decide⟩,?_⟩
      refine ⟨z / 10007,ds++[z % 10007],rfl,s4.own hL,by rw [List.map_append];exact qaa,by rw [qac SL];exact hS4,dr4.add r0 r1,?_,?_⟩
      ·rw [lA_,List.length_singleton];omega
      ·omega
     ·exact out
    ·exact out
   ·have x1:=Int.emod_nonneg ((number % 2147483647+(i:Int)+1) * 48271) (show (2147483647:Int)≠0 by decide)
    have x2:=Int.emod_lt_of_pos ((number % 2147483647+(i:Int)+1) * 48271) (show (0:Int) < 2147483647 by decide)
    refine ⟨(by decide:(0:Int) < 2147483647),.inr ⟨by decide,by decide⟩,(by decide:(0:Int) < 2147483647),?_⟩
    dsimp only [qah,qaS]
    generalize ((number % 2147483647+(i:Int)+1) * 48271) % 2147483647=y1 at x1 x2 ⊢
    refine ⟨.inl ⟨by omega,by omega⟩,(by decide:(0:Int) < 2147483629),?_⟩
    have x3:=Int.emod_nonneg (y1 * y1) (show (2147483629:Int)≠0 by decide)
    have x4:=Int.emod_lt_of_pos (y1 * y1) (show (0:Int) < 2147483629 by decide)
    dsimp only [qah,qaS]
    generalize (y1 * y1) % 2147483629=y2 at x3 x4 ⊢
    have p1:=Int.emod_nonneg (y2 / 8) (show (10007:Int)≠0 by decide)
    have p2:=Int.emod_lt_of_pos (y2 / 8) (show (0:Int) < 10007 by decide)
    refine ⟨⟨_,rfl,hL3⟩,⟨by decide,by decide⟩,(by decide:(0:Int) < 10007),_,hL3,qai (by rw [lM_];omega),?_⟩
    refine ⟨.inr ⟨by decide,by decide⟩,.inl ⟨by decide,by decide⟩,(by decide:(0:Int) < 2147483563),?_⟩
    have x5:=Int.emod_nonneg (y2 * 40692+2 * (i:Int)+1) (show (2147483563:Int)≠0 by decide)
    have x6:=Int.emod_lt_of_pos (y2 * 40692+2 * (i:Int)+1) (show (0:Int) < 2147483563 by decide)
    dsimp only [qah,qaS]
    generalize (y2 * 40692+2 * (i:Int)+1) % 2147483563=y3 at x5 x6 ⊢
    refine ⟨.inl ⟨by omega,by omega⟩,(by decide:(0:Int) < 2147483647),?_⟩
    dsimp only [qah,qaS]
    generalize (y3 * y3) % 2147483647=y4
    have p3:=Int.emod_nonneg (y4 / 8) (show (10007:Int)≠0 by decide)
    have p4:=Int.emod_lt_of_pos (y4 / 8) (show (0:Int) < 10007 by decide)
    have hL5:upd H3 L (.lst ((ds++[y2 / 8 % 10007]).map V.int)) L=some (.lst ((ds++[y2 / 8 % 10007]).map V.int)):=qaa
    rw [show ds.map V.int++[V.int (y2 / 8 % 10007)]=(ds++[y2 / 8 % 10007]).map V.int by rw [List.map_append];rfl]
    refine ⟨⟨_,rfl,hL5⟩,⟨by decide,by decide⟩,(by decide:(0:Int) < 10007),_,hL5,qai (by rw [lM_,lA_,List.length_singleton];omega),?_⟩
    refine ⟨_,_,_,_,_,(ds++[y2 / 8 % 10007])++[y4 / 8 % 10007],rfl,(s3.own hL).own hL,by rw [qaa,List.map_append (l₁:=ds++[y2 / 8 % 10007])];rfl,by rw [qac SL,qac SL];exact hS3,(dr.add p1 p2).add p3 p4,?_⟩
    rw [lA_,lA_,List.length_singleton,List.length_singleton]
    omega
  ·rintro σ H2 ⟨v4,v5,v6,v7,b,ds0,rfl,s2,hL2,hS2,dr,dl⟩
   rw [lM_] at dl
   refine ⟨_,qcV hL2,by rw [lM_];omega,by rw [lM_];omega,?_⟩
   refine qam (qaC 0 _) (fun i σ H3=>∃ (v4 v5 v6 v7:Option V) (ds:List Int),σ=[some (.ref a),some (.int (mN:Nat)),some (.ref L),some (.int b),v4,v5,v6,v7]/\Same H H3/\H3 L=some (.lst (ds.map V.int))/\Drn ds/\ds.length<=300+i/\(mN:Nat) - ds.length<=((mN:Nat) - ((ds0.map V.int).length:Int)).toNat - i)
    ⟨v4,v5,v6,v7,ds0,rfl,s2,hL2,dr,by omega,by rw [lM_];omega⟩ (fun _ _ _ _ _=>trivial) ?_ ?_
   ·rintro i x σ H3 hi hx ⟨v4,v5,v6,v7,ds,rfl,s3,hL3,dr,dl,dm⟩
    rw [lM_,List.length_range] at hi
    have ex:x=V.int (i:Nat):=by
     rw [gM_,List.getElem?_range hi] at hx
     have:=oI_ hx
     rw [<-this];simp
    subst ex
    have x1:=Int.emod_nonneg (b+7919 * (i:Int)+13) (show (2147483629:Int)≠0 by decide)
    have x2:=Int.emod_lt_of_pos (b+7919 * (i:Int)+13) (show (0:Int) < 2147483629 by decide)
    refine ⟨.inl ⟨by decide,by decide⟩,(by decide:(0:Int) < 2147483629),?_⟩
    dsimp only [qah,qaS]
    generalize (b+7919 * (i:Int)+13) % 2147483629=y1 at x1 x2 ⊢
    refine ⟨.inl ⟨by omega,by omega⟩,(by decide:(0:Int) < 2147483647),?_⟩
    dsimp only [qah,qaS]
    generalize (y1 * y1) % 2147483647=y2
    refine ⟨.inr ⟨by decide,by decide⟩,(by decide:(0:Int) < 2147483563),?_⟩
    have x5:=Int.emod_nonneg (y2 * 69621+(i:Int)) (show (2147483563:Int)≠0 by decide)
    have x6:=Int.emod_lt_of_pos (y2 * 69621+(i:Int)) (show (0:Int) < 2147483563 by decide)
    dsimp only [qah,qaS]
    generalize (y2 * 69621+(i:Int)) % 2147483563=y3 at x5 x6 ⊢
    refine ⟨⟨_,rfl,hL3⟩,.inl ⟨by omega,by omega⟩,(by decide:(0:Int) < 2147483629),⟨by decide,by decide⟩,(by decide:(0:Int) < 10007),_,hL3,qai (by rw [lM_];omega),?_⟩
    have p1:=Int.emod_nonneg (y3 * y3 % 2147483629 / 8) (show (10007:Int)≠0 by decide)
    have p2:=Int.emod_lt_of_pos (y3 * y3 % 2147483629 / 8) (show (0:Int) < 10007 by decide)
    refine ⟨_,_,_,_,ds++[y3 * y3 % 2147483629 / 8 % 10007],rfl,s3.own hL,by rw [qaa,List.map_append];rfl,dr.add p1 p2,?_,?_⟩
    ·rw [lA_,List.length_singleton];omega
    ·rw [lA_,List.length_singleton];omega
   ·rintro σ H3 ⟨v4,v5,v6,v7,ds,rfl,s3,hL3,dr,dl,dm⟩
    rw [lM_,lM_,List.length_range] at dm
    exact q L ds _ s3 hL3 (by omega) dr
 ·exact h.elim
end
end K14
end
section
namespace K14
open PySem L2
section
variable {P:Program} {w:World} {K:PySem.W.Frag} {mg:Str->Option Value} {base:Heap}
abbrev qmG:Stmt:=top 27
def qio:Sp:=fun vs H Q _=>match vs with
 | [.int x,.int st,.int many,.bl turns,.bl begins]=>∃ m:Nat,many=(m:Nat)/\1<=m/\∀ b:Nat,b < m->Q (.int (b:Nat)) H
 | _=>False
theorem scBeh:FnScope ["x","state","many","turns","begins","behind"] ["x","state","many","turns","begins"] (qad qmG):=⟨rfl,rfl,rfl,by decide +kernel,rfl,by decide +kernel,by decide +kernel⟩
theorem qlr (D:FnX K mg "_law_behind" qmG ["x","state","many","turns","begins"]):Can P w K mg base "_law_behind" 1 ["x","state","many","turns","begins"] qio:=by
 refine qak (k:=0) D scBeh (fun vs H Q E h=>?_) (fun f cdv A outer s H vs Q E hr h=>?_)
 all_goals
  unfold qio at h
  split at h
 ·rfl
 ·exact h.elim
 ·rename_i x st many turns begins
  obtain ⟨m,rfl,m1,q⟩:=h
  have nd:=scBeh.nd
  refine ⟨_,(by walk_at "T.top"),?_⟩
  have m0:(0:Int) < (m:Nat):=by omega
  have a0:=Int.emod_nonneg x (show ((m:Nat):Int)≠0 by omega)
  have a1:=Int.emod_lt_of_pos x m0
  refine ⟨m0,?_⟩
  dsimp only [qah,qaS]
  generalize x % ((m:Nat):Int)=y at a0 a1
  refine qbL (fun σ H2=>∃ y:Int,σ=[some (.int x),some (.int st),some (.int (m:Nat)),some (.bl turns),some (.bl begins),some (.int y)]/\H2=H/\0<=y/\y < (m:Nat)) ?_ (fun fin=>?_)
  ·rintro σ H2 ⟨y,rfl,rfl,y0,y1⟩
   refine qbL (fun σ H3=>∃ y:Int,σ=[some (.int x),some (.int st),some (.int (m:Nat)),some (.bl turns),some (.bl begins),some (.int y)]/\H3=H2/\0<=y/\y < (m:Nat)) ?_ (fun fin=>?_)
   ·rintro σ H3 ⟨y,rfl,rfl,y0,y1⟩
    have:=q y.toNat (by omega)
    rw [Int.toNat_of_nonneg y0] at this
    exact this
   ·cases begins
    ·exact fin _ _ ⟨y,rfl,rfl,y0,y1⟩
    ·refine qaJ (fun c1=>?_) (fun c1=>fin _ _ ⟨y,rfl,rfl,y0,y1⟩)
     exact fin _ _ ⟨_,rfl,rfl,by omega,by omega⟩
  ·cases turns
   ·exact fin _ _ ⟨y,rfl,rfl,a0,a1⟩
   ·refine ⟨(by decide:(0:Int) < 2),(by decide:(0:Int) < 2),qaJ (fun c1=>?_) (fun c1=>fin _ _ ⟨y,rfl,rfl,a0,a1⟩)⟩
    exact ⟨m0,fin _ _ ⟨_,rfl,rfl,Int.emod_nonneg _ (by omega),Int.emod_lt_of_pos _ m0⟩⟩
 ·exact h.elim
def qb2 (n:Nat):List (List Bool):=(List.range (2 ^ n)).map fun x=>(List.range n).map fun j=>x.testBit j
theorem qbG {n:Nat}:∀ w∈qb2 n,w.length=n:=fun w hw=>by
 obtain ⟨x,_,rfl⟩:=mM_ hw
 simp
theorem qfd:∀ n,n<=6->1 < n->∃ w∈qb2 n,((!(Builtin.Str.occurrences (bs w) ("0" : Str) 0 (bs w).length 1).isEmpty) && (!(Builtin.Str.occurrences (bs w) ("1" : Str) 0 (bs w).length 1).isEmpty))=true:=by
 decide +kernel
theorem qfc:∀ n,n<=6->∀ o,o<=n->∃ w∈qb2 n,Txt.count (bs w) ("1" : Str)=(o:Nat):=by
 decide +kernel
end
end K14
end
section
namespace K14
open PySem L2
section
variable {P:Program} {w:World} {K:PySem.W.Frag} {mg:Str->Option Value} {base:Heap}
theorem qeN (f:V->Bool) (ws:List (List Bool)):(ws.map fun w=>V.str (bs w)).filter f=(ws.filter fun w=>f (.str (bs w))).map fun w=>V.str (bs w):=by
 rw [List.filter_map];rfl
abbrev qiA:Stmt:=top 26
def qe5:Sp:=fun vs H Q _=>match vs with
 | [.ref ev,.int way,.int st,.int rise]=>∃ n:Nat,1<=n/\n<=6/\H ev=some (WS (qb2 n))/\0<=way/\way < 5 ∧
   ∀ l (ws:List (List Bool)) H',Same H H'->H' l=some (WS ws)->ws≠[]->ws.length<=64->(∀ w∈ws,w.length=n)->Q (.ref l) H'
 | _=>False
theorem scSome:FnScope ["every","way","state","rise","n","ones"] ["every","way","state","rise"] (qad qiA):=⟨rfl,rfl,rfl,by decide +kernel,rfl,by decide +kernel,by decide +kernel⟩
local macro_rules | `(tactic| walk_at "T.c")=>`(tactic| (have ndc:(["word"]:List Str).Nodup:=(by decide +kernel));((with_reducible refine' qaF ["word"] [] ?b1 ?b2 (fun cl C s H fp=>?b3) (fun cl C s H fp=>?b4) (fun cl C s H fp=>?b5));(case b1=>exact ndc);(case b2=>walk_at "T.i");(case b3=>walk_at "T.g");(case b4=>walk_at "T.pf");(case b5=>walk_at "T.e")))
local macro_rules | `(tactic| walk_at "T.c")=>`(tactic| (have ndc:(["word","ones"]:List Str).Nodup:=(by decide +kernel));((with_reducible refine' qaF ["word","ones"] [5] ?b1 ?b2 (fun cl C s H fp=>?b3) (fun cl C s H fp=>?b4) (fun cl C s H fp=>?b5));(case b1=>exact ndc);(case b2=>walk_at "T.i");(case b3=>walk_at "T.g");(case b4=>((with_reducible refine' qhH ?a1);(case a1=>((with_reducible refine' qki ?a1 ?a2 ?a3);(case a1=>walk_at "T.cmp");(case a2=>walk_at "T.e");(case a3=>walk_at "T.e")))));(case b5=>walk_at "T.e")))
local macro_rules | `(tactic| walk_at "T.cmp")=>`(tactic| (with_reducible exact qlf))
theorem qjo (D:FnX K mg "_law_some" qiA ["every","way","state","rise"]) (g1:mg "len" = none):Can P w K mg base "_law_some" 1 ["every","way","state","rise"] qe5:=by
 refine qak (k:=0) D scSome (fun vs H Q E h=>?_) (fun f cdv A outer s H vs Q E hr h=>?_)
 all_goals
  unfold qe5 at h
  split at h
 ·rfl
 ·exact h.elim
 ·rename_i ev way st rise
  obtain ⟨n,n1,n6,he,w0,w5,q⟩:=h
  have nd:=scSome.nd
  refine ⟨_,(by walk_at "T.top"),?_⟩
  have al:(qb2 n).length=2 ^ n:=by unfold qb2;rw [lM_,List.length_range]
  have a64:(qb2 n).length<=64:=by
   rw [al]
   calc 2 ^ n<=2 ^ 6:=Nat.pow_le_pow_right (by decide) n6
    _<=64:=by decide
  have a1:0 < (qb2 n).length:=by rw [al];exact Nat.two_pow_pos n
  have g0:(qb2 n)[0]? = some (qb2 n)[0]:=gE_ a1
  refine ⟨.str (bs (qb2 n)[0]),gl he (by decide) (qhu g0),_,qnS (qaf (by rw [qbG _ (List.getElem_mem a1)];omega)),?_⟩
  rw [qbG _ (List.getElem_mem a1)]
  have fin:∀ (H1:Hp) (_:Same H H1) (f:V->Bool) (l:Addr) (H':Hp),H1 l=none->H'=upd H1 l (.lst (((qb2 n).map fun w=>V.str (bs w)).filter f))->(∃ w∈qb2 n,f (.str (bs w))=true)->Q (.ref l) H':=fun H1 s1 f l H' hl e ⟨w,hw,fw⟩=>by
   subst e
   rw [qeN]
   refine q l _ _ (s1.trans (Same.upd hl)) qaa (fun z=>?_) (Nat.le_trans (List.length_filter_le _ _) a64) (fun w hw=>qbG w (List.mem_filter.mp hw).1)
   have:w∈(qb2 n).filter fun w=>f (.str (bs w)):=List.mem_filter.mpr ⟨hw,fw⟩
   rw [z] at this
   exact nomatch this
  have wz:((qb2 n).map fun w=>V.str (bs w)).length<=sizeLine:=by rw [qht];exact qaf (by omega)
  have wx:∀ {i:Nat} {x:V},((qb2 n).map fun w=>V.str (bs w))[i]? = some x->∃ w,x = .str (bs w):=fun {i x} hx=>by
   rw [gM_] at hx
   obtain ⟨w,_,e⟩:=Option.map_eq_some_iff.mp hx
   exact ⟨w,e.symm⟩
  dsimp only [qah]
  refine qbL (fun σ H2=>σ=[some (.ref ev),some (.int way),some (.int st),some (.int rise),some (.int (n:Nat)),none]/\H2=H) ?_ (fun fin2=>?_)
  ·rintro σ H2 ⟨rfl,rfl⟩
   refine ⟨⟨by decide,by decide⟩,(by decide:(0:Int) < 2),⟨by decide,by decide⟩,⟨by decide,by decide⟩,lZ_ rfl,fun p hp=>?_⟩
   have s1:Same H2 (upd H2 p (.lst [.int 0,.int 0,.int ((n:Int) / 2),.int (((n:Int)+1 - st % 2) / 2),.int (((n:Int)+rise) / 2)])):=Same.upd hp
   obtain ⟨ones,eo⟩ : ∃ ones:Int,[V.int 0,.int 0,.int ((n:Int) / 2),.int (((n:Int)+1 - st % 2) / 2),.int (((n:Int)+rise) / 2)][way.toNat]? = some (.int ones):=by
    have:way=0\/way=1\/way=2\/way=3\/way=4:=by omega
    rcases this with rfl | rfl | rfl | rfl | rfl
    ·exact ⟨_,rfl⟩
    ·exact ⟨_,rfl⟩
    ·exact ⟨_,rfl⟩
    ·exact ⟨_,rfl⟩
    ·exact ⟨_,rfl⟩
   refine ⟨.int ones,gl qaa w0 eo,?_⟩
   generalize upd H2 p (.lst [.int 0,.int 0,.int ((n:Int) / 2),.int (((n:Int)+1 - st % 2) / 2),.int (((n:Int)+rise) / 2)])=H3 at s1 ⊢
   dsimp only [qah]
   have he3:=s1 _ _ he
   have every:Q (.ref ev) H3:=q ev (qb2 n) H3 s1 he3 (fun z=>by rw [z] at a1;exact absurd a1 (by decide)) a64 qbG
   refine qbL (fun σ H4=>σ=[some (.ref ev),some (.int way),some (.int st),some (.int rise),some (.int (n:Nat)),some (.int ones)]/\H4=H3/\0<=ones/\ones<=(n:Int)) ?_ (fun fin2=>?_)
   ·rintro σ H4 ⟨rfl,rfl,o0,o1⟩
    refine ⟨⟨_,SqL.of he3⟩,fun D hD=>?_⟩
    refine qc0 (qag _ ev _) (fun v=>match v with | .str z=>decide ((Txt.count z ("1" : Str):Int)=ones) | _=>false) wz (fun o=>SqL.upd he3 hD) (fun i x ys hx C c=>?_) (fun i x ys hx C c=>c) ?_
    ·obtain ⟨w,rfl⟩:=wx hx
     exact ⟨rfl,c⟩
    ·obtain ⟨w,hw,e⟩:=qfc n n6 ones.toNat (by omega)
     exact fin _ s1 _ D _ hD rfl ⟨w,hw,decide_eq_true (by rw [e];omega)⟩
   ·refine qaJ (fun c1=>every) (fun c1=>?_)
    refine qaJ (fun c2=>?_) (fun c2=>?_)
    ·have o0:0<=ones:=of_decide_eq_true c2
     refine qaJ (fun c3=>every) (fun c3=>?_)
     have o1:ones<=(n:Int):=by
      have h:(!decide (ones<=(n:Int)))≠true:=c3
      simpa using h
     exact fin2 _ _ ⟨rfl,rfl,o0,o1⟩
    ·exact every
  ·refine qaJ (fun c1=>?_) (fun c1=>fin2 _ _ ⟨rfl,rfl⟩)
   refine qaJ (fun c2=>?_) (fun c2=>fin2 _ _ ⟨rfl,rfl⟩)
   have n2:1 < n:=by have:=of_decide_eq_true c2;omega
   refine ⟨⟨_,SqL.of he⟩,fun D hD=>?_⟩
   refine qc0 (qag _ ev _) (fun v=>match v with | .str z=>(!(Builtin.Str.occurrences z ("0" : Str) 0 z.length 1).isEmpty) && (!(Builtin.Str.occurrences z ("1" : Str) 0 z.length 1).isEmpty) | _=>false) wz (fun o=>SqL.upd he hD) (fun i x ys hx C c=>?_) (fun i x ys hx C c=>c) ?_
   ·obtain ⟨w,rfl⟩:=wx hx
    refine qaJ (fun c1=>?_) (fun c1=>?_)
    ·refine Eq.mp (congrArg (fun b=>C b _) ?_) c
     show ((!(Builtin.Str.occurrences (bs w) ("0" : Str) 0 (bs w).length 1).isEmpty) && (!(Builtin.Str.occurrences (bs w) ("1" : Str) 0 (bs w).length 1).isEmpty))=(!(Builtin.Str.occurrences (bs w) ("1" : Str) 0 (bs w).length 1).isEmpty)
     rw [c1,Bool.true_and]
    ·refine Eq.mp (congrArg (fun b=>C b _) ?_) c
     show ((!(Builtin.Str.occurrences (bs w) ("0" : Str) 0 (bs w).length 1).isEmpty) && (!(Builtin.Str.occurrences (bs w) ("1" : Str) 0 (bs w).length 1).isEmpty))=false
     rw [Bool.eq_false_iff.mpr c1,Bool.false_and]
   ·exact fin _ (Same.refl _) _ D _ hD rfl (qfd n n6 n2)
 ·exact h.elim
end
end K14
end
section
namespace K14
open PySem L2
section
variable {P:Program} {w:World} {K:PySem.W.Frag} {mg:Str->Option Value} {base:Heap}
theorem qna:∀ x:Nat,x < 64->∀ j:Nat,j < 6->Builtin.bitAnd ((x:Int) / 2 ^ ((j:Nat):Int).toNat) 1=(if x.testBit j then 1 else 0):=by
 decide +kernel
theorem qmT (w':List Bool) (h:w'.length<=6):((w'.map fun b=>bs [b]).map (·.length)).sum+(w'.map fun b=>bs [b]).length * (("" : Str)).length<=16777216:=by
 have h3:(("" : Str)).length=0:=by decide +kernel
 have h4:((w'.map fun b=>bs [b]).map (·.length)).sum=w'.length:=by
  rw [List.map_map]
  have:(List.map ((fun x:Str=>x.length) ∘ fun b=>bs [b]) w')=List.replicate w'.length 1:=by
   rw [List.eq_replicate_iff]
   refine ⟨by simp,fun b hb=>?_⟩
   obtain ⟨c,_,rfl⟩:=mM_ hb
   exact qc7 [c]
  rw [this]
  simp
 rw [h4,h3]
 simp
 omega
abbrev qfk:Stmt:=top 28
def qdk:Sp:=fun vs H Q _=>match vs with
 | [.ref a,.int spot]=>∃ (ds:List Int) (sp:Nat),H a=some (.lst (ds.map V.int))/\spot=(sp:Nat)/\sp<=200/\sp+70<=ds.length/\Drn ds ∧
   ∀ v (k n:Nat) (rows:Om.Rows) H',Same H H'->DV H' v (qax k n rows)->Om.CodeOk k n rows->Q v H'
 | _=>False
theorem scLCode:FnScope ["d","spot","k","n","many","way","begins","turns","every","heights","at","states","state","row","turn","behind","some"] ["d","spot"] (qad qfk):=⟨rfl,rfl,rfl,by decide +kernel,rfl,by decide +kernel,by decide +kernel⟩
local macro_rules | `(tactic| walk_at "T.sc")=>`(tactic| (have ndc:(["x","n"]:List Str).Nodup:=(by decide +kernel));((with_reducible refine' qiv "x" "every" 8 ["x","n"] [3] ?b1 ?b0 ?b2 (fun cl C s H fp=>?b3) (fun cl C s H fp=>?b4) (fun cl C s H fp=>?b5));(case b1=>exact ndc);(case b0=>assumption);(case b2=>walk_at "T.i");(case b3=>walk_at "T.g");(case b4=>walk_at "T.pf");(case b5=>walk_at "T.e")))
local macro_rules | `(tactic| walk_at "T.sc")=>`(tactic| (have ndc:(["s","d","spot","n"]:List Str).Nodup:=(by decide +kernel));((with_reducible refine' qfh "heights" 9 ["s","d","spot","n"] [0,1,3] ?b1 ?b0 ?b2 (fun cl C s H fp=>?b3) (fun cl C s H fp=>?b4) (fun cl C s H fp=>?b5));(case b1=>exact ndc);(case b0=>assumption);(case b2=>walk_at "T.i");(case b3=>walk_at "T.g");(case b4=>walk_at "T.pf");(case b5=>walk_at "T.e")))
local macro_rules | `(tactic| walk_at "T.c")=>`(tactic| (have ndc:(["j","x"]:List Str).Nodup:=(by decide +kernel));((with_reducible refine' qaF ["j","x"] [0] ?b1 ?b2 (fun cl C s H fp=>?b3) (fun cl C s H fp=>?b4) (fun cl C s H fp=>?b5));(case b1=>exact ndc);(case b2=>walk_at "T.i");(case b3=>walk_at "T.g");(case b4=>walk_at "T.pf");(case b5=>walk_at "T.e")))
theorem qg1 (D:FnX K mg "_law_code" qfk ["d","spot"]) (g1:mg "range" = none) (g2:mg "len" = none) (c1:Can P w K mg base "_law_behind" 1 ["x","state","many","turns","begins"] qio) (c2:Can P w K mg base "_law_some" 1 ["every","way","state","rise"] qe5):Can P w K mg base "_law_code" 2 ["d","spot"] qdk:=by
 refine qak (k:=1) D scLCode (fun vs H Q E h=>?_) (fun f cdv A outer s H vs Q E hr h=>?_)
 all_goals
  unfold qdk at h
  split at h
 ·rfl
 ·exact h.elim
 ·rename_i a spot
  obtain ⟨ds,sp,hA,rfl,sp70,dl,dr,q⟩:=h
  have nd:=scLCode.nd
  have dget:∀ {H1:Hp} {j:Int},H1 a=some (.lst (ds.map V.int))->0<=j->j < (sp+70:Nat)->∃ x:Int,0<=x/\x < 10007/\qcb H1 (.ref a) j=some (.int x):=fun {H1 j} h h0 h1=>by
   have il:j.toNat < ds.length:=by omega
   obtain ⟨e0,e1⟩:=dr _ (List.getElem_mem il)
   exact ⟨ds[j.toNat],e0,e1,gl h h0 (by rw [gM_,gE_ il];rfl)⟩
  refine ⟨_,(by walk_at "T.top"),?_⟩
  refine ⟨lZ_ rfl,fun p0 hp0=>?_⟩
  have t0:Same H (upd H p0 (.lst [.int 1,.int 1,.int 2,.int 1,.int 3])):=Same.upd hp0
  have ep0:upd H p0 (.lst [.int 1,.int 1,.int 2,.int 1,.int 3]) p0=some (.lst [.int 1,.int 1,.int 2,.int 1,.int 3]):=qaa
  generalize upd H p0 (.lst [V.int 1,.int 1,.int 2,.int 1,.int 3])=H0 at t0 ep0 ⊢
  have hA0:=t0 _ _ hA
  obtain ⟨x0,_,_,e0⟩:=dget hA0 (j:=((sp:Nat):Int)) (by omega) (by omega)
  have a0:=Int.emod_nonneg x0 (show (5:Int)≠0 by decide)
  have a1:=Int.emod_lt_of_pos x0 (show (0:Int) < 5 by decide)
  obtain ⟨k,k1,k3,ek⟩ : ∃ k:Nat,1<=k/\k<=3/\[V.int 1,.int 1,.int 2,.int 1,.int 3][(x0 % 5).toNat]? = some (.int (k:Nat)):=by
   generalize x0 % 5=r0 at a0 a1 ⊢
   have:r0=0\/r0=1\/r0=2\/r0=3\/r0=4:=by omega
   rcases this with rfl | rfl | rfl | rfl | rfl
   ·exact ⟨1,by decide,by decide,rfl⟩
   ·exact ⟨1,by decide,by decide,rfl⟩
   ·exact ⟨2,by decide,by decide,rfl⟩
   ·exact ⟨1,by decide,by decide,rfl⟩
   ·exact ⟨3,by decide,by decide,rfl⟩
  refine ⟨_,e0,(by decide:(0:Int) < 5),.int (k:Nat),gl ep0 a0 ek,?_⟩
  obtain ⟨x1,x10,_,e1⟩:=dget hA0 (j:=((sp:Nat):Int)+1) (by omega) (by omega)
  have b0:=Int.emod_nonneg x1 (show (6:Int)≠0 by decide)
  have b1:=Int.emod_lt_of_pos x1 (show (0:Int) < 6 by decide)
  obtain ⟨n,hn⟩ : ∃ n:Nat,1+x1 % 6=(n:Int):=⟨(1+x1 % 6).toNat,by omega⟩
  have n16:1<=n/\n<=6:=by omega
  refine ⟨_,e1,(by decide:(0:Int) < 6),?_⟩
  dsimp only [qah,qaS,qb4]
  rw [hn]
  obtain ⟨x2,x20,_,e2⟩:=dget hA0 (j:=((sp:Nat):Int)+2) (by omega) (by omega)
  have m0:=Int.emod_nonneg x2 (show (8:Int)≠0 by decide)
  have m1:=Int.emod_lt_of_pos x2 (show (0:Int) < 8 by decide)
  obtain ⟨many,hm⟩ : ∃ many:Nat,1+x2 % 8=(many:Int):=⟨(1+x2 % 8).toNat,by omega⟩
  have m18:1<=many/\many<=8:=by omega
  refine ⟨_,e2,(by decide:(0:Int) < 8),?_⟩
  dsimp only [qah,qaS,qb4]
  rw [hm]
  obtain ⟨x3,x30,_,e3⟩:=dget hA0 (j:=((sp:Nat):Int)+3) (by omega) (by omega)
  have w0:=Int.emod_nonneg x3 (show (5:Int)≠0 by decide)
  have w1:=Int.emod_lt_of_pos x3 (show (0:Int) < 5 by decide)
  refine ⟨_,e3,(by decide:(0:Int) < 5),?_⟩
  dsimp only [qah,qaS]
  generalize x3 % 5=way at w0 w1
  refine ⟨_,e1,⟨by decide,by decide⟩,(by decide:(0:Int) < 4),?_⟩
  dsimp only [qah,qaS,qka,tC]
  generalize decide (x1 / 6 % 4=0)=begins
  refine qbL (fun σ H2=>∃ turns:Bool,σ=[some (.ref a),some (.int (sp:Nat)),some (.int (k:Nat)),some (.int (n:Nat)),some (.int (many:Nat)),some (.int way),some (.bl begins),some (.bl turns),none,none,none,none,none,none,none,none,none]/\H2=H0) ?_ (fun fin=>?_)
  ·rintro σ H2 ⟨turns,rfl,rfl⟩
   obtain ⟨M,hM⟩ : ∃ M,M=2 ^ n:=⟨_,rfl⟩
   have p64:M<=64:=by
    rw [hM]
    calc 2 ^ n<=2 ^ 6:=Nat.pow_le_pow_right (by decide) n16.2
     _<=64:=by decide
   have al:(qb2 n).length=M:=by unfold qb2;rw [lM_,List.length_range,hM]
   have ag:∀ i,i < M->(qb2 n)[i]? = some ((List.range n).map fun j=>i.testBit j):=fun i hi=>by
    unfold qb2
    rw [gM_,List.getElem?_range (by omega)];rfl
   have e2n:((1:Int) * 2 ^ ((n:Nat):Int).toNat)=((M:Nat):Int):=by rw [hM,Int.toNat_natCast,Int.one_mul];push_cast;rfl
   refine ⟨⟨by omega,by omega,by decide⟩,?_⟩
   dsimp only [qmp]
   rw [e2n]
   refine ⟨by omega,by omega,fun EV hEV=>?_⟩
   refine qaE (qaC 0 _) (fun i τ H3 ys=>(∃ v,τ=[v,some (.int (n:Nat))])/\Same H2 H3/\H3 EV=some (.lst ys)/\ys=((qb2 n).take i).map fun w=>V.str (bs w)) (by rw [lM_,List.length_range];exact qaf (by omega)) ⟨⟨none,rfl⟩,Same.upd hEV,qaa,rfl⟩ ?_ ?_ ?_
   ·rintro i τ H3 ys hi ⟨_,_,h3,rfl⟩
    rw [lM_,List.length_range] at hi
    exact ⟨trivial,h3,by rw [lM_,List.length_take];omega⟩
   ·rintro i x τ H3 ys hi hx ⟨⟨v,rfl⟩,s3,h3,rfl⟩
    rw [lM_,List.length_range] at hi
    have hi:i < M:=by omega
    have ex:x=V.int (i:Nat):=by
     rw [gM_,List.getElem?_range (by omega)] at hx
     have:=oI_ hx
     rw [<-this];simp
    subst ex
    refine ⟨rfl,⟨by omega,by omega,fun D1 hD1=>?_⟩⟩
    have ED:EV≠D1:=qab h3 hD1
    refine qaE (qaC 0 _) (fun j τ H4 ys=>(∃ v,τ=[v,some (.int (i:Nat))])/\H4=upd H3 D1 (.lst ys)/\ys=((List.range j).map fun j=>i.testBit j).map fun b=>V.str (bs [b])) (by rw [lM_,List.length_range];exact qaf (by omega)) ⟨⟨none,rfl⟩,rfl,rfl⟩ ?_ ?_ ?_
    ·rintro j τ H4 ys hj ⟨_,rfl,rfl⟩
     exact ⟨trivial,qaa,by simp⟩
    ·rintro j y τ H4 ys hj hy ⟨⟨v,rfl⟩,rfl,rfl⟩
     rw [lM_,List.length_range] at hj
     have hj:j < n:=by omega
     have ey:y=V.int (j:Nat):=by
      rw [gM_,List.getElem?_range (by omega)] at hy
      have:=oI_ hy
      rw [<-this];simp
     subst ey
     have bt:=qna i (by omega) j (by omega)
     have b0:0<=Builtin.bitAnd ((i:Int) / 2 ^ ((j:Nat):Int).toNat) 1:=by rw [bt];split<;>decide
     have b1:Builtin.bitAnd ((i:Int) / 2 ^ ((j:Nat):Int).toNat) 1 < 2:=by rw [bt];split<;>decide
     refine ⟨by omega,_,g01 b0 b1,qaa,⟨_,rfl⟩,qbI,?_⟩
     rw [bt,List.range_succ,List.map_append,List.map_append]
     congr 1
     show [V.str (bs [decide ((if i.testBit j=true then (1:Int) else 0)=1)])]=[V.str (bs [i.testBit j])]
     cases i.testBit j<;>rfl
    ·rintro τ H4 ys ⟨_,rfl,rfl⟩
     rw [lM_,List.length_range,Int.toNat_natCast]
     refine ⟨((List.range n).map fun j=>i.testBit j).map fun b=>bs [b],by rw [qaa];simp only [List.map_map];rfl,qmT _ (by simp;omega),?_⟩
     rw [qj3]
     refine ⟨by rw [qac ED];exact h3,⟨_,rfl⟩,(s3.trans (Same.upd hD1)).own hEV,qaa,?_⟩
     rw [List.take_add_one,ag i hi,List.map_append]
     rfl
   ·rintro τ H3 ys ⟨_,s3,h3,rfl⟩
    rw [lM_,List.length_range,Int.toNat_natCast,<-al,List.take_length] at h3
    have h3:H3 EV=some (WS (qb2 n)):=h3
    have hA3:=s3 _ _ hA0
    have t3:=t0.trans s3
    dsimp only [qah]
    refine ⟨by omega,by omega,fun HE hHE=>?_⟩
    have EH:EV≠HE:=qab h3 hHE
    have aH:a≠HE:=qab hA3 hHE
    refine qaE (qaC 0 _) (fun i τ H4 ys=>(∃ v,τ=[v,some (.ref a),some (.int (sp:Nat)),some (.int (n:Nat))])/\H4=upd H3 HE (.lst ys)/\ys.length=i/\∃ hs:List Int,ys=hs.map V.int) (by rw [lM_,List.length_range];exact qaf (by omega)) ⟨⟨none,rfl⟩,rfl,rfl,[],rfl⟩ ?_ ?_ ?_
    ·rintro i τ H4 ys hi ⟨_,rfl,yl,_⟩
     exact ⟨trivial,qaa,by omega⟩
    ·rintro i x τ H4 ys hi hx ⟨⟨v,rfl⟩,rfl,yl,hs,rfl⟩
     rw [lM_,List.length_range] at hi
     have ex:x=V.int (i:Nat):=by
      rw [gM_,List.getElem?_range (by omega)] at hx
      have:=oI_ hx
      rw [<-this];simp
     subst ex
     have hA4:upd H3 HE (.lst (hs.map V.int)) a=some (.lst (ds.map V.int)):=by rw [qac aH];exact hA3
     obtain ⟨y,_,_,ey⟩:=dget hA4 (j:=((sp:Nat):Int)+4+(i:Nat)) (by omega) (by omega)
     have z0:=Int.emod_nonneg (i:Int) (show (2:Int)≠0 by decide)
     have z1:=Int.emod_lt_of_pos (i:Int) (show (0:Int) < 2 by decide)
     refine ⟨_,ey,⟨by decide,by decide⟩,(by decide:(0:Int) < 3),.inr ⟨by decide,by decide⟩,(by decide:(0:Int) < 2),(by decide:(0:Int) < 2),.inl ⟨by omega,by omega⟩,?_⟩
     refine ⟨qaa,⟨_,rfl⟩,qbI,by rw [lA_,List.length_singleton];omega,hs++[_],by rw [List.map_append];rfl⟩
    ·rintro τ H4 ys ⟨_,rfl,yl,hs,rfl⟩
     rw [lM_,lM_,List.length_range,Int.toNat_natCast] at yl
     have t4:=t3.trans (Same.upd (o:=.lst (hs.map V.int)) hHE)
     have hH4:upd H3 HE (.lst (hs.map V.int)) HE=some (.lst (hs.map V.int)):=qaa
     have hE4:=Same.upd (o:=.lst (hs.map V.int)) hHE _ _ h3
     have hA4:=Same.upd (o:=.lst (hs.map V.int)) hHE _ _ hA3
     clear hEV h3 hA3 t3 s3 hA0 hHE
     generalize upd H3 HE (.lst (hs.map V.int))=H4 at t4 hH4 hE4 hA4
     dsimp only [qah]
     have hget:∀ {H1:Hp} {j:Int},H1 HE=some (.lst (hs.map V.int))->0<=j->j < (many:Nat)->∃ x:Int,qcb H1 (.ref HE) j=some (.int x):=fun {H1 j} h h0 h1=>by
      have il:j.toNat < hs.length:=by omega
      exact ⟨hs[j.toNat],gl h h0 (by rw [gM_,gE_ il];rfl)⟩
     refine ⟨Nat.zero_le _,fun St hSt=>?_⟩
     have St0:H St=none:=t4.free hSt
     have p8:2 ^ k<=8:=Om.pow8 k3
     obtain ⟨m2,hm2⟩ : ∃ m2,m2=2 ^ k:=⟨_,rfl⟩
     rw [<-hm2] at p8
     have e2k:((2:Int) * 2 ^ (((k:Nat):Int) - 1).toNat)=((m2:Nat):Int):=by
      rw [hm2]
      have:k=1\/k=2\/k=3:=by omega
      rcases this with rfl | rfl | rfl<;>rfl
     have S4:Same H4 (upd H4 St (.lst [])):=Same.upd hSt
     refine ⟨by omega,by omega,qam (qaC 0 _) (fun i σ H5=>∃ (v12 v13 v14 v15 v16:Option V) (at':Int) (xs:List V) (G:Hp) (rows:Om.Rows),σ=[some (.ref a),some (.int (sp:Nat)),some (.int (k:Nat)),some (.int (n:Nat)),some (.int (many:Nat)),some (.int way),some (.bl begins),some (.bl turns),some (.ref EV),some (.ref HE),some (.int at'),some (.ref St),v12,v13,v14,v15,v16]/\at'=((sp+4+i * m2:Nat):Int)/\Same H H5/\Same H4 H5/\H5 St=some (.lst xs)/\Same G H5/\G St=none/\DVs G xs (rows.map qaX)/\rows.length=i/\(∀ st∈rows,st.length=m2)/\∀ st∈rows,∀ r∈st,r.1.length=n/\r.2 < many)
      ⟨none,none,none,none,none,_,[],fun _=>none,[],rfl,by push_cast;omega,t4.trans S4,S4,qaa,(fun b o e=>nomatch e),rfl,.nil,rfl,by simp,by simp⟩ (fun _ _ _ _ _=>trivial) ?_ ?_⟩
     ·rintro i x σ H5 hi hx ⟨v12,v13,v14,v15,v16,at',xs,G,rows,rfl,rfl,s5,s45,h5,sG,gS,dv,rl,rk,rr⟩
      rw [lM_,List.length_range] at hi
      have hi:i < many:=by omega
      have ex:x=V.int (i:Nat):=by
       rw [gM_,List.getElem?_range (by omega)] at hx
       have:=oI_ hx
       rw [<-this];simp
      subst ex
      refine ⟨Nat.zero_le _,fun S hS'=>?_⟩
      have StS:St≠S:=qab h5 hS'
      have sS:=Same.upd (o:=.lst []) hS'
      refine ⟨⟨by omega,by omega,by decide⟩,(show -(2 ^ 62)<=(2:Int) * 2 ^ (((k:Nat):Int) - 1).toNat from by rw [e2k];omega),(show (2:Int) * 2 ^ (((k:Nat):Int) - 1).toNat < 2 ^ 62 from by rw [e2k];omega),?_⟩
      have GS:G S=none:=sG.free hS'
      have i8:i * m2<=7 * 8:=Nat.mul_le_mul (by omega) p8
      refine qam (qaC 0 _) (fun j σ H6=>∃ (v14 v15 v16:Option V) (at':Int) (ys:List V) (G2:Hp) (rs:List (List Bool×Nat)),σ=[some (.ref a),some (.int (sp:Nat)),some (.int (k:Nat)),some (.int (n:Nat)),some (.int (many:Nat)),some (.int way),some (.bl begins),some (.bl turns),some (.ref EV),some (.ref HE),some (.int at'),some (.ref St),some (.int (i:Nat)),some (.ref S),v14,v15,v16]/\at'=((sp+4+i * m2+j:Nat):Int)/\Same H H6/\Same H4 H6/\H6 St=some (.lst xs)/\H6 S=some (.lst ys)/\Same G2 H6/\G2 St=none/\G2 S=none/\Same G G2/\DVs G2 ys (rs.map qdY)/\rs.length=j/\∀ r∈rs,r.1.length=n/\r.2 < many)
       ⟨v14,v15,v16,((sp+4+i * m2:Nat):Int),[],G,[],rfl,rfl,s5.trans sS,s45.trans sS,sS _ _ h5,qaa,sG.trans sS,gS,GS,Same.refl _,.nil,rfl,by simp⟩ (fun _ _ _ _ _=>trivial) ?_ ?_
      ·rintro j y σ H6 hj hy ⟨v14,v15,v16,at',ys,G2,rs,rfl,rfl,s6,s46,h6,hS6,sG2,gS2,gSS,gg,dv2,rl2,rr2⟩
       rw [lM_,List.length_range] at hj
       have ey:y=V.int (j:Nat):=by
        rw [gM_,List.getElem?_range hj] at hy
        have:=oI_ hy
        rw [<-this];simp
       subst ey
       have hj:j < m2:=by have:=hj;rw [show ((2:Int) * 2 ^ (((k:Nat):Int) - 1).toNat)=((m2:Nat):Int) from e2k,Int.toNat_natCast] at this;exact this
       obtain ⟨dx,_,_,edx⟩:=dget (s46 _ _ hA4) (j:=((sp+4+i * m2+j:Nat):Int)) (by omega) (by omega)
       refine ⟨_,edx,⟨by decide,by decide⟩,many,rfl,m18.1,fun b hb=>?_⟩
       obtain ⟨h1,eh1⟩:=hget (s46 _ _ hH4) (j:=(b:Int)) (by omega) (by omega)
       obtain ⟨h2,eh2⟩:=hget (s46 _ _ hH4) (j:=(i:Int)) (by omega) (by omega)
       refine ⟨_,eh1,_,eh2,n,n16.1,n16.2,s46 _ _ hE4,w0,w1,fun sl ws H7 s7 hsl wne w64 wl=>?_⟩
       have w1':0 < ws.length:=by
        cases ws with
        | nil=>exact absurd rfl wne
        | cons _ _=>exact Nat.succ_pos _
       obtain ⟨dx,_,_,edx⟩:=dget (s7 _ _ (s46 _ _ hA4)) (j:=((sp+4+i * m2+j:Nat):Int)) (by omega) (by omega)
       have q0:=Int.emod_nonneg dx (show ((ws.length:Nat):Int)≠0 by omega)
       have q1:=Int.emod_lt_of_pos dx (show (0:Int) < ((ws.length:Nat):Int) by omega)
       have hS7:=s7 _ _ hS6
       have h7:=s7 _ _ h6
       have il:(dx % ((ws.length:Nat):Int)).toNat < ws.length:=by omega
       obtain ⟨wd,hwd⟩ : ∃ wd,ws[(dx % ((ws.length:Nat):Int)).toNat]? = some wd:=⟨_,gE_ il⟩
       have wdl:wd.length=n:=wl wd (mO_ hwd)
       refine ⟨⟨_,rfl,hS7⟩,_,edx,ws.length,by rw [qcV hsl,qht],(by omega:(0:Int) < ((ws.length:Nat):Int)),.str (bs wd),gl hsl q0 (qhu hwd),lZ_ rfl,fun p hp=>?_⟩
       have sp':=Same.upd (o:=.tup [.str (bs wd),.int (b:Nat)]) hp
       have Sp:S≠p:=qab hS7 hp
       have Stp:St≠p:=qab h7 hp
       have yl2:ys.length=j:=by rw [dv2.length,lM_,rl2]
       refine ⟨_,sp' _ _ hS7,qai (by omega),?_⟩
       have sG7:=sG2.trans s7
       have gp:=sG7.free hp
       have GG:Same G2 (upd G2 p (.tup [.str (bs wd),.int (b:Nat)])):=Same.upd gp
       have HS0:H S=none:=s5.free hS'
       have H4S:H4 S=none:=s45.free hS'
       refine ⟨_,_,_,_,ys++[.ref p],upd G2 p (.tup [.str (bs wd),.int (b:Nat)]),rs++[(wd,b)],rfl,by push_cast;omega,((s6.trans s7).trans sp').own HS0,((s46.trans s7).trans sp').own H4S,by rw [qac StS];exact sp' _ _ h7,qaa,fun b o e=>?_,by rw [qac Stp];exact gS2,by rw [qac Sp];exact gSS,gg.trans GG,?_,by simp [rl2],fun r hr'=>?_⟩
       ·have bS:b≠S:=fun z=>by rw [z,qac Sp,gSS] at e;cases e
        rw [qac bS]
        by_cases hb:b=p
        ·subst hb;rw [qaa] at e ⊢;exact e
        ·rw [qac hb] at e ⊢;exact sG7 _ _ e
       ·rw [List.map_append]
        exact (dv2.mono GG).app (.cons (.tup qaa (.cons (.str _) (.cons (.int _) .nil))) .nil)
       ·rcases mA_ hr' with z | z
        ·exact rr2 r z
        ·have:r=(wd,b):=by simpa using z
         subst this
         exact ⟨wdl,hb⟩
      ·rintro σ H6 ⟨v14,v15,v16,at',ys,G2,rs,rfl,rfl,s6,s46,h6,hS6,sG2,gS2,gSS,gg,dv2,rl2,rr2⟩
       rw [lM_,List.length_range] at rl2
       have rl2:rs.length=m2:=by rw [show ((2:Int) * 2 ^ (((k:Nat):Int) - 1).toNat)=((m2:Nat):Int) from e2k,Int.toNat_natCast] at rl2;exact rl2
       have xl:xs.length=i:=by rw [dv.length,lM_,rl]
       refine ⟨⟨_,rfl,h6⟩,_,h6,qai (by omega),?_⟩
       have GG:Same G2 (upd G2 S (.lst ys)):=Same.upd gSS
       have H4St:H4 St=none:=hSt
       refine ⟨_,_,v14,v15,v16,_,xs++[.ref S],upd G2 S (.lst ys),rows++[rs],rfl,?_,s6.own St0,s46.own H4St,qaa,fun b o e=>?_,by rw [qac StS];exact gS2,?_,by simp [rl],fun st hst=>?_,fun st hst=>?_⟩
       ·rw [lM_,List.length_range,show ((2:Int) * 2 ^ (((k:Nat):Int) - 1).toNat)=((m2:Nat):Int) from e2k,Int.toNat_natCast,Nat.succ_mul];congr 1;omega
       ·have bSt:b≠St:=fun z=>by rw [z,qac StS,gS2] at e;cases e
        rw [qac bSt]
        by_cases hb:b=S
        ·subst hb;rw [qaa] at e;rw [hS6];exact e
        ·rw [qac hb] at e;exact sG2 _ _ e
       ·rw [List.map_append]
        exact (dv.mono (gg.trans GG)).app (.cons (.lst qaa (dv2.mono GG)) .nil)
       ·rcases mA_ hst with z | z
        ·exact rk st z
        ·have:st=rs:=by simpa using z
         subst this
         exact rl2
       ·rcases mA_ hst with z | z
        ·exact rr st z
        ·have:st=rs:=by simpa using z
         subst this
         exact rr2
     ·rintro σ H5 ⟨v12,v13,v14,v15,v16,at',xs,G,rows,rfl,rfl,s5,s45,h5,sG,gS,dv,rl,rk,rr⟩
      rw [lM_,List.length_range,Int.toNat_natCast] at rl
      refine ⟨lZ_ rfl,fun p hp=>?_⟩
      have gS2:Same G (upd G St (.lst xs)):=Same.upd gS
      have sm:Same (upd G St (.lst xs)) H5:=fun b o e=>by
       by_cases hb:b=St
       ·subst hb;rw [qaa] at e;rw [h5];exact e
       ·rw [qac hb] at e;exact sG _ _ e
      refine q _ k n rows _ (s5.trans (Same.upd hp)) (.tup qaa (.cons (.int _) (.cons (.int _) (.cons (.lst (Same.upd hp _ _ h5) (dv.mono ((gS2.trans sm).trans (Same.upd hp)))) .nil)))) ⟨k1,k3,n16.1,n16.2,by omega,by omega,fun st hst=>(rk st hst).trans hm2,fun st hst r hr'=>by have:=rr st hst r hr';omega⟩
  ·refine qaJ (fun c=>fin _ _ ⟨true,rfl,rfl⟩) (fun c=>?_)
   refine qaJ (fun c=>?_) (fun c=>fin _ _ ⟨false,rfl,rfl⟩)
   exact ⟨(by decide:(0:Int) < 2),fin _ _ ⟨_,rfl,rfl⟩⟩
 ·exact h.elim
end
end K14
end
section
namespace K14
open PySem L2
section
variable {P:Program} {w:World} {K:PySem.W.Frag} {mg:Str->Option Value} {base:Heap}
abbrev qiK:Stmt:=top 30
def qdo:Sp:=fun vs H Q _=>match vs with
 | [cv]=>∃ (k n:Nat) (rows:Om.Rows),DV H cv (qax k n rows)/\rows.length<=8/\∀ a b (qs:List Addr) H',Same H H'->H a=none->CopyOf H H' a b qs k n rows->Q (.ref a) H'
 | _=>False
theorem scCopy:FnScope ["code"] ["code"] (qad qiK):=⟨rfl,rfl,rfl,by decide +kernel,rfl,by decide +kernel,by decide +kernel⟩
local macro_rules | `(tactic| walk_at "T.c")=>`(tactic| (have ndc:(["row"]:List Str).Nodup:=(by decide +kernel));((with_reducible refine' qaF ["row"] [] ?b1 ?b2 (fun cl C s H fp=>?b3) (fun cl C s H fp=>?b4) (fun cl C s H fp=>?b5));(case b1=>exact ndc);(case b2=>walk_at "T.i");(case b3=>walk_at "T.g");(case b4=>walk_at "T.pf");(case b5=>walk_at "T.e")))
theorem qjw (D:FnX K mg "_law_copy" qiK ["code"]) (g2:mg "list" = none):Can P w K mg base "_law_copy" 1 ["code"] qdo:=by
 refine qak (k:=0) D scCopy (fun vs H Q E h=>?_) (fun f cdv A outer s H vs Q E hr h=>?_)
 all_goals
  unfold qdo at h
  split at h
 ·rfl
 ·exact h.elim
 ·rename_i cv
  obtain ⟨k,n,rows,hc,rl,q⟩:=h
  have nd:=scCopy.nd
  obtain ⟨a,b,ss,rfl,ha,hb,hss⟩:=qay hc
  have sl:ss.length=rows.length:=by rw [hss.length,lM_]
  refine ⟨_,(by walk_at "T.top1"),?_⟩
  refine ⟨_,gt ha (by decide) rfl,_,gt ha (by decide) rfl,_,gt ha (by decide) rfl,⟨_,SqL.of hb⟩,fun D1 hD1=>?_⟩
  refine qaE (qag _ b ss) (fun i τ H2 ys=>(∃ v,τ=[v])/\Same H H2/\H2 D1=some (.lst ys)/\∃ qs:List Addr,ys=qs.map V.ref/\qs.length=i/\qs.Nodup/\(∀ q∈qs,H q=none/\q≠D1)/\∀ (j:Nat) (st:List (List Bool×Nat)),j < i->rows[j]? = some st->∃ q rs,qs[j]? = some q/\H2 q=some (.lst rs)/\DVs H rs (st.map qdY))
   (by rw [sl];exact qaf (by omega)) ⟨⟨none,rfl⟩,Same.upd hD1,qaa,[],rfl,rfl,List.nodup_nil,(fun q hq=>nomatch hq),fun j st h=>absurd h (Nat.not_lt_zero _)⟩ ?_ ?_ ?_
  ·rintro i τ H2 ys hi ⟨_,s2,h2,qs,rfl,ql,_⟩
   exact ⟨SqL.of (s2 _ _ hb),h2,by rw [lM_];omega⟩
  ·rintro i x τ H2 ys hi hx ⟨⟨v,rfl⟩,s2,h2,qs,rfl,ql,qn,qf,hst⟩
   have hi':i < rows.length:=by rw [<-sl];exact hi
   obtain ⟨p,rs,e1,e2,e3⟩:=qaA hss (s:=i) (st:=rows[i]) (gE_ hi')
   rw [hx] at e1
   cases e1
   refine ⟨rs,.inl (s2 _ _ e2),fun l hl'=>?_⟩
   have dl:D1≠l:=qab h2 hl'
   have lq:l ∉ qs:=fun z=>by
    obtain ⟨j,hj⟩:=mG_ z
    have jl:=(gS_ hj).1
    have jr:j < rows.length:=by omega
    obtain ⟨q',rs',a1,a2,_⟩:=hst j rows[j] (by omega) (gE_ jr)
    rw [hj] at a1
    cases a1
    rw [hl'] at a2;cases a2
   have s3:=s2.trans (Same.upd (o:=.lst rs) hl')
   have il:qs.length=i:=ql
   refine ⟨by rw [qac dl];exact h2,⟨_,rfl⟩,s3.own hD1,qaa,qs++[l],by rw [List.map_append];rfl,by simp [ql],?_,fun q' hq'=>?_,fun j st hj hr=>?_⟩
   ·rw [List.nodup_append]
    refine ⟨qn,by simp,fun x hx y hy z=>?_⟩
    have:y=l:=by simpa using hy
    subst this
    subst z
    exact lq hx
   ·rcases mA_ hq' with z | z
    ·exact qf q' z
    ·have:q'=l:=by simpa using z
     subst this
     exact ⟨s2.free hl',Ne.symm dl⟩
   ·by_cases e:j=i
    ·subst e
     rw [gE_ hi'] at hr
     cases hr
     exact ⟨l,rs,by rw [List.getElem?_append_right (by omega),il];simp,by rw [qac (Ne.symm dl),qaa],e3⟩
    ·obtain ⟨q',rs',a1,a2,a3⟩:=hst j st (by omega) hr
     refine ⟨q',rs',by rw [List.getElem?_append_left (by omega)];exact a1,?_,a3⟩
     rw [qac (qf q' (mO_ a1)).2,qac (qab a2 hl')]
     exact a2
  ·rintro τ H2 ys ⟨_,s2,h2,qs,rfl,ql,qn,qf,hst⟩
   rw [sl] at ql hst
   refine ⟨lZ_ rfl,fun p hp=>?_⟩
   have s3:=s2.trans (Same.upd (o:=.tup [.int (k:Nat),.int (n:Nat),.ref D1]) hp)
   refine q p D1 qs _ s3 (s2.free hp) ⟨qaa,hD1,by rw [qac (qab h2 hp)];exact h2,qn,qf,ql,fun j st hr=>?_⟩
   obtain ⟨q',rs',a1,a2,a3⟩:=hst j st (gS_ hr).1 hr
   exact ⟨q',rs',a1,by rw [qac (qab a2 hp)];exact a2,a3.mono s3⟩
 ·exact h.elim
end
end K14
end
section
namespace K14
open PySem L2
abbrev qch:=Int×Str×Int
def qbe (p:qch):PyData:=.tuple [.int p.1,.str p.2.1,.int p.2.2]
def qcl (ps:List qch):PyData:=.list (ps.map qbe)
def qau (qs:List Nat) (F:Ky->Nat):List qch:=(qae qs).map fun x=>(((x.1:Nat):Int),bs [x.2],((F x:Nat):Int))
theorem qaT (qs:List Nat) (F:Ky->Nat):(qau qs F).length=2 * qs.length:=by unfold qau;rw [lM_,qao]
theorem qaZ {H:Hp} {bz:List V} {ps:List qch} {i:Nat} {p:qch} (h:DVs H bz (ps.map qbe)) (hp:ps[i]? = some p):∃ b,bz[i]? = some (.ref b)/\H b=some (.tup [.int p.1,.str p.2.1,.int p.2.2]):=by
 obtain ⟨x,hx,d⟩:=h.get (i:=i) (d:=qbe p) (by rw [gM_,hp];rfl)
 obtain ⟨b,xs,rfl,hb,hd⟩:=d.tup_inv
 cases hd with
 | cons h1 hd=>cases hd with
  | cons h2 hd=>cases hd with
   | cons h3 hd=>cases hd with
    | nil=>cases h1;cases h2;cases h3;exact ⟨b,hx,hb⟩
theorem qdT {H H':Hp} {bz:List V} {ps:List qch} (h:DVs H bz (ps.map qbe)) (s:∀ b ys,H b=some (.tup ys)->H' b=some (.tup ys)):DVs H' bz (ps.map qbe):=by
 refine DVs.of_get h.length fun i d hd=>?_
 rw [gM_] at hd
 obtain ⟨p,hp,rfl⟩:=Option.map_eq_some_iff.mp hd
 obtain ⟨b,b1,b2⟩:=qaZ h hp
 exact ⟨_,b1,.tup (s _ _ b2) (.cons (.int _) (.cons (.str _) (.cons (.int _) .nil)))⟩
theorem qgA {H:Hp} {bz:List V} {ps:List qch} {b:Addr} {p:qch} (h:DVs H bz (ps.map qbe)) (hb:H b=some (.tup [.int p.1,.str p.2.1,.int p.2.2])):DVs H (bz++[.ref b]) ((ps++[p]).map qbe):=by
 have hl:=h.length
 rw [lM_] at hl
 refine DVs.of_get (by simp [hl]) fun i d hd=>?_
 rw [gM_] at hd
 obtain ⟨p',hp,rfl⟩:=Option.map_eq_some_iff.mp hd
 by_cases il:i < ps.length
 ·rw [List.getElem?_append_left il] at hp
  obtain ⟨c,c1,c2⟩:=qaZ h hp
  exact ⟨_,by rw [List.getElem?_append_left (by omega)];exact c1,.tup c2 (.cons (.int _) (.cons (.str _) (.cons (.int _) .nil)))⟩
 ·have ie:i=ps.length:=by
   have:=(gS_ hp).1
   rw [lA_,List.length_singleton] at this
   omega
  subst ie
  rw [List.getElem?_append_right (Nat.le_refl _),Nat.sub_self] at hp
  cases hp
  exact ⟨.ref b,by rw [List.getElem?_append_right (by omega),hl,Nat.sub_self];rfl,.tup hb (.cons (.int _) (.cons (.str _) (.cons (.int _) .nil)))⟩
section
variable {P:Program} {w:World} {K:PySem.W.Frag} {mg:Str->Option Value} {base:Heap}
abbrev qiB:Stmt:=top 12
def qe6 (P0:Addr):Sp:=fun vs H Q _=>match vs with
 | [cv]=>∃ (k n:Nat) (rows:Om.Rows),DV H cv (qax k n rows)/\Om.CodeOk k n rows/\Tab P0 (qan qav) qSt H ∧
   (∀ H',SameT P0 H H'->Tab P0 (qan qav) qSt H'->(∃ x,Rr rows x/\n * rows.length<=x.2.2)->Q .non H') ∧
   ∀ l bz qs F H',SameT P0 H H'->Tab P0 (qan qav) qSt H'->H l=none->H' l=some (.lst bz)->DVs H' bz ((qau qs F).map qbe)->RchL rows qs->(∀ x,Rr rows x->x.2.2 < n * rows.length)->Snd rows (qae qs) F->(∀ x∈qae qs,∀ r∈rows.getD x.1 [],ctF F x r<=F (tgt r))->Q (.ref l) H'
 | _=>False
theorem scSPap:FnScope ["code","runs"] ["code"] (qad qiB):=⟨rfl,rfl,rfl,by decide +kernel,rfl,by decide +kernel,by decide +kernel⟩
local macro_rules | `(tactic| walk_at "T.c")=>`(tactic| (have ndc:(["key","runs"]:List Str).Nodup:=(by decide +kernel));((with_reducible refine' qaF ["key","runs"] [1] ?b1 ?b2 (fun cl C s H fp=>?b3) (fun cl C s H fp=>?b4) (fun cl C s H fp=>?b5));(case b1=>exact ndc);(case b2=>walk_at "T.i");(case b3=>walk_at "T.g");(case b4=>walk_at "T.pf");(case b5=>walk_at "T.e")))
local macro_rules | `(tactic| walk_at "T.e")=>`(tactic| ((with_reducible refine' qbk ?a0 ?a1 ?a2);(case a0=>exact Room.units (by assumption));(case a1=>with_reducible exact vn "runs" 1);(case a2=>walk_at "T.e")))
theorem qjn {P0:Addr} (D:FnX K mg "still_paper" qiB ["code"]) (c1:Can P w K mg base "standing_loop" 5 ["code"] (qdi P0)) (c2:Can P w K mg base "greatest_runs" 6 ["code"] (qmu P0)) (c3:Can P w K mg base "paper_keys" 5 ["code"] (qcO P0)):Can P w K mg base "still_paper" 7 ["code"] (qe6 P0):=by
 refine qak (k:=6) D scSPap (fun vs H Q E h=>?_) (fun f0 cdv A outer s H vs Q X hr h=>?_)
 all_goals
  unfold qe6 at h
  split at h
 ·rfl
 ·exact h.elim
 ·rename_i cv
  obtain ⟨k,n,rows,hc,ok,tb,qn,qt⟩:=h
  have nd:=scSPap.nd
  refine ⟨_,(by walk_at "T.top"),?_⟩
  refine ⟨k,n,rows,hc,ok,tb,fun qs H1 s1 t1 rc no=>?_,fun p qs H1 s1 t1 rc yes=>?_⟩
  ·have bd:=qjA ok rc no
   refine ⟨k,n,rows,hc.monoT tb s1,ok,t1,bd,fun D kvs qs' F H2 s2 t2 nD hD rc' rv sd fx=>?_⟩
   have qe:=rc'.uniq rc
   subst qe
   have S2:=s1.trans s2
   refine ⟨k,n,rows,hc.monoT tb S2,ok,t2,fun l bz qs2 H3 s3 t3 hl rc2 ky=>?_⟩
   have qe:=rc2.uniq rc'
   subst qe
   have S3:=S2.trans s3
   have hD3:H3 D=some (.dT kvs):=s3 _ _ (fun z=>by obtain ⟨ps,e⟩:=t2.tbl;rw [z,e] at hD;cases hD) hD
   have kl:=qao qs2
   have q8:=rc2.2.2
   have bl:bz.length=(qae qs2).length:=ky.1
   refine ⟨⟨_,SqL.of hl⟩,fun L hL=>?_⟩
   refine qaE (qag _ l bz) (fun i τ H4 ys=>(∃ v,τ=[v,some (.ref D)])/\Same H3 H4/\H4 L=some (.lst ys)/\DVs H4 ys (((qau qs2 F).take i).map qbe)) (qaf (by omega)) ⟨⟨none,rfl⟩,Same.upd hL,qaa,.nil⟩ ?_ ?_ ?_
   ·rintro i τ H4 ys hi ⟨_,s4,h4,dv⟩
    have:=dv.length
    rw [lM_,List.length_take,qaT] at this
    exact ⟨SqL.of (s4 _ _ hl),h4,by omega⟩
   ·rintro i v τ H4 ys hi hv ⟨⟨v0,rfl⟩,s4,h4,dv⟩
    have hi':i < (qae qs2).length:=by omega
    have hx:(qae qs2)[i]? = some (qae qs2)[i]:=gE_ hi'
    have xm:(qae qs2)[i]∈qae qs2:=List.getElem_mem hi'
    have sp:(qau qs2 F)[i]? = some (((((qae qs2)[i]).1:Nat):Int),bs [((qae qs2)[i]).2],((F (qae qs2)[i]:Nat):Int)):=by unfold qau;rw [gM_,hx];rfl
    generalize (qae qs2)[i]=x at hx xm sp
    obtain ⟨b,b1,b2⟩:=ky.2 i x hx
    rw [hv] at b1
    cases b1
    have b4:=s4 _ _ b2
    refine ⟨_,gt b4 (by decide) rfl,_,gt b4 (by decide) rfl,?_⟩
    refine .inr ⟨D,.int (F x:Nat),rfl,.inr ⟨kvs,qaM x,b,.inl (s4 _ _ hD3),rfl,b4,(rv.vl x xm).symm⟩,?_⟩
    refine ⟨lZ_ rfl,fun p hp=>?_⟩
    have z5:=Same.upd (o:=.tup [.int (x.1:Nat),.str (bs [x.2]),.int (F x:Nat)]) hp
    have pL:p≠L:=fun z=>by rw [z,h4] at hp;cases hp
    have s5:=(s4.trans z5).own (o:=.lst (ys++[.ref p])) hL
    refine ⟨z5 _ _ h4,⟨_,rfl⟩,s5,qaa,?_⟩
    rw [List.take_add_one,sp]
    refine qgA (qdT (dv.mono z5) fun b ys e=>?_) (by rw [qac pL];exact qaa)
    rw [qac (qaj e (z5 _ _ h4) (fun z=>nomatch z))]
    exact e
   ·rintro τ H4 ys ⟨_,s4,h4,dv⟩
    rw [bl,kl,<-qaT qs2 F,List.take_length] at dv
    refine qt L ys qs2 F H4 (S3.trans s4.t) (t3.mono s4) ?_ h4 dv rc2 bd sd fx
    exact S3.free hL (fun z=>by obtain ⟨ps,e⟩:=t3.tbl;rw [z,e] at hL;cases hL)
  ·exact qn _ s1 t1 (qhc ok rc yes)
 ·exact h.elim
end
end K14
end
section
namespace K14
open PySem L2
section
variable {P:Program} {w:World} {K:PySem.W.Frag} {mg:Str->Option Value} {base:Heap}
abbrev qiI:Stmt:=top 1
def qdV:Sp:=fun vs H Q _=>match vs with
 | [.int _]=>Q (.bl true) H
 | _=>False
theorem scIsWh:FnScope ["thing"] ["thing"] (qad qiI):=⟨rfl,rfl,rfl,by decide +kernel,rfl,by decide +kernel,by decide +kernel⟩
theorem qju (D:FnX K mg "is_whole" qiI ["thing"]) (g1:mg "isinstance" = none) (g2:mg "int" = none) (g3:mg "bool" = none):Can P w K mg base "is_whole" 1 ["thing"] qdV:=by
 refine qak (k:=0) D scIsWh (fun vs H Q E h=>?_) (fun f cdv A outer s H vs Q E hr h=>?_)
 all_goals
  unfold qdV at h
  split at h
 ·rfl
 ·exact h.elim
 ·have nd:=scIsWh.nd
  refine ⟨_,(by walk_at "T.top1"),?_⟩
  refine ⟨"int",rfl,by decide,?_⟩
  refine qmg (by decide) ?_
  refine ⟨"int",rfl,by decide,?_⟩
  exact h
 ·exact h.elim
abbrev qiE:Stmt:=top 20
def qe8:Sp:=fun vs H Q _=>match vs with
 | [.ref b]=>∃ (a c:Int) (z:Str),H b=some (.tup [.int a,.str z,.int c])/\Q (.bl (decide (0<=c))) H
 | _=>False
theorem scPRow:FnScope ["row"] ["row"] (qad qiE):=⟨rfl,rfl,rfl,by decide +kernel,rfl,by decide +kernel,by decide +kernel⟩
theorem qjq (D:FnX K mg "is_paper_row" qiE ["row"]) (g1:mg "isinstance" = none) (g2:mg "tuple" = none) (g3:mg "len" = none) (g4:mg "str" = none) (c1:Can P w K mg base "is_whole" 1 ["thing"] qdV):Can P w K mg base "is_paper_row" 2 ["row"] qe8:=by
 refine qak (k:=1) D scPRow (fun vs H Q E h=>?_) (fun f cdv A outer s H vs Q E hr h=>?_)
 all_goals
  unfold qe8 at h
  split at h
 ·rfl
 ·exact h.elim
 ·rename_i b
  obtain ⟨a,c,z,hb,q⟩:=h
  have nd:=scPRow.nd
  refine ⟨_,(by walk_at "T.top"),?_⟩
  have ty:tyN H (.ref b)=some "tuple" := by simp [tyN,hb]
  refine ⟨"tuple",ty,by decide,?_⟩
  refine qaJ (fun z=>absurd z (by decide)) (fun _=>?_)
  refine ⟨3,by simp [lenV,hb],?_⟩
  refine ⟨_,gt hb (by decide) rfl,?_⟩
  refine ⟨_,gt hb (by decide) rfl,"str",rfl,by decide,?_⟩
  refine ⟨_,gt hb (by decide) rfl,?_⟩
  refine ⟨_,gt hb (by decide) rfl,?_⟩
  exact q
 ·exact h.elim
end
end K14
end
section
namespace K14
open PySem L2
section
variable {P:Program} {w:World} {K:PySem.W.Frag} {mg:Str->Option Value} {base:Heap}
def kD2 (x:Int×Str):PyData:=.tuple [.int x.1,.str x.2]
theorem qjO (a b:Int×Str):PyData.eqv (kD2 a) (kD2 b)=decide (a=b):=by
 obtain ⟨a1,a2⟩:=a
 obtain ⟨b1,b2⟩:=b
 unfold kD2
 simp only [PyData.eqv,PyData.eqvAll,Prod.mk.injEq,Bool.and_true]
 by_cases h1:a1=b1<;>by_cases h2:a2=b2<;>simp [h1,h2]
theorem qcz:∀ (a b:List (Int×Str)),PyData.eqvAll (a.map kD2) (b.map kD2)=decide (a=b)
 | [],[]=>rfl
 | [],_ :: _=>rfl
 | _ :: _,[]=>rfl
 | x :: a,y :: b=>by
  rw [List.map_cons,List.map_cons,PyData.eqvAll,qcz a b,qjO]
  by_cases h1:x=y<;>by_cases h2:a=b<;>simp [h1,h2]
theorem qa5 (l:List (Int×Str)) (h:∀ x∈l,(PyData.str x.2).canLay0=true):SeqAt.shaped (.list (l.map kD2))=true:=by
 refine qbK (k:=1) (fun d hd=>?_) (fun d hd=>?_) (by decide)
 ·obtain ⟨x,hx,rfl⟩:=mM_ hd
  have:=h x hx
  unfold kD2
  simp only [PyData.canLay0,PyData.canLayAll0,Bool.and_true,Bool.true_and] at this ⊢
  exact this
 ·obtain ⟨x,hx,rfl⟩:=mM_ hd
  exact Nat.le_refl _
def kys (qs:List Nat):List (Int×Str):=(qae qs).map fun x=>(((x.1:Nat):Int),bs [x.2])
abbrev qfl:Stmt:=top 19
def qdl (P0:Addr):Sp:=fun vs H Q _=>match vs with
 | [cv,.ref l]=>∃ (k n:Nat) (rows:Om.Rows) (ps:List qch),DV H cv (qax k n rows)/\Om.CodeOk k n rows/\Tab P0 (qan qav) qSt H/\DV H (.ref l) (qcl ps)/\ps.length<=50/\(∀ p∈ps,(PyData.str p.2.1).canLay0=true) ∧
   (ps.all (fun p=>decide (0<=p.2.2))=false->∀ H',Same H H'->Q (.bl false) H') ∧
   (ps.all (fun p=>decide (0<=p.2.2))=true->∀ qs H',SameT P0 H H'->Tab P0 (qan qav) qSt H'->RchL rows qs->Q (.bl (decide (ps.map (fun p=>(p.1,p.2.1))=kys qs))) H')
 | _=>False
theorem scIsPap:FnScope ["code","paper"] ["code","paper"] (qad qfl):=⟨rfl,rfl,rfl,by decide +kernel,rfl,by decide +kernel,by decide +kernel⟩
theorem qel (b:Bool):(PyData.str (bs [b])).canLay0=true:=by cases b<;>decide +kernel
local macro_rules | `(tactic| walk_at "T.c")=>`(tactic| (have ndc:(["row"]:List Str).Nodup:=(by decide +kernel));((with_reducible refine' qaF ["row"] [] ?b1 ?b2 (fun cl C s H fp=>?b3) (fun cl C s H fp=>?b4) (fun cl C s H fp=>?b5));(case b1=>exact ndc);(case b2=>walk_at "T.i");(case b3=>walk_at "T.g");(case b4=>walk_at "T.pf");(case b5=>walk_at "T.e")))
theorem qg2 {P0:Addr} (D:FnX K mg "is_paper" qfl ["code","paper"]) (g1:mg "isinstance" = none) (g2:mg "list" = none) (g4:mg "all" = none) (c1:Can P w K mg base "is_paper_row" 2 ["row"] qe8) (c2:Can P w K mg base "paper_keys" 5 ["code"] (qcO P0)):Can P w K mg base "is_paper" 6 ["code","paper"] (qdl P0):=by
 refine qak (k:=5) D scIsPap (fun vs H Q E h=>?_) (fun f cdv A outer s H vs Q E hr h=>?_)
 all_goals
  unfold qdl at h
  split at h
 ·rfl
 ·exact h.elim
 ·rename_i cv l
  obtain ⟨k,n,rows,ps,hc,ok,tb,hd,p50,lay,qf,q⟩:=h
  have nd:=scIsPap.nd
  obtain ⟨l',rs,e,hl,dr⟩:=hd.lst_inv
  cases e
  have rl:rs.length=ps.length:=by rw [dr.length,lM_]
  refine ⟨_,(by walk_at "T.top"),?_⟩
  have ty:tyN H (.ref l)=some "list" := by simp [tyN,hl]
  refine ⟨"list",ty,by decide,?_⟩
  refine qaJ (fun z=>absurd z (by decide)) (fun _=>?_)
  refine ⟨⟨_,SqL.of hl⟩,fun C hC=>?_⟩
  refine qaE (qag _ l rs) (fun i τ H2 ys=>(∃ v,τ=[v])/\H2=upd H C (.lst ys)/\ys=((ps.take i).map fun p=>decide (0<=p.2.2)).map V.bl) (qaf (by omega)) ⟨⟨none,rfl⟩,rfl,rfl⟩ ?_ ?_ ?_
  ·rintro i τ H2 ys hi ⟨_,rfl,rfl⟩
   exact ⟨SqL.of (Same.upd hC _ _ hl),qaa,by rw [lM_,lM_,List.length_take];omega⟩
  ·rintro i x τ H2 ys hi hx ⟨⟨v,rfl⟩,rfl,rfl⟩
   have hi':i < ps.length:=by omega
   obtain ⟨b,b1,b2⟩:=qaZ dr (gE_ hi')
   rw [hx] at b1
   cases b1
   refine ⟨_,_,_,Same.upd hC _ _ b2,?_⟩
   refine ⟨qaa,⟨_,rfl⟩,qbI,?_⟩
   rw [List.take_add_one,gE_ hi',List.map_append,List.map_append]
   rfl
  ·rintro τ H2 ys ⟨_,rfl,rfl⟩
   rw [rl,List.take_length]
   have s2:=Same.upd (o:=.lst ((ps.map fun p=>decide (0<=p.2.2)).map V.bl)) hC
   have h2:upd H C (.lst ((ps.map fun p=>decide (0<=p.2.2)).map V.bl)) C=some (.lst ((ps.map fun p=>decide (0<=p.2.2)).map V.bl)):=qaa
   generalize upd H C (.lst ((ps.map fun p=>decide (0<=p.2.2)).map V.bl))=H2 at s2 h2
   have t2:=tb.mono s2
   have ea:(ps.map fun p=>decide (0<=p.2.2)).all id=ps.all (fun p=>decide (0<=p.2.2)):=by rw [List.all_map];rfl
   refine ⟨_,h2,?_⟩
   rw [ea]
   cases ca:ps.all (fun p=>decide (0<=p.2.2)) with
   | false=>
    refine qmg (by decide) ?_
    exact qf ca _ s2
   | true=>
    refine qaJ (fun z=>absurd z (by decide)) (fun _=>?_)
    refine ⟨⟨_,SqL.of (s2 _ _ hl)⟩,fun F hF=>?_⟩
    refine qaE (qag _ l rs) (fun i τ H3 ys=>(∃ v,τ=[v])/\Same H2 H3/\H3 F=some (.lst ys)/\DVs H3 ys (((ps.take i).map (fun p=>(p.1,p.2.1))).map kD2)) (qaf (by omega)) ⟨⟨none,rfl⟩,Same.upd hF,qaa,.nil⟩ ?_ ?_ ?_
    ·rintro i τ H3 ys hi ⟨_,s3,h3,dv⟩
     have:=dv.length
     rw [lM_,lM_,List.length_take] at this
     exact ⟨SqL.of (s3 _ _ (s2 _ _ hl)),h3,by omega⟩
    ·rintro i x τ H3 ys hi hx ⟨⟨v,rfl⟩,s3,h3,dv⟩
     have hi':i < ps.length:=by omega
     obtain ⟨b,b1,b2⟩:=qaZ dr (gE_ hi')
     rw [hx] at b1
     cases b1
     have b3:=s3 _ _ (s2 _ _ b2)
     refine ⟨_,gt b3 (by decide) rfl,_,gt b3 (by decide) rfl,lZ_ rfl,fun p hp=>?_⟩
     have z4:=Same.upd (o:=.tup [.int ps[i].1,.str ps[i].2.1]) hp
     have pF:p≠F:=fun z=>by rw [z,h3] at hp;cases hp
     refine ⟨z4 _ _ h3,⟨_,rfl⟩,(s3.trans z4).own hF,qaa,?_⟩
     rw [List.take_add_one,gE_ hi',List.map_append,List.map_append]
     refine DVs.app ?_ (.cons (.tup (by rw [qac pF];exact qaa) (.cons (.int _) (.cons (.str _) .nil))) .nil)
     refine DVs.of_get dv.length fun j d hd=>?_
     rw [gM_] at hd
     obtain ⟨y,hy,rfl⟩:=Option.map_eq_some_iff.mp hd
     obtain ⟨u,u1,u2⟩:=dv.get (i:=j) (d:=kD2 y) (by rw [gM_,hy];rfl)
     refine ⟨u,u1,?_⟩
     obtain ⟨c,xs,rfl,c1,c2⟩:=u2.tup_inv
     cases c2 with
     | cons e1 c2=>cases c2 with
      | cons e2 c2=>cases c2 with
       | nil=>
        cases e1;cases e2
        exact .tup (by rw [qac (qaj (z4 _ _ c1) (z4 _ _ h3) (fun z=>nomatch z))];exact z4 _ _ c1) (.cons (.int _) (.cons (.str _) .nil))
    ·rintro τ H3 ys ⟨_,s3,h3,dv⟩
     rw [rl,List.take_length] at dv
     have S3:=s2.trans s3
     have t3:=tb.mono S3
     refine ⟨k,n,rows,hc.mono S3,ok,t3,fun l4 bz4 qs H4 s4 t4 hl4 rc4 ky4=>?_⟩
     have dF:DV H3 (.ref F) (.list ((ps.map fun p=>(p.1,p.2.1)).map kD2)):=.lst h3 dv
     have dK:DVs H4 bz4 ((kys qs).map kD2):=by
      refine DVs.of_get (by unfold kys;rw [lM_,lM_];exact ky4.1) fun j d hd=>?_
      unfold kys at hd
      rw [gM_,gM_] at hd
      cases hx:(qae qs)[j]? with
      | none=>rw [hx] at hd;cases hd
      | some x=>
       rw [hx] at hd
       cases hd
       obtain ⟨b,b1,b2⟩:=ky4.2 j x hx
       exact ⟨_,b1,.tup b2 (.cons (.int _) (.cons (.str _) .nil))⟩
     refine ⟨_,_,dF.monoT t3 s4,.lst hl4 dK,qa5 _ (fun x hx=>?_),qa5 _ (fun x hx=>?_),?_⟩
     ·obtain ⟨p,hp,rfl⟩:=mM_ hx
      exact lay p hp
     ·unfold kys at hx
      obtain ⟨y,_,rfl⟩:=mM_ hx
      exact qel y.2
     ·rw [PyData.eqv,qcz]
      exact q ca qs H4 (S3.t.trans s4) t4 rc4
 ·exact h.elim
end
end K14
end
section
namespace K14
open PySem L2
section
variable {P:Program} {w:World} {K:PySem.W.Frag} {mg:Str->Option Value} {base:Heap}
def ShS (rows:Om.Rows) (num:Int) (ps:List qch):Prop:=∃ qs F,RchL rows qs/\ps=qau qs F/\∀ x∈qae qs,∀ r∈rows.getD x.1 [],((tpF F x r:Nat):Int)<=num/\ctF F x r<=F (tgt r)
theorem qck:∀ {ks:List Ky} {ps:List qch},ks.Nodup->(∀ p∈ps,0<=p.2.2)->ps.map (fun p=>(p.1,p.2.1))=ks.map (fun x=>(((x.1:Nat):Int),bs [x.2]))->∃ F:Ky->Nat,ps=ks.map fun x=>(((x.1:Nat):Int),bs [x.2],((F x:Nat):Int))
 | [],ps,_,_,h=>⟨fun _=>0,by simpa using h⟩
 | q :: qs,[],_,_,h=>by simp at h
 | q :: qs,p :: ps,nd,nn,h=>by
  rw [List.map_cons,List.map_cons,List.cons.injEq] at h
  rw [List.nodup_cons] at nd
  obtain ⟨F,e⟩:=qck nd.2 (fun x hx=>nn x (mC_ _ hx)) h.2
  refine ⟨fun s=>if s=q then p.2.2.toNat else F s,?_⟩
  rw [List.map_cons]
  have p0:=nn p List.mem_cons_self
  have e1:p=(((q.1:Nat):Int),bs [q.2],(((if q=q then p.2.2.toNat else F q):Nat):Int)):=by
   rw [if_pos rfl,Int.toNat_of_nonneg p0]
   have:=h.1
   injection this with h1 h2
   exact Prod.ext h1 (Prod.ext h2 rfl)
  rw [e]
  refine (congrArg (fun z=>z :: _) e1).trans (congrArg (List.cons _) (List.map_congr_left fun s hs=>?_))
  have:s≠q:=fun z=>nd.1 (z ▸ hs)
  dsimp only
  rw [if_neg this]
theorem qfe {rows:Om.Rows} {num:Int} {qs:List Nat} {F:Ky->Nat} (rc:RchL rows qs):ShS rows num (qau qs F)↔∀ x∈qae qs,∀ r∈rows.getD x.1 [],((tpF F x r:Nat):Int)<=num/\ctF F x r<=F (tgt r):=by
 refine ⟨fun ⟨qs',G,rc',e,h⟩=>?_,fun h=>⟨qs,F,rc,rfl,h⟩⟩
 have eq:=rc'.uniq rc
 subst eq
 unfold qau at e
 have ag:∀ x∈qae qs',F x=G x:=fun x hx=>by
  have:=List.map_inj_left.mp e x hx
  injection this with _ this
  injection this with _ this
  exact Int.ofNat.inj this
 intro x hx r hr
 have tq:tgt r∈qae qs':=mem_keysOf.mpr ((rc.2.1 _).mpr (.s ((rc.2.1 _).mp (mem_keysOf.mp hx)) (List.mem_map.mpr ⟨_,hr,rfl⟩)))
 have:=h x hx r hr
 unfold tpF ctF at this ⊢
 rw [ag x hx,ag _ tq]
 exact this
theorem qcS {qs:List Nat} (h:qs.Pairwise (· < ·)):qs.Nodup:=h.imp (fun x=>Nat.ne_of_lt x)
abbrev qiz:Stmt:=top 13
def qe4 (P0:Addr):Sp:=fun vs H Q _=>match vs with
 | [cv,.int num,.ref l]=>∃ (k n:Nat) (rows:Om.Rows) (ps:List qch),DV H cv (qax k n rows)/\Om.CodeOk k n rows/\Tab P0 (qan qav) qSt H/\DV H (.ref l) (qcl ps)/\ps.length<=50/\(∀ p∈ps,(PyData.str p.2.1).canLay0=true) ∧
   ∀ b H',SameT P0 H H'->Tab P0 (qan qav) qSt H'->(b=true↔ShS rows num ps)->Q (.bl b) H'
 | _=>False
theorem scStSh:FnScope ["code","number","paper","runs","state","sign","most"] ["code","number","paper"] (qad qiz):=⟨rfl,rfl,rfl,by decide +kernel,rfl,by decide +kernel,by decide +kernel⟩
local macro_rules | `(tactic| walk_at "T.e")=>`(tactic| first | (with_reducible exact qbg) | ((with_reducible refine' qlW ?a1);(case a1=>walk_at "T.e")) | fail "no")
local macro_rules | `(tactic| walk_at "T.g")=>`(tactic| ((with_reducible refine' qa3 ?a0 ?a1 ?a2);(case a0=>exact Room.units (by assumption));(case a1=>with_reducible exact vn "runs" 3);(case a2=>walk_at "T.e")))
theorem qjm {P0:Addr} (D:FnX K mg "still_shows" qiz ["code","number","paper"]) (c1:Can P w K mg base "is_whole" 1 ["thing"] qdV) (c2:Can P w K mg base "is_paper" 6 ["code","paper"] (qdl P0)) (c3:Can P w K mg base "greatest_peak" 2 ["code","runs"] qe7) (c4:Can P w K mg base "runs_over" 2 ["code","runs"] qdU):Can P w K mg base "still_shows" 7 ["code","number","paper"] (qe4 P0):=by
 refine qak (k:=6) D scStSh (fun vs H Q E h=>?_) (fun f cdv A outer s H vs Q E hr h=>?_)
 all_goals
  unfold qe4 at h
  split at h
 ·rfl
 ·exact h.elim
 ·rename_i cv num l
  obtain ⟨k,n,rows,ps,hc,ok,tb,hd,p50,lay,q⟩:=h
  have nd:=scStSh.nd
  refine ⟨_,(by walk_at "T.top"),?_⟩
  refine ⟨k,n,rows,ps,hc,ok,tb,hd,p50,lay,fun ca H1 s1=>?_,fun ca qs H1 s1 t1 rc=>?_⟩
  ·refine qaJ (fun _=>?_) (fun z=>absurd rfl z)
   refine q false _ s1.t (tb.mono s1) ⟨(fun y=>nomatch y),fun ⟨qs,F,rc,e,_⟩=>?_⟩
   rw [e] at ca
   have:(qau qs F).all (fun p=>decide (0<=p.2.2))=true:=List.all_eq_true.mpr fun p hp=>by
    unfold qau at hp
    obtain ⟨x,_,rfl⟩:=mM_ hp
    exact decide_eq_true (Int.natCast_nonneg _)
   rw [this] at ca
   cases ca
  refine qaJ (fun z=>?_) (fun z=>?_)
  ·refine q false _ s1 t1 ⟨(fun y=>nomatch y),fun ⟨qs',F,rc',e,_⟩=>?_⟩
   have eq:=rc'.uniq rc
   subst eq
   have:ps.map (fun p=>(p.1,p.2.1))=kys qs':=by rw [e];unfold qau kys;rw [List.map_map];rfl
   rw [decide_eq_true this] at z
   cases z
  have efs:ps.map (fun p=>(p.1,p.2.1))=kys qs:=Classical.byContradiction fun y=>z (by rw [decide_eq_false y];rfl)
  have q8:=rc.2.2
  have kn:=qbT (qcS rc.1)
  obtain ⟨F,rfl⟩:=qck kn (fun p hp=>of_decide_eq_true (List.all_eq_true.mp ca p hp)) efs
  change DV H (.ref l) (qcl (qau qs F)) at hd
  change ∀ b H',SameT P0 H H'->Tab P0 (qan qav) qSt H'->(b=true↔ShS rows num (qau qs F))->Q (.bl b) H' at q
  clear z efs ca lay p50
  have fin:=fun {b:Bool} {H':Hp} (x1:SameT P0 H H') (x2:Tab P0 (qan qav) qSt H') (x3:b=true↔∀ x∈qae qs,∀ r∈rows.getD x.1 [],((tpF F x r:Nat):Int)<=num/\ctF F x r<=F (tgt r))=>q b H' x1 x2 (x3.trans (qfe rc).symm)
  clear q
  have hc1:=hc.monoT tb s1
  have hd1:=hd.monoT tb s1
  obtain ⟨l',rs,e,hl,dr⟩:=hd1.lst_inv
  cases e
  have kl:=qao qs
  have rl:rs.length=(qae qs).length:=by rw [dr.length,lM_,qaT,kl]
  intro B hB
  have sB:Same H1 (upd H1 B (.dT [])):=Same.upd hB
  refine ⟨⟨_,SqL.of (sB _ _ hl)⟩,?_⟩
  refine qam (qag _ l rs) (fun i σ H3=>∃ (v4 v5 v6:Option V) (kvs:List (List Key×V)),σ=[some cv,some (.int num),some (.ref l),some (.ref B),v4,v5,v6]/\Same H1 H3/\H3 B=some (.dT kvs)/\RunV kvs ((qae qs).take i) F)
   ⟨none,none,none,[],rfl,sB,qaa,KS.nil,fun x hx=>by simp at hx⟩ (fun i σ H3 _ ⟨_,_,_,_,_,s3,_⟩=>SqL.of (s3 _ _ hl)) ?_ ?_
  ·rintro i x σ H3 hi hx ⟨v4,v5,v6,kvs,rfl,s3,hB3,rv3⟩
   have hi':i < (qae qs).length:=by omega
   have hk:(qae qs)[i]? = some (qae qs)[i]:=gE_ hi'
   have sp:(qau qs F)[i]? = some (((((qae qs)[i]).1:Nat):Int),bs [((qae qs)[i]).2],((F (qae qs)[i]:Nat):Int)):=by unfold qau;rw [gM_,hk];rfl
   generalize (qae qs)[i]=y at hk sp
   obtain ⟨b,b1,b2⟩:=qaZ dr sp
   rw [hx] at b1
   cases b1
   refine ⟨_,.inl (s3 _ _ b2),rfl,rfl,?_⟩
   refine ⟨lZ_ rfl,fun p hp=>?_⟩
   have z4:=Same.upd (o:=.tup [.int (y.1:Nat),.str (bs [y.2])]) hp
   have hB4:=z4 _ _ hB3
   have kl2:=rv3.kz.len
   rw [List.length_take] at kl2
   refine .inr ⟨B,_,rfl,DPut.t (k:=qaM y) hB4 qaa (qai (by omega)),?_⟩
   refine ⟨_,_,_,_,rfl,(s3.trans z4).own hB,qaa,?_⟩
   have ad:=qbJ kn hk
   rw [<-ad]
   have r5:=rv3.put y (F y)
   refine ⟨r5.kz,fun z hz=>?_⟩
   rw [r5.vl z hz]
   by_cases e:z=y
   ·subst e;rw [if_pos rfl]
   ·rw [if_neg e]
  ·rintro σ H3 ⟨v4,v5,v6,kvs,rfl,s3,hB3,rv3⟩
   rw [rl,List.take_length] at rv3
   have S3:=s1.trans s3.t
   have t3:=t1.mono s3
   refine ⟨k,n,rows,kvs,qae qs,F,hc1.mono s3,ok,hB3,rv3,(fun x hx=>Om.rch_ok ok _ ((rc.2.1 _).mp (mem_keysOf.mp hx))),fun m H4 s4 pk=>?_⟩
   have hc4:=(hc1.mono s3).mono s4
   have S4:=S3.trans s4.t
   have t4:=t3.mono s4
   have hB4:=s4 _ _ hB3
   have pos:∃ x∈qae qs,∃ r,r∈rows.getD x.1 []:=by
    have z0:0∈qs:=(rc.2.1 0).mpr .z
    refine ⟨(0,false),mem_keysOf.mpr z0,?_⟩
    have e0:rows.getD 0 []=rows[0]'ok.s1:=by rw [List.getD_eq_getElem?_getD,gE_ ok.s1];rfl
    have l0:=ok.len _ (List.getElem_mem ok.s1)
    have p1:1<=2 ^ k:=Nat.one_le_two_pow
    exact ⟨(rows[0]'ok.s1)[0]'(by omega),by show _∈rows.getD 0 [];rw [e0];exact List.getElem_mem _⟩
   have pk':((m:Nat):Int)<=num↔∀ x∈qae qs,∀ r∈rows.getD x.1 [],((tpF F x r:Nat):Int)<=num:=by
    constructor
    ·intro h x hx r hr
     obtain ⟨j,hj⟩:=mG_ hr
     have:=pk.all x j r hx hj
     omega
    ·intro h
     rcases pk.src with e | ⟨x,j,r,hx,hj,e⟩
     ·obtain ⟨x,hx,r,hr⟩:=pos
      have:=h x hx r hr
      omega
     ·rw [e]
      exact h x hx r (mO_ hj)
   dsimp only [rN0,tV]
   refine qaJ (fun c=>?_) (fun c=>?_)
   ·have c:=of_decide_eq_true c
    refine ⟨k,n,rows,kvs,qae qs,F,hc4,ok,hB4,rv3,(fun x hx=>Om.rch_ok ok _ ((rc.2.1 _).mp (mem_keysOf.mp hx))),(fun x hx r hr b=>mem_keysOf.mpr ((rc.2.1 _).mpr (.s ((rc.2.1 _).mp (mem_keysOf.mp hx)) (List.mem_map.mpr ⟨_,hr,rfl⟩)))),fun L okvs oks G H5 s5 nL hL orv ov=>?_⟩
    have S5:=S4.trans s5.t
    have t5:=t4.mono s5
    have ol:=orv.kz.len
    refine .inr (.inr ⟨okvs,.inl hL,?_⟩)
    refine fin S5 t5 ?_
    have em:(!(!okvs.isEmpty))=true↔oks=[]:=by
     rw [Bool.not_not,List.isEmpty_iff]
     constructor
     ·rintro rfl
      exact List.eq_nil_of_length_eq_zero (by simpa using ol.symm)
     ·rintro rfl
      exact List.eq_nil_of_length_eq_zero (by simpa using ol)
    rw [em]
    constructor
    ·rintro rfl x hx r hr
     refine ⟨pk'.mp c x hx r hr,?_⟩
     obtain ⟨j,hj⟩:=mG_ hr
     have:=ov.all x j r hx hj
     unfold cur at this
     rwa [if_neg (fun z=>nomatch z)] at this
    ·intro h
     refine List.eq_nil_iff_forall_not_mem.mpr fun y hy=>?_
     obtain ⟨x,j,r,hx,hj,rfl,e⟩:=ov.src y hy
     have h1:=ov.up _ hy
     have h2:=(h x hx r (mO_ hj)).2
     omega
   ·refine fin S4 t4 ⟨(fun y=>nomatch y),fun h=>?_⟩
    exact absurd (decide_eq_true (pk'.mpr fun x hx r hr=>(h x hx r hr).1)) c
 ·exact h.elim
end
end K14
end
section
namespace K14
open PySem L2
section
variable {P:Program} {w:World} {K:PySem.W.Frag} {mg:Str->Option Value} {base:Heap}
abbrev qiL:Stmt:=top 31
def qcP:Sp:=fun vs H Q _=>match vs with
 | [cv]=>∃ (k n:Nat) (rows:Om.Rows),DV H cv (qax k n rows)/\Om.CodeOk k n rows/\∀ l (qs:List Nat) H',Same H H'->H l=none->H' l=some (.lst (qs.map fun s=>V.int (s:Nat)))->RchL rows qs->Q (.ref l) H'
 | _=>False
theorem scCome:FnScope ["code","found","at","word","behind"] ["code"] (qad qiL):=⟨rfl,rfl,rfl,by decide +kernel,rfl,by decide +kernel,by decide +kernel⟩
theorem qjx (D:FnX K mg "_law_come_to" qiL ["code"]) (g1:mg "len" = none) (g2:mg "sorted" = none):Can P w K mg base "_law_come_to" 1 ["code"] qcP:=by
 refine qak (k:=0) D scCome (fun vs H Q E h=>?_) (fun f0 cdv A outer s H vs Q E hr h=>?_)
 all_goals
  unfold qcP at h
  split at h
 ·rfl
 ·exact h.elim
 ·rename_i cv
  obtain ⟨k,n,rows,hc,ok,q⟩:=h
  obtain ⟨a,b,ss,rfl,ha,hb,hss⟩:=qay hc
  have nd:=scCome.nd
  refine ⟨_,(by walk_at "T.top"),?_⟩
  refine ⟨lZ_ rfl,fun L hL=>?_⟩
  refine ⟨fun mm σ H2=>∃ (v3 v4:Option V) (qs:List Nat) (c:Nat),σ=[some (.ref a),some (.ref L),some (.int (c:Nat)),v3,v4]/\mm+c=rows.length/\Same H H2/\H2 L=some (.lst (qs.map fun s=>V.int (s:Nat)))/\qs.Nodup/\(∀ s∈qs,s < rows.length)/\0∈qs/\(∀ s∈qs,Om.Rch (Om.nxR rows) s)/\c<=qs.length/\∀ (i s:Nat),i < c->qs[i]? = some s->∀ t∈Om.nxR rows s,t∈qs,
   ⟨rows.length,none,none,[0],0,rfl,rfl,Same.upd hL,qaa,by simp,(fun s hs=>by rw [mS_ hs];exact ok.s1),by simp,(fun s hs=>by rw [mS_ hs];exact .z),Nat.zero_le _,fun i s h=>absurd h (Nat.not_lt_zero _)⟩,?_⟩
  rintro mm σ H2 ⟨v3,v4,qs,c,rfl,hmm,s2,h2,qn,hlt,h0,hrc,cl,hdone⟩
  have ql:=Om.nodup_len rows.length qs qn hlt
  have r8:=ok.s8
  refine ⟨_,qcV h2,?_⟩
  dsimp only [rN0]
  rw [lM_]
  refine qaJ (fun lt=>?_) (fun ge=>?_)
  ·have lt:c < qs.length:=by simpa using lt
   obtain ⟨s,hs⟩ : ∃ s,qs[c]? = some s:=⟨_,gE_ lt⟩
   have sm:=mO_ hs
   have slt:=hlt s sm
   obtain ⟨qx,rx,e1,e2,e3⟩:=qaA hss (s:=s) (st:=rows[s]) (gE_ slt)
   have gx:Om.nxR rows s=rows[s].map (·.2):=by unfold Om.nxR;rw [List.getD_eq_getElem?_getD,gE_ slt];rfl
   have rl:rx.length=rows[s].length:=by rw [e3.length,lM_]
   refine ⟨fun σ' H'=>∃ (v3 v4:Option V) (more:List Nat),σ'=[some (.ref a),some (.ref L),some (.int ((c+1:Nat):Nat)),v3,v4]/\Same H H'/\H' L=some (.lst ((qs++more).map fun s=>V.int (s:Nat)))/\(qs++more).Nodup/\(∀ s∈more,s < rows.length/\Om.Rch (Om.nxR rows) s)/\∀ t∈Om.nxR rows s,t∈qs++more,?_,?_⟩
   ·rintro σ' H' ⟨v3,v4,more,rfl,s',h',qn',hm',hd'⟩
    refine ⟨mm - 1,by omega,v3,v4,qs++more,c+1,rfl,by omega,s',h',qn',fun x hx=>?_,List.mem_append_left _ h0,fun x hx=>?_,by rw [lA_];omega,fun i x hi hx t ht=>?_⟩
    ·exact (mA_ hx).elim (hlt x) fun z=>(hm' x z).1
    ·exact (mA_ hx).elim (hrc x) fun z=>(hm' x z).2
    ·rw [List.getElem?_append_left (by omega)] at hx
     by_cases e:i=c
     ·subst e
      rw [hs] at hx
      cases hx
      exact hd' t ht
     ·exact List.mem_append_left _ (hdone i x (by omega) hx t ht)
   ·refine ⟨_,gt (s2 _ _ ha) (by decide) rfl,V.int (s:Nat),gl h2 (by omega) (by rw [gM_,show ((c:Nat):Int).toNat=c by omega,hs];rfl),.ref qx,gl (s2 _ _ hb) (by omega) (by simpa using e1),⟨_,SqL.of (s2 _ _ e2)⟩,?_⟩
    refine qam (qag _ qx rx) (fun i σ H4=>∃ (v3 v4:Option V) (more:List Nat),σ=[some (.ref a),some (.ref L),some (.int (c:Nat)),v3,v4]/\Same H H4/\H4 L=some (.lst ((qs++more).map fun s=>V.int (s:Nat)))/\(qs++more).Nodup/\(∀ s∈more,s < rows.length/\Om.Rch (Om.nxR rows) s)/\∀ (j t:Nat),j < i->(Om.nxR rows s)[j]? = some t->t∈qs++more)
     ⟨v3,v4,[],rfl,s2,by rw [List.append_nil];exact h2,by rw [List.append_nil];exact qn,by simp,fun j t h=>absurd h (Nat.not_lt_zero _)⟩ (fun i σ H4 _ ⟨_,_,_,_,s4,_⟩=>SqL.of (s4 _ _ e2)) ?_ ?_
    ·rintro i x σ H4 hi hx ⟨v3,v4,more,rfl,s4,h4,qn4,hm4,hd4⟩
     have hi':i < rows[s].length:=by omega
     obtain ⟨r,r1,r2⟩:=qbr e3 (l:=i) (r:=rows[s][i]) (gE_ hi')
     rw [hx] at r1
     cases r1
     have tlt:=(ok.row _ (List.getElem_mem slt) _ (List.getElem_mem hi')).2
     have ei:(Om.nxR rows s)[i]? = some rows[s][i].2:=by rw [gx,gM_,gE_ hi'];rfl
     have tm:=mO_ ei
     generalize et:rows[s][i].2=t at r2 tlt ei tm
     refine ⟨_,.inl (s4 _ _ r2),rfl,rfl,?_⟩
     refine ⟨(qs++more).map fun s=>((s:Nat):Int),by rw [List.map_map];exact h4,?_⟩
     have mi:decide (((t:Nat):Int)∈(qs++more).map fun s=>((s:Nat):Int))=decide (t∈qs++more):=by
      rw [Bool.eq_iff_iff,decide_eq_true_eq,decide_eq_true_eq,List.mem_map]
      exact ⟨fun ⟨y,hy,e⟩=>by have:y=t:=(by omega);exact this ▸ hy,fun h=>⟨t,h,rfl⟩⟩
     dsimp only
     rw [mi]
     have l4:(qs++more).length<=rows.length:=Om.nodup_len _ _ qn4 fun x hx=>(mA_ hx).elim (hlt x) fun z=>(hm4 x z).1
     refine qaJ (fun c1=>?_) (fun c1=>?_)
     ·have nt:t ∉ qs++more:=by simpa using c1
      refine ⟨⟨_,rfl,h4⟩,_,h4,qai (by rw [lM_];omega),?_⟩
      refine ⟨_,_,more++[t],rfl,s4.own hL,?_,?_,fun x hx=>?_,fun j t' hj ht'=>?_⟩
      ·rw [qaa,<-List.append_assoc,List.map_append (l₁:=qs++more)];rfl
      ·rw [<-List.append_assoc,List.nodup_append]
       refine ⟨qn4,by simp,fun x hx y hy z=>?_⟩
       have:y=t:=by simpa using hy
       subst this
       subst z
       exact nt hx
      ·rcases mA_ hx with z | z
       ·exact hm4 x z
       ·have:x=t:=by simpa using z
        subst this
        exact ⟨tlt,.s (hrc s sm) tm⟩
      ·rw [<-List.append_assoc]
       by_cases e:j=i
       ·subst e
        rw [ei] at ht'
        cases ht'
        exact List.mem_append_right _ (by simp)
       ·exact List.mem_append_left _ (hd4 j t' (by omega) ht')
     ·have nt:t∈qs++more:=by
       by_cases z:t∈qs++more
       ·exact z
       ·exact absurd (by simpa using z) c1
      refine ⟨_,_,more,rfl,s4,h4,qn4,hm4,fun j t' hj ht'=>?_⟩
      by_cases e:j=i
      ·subst e
       rw [ei] at ht'
       cases ht'
       exact nt
      ·exact hd4 j t' (by omega) ht'
    ·rintro σ H4 ⟨v3,v4,more,rfl,s4,h4,qn4,hm4,hd4⟩
     refine ⟨v3,v4,more,rfl,s4,h4,qn4,hm4,fun t ht=>?_⟩
     obtain ⟨j,hj⟩:=mG_ ht
     have lj:=(gS_ hj).1
     rw [gx,lM_] at lj
     exact hd4 j t (by omega) hj
  ·have ge:qs.length<=c:=by
    by_cases z:c < qs.length
    ·exact absurd (by simpa using z) ge
    ·omega
   have rch:∀ s,s∈qs↔Om.Rch (Om.nxR rows) s:=fun s=>⟨hrc s,Om.rch_in h0 (fun a ha b hb=>by
    obtain ⟨i,hi⟩:=mG_ ha
    have li:=(gS_ hi).1
    exact hdone i a (by omega) hi b hb) s⟩
   refine ⟨qs.map fun s=>((s:Nat):Int),by rw [List.map_map];exact h2,by rw [lM_];omega,fun l ns hl pm srt=>?_⟩
   obtain ⟨qs',rfl,pm'⟩:=Om.perm_nats pm
   refine q l qs' _ (s2.trans (Same.upd hl)) (s2.free hl) (by rw [qaa,List.map_map];rfl) ⟨Om.lt_of_le (pm'.nodup_iff.mpr qn) srt,fun s=>by rw [pm'.mem_iff];exact rch s,by rw [pm'.length_eq];omega⟩
 ·exact h.elim
end
end K14
end
section
namespace L2
open PySem PySem.Spec PyProof.Rows
section
variable {X:Cx}
def qnL:V->Option Int->Option Int->Hp->VK->Prop:=fun x lo hi H Q=>∃ a xs,x = .ref a/\H a=some (.tup xs) ∧
 ¬ (HT.sIx xs.length 0 lo=0/\HT.sIx xs.length xs.length hi=xs.length)/\∀ p,H p=none->Q (.ref p) (upd H p (.tup (cutV xs lo hi)))
theorem qiq:SlR X qnL:=by
 intro pins s σ H x v vl vu lo hi sl Q I rx hs pl pu h
 obtain ⟨a,xs,e,hx,hw,q⟩:=h
 exact qkw pins s σ H x v vl vu lo hi sl Q I rx hs pl pu ⟨a,xs,e,SqT.of hx,hw,q⟩
end
end L2
end
section
namespace K14
open PySem L2
section
variable {P:Program} {w:World} {K:PySem.W.Frag} {mg:Str->Option Value} {base:Heap}
theorem ky0 (s:Nat):HO.tup [.int (s:Nat),.str ("0" : Str)] = .tup ((qaM (s,false)).map kV):=by
 have e:bs [false]=("0" : Str):=by decide +kernel
 show _=HO.tup [.int (s:Nat),.str (bs [false])]
 rw [e]
theorem ky1 (s:Nat):HO.tup [.int (s:Nat),.str ("1" : Str)] = .tup ((qaM (s,true)).map kV):=by
 have e:bs [true]=("1" : Str):=by decide +kernel
 show _=HO.tup [.int (s:Nat),.str (bs [true])]
 rw [e]
theorem qbS (qs:List Nat) (s:Nat):qae (qs++[s])=(qae qs++[(s,false)])++[(s,true)]:=by
 unfold qae
 rw [List.flatMap_append,List.append_assoc]
 rfl
theorem qjN {H H':Hp} {bz:List V} {xs:List (Int×Str)} (h:DVs H bz (xs.map kD2)) (s:∀ b ys,H b=some (.tup ys)->H' b=some (.tup ys)):DVs H' bz (xs.map kD2):=by
 refine DVs.of_get h.length fun j d hd=>?_
 rw [gM_] at hd
 obtain ⟨y,hy,rfl⟩:=Option.map_eq_some_iff.mp hd
 obtain ⟨u,u1,u2⟩:=h.get (i:=j) (d:=kD2 y) (by rw [gM_,hy];rfl)
 refine ⟨u,u1,?_⟩
 obtain ⟨c,xs,rfl,c1,c2⟩:=u2.tup_inv
 cases c2 with
 | cons e1 c2=>cases c2 with
  | cons e2 c2=>cases c2 with
   | nil=>
    cases e1;cases e2
    exact .tup (s _ _ c1) (.cons (.int _) (.cons (.str _) .nil))
theorem KyL.dv {H:Hp} {bz:List V} {qs:List Nat} (ky:KyL H bz (qae qs)):DVs H bz ((kys qs).map kD2):=by
 refine DVs.of_get (by unfold kys;rw [lM_,lM_];exact ky.1) fun j d hd=>?_
 unfold kys at hd
 rw [gM_,gM_] at hd
 cases hx:(qae qs)[j]? with
 | none=>rw [hx] at hd;cases hd
 | some x=>
  rw [hx] at hd
  cases hd
  obtain ⟨b,b1,b2⟩:=ky.2 j x hx
  exact ⟨_,b1,.tup b2 (.cons (.int _) (.cons (.str _) .nil))⟩
def qnc (p:qch):qch:=(p.1,p.2.1,((p.2.2.natAbs:Nat):Int))
abbrev qmF:Stmt:=top 34
def qin:Sp:=fun vs H Q _=>match vs with
 | [cv,.int num,.ref l]=>∃ (k n:Nat) (rows:Om.Rows) (ps:List qch),DV H cv (qax k n rows)/\Om.CodeOk k n rows/\DV H (.ref l) (qcl ps)/\ps.length<=50/\(∀ p∈ps,(PyData.str p.2.1).canLay0=true) ∧
   ∀ b H',Same H H'->(b=true↔ShS rows num ps)->Q (.bl b) H'
 | _=>False
theorem scLSh:FnScope ["code","number","paper","due","state","told","sign","run","word","behind","last","many","top"] ["code","number","paper"] (qad qmF):=⟨rfl,rfl,rfl,by decide +kernel,rfl,by decide +kernel,by decide +kernel⟩
local macro_rules | `(tactic| walk_at "T.c")=>`(tactic| (have ndc:(["row"]:List Str).Nodup:=(by decide +kernel));((with_reducible refine' qaF ["row"] [] ?b1 ?b2 (fun cl C s H fp=>?b3) (fun cl C s H fp=>?b4) (fun cl C s H fp=>?b5));(case b1=>exact ndc);(case b2=>walk_at "T.i");(case b3=>walk_at "T.g");(case b4=>walk_at "T.pf");(case b5=>walk_at "T.e")))
local macro_rules | `(tactic| walk_at "T.e")=>`(tactic| first | (with_reducible exact qbg) | ((with_reducible refine' qbk ?a0 ?a1 ?a2);(case a0=>exact Room.units (by assumption));(case a1=>with_reducible exact vn "told" 5);(case a2=>walk_at "T.e")) | ((with_reducible refine' qct qiq ?a1 ?a2 ?a3);(case a1=>walk_at "T.n");(case a2=>walk_at "T.o");(case a3=>walk_at "T.o")) | fail "no")
local macro_rules | `(tactic| walk_at "T.g")=>`(tactic| ((with_reducible refine' qa3 ?a0 ?a1 ?a2);(case a0=>exact Room.units (by assumption));(case a1=>with_reducible exact vn "told" 5);(case a2=>walk_at "T.e")))
theorem qlo (D:FnX K mg "_law_shows" qmF ["code","number","paper"]) (c1:Can P w K mg base "_law_come_to" 1 ["code"] qcP) (c2:Can P w K mg base "_law_runs" 1 ["sign","run","word"] qcN):Can P w K mg base "_law_shows" 2 ["code","number","paper"] qin:=by
 refine qak (k:=1) D scLSh (fun vs H Q E h=>?_) (fun f cdv A outer s H vs Q E hr h=>?_)
 all_goals
  unfold qin at h
  split at h
 ·rfl
 ·exact h.elim
 ·rename_i cv num l
  obtain ⟨k,n,rows,ps,hc,ok,hd,p50,lay,q⟩:=h
  have nd:=scLSh.nd
  have n1:=ok.n1
  obtain ⟨ca,cb,ss,rfl,hca,hcb,hss⟩:=qay hc
  obtain ⟨l',rs,e,hl,dr⟩:=hd.lst_inv
  cases e
  have rl:rs.length=ps.length:=by rw [dr.length,lM_]
  refine ⟨_,(by walk_at "T.top"),?_⟩
  refine ⟨Nat.zero_le _,fun A0 hA0=>?_⟩
  have s0:=Same.upd (o:=.lst []) hA0
  refine ⟨k,n,rows,hc.mono s0,ok,fun ql qs H1 s1 nql hql rc=>?_⟩
  have S1:=s0.trans s1
  have hA1:=s1 _ _ (qaa (H:=H) (a:=A0) (o:=.lst []))
  generalize upd H A0 (.lst [])=H0 at *
  have q8:=rc.2.2
  have z0:0∈qs:=(rc.2.1 0).mpr .z
  refine ⟨⟨_,SqL.of hql⟩,?_⟩
  refine qam (qag _ ql (qs.map fun s=>V.int (s:Nat))) (fun i σ H2=>∃ (v4 v5 v6 v7 v8 v9 v10 v11 v12:Option V) (A:Addr) (bz:List V),σ=[some (.ref ca),some (.int num),some (.ref l),some (.ref A),v4,v5,v6,v7,v8,v9,v10,v11,v12]/\Same H1 H2/\H2 A=some (.lst bz)/\KyL H2 bz (qae (qs.take i)))
   ⟨none,none,none,none,none,none,none,none,none,A0,[],rfl,Same.refl _,hA1,rfl,fun i x hx=>by simp [qae] at hx⟩ (fun i σ H2 _ ⟨_,_,_,_,_,_,_,_,_,_,_,_,s2,_⟩=>SqL.of (s2 _ _ hql)) ?_ ?_
  ·rintro i x σ H2 hi hx ⟨v4,v5,v6,v7,v8,v9,v10,v11,v12,A,bz,rfl,s2,hA,ky⟩
   rw [lM_] at hi
   rw [gM_,gE_ hi] at hx
   cases hx
   have tk:qs.take (i+1)=qs.take i++[qs[i]]:=by rw [List.take_add_one,gE_ hi];rfl
   generalize qs[i]=s at tk
   have bl:bz.length<=2 * 8:=by rw [ky.1,qao,List.length_take];omega
   refine ⟨lZ_ rfl,fun p1 hp1=>?_⟩
   have z1:=Same.upd (o:=.tup [.int (s:Nat),.str ("0" : Str)]) hp1
   have h1:upd H2 p1 (.tup [.int (s:Nat),.str ("0" : Str)]) p1=some (.tup ((qaM (s,false)).map kV)):=by rw [qaa,ky0]
   generalize upd H2 p1 (.tup [.int (s:Nat),.str ("0" : Str)])=H3 at *
   refine ⟨lZ_ rfl,fun p2 hp2=>?_⟩
   have z2:=Same.upd (o:=.tup [.int (s:Nat),.str ("1" : Str)]) hp2
   have h2:upd H3 p2 (.tup [.int (s:Nat),.str ("1" : Str)]) p2=some (.tup ((qaM (s,true)).map kV)):=by rw [qaa,ky1]
   generalize upd H3 p2 (.tup [.int (s:Nat),.str ("1" : Str)])=H4 at *
   refine ⟨lZ_ rfl,fun p3 hp3=>?_⟩
   have z3:=Same.upd (o:=.lst [.ref p1,.ref p2]) hp3
   have h3:upd H4 p3 (.lst [.ref p1,.ref p2]) p3=some (.lst [.ref p1,.ref p2]):=qaa
   generalize upd H4 p3 (.lst [.ref p1,.ref p2])=H5 at *
   have s5:=((s2.trans z1).trans z2).trans z3
   refine ⟨_,_,z3 _ _ (z2 _ _ (z1 _ _ hA)),h3,qaf (by simp only [List.length_cons,List.length_nil];omega),fun p4 hp4=>?_⟩
   have z4:=Same.upd (o:=.lst (bz++[.ref p1,.ref p2])) hp4
   have s6:=s5.trans z4
   refine ⟨_,_,_,_,_,_,_,_,_,p4,_,rfl,s6,qaa,?_⟩
   rw [tk,qbS]
   have k1:=(ky.mono fun b ys e=>z4 _ _ (z3 _ _ (z2 _ _ (z1 _ _ e)))).add (z4 _ _ (z3 _ _ (z2 _ _ h1)))
   have k2:=k1.add (z4 _ _ (z3 _ _ h2))
   have eb:(bz++[V.ref p1])++[V.ref p2]=bz++[V.ref p1,V.ref p2]:=by simp
   rw [eb] at k2
   exact k2
  ·rintro σ H2 ⟨v4,v5,v6,v7,v8,v9,v10,v11,v12,A,bz,rfl,s2,hA,ky⟩
   rw [lM_,List.take_length] at ky
   have S2:=S1.trans s2
   have hl2:=S2 _ _ hl
   have kl:=qao qs
   have kn:=qbT (qcS rc.1)
   refine ⟨⟨_,SqL.of hl2⟩,fun C hC=>?_⟩
   refine qaE (qag _ l rs) (fun i τ H3 ys=>(∃ v,τ=[v])/\Same H2 H3/\H3 C=some (.lst ys)/\DVs H3 ys (((ps.take i).map (fun p=>(p.1,p.2.1))).map kD2)) (qaf (by omega)) ⟨⟨none,rfl⟩,Same.upd hC,qaa,.nil⟩ ?_ ?_ ?_
   ·rintro i τ H3 ys hi ⟨_,s3,h3,dv⟩
    have:=dv.length
    rw [lM_,lM_,List.length_take] at this
    exact ⟨SqL.of (s3 _ _ hl2),h3,by omega⟩
   ·rintro i x τ H3 ys hi hx ⟨⟨v,rfl⟩,s3,h3,dv⟩
    have hi':i < ps.length:=by omega
    obtain ⟨b,b1,b2⟩:=qaZ dr (gE_ hi')
    rw [hx] at b1
    cases b1
    have b3:=s3 _ _ (S2 _ _ b2)
    refine ⟨b,_,rfl,b3,by show ¬ (HT.sIx 3 0 none=0/\HT.sIx 3 3 (some 2)=3);decide,fun p hp=>?_⟩
    have ec:cutV [V.int ps[i].1,.str ps[i].2.1,.int ps[i].2.2] none (some 2)=[.int ps[i].1,.str ps[i].2.1]:=rfl
    rw [ec]
    have z4:=Same.upd (o:=.tup [.int ps[i].1,.str ps[i].2.1]) hp
    have pC:p≠C:=fun z=>by rw [z,h3] at hp;cases hp
    refine ⟨z4 _ _ h3,⟨_,rfl⟩,(s3.trans z4).own hC,qaa,?_⟩
    rw [List.take_add_one,gE_ hi',List.map_append,List.map_append]
    refine DVs.app (qjN (dv.mono z4) fun b ys e=>?_) (.cons (.tup (by rw [qac pC];exact qaa) (.cons (.int _) (.cons (.str _) .nil))) .nil)
    rw [qac (qaj e (z4 _ _ h3) (fun z=>nomatch z))]
    exact e
   ·rintro τ H3 ys ⟨_,s3,h3,dv⟩
    rw [rl,List.take_length] at dv
    have S3:=S2.trans s3
    refine ⟨_,_,.lst h3 dv,.lst (s3 _ _ hA) (ky.mono fun b ys e=>s3 _ _ e).dv,qa5 _ (fun x hx=>?_),qa5 _ (fun x hx=>?_),?_⟩
    ·obtain ⟨p,hp,rfl⟩:=mM_ hx
     exact lay p hp
    ·unfold kys at hx
     obtain ⟨y,_,rfl⟩:=mM_ hx
     exact qel y.2
    rw [PyData.eqv,qcz]
    refine qaJ (fun z=>?_) (fun z=>?_)
    ·refine q false _ S3 ⟨(fun y=>nomatch y),fun ⟨qs',F,rc',e,_⟩=>?_⟩
     have eq:=rc'.uniq rc
     subst eq
     have:ps.map (fun p=>(p.1,p.2.1))=kys qs':=by rw [e];unfold qau kys;rw [List.map_map];rfl
     rw [decide_eq_true this] at z
     cases z
    have efs:ps.map (fun p=>(p.1,p.2.1))=kys qs:=Classical.byContradiction fun y=>z (by rw [decide_eq_false y];rfl)
    have nnA:∀ p∈ps.map qnc,0<=p.2.2:=fun p hp=>by
     obtain ⟨y,_,rfl⟩:=mM_ hp
     exact Int.natCast_nonneg _
    have efA:(ps.map qnc).map (fun p=>(p.1,p.2.1))=kys qs:=by rw [List.map_map,<-efs];rfl
    obtain ⟨F,eF⟩:=qck kn nnA efA
    change ps.map qnc=qau qs F at eF
    clear z efs efA nnA lay h3 dv
    have plk:ps.length=(qae qs).length:=by rw [kl,<-qaT (F:=F),<-eF,lM_]
    have rl:rs.length=(qae qs).length:=by rw [rl,plk]
    have ky:=ky.mono fun b ys e=>s3 _ _ e
    have hA:=s3 _ _ hA
    have hl3:=s3 _ _ hl2
    intro B hB
    have sB:Same H3 (upd H3 B (.dT [])):=Same.upd hB
    refine ⟨⟨_,SqL.of (sB _ _ hl3)⟩,?_⟩
    refine qam (qag _ l rs) (fun i σ H4=>∃ (v4 v6 v7 v8 v9 v10 v11 v12:Option V) (kvs:List (List Key×V)),σ=[some (.ref ca),some (.int num),some (.ref l),some (.ref A),v4,some (.ref B),v6,v7,v8,v9,v10,v11,v12]/\Same H3 H4/\H4 B=some (.dT kvs)/\RunV kvs ((qae qs).take i) F/\∀ p∈ps.take i,0<=p.2.2)
     ⟨_,_,_,_,_,_,_,_,[],rfl,sB,qaa,⟨KS.nil,fun x hx=>by simp at hx⟩,fun p hp=>by simp at hp⟩ (fun i σ H4 _ ⟨_,_,_,_,_,_,_,_,_,_,s4,_⟩=>SqL.of (s4 _ _ hl3)) ?_ ?_
    ·rintro i x σ H4 hi hx ⟨v4,v6,v7,v8,v9,v10,v11,v12,kvs,rfl,s4,hB4,rv,nn⟩
     have hi':i < (qae qs).length:=by omega
     have hip:i < ps.length:=by omega
     have hk:(qae qs)[i]? = some (qae qs)[i]:=gE_ hi'
     have sp:(qau qs F)[i]? = some (((((qae qs)[i]).1:Nat):Int),bs [((qae qs)[i]).2],((F (qae qs)[i]:Nat):Int)):=by unfold qau;rw [gM_,hk];rfl
     have hp0:ps[i]? = some ps[i]:=gE_ hip
     have tk:ps.take (i+1)=ps.take i++[ps[i]]:=by rw [List.take_add_one,hp0];rfl
     rw [<-eF,gM_,hp0] at sp
     generalize (qae qs)[i]=y at hk sp
     generalize ps[i]=pr at hp0 tk sp
     obtain ⟨pa,pb',pv⟩:=pr
     have sp:=oI_ sp
     injection sp with sp1 sp2
     injection sp2 with sp2 sp3
     dsimp only at sp1 sp2 sp3
     subst sp1 sp2
     obtain ⟨b,b1,b2⟩:=qaZ dr hp0
     rw [hx] at b1
     cases b1
     refine ⟨_,.inl (s4 _ _ (S3 _ _ b2)),rfl,rfl,?_⟩
     refine ⟨lZ_ rfl,fun p hp=>?_⟩
     have z4:=Same.upd (o:=.tup [.int (y.1:Nat),.str (bs [y.2])]) hp
     have kl2:=rv.kz.len
     rw [List.length_take] at kl2
     refine .inr ⟨B,_,rfl,DPut.t (k:=qaM y) (z4 _ _ hB4) qaa (qai (by omega)),?_⟩
     dsimp only [rN0,tV]
     refine qaJ (fun c=>?_) (fun c=>?_)
     ·have c:pv < 0:=of_decide_eq_true c
      refine q false _ (S3.trans ((s4.trans z4).own hB)) ⟨(fun y=>nomatch y),fun ⟨qs',F',_,e,_⟩=>?_⟩
      have hm:=mO_ hp0
      rw [e] at hm
      unfold qau at hm
      obtain ⟨y',_,e'⟩:=mM_ hm
      injection e' with _ e'
      injection e' with _ e'
      omega
     have c:¬ pv < 0:=fun z=>c (decide_eq_true z)
     have ev:pv=((F y:Nat):Int):=by omega
     refine ⟨_,_,_,_,_,_,_,_,_,rfl,(s4.trans z4).own hB,qaa,?_,fun p' hp'=>?_⟩
     ·rw [<-qbJ kn hk,ev]
      have r5:=rv.put y (F y)
      refine ⟨r5.kz,fun z hz=>?_⟩
      rw [r5.vl z hz]
      by_cases e:z=y
      ·subst e;rw [if_pos rfl]
      ·rw [if_neg e]
     ·rw [tk] at hp'
      rcases mA_ hp' with hp' | hp'
      ·exact nn p' hp'
      ·rw [mS_ hp']
       show 0<=pv
       omega
    ·rintro σ H4 ⟨v4,v6,v7,v8,v9,v10,v11,v12,kvs,rfl,s4,hB4,rv,nn⟩
     rw [rl,List.take_length] at rv
     rw [show rs.length=ps.length by omega,List.take_length] at nn
     have eps:ps=qau qs F:=by
      rw [<-eF]
      conv=>lhs;rw [<-List.map_id ps]
      refine List.map_congr_left fun p hp=>?_
      obtain ⟨pa,pb',pv⟩:=p
      have:(0:Int)<=pv:=nn _ hp
      show (pa,pb',pv)=(pa,pb',((pv.natAbs:Nat):Int))
      rw [show ((pv.natAbs:Nat):Int)=pv by omega]
     have fin:=fun {b:Bool} {H':Hp} (x1:Same H H') (x3:b=true↔∀ x∈qae qs,∀ r∈rows.getD x.1 [],((tpF F x r:Nat):Int)<=num/\ctF F x r<=F (tgt r))=>q b H' x1 (by rw [eps];exact x3.trans (qfe rc).symm)
     have S4:=S3.trans s4
     have hA4:=s4 _ _ hA
     have ky4:=ky.mono fun b ys e=>s4 _ _ e
     have tm:∀ x∈qae qs,∀ r∈rows.getD x.1 [],tgt r∈qae qs:=fun x hx r hr=>mem_keysOf.mpr ((rc.2.1 _).mpr (.s ((rc.2.1 _).mp (mem_keysOf.mp hx)) (List.mem_map.mpr ⟨_,hr,rfl⟩)))
     refine ⟨⟨_,SqL.of hA4⟩,?_⟩
     refine qam (qag _ A bz) (fun i σ H5=>∃ (v4 v6 v7 v8 v9 v10 v11 v12:Option V),σ=[some (.ref ca),some (.int num),some (.ref l),some (.ref A),v4,some (.ref B),v6,v7,v8,v9,v10,v11,v12]/\Same H4 H5/\∀ x∈(qae qs).take i,∀ r∈rows.getD x.1 [],((tpF F x r:Nat):Int)<=num/\ctF F x r<=F (tgt r))
      ⟨_,_,_,_,_,_,_,_,rfl,Same.refl _,fun x hx=>by simp at hx⟩ (fun i σ H5 _ ⟨_,_,_,_,_,_,_,_,_,s5,_⟩=>SqL.of (s5 _ _ hA4)) ?_ ?_
     ·rintro i v σ H5 hi hv ⟨v4,v6,v7,v8,v9,v10,v11,v12,rfl,s5,al⟩
      have hi':i < (qae qs).length:=by rw [<-ky.1];exact hi
      have hx:(qae qs)[i]? = some (qae qs)[i]:=gE_ hi'
      have xm:(qae qs)[i]∈qae qs:=List.getElem_mem hi'
      have tk:(qae qs).take (i+1)=(qae qs).take i++[(qae qs)[i]]:=by rw [List.take_add_one,hx];rfl
      generalize (qae qs)[i]=x at hx xm tk
      obtain ⟨b0,b1,b2⟩:=ky4.2 i x hx
      rw [hv] at b1
      cases b1
      have slt:x.1 < rows.length:=Om.rch_ok ok _ ((rc.2.1 _).mp (mem_keysOf.mp xm))
      obtain ⟨qx,rx,e1,e2,e3⟩:=qaA hss (s:=x.1) (st:=rows[x.1]) (gE_ slt)
      have rxl:rx.length=rows[x.1].length:=by rw [e3.length,lM_]
      have eg:rows.getD x.1 []=rows[x.1]:=by rw [List.getD_eq_getElem?_getD,gE_ slt];rfl
      have S5:=S4.trans s5
      refine ⟨_,.inl (s5 _ _ b2),rfl,rfl,?_⟩
      refine ⟨_,gt (S5 _ _ hca) (by decide) rfl,.ref qx,gl (S5 _ _ hcb) (by omega) (by simpa using e1),⟨_,SqL.of (S5 _ _ e2)⟩,?_⟩
      refine qam (qag _ qx rx) (fun j σ H6=>∃ (v7 v8 v9 v10 v11 v12:Option V),σ=[some (.ref ca),some (.int num),some (.ref l),some (.ref A),some (.int (x.1:Nat)),some (.ref B),some (.str (bs [x.2])),v7,v8,v9,v10,v11,v12]/\Same H5 H6/\∀ r∈rows[x.1].take j,((tpF F x r:Nat):Int)<=num/\ctF F x r<=F (tgt r))
       ⟨_,_,_,_,_,_,rfl,Same.refl _,fun x hx=>by simp at hx⟩ (fun j σ H6 _ ⟨_,_,_,_,_,_,_,s6,_⟩=>SqL.of (s6 _ _ (S5 _ _ e2))) ?_ ?_
      ·rintro j z σ H6 hj hz ⟨v7,v8,v9,v10,v11,v12,rfl,s6,alr⟩
       have hj':j < rows[x.1].length:=by omega
       obtain ⟨r,r1,r2⟩:=qbr e3 (l:=j) (r:=rows[x.1][j]) (gE_ hj')
       rw [hz] at r1
       cases r1
       have okr:=ok.row _ (List.getElem_mem slt) _ (List.getElem_mem hj')
       have tj:rows[x.1].take (j+1)=rows[x.1].take j++[rows[x.1][j]]:=by rw [List.take_add_one,gE_ hj'];rfl
       have rm:rows[x.1][j]∈rows.getD x.1 []:=by rw [eg];exact List.getElem_mem _
       generalize rows[x.1][j]=rw0 at r2 okr tj rm
       have wne:rw0.1≠[]:=fun z=>by have:=congrArg List.length z;rw [okr.1] at this;simp at this;omega
       have S6:=S5.trans s6
       refine ⟨_,.inl (S6 _ _ r2),rfl,rfl,?_⟩
       refine ⟨lZ_ rfl,fun p hp=>?_⟩
       have z7:=Same.upd (o:=.tup [.int (x.1:Nat),.str (bs [x.2])]) hp
       have hB6:=s6 _ _ (s5 _ _ hB4)
       refine .inr ⟨B,.int (F x:Nat),rfl,.inr ⟨kvs,qaM x,p,.inl (z7 _ _ hB6),rfl,qaa,(rv.vl x xm).symm⟩,?_⟩
       have s7:=s6.trans z7
       have hB7:=z7 _ _ hB6
       generalize upd H6 p (.tup [.int (x.1:Nat),.str (bs [x.2])])=H7 at s7 hB7
       refine ⟨some x.2,F x,rw0.1,rfl,rfl,rfl,wne,fun p8 H8 s8 hp8=>?_⟩
       refine ⟨_,.inl hp8,rfl,rfl,?_⟩
       have S8:=s7.trans s8
       have hB8:=s8 _ _ hB7
       have el:(pb (some x.2) (F x) rw0.1).1=some (lb rw0.1):=qbo wne _ _
       dsimp only [rN0,tV]
       refine qaJ (fun c=>?_) (fun c=>?_)
       ·refine fin (S5.trans S8) ⟨(fun y=>nomatch y),fun h=>?_⟩
        have:=(h x xm rw0 rm).1
        have c:num < ((tpF F x rw0:Nat):Int):=of_decide_eq_true c
        omega
       refine ⟨lZ_ rfl,fun p9 hp9=>?_⟩
       have z9:=Same.upd (o:=.tup [.int (rw0.2:Nat),.str (sgn (pb (some x.2) (F x) rw0.1).1)]) hp9
       have h9:upd H8 p9 (.tup [.int (rw0.2:Nat),.str (sgn (pb (some x.2) (F x) rw0.1).1)]) p9=some (.tup ((qaM (tgt rw0)).map kV)):=by rw [qaa,el];rfl
       refine .inr ⟨B,.int (F (tgt rw0):Nat),rfl,.inr ⟨kvs,qaM (tgt rw0),p9,.inl (z9 _ _ hB8),rfl,h9,(rv.vl _ (tm x xm rw0 rm)).symm⟩,?_⟩
       have s9:=S8.trans z9
       refine qaJ (fun c2=>?_) (fun c2=>?_)
       ·refine fin (S5.trans s9) ⟨(fun y=>nomatch y),fun h=>?_⟩
        have:=(h x xm rw0 rm).2
        have c2:((F (tgt rw0):Nat):Int) < ((ctF F x rw0:Nat):Int):=of_decide_eq_true c2
        omega
       refine ⟨_,_,_,_,_,_,rfl,s9,fun r hr=>?_⟩
       rw [tj] at hr
       rcases mA_ hr with hr | hr
       ·exact alr r hr
       ·rw [mS_ hr]
        have c:¬ (num < ((tpF F x rw0:Nat):Int)):=fun z=>c (decide_eq_true z)
        have c2:¬ (((F (tgt rw0):Nat):Int) < ((ctF F x rw0:Nat):Int)):=fun z=>c2 (decide_eq_true z)
        omega
      ·rintro σ H6 ⟨v7,v8,v9,v10,v11,v12,rfl,s6,alr⟩
       rw [rxl,List.take_length] at alr
       refine ⟨_,_,_,_,_,_,_,_,rfl,s5.trans s6,fun y hy r hr=>?_⟩
       rw [tk] at hy
       rcases mA_ hy with hy | hy
       ·exact al y hy r hr
       ·rw [mS_ hy] at hr ⊢
        rw [eg] at hr
        exact alr r hr
     ·rintro σ H5 ⟨v4,v6,v7,v8,v9,v10,v11,v12,rfl,s5,al⟩
      rw [ky.1,List.take_length] at al
      exact fin (S4.trans s5) ⟨fun _=>al,fun _=>rfl⟩
 ·exact h.elim
end
end K14
end
section
namespace L2
open PySem PySem.Spec PyProof.Rows
section
variable {X:Cx} {pos apos:Pos} {o:Expr} {to:TE}
end
end L2
end
section
namespace L2
open PySem PySem.Spec PyProof.Rows
section
variable {X:Cx}
def qkF:R2:=fun x y H Q=>match x,y with
 | .str z,.int n=>MulOk z n/\Q (.str (Txt.mul z n)) H
 | _,_=>False
theorem qjh:OpR X (binaryOp .Mult) qkF:=by
 intro pins s σ H x y v u Q I rx ry h
 unfold qkF at h
 split at h
 ·obtain ⟨t,rfl⟩:=rx
  obtain ⟨t',rfl⟩:=ry
  exact SB.mul h.1 fun t2 k=>⟨.str _,H,I.tok _,⟨_,rfl⟩,h.2⟩
 ·exact h.elim
end
theorem qjB (b:Bool) (n:Nat) (h:n<=6):MulOk (bs [b]) ((n:Nat):Int):=by
 have:n=0\/n=1\/n=2\/n=3\/n=4\/n=5\/n=6:=by omega
 unfold MulOk
 rcases this with rfl | rfl | rfl | rfl | rfl | rfl | rfl<;>cases b<;>decide +kernel
theorem qjC (b:Bool) (n:Nat) (h:n<=6):Txt.mul (bs [b]) ((n:Nat):Int)=bs (List.replicate n b):=by
 have:n=0\/n=1\/n=2\/n=3\/n=4\/n=5\/n=6:=by omega
 rcases this with rfl | rfl | rfl | rfl | rfl | rfl | rfl<;>cases b<;>decide +kernel
end L2
end
section
namespace K14
open PySem L2
theorem qgF {H:Hp} {C p:Addr} {ys:List V} {st:List (List Bool×Nat)} {w:List Bool} {b:Nat} (h5:H C=some (.lst ys)) (hp:H p=none) (dv:DVs (woA C H) ys (st.map qdY)):DVs (woA C (upd (upd H p (.tup [.str (bs w),.int (b:Nat)])) C (.lst (ys++[.ref p])))) (ys++[.ref p]) ((st++[(w,b)]).map qdY):=by
 have Cp:C≠p:=qab h5 hp
 have sm:Same (woA C H) (woA C (upd (upd H p (.tup [.str (bs w),.int (b:Nat)])) C (.lst (ys++[.ref p])))):=fun b o e=>by
  have bC:b≠C:=fun z=>by rw [z] at e;unfold woA at e;rw [if_pos rfl] at e;cases e
  refine woA.at ?_ bC
  rw [qac bC]
  exact Same.upd hp _ _ (woA.same _ _ e)
 rw [List.map_append]
 exact (dv.mono sm).app (.cons (.tup (woA.at (by rw [qac (Ne.symm Cp),qaa]) (Ne.symm Cp)) (.cons (.str _) (.cons (.int _) .nil))) .nil)
section
variable {rows:Om.Rows} {k n:Nat}
theorem qh2 (ok:Om.CodeOk k n rows) {b:Bool} {t:Nat} (l8:rows.length < 8) (tl:t<=rows.length):Om.CodeOk k n (rows++[List.replicate (2 ^ k) (List.replicate n b,t)]):=by
 have l:(rows++[List.replicate (2 ^ k) (List.replicate n b,t)]).length=rows.length+1:=by rw [lA_];rfl
 refine ⟨ok.k1,ok.k3,ok.n1,ok.n6,by rw [l];exact Nat.succ_pos _,by rw [l];omega,fun st hst=>?_,fun st hst r hr=>?_⟩
 ·rcases mA_ hst with z | z
  ·exact ok.len st z
  ·rw [mS_ z,List.length_replicate]
 ·rw [l]
  rcases mA_ hst with z | z
  ·have:=ok.row st z r hr
   exact ⟨this.1,by omega⟩
  ·rw [mS_ z] at hr
   rw [List.eq_of_mem_replicate hr]
   exact ⟨List.length_replicate,by show t < _;omega⟩
end
section
variable {P:Program} {w:World} {K:PySem.W.Frag} {mg:Str->Option Value} {base:Heap}
abbrev qiw:Stmt:=top 29
def qe1:Sp:=fun vs H Q _=>match vs with
 | [cv,.int x]=>∃ (k n:Nat) (rows:Om.Rows),DV H cv (qax k n rows)/\Om.CodeOk k n rows/\0<=x/\Q cv H ∧
   ∀ v rws H',Same H H'->DV H' v (qax k n rws)->Om.CodeOk k n rws->Q v H'
 | _=>False
theorem scWide:FnScope ["code","x","row"] ["code","x"] (qad qiw):=⟨rfl,rfl,rfl,by decide +kernel,rfl,by decide +kernel,by decide +kernel⟩
local macro_rules | `(tactic| walk_at "T.sc")=>`(tactic| (have ndc:(["letter","x","code"]:List Str).Nodup:=(by decide +kernel));((with_reducible refine' qfh "row" 2 ["letter","x","code"] [1,0] ?b1 ?b0 ?b2 (fun cl C s H fp=>?b3) (fun cl C s H fp=>?b4) (fun cl C s H fp=>?b5));(case b1=>exact ndc);(case b0=>assumption);(case b2=>walk_at "T.i");(case b3=>walk_at "T.g");(case b4=>walk_at "T.pf");(case b5=>walk_at "T.e")))
local macro_rules | `(tactic| walk_at "T.e")=>`(tactic| ((with_reducible refine' qkY ?a1 ?a2 ?a3);(case a1=>with_reducible exact qjh);(case a2=>((with_reducible refine' qlH ?c1 ?c2);(case c1=>with_reducible exact qhJ);(case c2=>walk_at "T.e")));(case a3=>walk_at "T.e")))
theorem qjj (D:FnX K mg "_law_wider" qiw ["code","x"]) (g1:mg "len" = none):Can P w K mg base "_law_wider" 1 ["code","x"] qe1:=by
 refine qak (k:=0) D scWide (fun vs H Q E h=>?_) (fun f cdv A outer s H vs Q E hr h=>?_)
 all_goals
  unfold qe1 at h
  split at h
 ·rfl
 ·exact h.elim
 ·rename_i cv x
  obtain ⟨k,n,rows,hc,ok,x0,q0,q⟩:=h
  have nd:=scWide.nd
  obtain ⟨a0,b0,ss,rfl,ha,hb,hss⟩:=qay hc
  have sl:ss.length=rows.length:=by rw [hss.length,lM_]
  have s8:=ok.s8
  have n6:=ok.n6
  have s1':0 < rows.length:=ok.s1
  have p8:2 ^ k<=8:=Om.pow8 ok.k3
  refine ⟨_,(by walk_at "T.top"),?_⟩
  refine ⟨(by decide:(0:Int) < 3),?_⟩
  refine qaJ (fun _=>q0) (fun _=>?_)
  refine ⟨_,gt ha (by decide) rfl,_,qcV hb,?_⟩
  refine qaJ (fun _=>q0) (fun z=>?_)
  have l8:rows.length < 8:=by
   have:¬ ((ss.length:Nat):Int)=8:=fun y=>z (decide_eq_true y)
   omega
  obtain ⟨qx,rx,e1,e2,e3⟩:=qaA hss (s:=0) (st:=rows[0]) (gE_ s1')
  have rl:rx.length=2 ^ k:=by rw [e3.length,lM_];exact ok.len _ (List.getElem_mem s1')
  refine ⟨_,gt ha (by decide) rfl,.ref qx,gl hb (by decide) (by simpa using e1),⟨_,SqL.of e2⟩,fun C hC=>?_⟩
  have r0:=Int.emod_nonneg (x / 3) (show (2:Int)≠0 by decide)
  have r1:=Int.emod_lt_of_pos (x / 3) (show (0:Int) < 2 by decide)
  refine qaE (qag _ qx rx) (fun i τ H5 zs=>(∃ v,τ=[v,some (.int x),some (.ref a0)])/\Same H H5/\H5 C=some (.lst zs)/\zs.length=i/\DVs (woA C H5) zs ((List.replicate i (List.replicate n (decide (x / 3 % 2=1)),0)).map qdY)) (qaf (by omega)) ⟨⟨none,rfl⟩,Same.upd hC,qaa,rfl,.nil⟩ ?_ ?_ ?_
  ·rintro i τ H5 zs hi ⟨_,s5,h5,zl,_⟩
   exact ⟨SqL.of (s5 _ _ e2),h5,by omega⟩
  ·rintro i y τ H5 zs hi hy ⟨⟨v,rfl⟩,s5,h5,zl,dv⟩
   refine ⟨⟨by decide,by decide⟩,(by decide:(0:Int) < 2),_,g01 r0 r1,_,gt (s5 _ _ ha) (by decide) rfl,qjB _ n n6,?_⟩
   rw [qjC _ n n6]
   refine ⟨lZ_ rfl,fun p hp=>?_⟩
   refine ⟨by rw [qac (qab h5 hp)];exact h5,⟨_,rfl⟩,(s5.trans (Same.upd hp)).own hC,qaa,by simp [zl],?_⟩
   rw [List.replicate_succ']
   exact qgF h5 hp dv
  rintro τ H5 zs ⟨_,s5,h5,zl,dv⟩
  rw [rl] at dv
  replace dv:=dv.mono woA.same
  dsimp only [qah]
  refine ⟨_,gt (s5 _ _ ha) (by decide) rfl,_,gt (s5 _ _ ha) (by decide) rfl,_,gt (s5 _ _ ha) (by decide) rfl,lZ_ rfl,fun n1 hn1=>?_⟩
  have w6:=Same.upd (o:=.lst [.ref C]) hn1
  refine ⟨_,_,w6 _ _ (s5 _ _ hb),qaa,qaf (by rw [List.length_singleton];omega),fun n2 hn2=>?_⟩
  have w7:=Same.upd (o:=.lst (ss++[.ref C])) hn2
  refine ⟨lZ_ rfl,fun p hp=>?_⟩
  have W:=(w6.trans w7).trans (Same.upd (o:=.tup [.int (k:Nat),.int (n:Nat),.ref n2]) hp)
  refine q (.ref p) (rows++[List.replicate (2 ^ k) (List.replicate n (decide (x / 3 % 2=1)),0)]) _ (s5.trans W) ?_ (qh2 ok l8 (Nat.zero_le _))
  refine .tup qaa (.cons (.int _) (.cons (.int _) (.cons (.lst (Same.upd hp _ _ qaa) ?_) .nil)))
  rw [List.map_append]
  exact (hss.mono (s5.trans W)).app (.cons (.lst (W _ _ h5) (dv.mono W)) .nil)
 ·exact h.elim
end
end K14
end
section
namespace L2
open PySem PySem.Spec PyProof.Rows
section
variable {prog:Program} {w:World} {A:Around}
end
section
variable {X:Cx} {p pos:Pos}
end
end L2
end
section
namespace L2
open PySem PySem.Spec PyProof.Rows
section
variable {X:Cx}
end
end L2
namespace L2
end L2
end
section
namespace L2
open PySem PySem.Spec PyProof.Rows
section
variable {X:Cx} {a b:Expr} {p pos:Pos} {ta:TA}
end
end L2
end
section
namespace L2
open PySem PySem.Spec PyProof.Rows PySem.W PySem.Calls
section
variable {n:Nat} {cmp:Nat->Nat->(Bool->Shared->Prop)->Shared->Prop} {s:Shared}
def GoodP (n:Nat) (p:Array Nat):Prop:=p.Perm (List.toArray (List.range n))
theorem GoodP.lt {p:Array Nat} (g:GoodP n p) (h0:0 < n) (i:Nat):p.getD i 0 < n:=by
 by_cases h:i < p.size
 ·have hm:p[i]∈p:=Array.getElem_mem h
  have:p[i]∈List.toArray (List.range n):=g.mem_iff.mp hm
  rw [List.mem_toArray,List.mem_range] at this
  simpa [Array.getD,h] using this
 ·simpa [Array.getD,h] using h0
variable (hc:∀ i j C,i < n->j < n->(∀ b,C b s)->cmp i j C s) (h0:0 < n)
include hc h0
theorem qgn {p:Array Nat} (g:GoodP n p) {Q:Nat->Shared->Prop}:∀ f k,(∀ m,Q m s)->(kas_asc p f k).kasWp cmp Q s
 | 0,k,h=>h k
 | f+1,k,h=>hc _ _ _ (g.lt h0 _) (g.lt h0 _) fun b=>by
  cases b with
  | true=>exact h _
  | false=>exact qgn g f (k+1) h
theorem qcC {Q:Array Nat×Nat×Nat->Shared->Prop}:∀ f p k q,GoodP n p->(∀ r:Array Nat×Nat×Nat,GoodP n r.1->Q r s)->(kas_desc f p k q).kasWp cmp Q s
 | 0,p,k,q,g,h=>h _ g
 | f+1,p,k,q,g,h=>hc _ _ _ (g.lt h0 _) (g.lt h0 _) fun b=>by
  cases b with
  | true=>
   show (if q > 0 then kas_desc f (kas_rev p (k - (q+1)) k) (k+1) 0 else kas_desc f p (k+1) 0).kasWp cmp Q s
   split
   ·exact qcC f _ _ _ ((mirror_perm _ _ _ _).trans g) h
   ·exact qcC f _ _ _ g h
  | false=>
   refine hc _ _ _ (g.lt h0 _) (g.lt h0 _) fun b=>?_
   cases b with
   | true=>exact h _ g
   | false=>exact qcC f _ _ _ g h
theorem qdR {p:Array Nat} (g:GoodP n p) {Q:Nat×Array Nat->Shared->Prop} (a b:Nat) (h:∀ r:Nat×Array Nat,GoodP n r.2->Q r s):(kas_tail3 a b p).kasWp cmp Q s:=by
 have g':GoodP n (kas_rev p 0 a):=(mirror_perm _ _ _ _).trans g
 unfold kas_tail3
 rw [KasT.kasWp_bind]
 exact qgn hc h0 g' _ _ fun m=>h _ g'
theorem qb0 {p:Array Nat} (g:GoodP n p) {Q:Nat×Array Nat->Shared->Prop} (a b:Nat) (h:∀ r:Nat×Array Nat,GoodP n r.2->Q r s):(kas_descPart a b p).kasWp cmp Q s:=by
 unfold kas_descPart
 rw [KasT.kasWp_bind]
 refine qcC hc h0 _ _ _ _ g fun r gr=>?_
 show (if r.2.2 > 0 then kas_tail3 r.2.1 b (kas_rev r.1 (r.2.1 - (r.2.2+1)) r.2.1) else kas_tail3 r.2.1 b r.1).kasWp cmp Q s
 split
 ·exact qdR hc h0 ((mirror_perm _ _ _ _).trans gr) _ _ h
 ·exact qdR hc h0 gr _ _ h
theorem qhm {p:Array Nat} (g:GoodP n p) {Q:Nat×Array Nat->Shared->Prop} (b:Nat) (h:∀ r:Nat×Array Nat,GoodP n r.2->Q r s):(kas_count b p).kasWp cmp Q s:=by
 unfold kas_count
 rw [KasT.kasWp_bind]
 refine qgn hc h0 g _ _ fun m=>?_
 split
 ·exact h _ g
 ·split
  ·refine hc _ _ _ (g.lt h0 _) (g.lt h0 _) fun c=>?_
   cases c with
   | true=>exact h _ g
   | false=>exact qb0 hc h0 ((mirror_perm _ _ _ _).trans g) _ _ h
  ·exact qb0 hc h0 g _ _ h
theorem qcs {p:Array Nat} (g:GoodP n p) {Q:Nat->Shared->Prop} (k:Nat):∀ f l r,(∀ m,Q m s)->(kas_place p k f l r).kasWp cmp Q s
 | 0,l,r,h=>h _
 | f+1,l,r,h=>by
  unfold kas_place
  split
  ·exact h _
  ·refine hc _ _ _ (g.lt h0 _) (g.lt h0 _) fun b=>?_
   cases b with
   | true=>exact qcs g k f _ _ h
   | false=>exact qcs g k f _ _ h
theorem qh1 {Q:Array Nat->Shared->Prop}:∀ f p k,GoodP n p->(∀ r,GoodP n r->Q r s)->(kas_bin f p k).kasWp cmp Q s
 | 0,p,k,g,h=>h _ g
 | f+1,p,k,g,h=>by
  unfold kas_bin
  rw [KasT.kasWp_bind]
  exact qcs hc h0 g k _ _ _ fun m=>qh1 f _ _ ((bubble_perm _ _ _).trans g) h
theorem qip {Q:Array Nat->Shared->Prop} (h:∀ r,GoodP n r->Q r s):(kas_sort n).kasWp cmp Q s:=by
 unfold kas_sort
 rw [KasT.kasWp_bind]
 refine qhm hc h0 (Array.Perm.refl _) _ fun r gr=>?_
 split
 ·exact qh1 hc h0 _ _ _ gr h
 ·exact h _ gr
end
section
variable {prog:Program} {w:World} {A:Around} {E:Value->Shared->Prop} {s:Shared}
theorem qfW {vs:List Value} {i:Nat} (h:i < vs.length):vs.getD i Value.none∈vs:=by
 rw [List.getD_eq_getElem?_getD,gE_ h];exact List.getElem_mem h
end
section
variable {X:Cx} {p pos:Pos}
end
end L2
end
section
namespace L2
open PySem PySem.Spec PyProof.Rows PySem.W PySem.Calls
section
variable {prog:Program} {w:World} {A:Around} {E:Value->Shared->Prop} {s:Shared}
def qde (u v:Value):Prop:=(∃ a b t t',u = .int a t/\v = .int b t')\/(∃ x y t t',u = .str x t/\v = .str y t')
theorem qdE {u v:Value} {Q:Bool->Shared->Prop} (h:qde u v) (q:∀ b,Q b s):wpAny (model prog w) A (eqBool u v) Q E s:=by
 rcases h with ⟨a,b,t,t',rfl,rfl⟩ | ⟨x,y,t,t',rfl,rfl⟩
 ·exact wpAny_eqBool_int (q _)
 ·exact wpAny_eqBool_str (q _)
theorem qf0 {u v:Value} {Q:Value->Shared->Prop} (h:qde u v) (q:∀ b,Q (.bool b) s):wpAny (model prog w) A (compareOp .Lt u v) Q E s:=by
 rcases h with ⟨a,b,t,t',rfl,rfl⟩ | ⟨x,y,t,t',rfl,rfl⟩
 ·exact PyProof.Rows.lt_int (q _)
 ·exact PyProof.Rows.lt_str (q _)
def TupO (h:Heap) (v:Value) (xs:List Value):Prop:=∃ (t:Addr) (o:Obj) (n:Nat),v = .ref t/\h.get? t=some o/\o.cls = .type "tuple"/\o.data = .seq xs.toArray n
theorem TupO.ty {v:Value} {xs:List Value} (h:TupO s.heap v xs):s.TypeIs v "tuple" := by
 obtain ⟨t,o,n,rfl,h1,h2,h3⟩:=h
 exact ⟨o,h1,h2⟩
def qdd (xs ys:List Value):Prop:=∀ p∈xs.zip ys,qde p.1 p.2
theorem qh9 {u v:Value} {xs ys:List Value} {P:PySem.Fin->Shared->Prop} (hu:TupO s.heap u xs) (hv:TupO s.heap v ys) (z:qdd xs ys) (h:∀ c,P (.done (.ret (.bool c))) s) :
  wpAny (model prog w) A (Builtin.«tuple.__lt__» ⟨[u,v],[]⟩) P E s:=by
 have tv:=hv.ty
 obtain ⟨a,o,n,rfl,a1,a2,a3⟩:=hu
 obtain ⟨b,o',n',rfl,b1,b2,b3⟩:=hv
 show wpAny _ _ (isInstance (.ref b) (.type "tuple") >>= _) _ _ s
 refine wpAny_bind (wpAny_isInstance tv isSubtype_tuple_tuple ?_)
 simp only [Bool.not_true,Bool.false_eq_true,if_false]
 refine wpAny_bind (wpAny_tupleItemsOf a1 a3 (wpAny_bind (wpAny_tupleItemsOf b1 b3 (wpAny_bind ?_))))
 refine wpAny_forIn_list _ (fun rest r s'=>r.1=none/\s'=s/\∀ p∈rest,qde p.1 p.2) _ ?_ ?_ _ _ ⟨rfl,rfl,fun p hp=>z p (by simpa using hp)⟩
 ·rintro ⟨x,y⟩ rest r s' ⟨hr,rfl,al⟩
  have f:=al (x,y) List.mem_cons_self
  refine wpAny_bind (qdE f fun c=>?_)
  cases c with
  | true=>
   simp only [Bool.not_true,Bool.false_eq_true,if_false]
   exact wpAny_pure ⟨rfl,rfl,fun p hp=>al p (mC_ _ hp)⟩
  | false=>
   simp only [Bool.not_false,if_true]
   refine wpAny_bind (wpAny_rule ?_)
   refine wpAny_bind ?_
   refine wpAny_mono (show wpAny (model prog w) A (compareOp .Lt x y) (fun r' s2=>(∃ c,r' = .bool c)/\s2=s') E s' from qf0 f fun c=>⟨⟨c,rfl⟩,rfl⟩) ?_ fun _ _ x=>x
   rintro r' s2 ⟨⟨c,rfl⟩,rfl⟩
   exact wpAny_bind (wpAny_pure (wpAny_pure (wpAny_pure (h c))))
 ·rintro ⟨r1,r2⟩ s' ⟨hr,rfl,_⟩
  simp only at hr
  subst hr
  exact wpAny_pure (h _)
theorem qgx {u v:Value} {xs ys:List Value} {Q:Value->Shared->Prop} (hl:A.units < cLine) (hu:TupO s.heap u xs) (hv:TupO s.heap v ys) (z:qdd xs ys) (h:∀ c,Q (.bool c) s):wpAny (model prog w) A (compareOp .Lt u v) Q E s:=
 show wpAny (model prog w) A (richCompare .Lt u v) Q E s from
 wpAny_richCompare_same_room (op:=.Lt) hu.ty hv.ty F.slot_tuple_lt (wpAny_call_entry F.slot_tuple_lt hu.ty F.entry_tuple_lt (qh9 hu hv z fun c=>⟨_,rfl,(fun e=>nomatch e),h c⟩) (F.args_tuple_lt_2 _ _)) hl
theorem qia {u v:Value} {xs ys:List Value} {P:PySem.Fin->Shared->Prop} (hu:TupO s.heap u xs) (hv:TupO s.heap v ys) (z:qdd xs ys) (h:∀ c,P (.done (.ret (.bool c))) s) :
  wpAny (model prog w) A (Builtin.«tuple.__eq__» ⟨[u,v],[]⟩) P E s:=by
 have tv:=hv.ty
 obtain ⟨a,o,n,rfl,a1,a2,a3⟩:=hu
 obtain ⟨b,o',n',rfl,b1,b2,b3⟩:=hv
 show wpAny _ _ (isInstance (.ref b) (.type "tuple") >>= _) _ _ s
 refine wpAny_bind (wpAny_isInstance tv isSubtype_tuple_tuple ?_)
 simp only [Bool.not_true,Bool.false_eq_true,if_false]
 refine wpAny_bind (wpAny_tupleItemsOf a1 a3 (wpAny_bind (wpAny_tupleItemsOf b1 b3 (wpAny_bind ?_))))
 refine wpAny_forIn_list _ (fun rest r s'=>r.1=none/\s'=s/\∀ p∈rest,qde p.1 p.2) _ ?_ ?_ _ _ ⟨rfl,rfl,fun p hp=>z p (by simpa using hp)⟩
 ·rintro ⟨x,y⟩ rest r s' ⟨hr,rfl,al⟩
  have f:=al (x,y) List.mem_cons_self
  refine wpAny_bind (qdE f fun c=>?_)
  cases c with
  | true=>
   simp only [Bool.not_true,Bool.false_eq_true,if_false]
   exact wpAny_pure ⟨rfl,rfl,fun p hp=>al p (mC_ _ hp)⟩
  | false=>
   simp only [Bool.not_false,if_true]
   exact wpAny_bind (wpAny_pure (wpAny_pure (wpAny_pure (h false))))
 ·rintro ⟨r1,r2⟩ s' ⟨hr,rfl,_⟩
  simp only at hr
  subst hr
  exact wpAny_pure (h _)
theorem qgy {u v:Value} {xs ys:List Value} {Q:Bool->Shared->Prop} (hl:A.units < cLine) (hu:TupO s.heap u xs) (hv:TupO s.heap v ys) (z:qdd xs ys) (h:∀ c,Q c s):wpAny (model prog w) A (eqBool u v) Q E s:=by
 obtain ⟨a,oa,na,rfl,a1,a2,a3⟩:=id hu
 obtain ⟨b,ob,nb,rfl,b1,b2,b3⟩:=id hv
 unfold eqBool
 try with_reducible refine wpAny_holding ?_
 refine wpAny_ite_split (fun _=>wpAny_bind (wpAny_rule (wpAny_pure (h _)))) (fun _=>?_)
 exact wpAny_bind (wpAny_richCompare_same_room (op:=.Eq) hu.ty hv.ty F.slot_tuple_eq (wpAny_call_entry F.slot_tuple_eq hu.ty F.entry_tuple_eq (qia hu hv z fun c=>⟨_,rfl,(fun e=>nomatch e),wpAny_truthy_bool (h c)⟩) (F.args_tuple_eq_2 _ _)) hl)
theorem qcx {b fin:Bool} {Q:Bool->Shared->Prop} (q:∀ b,Q b s):∀ (zs:List (Value×Value)) (i:Nat),(∀ p∈zs,qde p.1 p.2)->0 < i->KatLex prog w A b fin Q zs i s
 | [],i,_,_=>kat_nil (q _)
 | (x,y) :: zs,i,al,hi=>by
  have f:=al (x,y) List.mem_cons_self
  refine kat_cons (qdE f fun c=>?_)
  cases c with
  | true=>exact kat_yes (qcx q zs (i+1) (fun p hp=>al p (mC_ _ hp)) (Nat.succ_pos _))
  | false=>
   refine kat_no ?_
   rw [show (b && i == 0)=false by rw [show (i == 0)=false by simp;omega,Bool.and_false]]
   exact kat_one _ _ (qf0 f fun c=>q c)
theorem qlw {C:Bool->Shared->Prop} {u v:Value} {a a':Int} {t t':Tok} {xs ys:List Value} (hu:TupO s.heap u (.int a t :: xs)) (hv:TupO s.heap v (.int a' t' :: ys)) (z:qdd xs ys) (hC:∀ b,C b s):wpAny (model prog w) A (keyLt' (tuples' true) u v) C E s:=by
 obtain ⟨p,o,n,rfl,a1,a2,a3⟩:=hu
 obtain ⟨p',o',n',rfl,b1,b2,b3⟩:=hv
 refine kat_lt a1 a3 b1 b3 ?_
 refine kat_cons (wpAny_eqBool_int ?_)
 refine kat_go (fun _=>kat_yes (qcx hC _ 1 (show ∀ p∈xs.zip ys,qde p.1 p.2 from z) (by decide))) (fun _=>kat_no ?_)
 exact oneLt_int (hC _)
theorem qlx {C:Bool->Shared->Prop} {u v k k':Value} {ks ks' xs ys:List Value} (hl:A.units < cLine) (hu:TupO s.heap u (k :: xs)) (hv:TupO s.heap v (k' :: ys)) (hk:TupO s.heap k ks) (hk':TupO s.heap k' ks') (zk:qdd ks ks') (z:qdd xs ys) (hC:∀ b,C b s):wpAny (model prog w) A (keyLt' (tuples' false) u v) C E s:=by
 obtain ⟨p,o,n,rfl,a1,a2,a3⟩:=hu
 obtain ⟨p',o',n',rfl,b1,b2,b3⟩:=hv
 refine kat_lt a1 a3 b1 b3 ?_
 refine kat_cons (qgy hl hk hk' zk fun c=>?_)
 cases c with
 | true=>exact kat_yes (qcx hC _ 1 (show ∀ p∈xs.zip ys,qde p.1 p.2 from z) (by decide))
 | false=>
  refine kat_no ?_
  rw [show (false && (0 == 0:Bool))=false from rfl]
  exact kat_one _ _ (qgx hl hk hk' zk fun c=>hC c)
end
end L2
end
section
namespace L2
open PySem PySem.Spec PyProof.Rows PySem.W PySem.Calls
section
variable {prog:Program} {w:World} {A:Around} {E:Value->Shared->Prop} {s:Shared}
structure Srt (prog:Program) (w:World) (A:Around) (T:Value) (G:Heap->Prop) (vs:List Value):Prop where
 mono:∀ {h h':Heap} {a:Addr},(∀ b o,b≠a->h.get? b=some o->h'.get? b=some o)->(∀ o,h.get? a=some o->o.cls = .type "list")->G h->G h'
 lt:∀ {E:Value->Shared->Prop} {s:Shared} {x y:Value} {C:Bool->Shared->Prop},G s.heap->x∈vs->y∈vs->(∀ b,C b s)->wpAny (model prog w) A (keyLt' (tuples' (T != Value.type "tuple")) x y) C E s
 fst:∀ {h:Heap},G h->∃ fs:List Value,KatTups h vs fs/\fs.length=vs.length/\∀ f∈fs,Looks (model prog w) h (typeOf f) T
 ty:(T == T)=true
theorem qgw {T:Value} {G:Heap->Prop} {a:Addr} {vs:List Value} {n:Nat} {P:PySem.Fin->Shared->Prop} (R:Srt prog w A T G vs) (ho:s.heap.get? a=some (seqObj "list" vs.toArray n)) (g:G s.heap) (h2:2<=vs.length) (h64:vs.length < 64)
  (h:∀ (h':Heap) (p:Array Nat) (e:Nat),GoodP vs.length p->(∀ b o,b≠a->s.heap.get? b=some o->h'.get? b=some o)->h'.get? a=some (seqObj "list" (List.toArray (p.toList.map fun i=>vs.getD i Value.none)) e)->P (.done (.ret .none)) { s with heap:=h' }) :
  wpAny (model prog w) A (Builtin.«list.sort» ⟨[.ref a],[]⟩) P E s:=by
 have ha:a < s.heap.objs.size:=Heap.lt_size ho
 have s1:=Heap.SameBut.update s.heap a (Obj.mapSeq fun _=>(#[]:Array Value))
 obtain ⟨e1,ho1⟩ : ∃ e1,(s.heap.update a (Obj.mapSeq fun _=>(#[]:Array Value))).get? a=some (seqObj "list" #[] e1):=⟨_,get?_update_seq ho fun _=>#[]⟩
 have kp:∀ b o,b≠a->s.heap.get? b=some o->(((s.heap.update a (Obj.mapSeq fun _=>(#[]:Array Value))).push (seqObj "tuple" vs.toArray 0)).push (seqObj "list" #[] 0)).get? b=some o:=fun b o n e=>Heap.get?_push_of_some _ (Heap.get?_push_of_some _ ((s1.2 b n).trans e))
 have T3:=R.mono kp (fun o e=>by rw [ho] at e;cases e;rfl) g
 have ho3:(((s.heap.update a (Obj.mapSeq fun _=>(#[]:Array Value))).push (seqObj "tuple" vs.toArray 0)).push (seqObj "list" #[] 0)).get? a=some (seqObj "list" #[] e1):=Heap.get?_push_of_some _ (Heap.get?_push_of_some _ ho1)
 rw [list_sort_plain]
 refine wpAny_bind (listItems_at ho rfl ?_)
 refine wpAny_bind (listUpdate_at ho rfl ?_ (by rw [List.size_toArray,sizeLine_eq];omega) (Nat.zero_le _))
 refine wpAny_bind (seqEpoch_at ho1 rfl ?_)
 refine wpAny_bind (wpAny_newTuple ?_ (by show vs.length<=_;rw [sizeLine_eq];omega))
 refine wpAny_bind (wpAny_newList ?_ (Nat.zero_le _))
 refine wpAny_holding ?_
 show wpAny (model prog w) A _ P E { s with heap:=((s.heap.update a (Obj.mapSeq fun _=>(#[]:Array Value))).push (seqObj "tuple" vs.toArray 0)).push (seqObj "list" #[] 0) }
 dsimp only
 have hn2:¬ vs.toArray.size < 2:=by rw [List.size_toArray];omega
 rw [if_neg hn2,if_neg hn2]
 generalize ((s.heap.update a (Obj.mapSeq fun _=>(#[]:Array Value))).push (seqObj "tuple" vs.toArray 0)).push (seqObj "list" #[] 0)=h3 at kp T3 ho3 ⊢
 obtain ⟨fs,kt,fl,fi⟩:=R.fst T3
 refine wpAny_bind (kat_kind (T:=T) kt (by omega) fi R.ty ?_)
 have ask:(kas_sort vs.length).kasWp (kas_ask prog w A (tuples' (T != Value.type "tuple")) vs) (fun p s'=>GoodP vs.length p/\s'={ s with heap:=h3 }) { s with heap:=h3 }:=
  qip (fun i j C hi hj hC=>R.lt (s:={ s with heap:=h3 }) T3 (qfW hi) (qfW hj) hC) (by omega) fun r gr=>⟨gr,rfl⟩
 refine wpAny_bind (wpAny_mono (kat_run (Q:=fun st' s'=>∃ p:Array Nat,GoodP vs.length p/\arrOf st'=p.map (kas_item (vs.toArray.zip vs.toArray))/\failedOf st'=none/\s'={ s with heap:=h3 }) (G:=fun p s'=>GoodP vs.length p/\s'={ s with heap:=h3 })
  rfl h2 h64 (fun p' st' s' a1 a2 a3 a4=>⟨p',a4.1,a2,a3,a4.2⟩) ask) ?_ fun _ _ e=>e)
 rintro ⟨⟨⟩,st'⟩ s' ⟨p,gp,har,hf,rfl⟩
 dsimp only
 have hout:=kat_snds rfl har
 have psz:p.toList.length=vs.length:=by
  have:=(Array.perm_iff_toList_perm.mp gp).length_eq
  simpa using this
 have hsz:(List.toArray (p.toList.map fun i=>vs.getD i Value.none)).size=vs.length:=by rw [List.size_toArray,lM_,psz]
 rw [hout]
 have s2:=Heap.SameBut.update h3 a (Obj.mapSeq fun _=>List.toArray (p.toList.map fun i=>vs.getD i Value.none))
 obtain ⟨c2,hc2⟩ : ∃ c2,(h3.update a (Obj.mapSeq fun _=>List.toArray (p.toList.map fun i=>vs.getD i Value.none))).get? a=some (seqObj "list" (List.toArray (p.toList.map fun i=>vs.getD i Value.none)) c2):=⟨_,get?_update_seq ho3 fun _=>List.toArray (p.toList.map fun i=>vs.getD i Value.none)⟩
 refine wpAny_bind (seqEpoch_at ho3 rfl ?_)
 refine wpAny_bind (listUpdate_at ho3 rfl ?_ (Nat.zero_le _) (Nat.le_trans (Nat.le_of_eq hsz) (by rw [sizeLine_eq];omega)))
 rw [hf]
 simp only [bne_self_eq_false,Bool.false_eq_true,if_false]
 exact wpAny_pure (h _ p c2 gp (fun b o n e=>(s2.2 b n).trans (kp b o n e)) hc2)
theorem qbn {x:Value} {Q:Value->Shared->Prop}
  (hcol:∀ {R:List Value->Shared->Prop},(∀ (h':Heap) (tk:Tok) (vs:List Value) (T:Value) (G:Heap->Prop),(∀ b o,s.heap.get? b=some o->h'.get? b=some o)->s.heap.objs.size<=h'.objs.size->Srt prog w A.in1.in1 T G vs->G h'->2<=vs.length->vs.length < 64 →
   (∀ (h2:Heap) (l':Addr) (p:Array Nat) (e:Nat),GoodP vs.length p->(∀ b o,h'.get? b=some o->h2.get? b=some o)->h'.objs.size<=l'->h2.get? l'=some (seqObj "list" (List.toArray (p.toList.map fun i=>vs.getD i Value.none)) e)->Q (.ref l') { s with heap:=h2,toks:=tk })->R vs { s with heap:=h',toks:=tk })->wpAny (model prog w) A.in1 (collect x) R E s) :
  wpAny (model prog w) A (call (.builtin "sorted") [x]) Q E s:=by
 refine Calls.call_function_entry kind_sorted plain_sorted entry_sorted (args_sorted1 _) ?_
 unfold Builtin.«sorted»
 refine wpAny_bind (m:=checkCount "sorted" 1 1 _) (wpAny_pure ?_)
 refine wpAny_bind (hcol fun h1 tk vs T G kp sz R g h2 h64 q=>?_)
 refine wpAny_bind (wpAny_newList ?_ (by rw [sizeLine_eq];omega))
 have hoL:(h1.push (seqObj "list" vs.toArray 0)).get? h1.objs.size=some (seqObj "list" vs.toArray 0):=Heap.get?_push_size _ rfl
 have keep:∀ b o,h1.get? b=some o->(h1.push (seqObj "list" vs.toArray 0)).get? b=some o:=fun b o e=>Heap.get?_push_of_some _ e
 refine wpAny_bind (wpAny_holding (wpAny_call_entry slot_list_sort ⟨_,hoL,rfl⟩ entry_list_sort ?body (args_list_sort _)))
 case body=>
  refine qgw (s:={ s with heap:=h1.push (seqObj "list" vs.toArray 0),toks:=tk }) R hoL (R.mono (a:=h1.objs.size) (fun b o _ e=>keep b o e) ?_ g) h2 h64 fun h' p e gp kp2 hh=>?_
  ·exact fun o e=>absurd (Heap.lt_size e) (Nat.lt_irrefl _)
  ·exact ⟨_,rfl,wpAny_pure ⟨_,rfl,q h' _ p e gp (fun b o e=>kp2 b o (Nat.ne_of_lt (Heap.lt_size e)) (keep b o e)) (Nat.le_refl _) hh⟩⟩
end
end L2
end
section
namespace L2
open PySem PySem.Spec PyProof.Rows PySem.W PySem.Calls
section
variable {prog:Program} {w:World} {A:Around} {E:Value->Shared->Prop} {s:Shared}
abbrev qex (f0 f1:Value) (D:Addr) (i n ep:Nat) (k0 v0:Value):Obj:={ cls:=.type "dict_itemiterator",dict:=none,data:=.fields #[f0,f1,.ref D,.int i 0,.int n 0,.int ep 0,k0,v0],slots:=#[] }
abbrev qcv (e:DictEntry):Obj:={ cls:=.type "tuple",data:=.seq #[e.key,e.val] }
def PSt (h:Heap) (I D S:Addr) (i n ep:Nat):Prop:=∃ f0 f1 k0 v0,h.get? I=some (qex f0 f1 D i n ep k0 v0)/\(f0 = .none/\f1 = .bool false\/∃ (a:Addr) (c:Bool) (oa:Obj),f0=rawInt a/\f1 = .bool c/\h.get? a=some oa/\a≠I/\a≠S)
theorem PSt.keep {h h':Heap} {I D S:Addr} {i n ep:Nat} (x:PSt h I D S i n ep) (k:∀ b o,b≠S->h.get? b=some o->h'.get? b=some o) (ni:I≠S):PSt h' I D S i n ep:=by
 obtain ⟨f0,f1,k0,v0,x1,x2⟩:=x
 refine ⟨f0,f1,k0,v0,k _ _ ni x1,x2.imp id ?_⟩
 rintro ⟨a,c,oa,y1,y2,y3,y4,y5⟩
 exact ⟨a,c,oa,y1,y2,k _ _ y5 y3,y4,y5⟩
theorem qgJ {I D S:Addr} {i ep:Nat} {od:Obj} {es:Array DictEntry} {e:DictEntry} {Q:Option Value->Shared->Prop} (hs:PSt s.heap I D S i es.size ep) (zS:S < s.heap.objs.size) (d1:s.heap.get? D=some od) (d2:od.data = .dict es ep) (he:es[i]? = some e)
  (q:∀ h',PSt h' I D S (i+1) es.size ep->h'.get? s.heap.objs.size=some (qcv e)->h'.objs.size=s.heap.objs.size+1->(∀ b o,b≠I->s.heap.get? b=some o->h'.get? b=some o)->Q (some (.ref s.heap.objs.size)) { s with heap:=h' }) :
  wpAny (model prog w) A (pyNext (.ref I)) Q E s:=by
 obtain ⟨f0,f1,k0,v0,x1,x2⟩:=hs
 obtain ⟨hp,g,dr,tk,os⟩:=s
 have ty:Shared.TypeIs ⟨hp,g,dr,tk,os⟩ (.ref I) "dict_itemiterator" := ⟨_,x1,rfl⟩
 have own:Builtin.Dict_items.ownsTuple "dict_itemiterator" = true:=by decide
 have il:I < hp.objs.size:=Heap.lt_size x1
 unfold pyNext
 refine wpAny_bind (wpAny_attempt (wpAny_callSpecial?_slot (name:=Str.ofString "__next__") ty F.slot_dict_itemiterator_next (wpAny_call_entry F.slot_dict_itemiterator_next ty F.entry_dict_itemiterator_next ?body (F.args_dict_itemiterator_next_1 _))))
 case body=>
  refine wpAny_bind (wpAny_pure (wpAny_bind (wpAny_bind ?_)))
  refine wpAny_bind (wpAny_typeNameOfWhole_itemiter ty (wpAny_pure (wpAny_bind (wpAny_fieldsOf x1 rfl ?_))))
  simp only [own,if_true]
  show wpAny _ _ (if (Value.ref D == Value.none)=true then _ else _) _ _ _
  rw [if_neg (show ¬ (Value.ref D == Value.none)=true from fun z=>Bool.false_ne_true z)]
  refine wpAny_bind (wpAny_pure (wpAny_bind (wpAny_dictEntries d1 d2 ?_)))
  rw [if_neg (by simp)]
  refine wpAny_bind (wpAny_pure (wpAny_bind (wpAny_dictEpoch d1 d2 ?_)))
  rw [if_neg (by simp)]
  refine wpAny_pure ?_
  simp only [show ¬ ((i:Int) < 0) from by omega,if_false,Int.toNat_natCast,he]
  refine wpAny_bind (wpAny_bind (wpAny_typeNameOfWhole_itemiter ty (wpAny_pure ?_)))
  refine wpAny_bind (wpAny_isOneOf_itemiter ty ?_)
  show wpAny _ _ (setField (.ref I) 3 (rawInt ((i:Int)+1)) >>= _) _ _ _
  refine wpAny_bind (wpAny_setField_rec x1 (by simp) fun h1 e1 s1=>?_)
  replace s1:Heap.SameBut I hp h1:=s1
  replace e1:h1.get? I=some (qex f0 f1 D (i+1) es.size ep k0 v0):=by
   have e:((i+1:Nat):Int)=(i:Int)+1:=by omega
   unfold qex;rw [e];simpa [rawInt] using e1
  have ty1:Shared.TypeIs ⟨h1,g,dr,tk,os⟩ (.ref I) "dict_itemiterator" := ⟨_,e1,rfl⟩
  refine wpAny_bind (wpAny_holding (wpAny_bind (wpAny_isOneOf_itemiter ty1 (wpAny_bind (wpAny_isOneOf_itemiter ty1 ?_)))))
  show wpAny _ _ (Builtin.Dict_items.pairFromOwner (.ref I) 6 e.key e.val) _ _ ⟨h1,g,dr,tk,os⟩
  unfold Builtin.Dict_items.pairFromOwner
  refine wpAny_bind (wpAny_newTuple ?_)
  have sz1:h1.objs.size=hp.objs.size:=s1.1
  have e2:(h1.push (qcv e)).get? I=some (qex f0 f1 D (i+1) es.size ep k0 v0):=Heap.get?_push_of_some _ e1
  have t2:(h1.push (qcv e)).get? hp.objs.size=some (qcv e):=by rw [<-sz1];exact Heap.get?_push_size _ rfl
  have sz2:(h1.push (qcv e)).objs.size=hp.objs.size+1:=by rw [Heap.size_push,sz1]
  have k2:∀ b o,b≠I->hp.get? b=some o->(h1.push (qcv e)).get? b=some o:=fun b o nb x=>Heap.get?_push_of_some _ (s1.extBut b o nb x)
  show wpAny _ _ (Builtin.Dict_items.ownedTupleIsFree (.ref I) >>= _) _ _ ⟨h1.push (qcv e),g,dr,tk,os⟩
  rw [sz1]
  generalize h1.push (qcv e)=h2 at e2 t2 sz2 k2 ⊢
  clear e1 s1 ty1 sz1
  have fin:∀ h3:Heap,Heap.SameBut I h2 h3->(∃ (a:Addr) (c:Bool) (oa:Obj) (k1 v1:Value),h3.get? I=some (qex (rawInt a) (.bool c) D (i+1) es.size ep k1 v1)/\h2.get? a=some oa/\a≠I/\a≠S)->Q (some (.ref hp.objs.size)) ⟨h3,g,dr,tk,os⟩:=fun h3 sm ⟨a,c,oa,k1,v1,y1,y2,y3,y4⟩=>
   q h3 ⟨_,_,k1,v1,y1,.inr ⟨a,c,oa,rfl,rfl,sm.extBut _ _ y3 y2,y3,y4⟩⟩ (sm.extBut _ _ (Nat.ne_of_gt il) t2) (by show h3.objs.size=_;rw [sm.1,sz2]) fun b o nb x=>sm.extBut b o nb (k2 b o nb x)
  refine wpAny_bind ?_
  unfold Builtin.Dict_items.ownedTupleIsFree
  refine wpAny_bind (wpAny_field e2 rfl (x:=f0) rfl ?_)
  rcases x2 with ⟨rfl,rfl⟩ | ⟨a,c,oa,rfl,rfl,y1,y2,y3⟩
  ·refine wpAny_pure ?_
   simp only [if_true]
   refine wpAny_bind (wpAny_field e2 rfl (x:=k0) rfl (wpAny_bind (wpAny_field e2 rfl (x:=v0) rfl ?_)))
   refine wpAny_bind (wpAny_setField_rec e2 (by simp) fun h3 e3 s3=>?_)
   replace s3:Heap.SameBut I h2 h3:=s3
   replace e3:h3.get? I=some (qex .none (.bool false) D (i+1) es.size ep e.key v0):=e3
   refine wpAny_bind (wpAny_setField_rec e3 (by simp) fun h4 e4 s4=>?_)
   replace s4:Heap.SameBut I h3 h4:=s4
   replace e4:h4.get? I=some (qex .none (.bool false) D (i+1) es.size ep e.key e.val):=e4
   refine wpAny_bind (wpAny_setField_rec e4 (by simp) fun h5 e5 s5=>?_)
   replace s5:Heap.SameBut I h4 h5:=s5
   replace e5:h5.get? I=some (qex (rawInt hp.objs.size) (.bool false) D (i+1) es.size ep e.key e.val):=e5
   refine wpAny_bind (wpAny_setField_rec e5 (by simp) fun h6 e6 s6=>?_)
   replace s6:Heap.SameBut I h5 h6:=s6
   replace e6:h6.get? I=some (qex (rawInt hp.objs.size) (.bool false) D (i+1) es.size ep e.key e.val):=e6
   exact wpAny_bind (wpAny_letGo (wpAny_pure (wpAny_pure ⟨_,rfl,wpAny_pure (fin h6 (((s3.trans s4).trans s5).trans s6) ⟨hp.objs.size,false,_,_,_,e6,t2,Nat.ne_of_gt il,Nat.ne_of_gt zS⟩)⟩)))
  ·show wpAny _ _ (loadIfAlive ((a:Int).toNat) >>= _) _ _ _
   rw [Int.toNat_natCast]
   have y1':h2.get? a=some oa:=k2 a oa y2 y1
   refine wpAny_bind (kdx_alive y1' ?_)
   simp only [Option.isNone_some,Bool.false_eq_true,if_false]
   refine wpAny_bind (wpAny_field e2 rfl (x:=.bool c) rfl ?_)
   cases c with
   | true=>
    rw [if_neg (show ¬ (Value.bool true != Value.bool true)=true from fun z=>Bool.false_ne_true z)]
    refine wpAny_pure ?_
    simp only [Bool.false_eq_true,if_false]
    exact wpAny_pure (wpAny_pure ⟨_,rfl,wpAny_pure (fin h2 (Heap.SameBut.refl _ _) ⟨a,true,oa,k0,v0,e2,y1',y2,y3⟩)⟩)
   | false=>
    rw [if_pos (show (Value.bool false != Value.bool true)=true from rfl)]
    refine wpAny_bind (wpAny_setField_rec e2 (by simp) fun h3 e3 s3=>?_)
    refine wpAny_pure ?_
    simp only [Bool.false_eq_true,if_false]
    exact wpAny_pure (wpAny_pure ⟨_,rfl,wpAny_pure (fin h3 s3 ⟨a,true,oa,k0,v0,e3,y1',y2,y3⟩)⟩)
theorem qiV {I D S:Addr} {i ep:Nat} {od:Obj} {es:Array DictEntry} {Q:Option Value->Shared->Prop} (hh:A.handled=none) (hs:PSt s.heap I D S i es.size ep) (d1:s.heap.get? D=some od) (d2:od.data = .dict es ep) (he:es[i]? = none)
  (q:∀ h',Heap.ExtBut I s.heap h'->Q none { s with heap:=h' }):wpAny (model prog w) A (pyNext (.ref I)) Q E s:=by
 obtain ⟨f0,f1,k0,v0,x1,x2⟩:=hs
 have ty:s.TypeIs (.ref I) "dict_itemiterator" := ⟨_,x1,rfl⟩
 have own:Builtin.Dict_items.ownsTuple "dict_itemiterator" = true:=by decide
 unfold pyNext
 refine wpAny_bind (wpAny_attempt (wpAny_callSpecial?_slot (name:=Str.ofString "__next__") ty F.slot_dict_itemiterator_next (wpAny_call_entry F.slot_dict_itemiterator_next ty F.entry_dict_itemiterator_next ?body (F.args_dict_itemiterator_next_1 _))))
 case body=>
  refine wpAny_bind (wpAny_pure (wpAny_bind (wpAny_bind ?_)))
  refine wpAny_bind (wpAny_typeNameOfWhole_itemiter ty (wpAny_pure (wpAny_bind (wpAny_fieldsOf x1 rfl ?_))))
  simp only [own,if_true]
  show wpAny _ _ (if (Value.ref D == Value.none)=true then _ else _) _ _ _
  rw [if_neg (show ¬ (Value.ref D == Value.none)=true from fun z=>Bool.false_ne_true z)]
  refine wpAny_bind (wpAny_pure (wpAny_bind (wpAny_dictEntries d1 d2 ?_)))
  rw [if_neg (by simp)]
  refine wpAny_bind (wpAny_pure (wpAny_bind (wpAny_dictEpoch d1 d2 ?_)))
  rw [if_neg (by simp)]
  refine wpAny_pure ?_
  simp only [show ¬ ((i:Int) < 0) from by omega,if_false,Int.toNat_natCast,he]
  refine wpAny_bind (wpAny_bind (wpAny_typeNameOfWhole_itemiter ty (wpAny_pure ?_)))
  show wpAny _ _ (setField (.ref I) 2 .none >>= _) _ _ _
  refine wpAny_bind (wpAny_setField x1 rfl (by simp) ?_)
  show wpAny _ _ (newExc (.type "StopIteration") [] >>= _) _ _ _
  refine wpAny_bind ?_
  simp only [newExc,newTuple]
  refine wpAny_bind (wpAny_newObj_type ?_ (by size_fits))
  refine wpAny_bind (m:=firstArgMember _ _) (wpAny_of_eq (a:=Value.none) (by first | rfl | (simp only [firstArgMember];rfl)) ?_)
  refine wpAny_newObj_type ?_ (by size_fits)
  simp only [raiseNew]
  refine wpAny_bind (wpAny_handled ?_)
  rw [show A.in1.handled=none from hh]
  refine wpAny_bind (wpAny_pure (wpAny_throw ?_))
  refine wpAny_bind (wpAny_isInstance (T:= "StopIteration") (b:=true) ⟨_,Heap.get?_push_size _ rfl,rfl⟩ isSubtype_stop ?_)
  exact wpAny_pure (q _ (((Heap.SameBut.update ..).extBut.push _).push _))
end
end L2
end
section
namespace L2
open PySem PySem.Spec PyProof.Rows PySem.W PySem.Calls
section
variable {prog:Program} {w:World} {A:Around} {E:Value->Shared->Prop} {s:Shared} {R:Result->Shared->Prop}
abbrev qjI (acc:Array Value) (c:Nat):Obj:={ cls:=.type "list",dict:=none,data:=.seq acc c,slots:=#[] }
def ql7 (es:Array DictEntry) (lo:Addr) (h:Heap) (as:List Addr):Prop:=∀ (j:Nat) (a:Addr),as[j]? = some a->lo < a/\∃ e,es[j]? = some e/\h.get? a=some (qcv e)
theorem qgK {S I D:Addr} {od:Obj} {es:Array DictEntry} {ep:Nat} (hh:A.handled=none) (SI:S < I) (DS:D≠S) (DI:D≠I) (hn:es.size<=sizeLine) (d2:od.data = .dict es ep) (res:Value) {h0:Heap}
  (q:∀ h' tk acc c as,(∀ b o,b≠S->b≠I->h0.get? b=some o->h'.get? b=some o)->h'.get? S=some (qjI acc c)->as.length=es.size->ql7 es I h' as->acc.toList=as.map Value.ref->R (.ok (.ret res)) { s with heap:=h',toks:=tk }) :
  ∀ (k i:Nat) (h:Heap) (tk c:Nat) (acc:Array Value) (as:List Addr),es.size - i=k->i<=es.size->PSt h I D S i es.size ep->h.get? D=some od->(∀ b o,b≠S->b≠I->h0.get? b=some o->h.get? b=some o) →
   h.get? S=some (qjI acc c)->acc.toList=as.map Value.ref->as.length=i->ql7 es I h as->I < h.objs.size →
   codeAny (model prog w) A (.builtin "list.extend.loop" ⟨[.ref S,.ref I,res],[]⟩) R { s with heap:=h,toks:=tk }:=by
 have NE:S≠I:=Nat.ne_of_lt SI
 intro k
 induction k with
 | zero=>
  intro i h tk c acc as ek il st d1 kp hS ea el pg lt
  refine codeAny_builtin F.entry_extend_loop ?_
  rw [Around.under_plainId F.plain_extend_loop _]
  show wpAny _ A.in1 (pyNext (.ref I) >>= _) _ _ _
  refine wpAny_bind (qiV (s:={ s with heap:=h,toks:=tk }) (A:=A.in1) hh st d1 d2 (Array.getElem?_eq_none (by omega)) fun h' ex=>?_)
  refine wpAny_pure (q h' tk acc c as (fun b o n1 n2 x=>ex b o n2 (kp b o n1 n2 x)) (ex S _ NE hS) (by omega) (fun j a ja=>?_) ea)
  obtain ⟨y1,e,y2,y3⟩:=pg j a ja
  exact ⟨y1,e,y2,ex a _ (Nat.ne_of_gt y1) y3⟩
 | succ k ih=>
  intro i h tk c acc as ek il st d1 kp hS ea el pg lt
  have hi:i < es.size:=by omega
  have sz:acc.size=i:=by rw [<-Array.length_toList,ea,lM_,el]
  have zS:S < h.objs.size:=Heap.lt_size hS
  refine codeAny_builtin F.entry_extend_loop ?_
  rw [Around.under_plainId F.plain_extend_loop _]
  show wpAny _ A.in1 (pyNext (.ref I) >>= _) _ _ _
  refine wpAny_bind (qgJ (s:={ s with heap:=h,toks:=tk }) (A:=A.in1) st zS d1 d2 (Array.getElem?_eq_getElem hi) fun h' st' ht hz k'=>?_)
  dsimp only at ht hz k' ⊢
  have hS':=k' S _ NE hS
  have up:∀ b o,b≠S->h'.get? b=some o->(h'.update S (Obj.mapSeq (·.push (Value.ref h.objs.size)))).get? b=some o:=fun b o nb x=>(Heap.get?_update_other _ _ (Ne.symm nb)).trans x
  show wpAny _ A.in1 (updateSeq S (·.push (Value.ref h.objs.size)) >>= _) _ _ _
  refine wpAny_bind (wpAny_updateSeq hS' rfl (wpAny_pure ⟨plainId_quiet F.plain_extend_loop _,?_⟩) (by rw [sz];omega) (by show (acc.push (Value.ref h.objs.size)).size<=sizeLine+1;rw [Array.size_push,sz];omega))
  refine ih (i+1) _ tk _ (acc.push (Value.ref h.objs.size)) (as++[h.objs.size]) (by omega) hi (st'.keep up (Ne.symm NE)) (up D _ DS (k' D _ DI d1)) (fun b o n1 n2 x=>up b o n1 (k' b o n2 (kp b o n1 n2 x))) (Heap.get?_update_self _ hS' rfl) (by rw [Array.toList_push,ea,List.map_append];rfl) (by rw [lA_,el];rfl) (fun j a ja=>?_) ?_
  ·by_cases jl:j < as.length
   ·rw [List.getElem?_append_left jl] at ja
    obtain ⟨y1,e,y2,y3⟩:=pg j a ja
    exact ⟨y1,e,y2,up a _ (Nat.ne_of_gt (Nat.lt_trans SI y1)) (k' a _ (Nat.ne_of_gt y1) y3)⟩
   ·have je:j=i:=by
     have:=(gS_ ja).1
     rw [lA_,List.length_singleton] at this
     omega
    subst je
    rw [List.getElem?_append_right (by omega),el,Nat.sub_self] at ja
    cases ja
    exact ⟨lt,_,Array.getElem?_eq_getElem hi,up _ _ (Nat.ne_of_gt zS) ht⟩
  ·have e:(h'.update S (Obj.mapSeq (·.push (Value.ref h.objs.size)))).get? h.objs.size=_:=up _ _ (Nat.ne_of_gt zS) ht
   exact Nat.lt_trans lt (Heap.lt_size e)
theorem qgL {V D:Addr} {od:Obj} {es:Array DictEntry} {ep:Nat} {Q:Value->Shared->Prop} (hv:s.heap.IsItemsView V D) (d1:s.heap.get? D=some od) (d2:od.data = .dict es ep) (hn:es.size<=sizeLine)
  (q:Q (.ref s.heap.objs.size) { s with heap:=s.heap.push (qex .none (.bool false) D 0 es.size ep .none .none) }):wpAny (model prog w) A (pyIter (.ref V)) Q E s:=by
 obtain ⟨o,v1,v2,v3⟩:=id hv
 refine wpAny_pyIter_slot hv.typeIs F.slot_dict_items_iter (wpAny_call_entry F.slot_dict_items_iter hv.typeIs F.entry_dict_items_iter ?_ (F.args_dict_items_iter_1 _))
 unfold Builtin.«dict_items.__iter__»
 refine wpAny_bind (wpAny_pure (wpAny_bind ?_))
 unfold Builtin.Dict_items.dictOf
 refine wpAny_bind (wpAny_field v1 v3 (x:=.ref D) rfl (wpAny_pure (wpAny_bind ?_)))
 unfold Builtin.Dict_items.newIterator
 refine wpAny_bind (wpAny_dictEntries d1 d2 (wpAny_bind (wpAny_dictEpoch d1 d2 ?_)))
 simp only [show Builtin.Dict_items.ownsTuple "dict_itemiterator" = true by decide,if_true]
 refine wpAny_newObj_type (wpAny_pure ⟨_,rfl,"dict_itemiterator",_,⟨_,Heap.get?_push_size _ rfl,rfl⟩,F.slot_dict_itemiterator_next.lookup,?_⟩)
  (by simp only [sizeOk,Builtin.Dict_items.ownedTupleFields,List.size_toArray,lA_,List.length_cons,List.length_nil,sizeLine_eq];omega)
 simpa [rawInt,qex,Builtin.Dict_items.ownedTupleFields] using q
theorem qeu {V D S:Addr} {od:Obj} {es:Array DictEntry} {ep:Nat} (hh:A.handled=none) (hv:s.heap.IsItemsView V D) (d1:s.heap.get? D=some od) (d2:od.data = .dict es ep) (hn:es.size<=sizeLine) (SV:S≠V) (DS:D≠S) (res:Value) (c:Nat) (hS:s.heap.get? S=some (qjI #[] c))
  (q:∀ h' tk acc c as,(∀ b o,b≠S->s.heap.get? b=some o->h'.get? b=some o)->h'.get? S=some (qjI acc c)->as.length=es.size->ql7 es s.heap.objs.size h' as->acc.toList=as.map Value.ref->R (.ok (.ret res)) { s with heap:=h',toks:=tk }) :
  wpAny (model prog w) A.in1 (Builtin.List.listExtendWith (.ref S) (.ref V) res)
   (fun fin s'=>match fin with | .done f=>R (.ok f) s' | .again c'=>c'.quiet=true/\codeAny (model prog w) A c' R s') (fun e s'=>R (.error e) s') s:=by
 have lS:S < s.heap.objs.size:=Heap.lt_size hS
 have lD:D < s.heap.objs.size:=Heap.lt_size d1
 have go:∀ (h:Heap) (c1 tk:Nat),(∀ b o,b≠S->(s.heap.push (qex .none (.bool false) D 0 es.size ep .none .none)).get? b=some o->h.get? b=some o) →
   h.get? S=some (qjI #[] c1)->codeAny (model prog w) A (.builtin "list.extend.loop" ⟨[.ref S,.ref s.heap.objs.size,res],[]⟩) R { s with heap:=h,toks:=tk }:=by
  intro h c1 tk kp hS1
  have hI:=kp s.heap.objs.size _ (Nat.ne_of_gt lS) (Heap.get?_push_size _ rfl)
  refine qgK (s:=s) (h0:=s.heap) hh lS DS (Nat.ne_of_lt lD) hn d2 res (fun h' tk' acc c as k' z1 z2 z3 z4=>q h' tk' acc c as (fun b o nb x=>k' b o nb (Nat.ne_of_lt (Heap.lt_size x)) x) z1 z2 z3 z4)
   es.size 0 h tk c1 #[] [] (Nat.sub_zero _) (Nat.zero_le _) ⟨_,_,_,_,hI,.inl ⟨rfl,rfl⟩⟩ (kp D _ DS (Heap.get?_push_of_some _ d1)) (fun b o nb _ x=>kp b o nb (Heap.get?_push_of_some _ x)) hS1 rfl rfl (fun j a ja=>by simp at ja) (Heap.lt_size hI)
 unfold Builtin.List.listExtendWith
 refine wpAny_bind (wpAny_typeOf (T:= "dict_items") hv.typeIs ?_)
 simp only [show Builtin.List.listSameRef (.ref S) (.ref V)=false by simp [Builtin.List.listSameRef,SV],show (Value.type "dict_items" == Value.type "list")=false by decide,show (Value.type "dict_items" == Value.type "tuple")=false by decide,Bool.or_false,Bool.false_eq_true,if_false]
 refine wpAny_bind (qgL hv d1 d2 hn ?_)
 have hS1:=Heap.get?_push_of_some (qex .none (.bool false) D 0 es.size ep .none .none) hS
 refine wpAny_bind (wpAny_holding (kdx_hint (let ⟨o,x1,x2,_⟩:=hv;⟨o,Heap.get?_push_of_some _ x1,x2⟩) ?_))
 refine wpAny_ite_split (fun _=>?_) (fun _=>wpAny_pure ⟨plainId_quiet F.plain_extend_loop _,go _ c _ (fun b o _ x=>x) hS1⟩)
 refine wpAny_bind (wpAny_rule (wpAny_bind ?_))
 show wpAny _ _ (updateSeq S (·.push .none) >>= fun _=>updateSeq S (·.pop)) _ _ _
 refine wpAny_bind (wpAny_updateSeq hS1 rfl ?_)
 have hS2:=Heap.get?_update_self (Obj.mapSeq (·.push Value.none)) hS1 rfl
 refine wpAny_updateSeq (hz:=by seq_fits) hS2 rfl ?_
 exact wpAny_pure ⟨plainId_quiet F.plain_extend_loop _,go _ _ _ (fun b o nb x=>(Heap.get?_update_other _ _ (Ne.symm nb)).trans ((Heap.get?_update_other _ _ (Ne.symm nb)).trans x)) (Heap.get?_update_self (Obj.mapSeq (·.pop)) hS2 rfl)⟩
theorem qgM {V D S:Addr} {od:Obj} {es:Array DictEntry} {ep:Nat} (hh:A.handled=none) (hv:s.heap.IsItemsView V D) (d1:s.heap.get? D=some od) (d2:od.data = .dict es ep) (hn:es.size<=sizeLine) (SV:S≠V) (DS:D≠S) (c:Nat) (hS:s.heap.get? S=some (qjI #[] c))
  (q:∀ h' tk acc c as,(∀ b o,b≠S->s.heap.get? b=some o->h'.get? b=some o)->h'.get? S=some (qjI acc c)->as.length=es.size->ql7 es s.heap.objs.size h' as->acc.toList=as.map Value.ref->R (.ok (.ret (.ref S))) { s with heap:=h',toks:=tk }) :
  codeAny (model prog w) A (.builtin "list.__iadd__" ⟨[.ref S,.ref V],[]⟩) R s:=by
 refine codeAny_builtin entry_list_iadd' ?_
 rw [Around.under_plainId (by decide +kernel) _]
 exact qeu hh hv d1 d2 hn SV DS (.ref S) c hS q
theorem qds {V D:Addr} {od:Obj} {es:Array DictEntry} {ep:Nat} {Q:List Value->Shared->Prop} (hh:A.handled=none) (hv:s.heap.IsItemsView V D) (d1:s.heap.get? D=some od) (d2:od.data = .dict es ep) (hn:es.size<=sizeLine)
  (q:∀ (h':Heap) (tk:Tok) (as:List Addr),(∀ b o,s.heap.get? b=some o->h'.get? b=some o)->as.length=es.size->ql7 es s.heap.objs.size h' as->Q (as.map Value.ref) { s with heap:=h',toks:=tk }) :
  wpAny (model prog w) A (collect (.ref V)) Q E s:=by
 have lV:V < s.heap.objs.size:=let ⟨_,x,_⟩:=hv;Heap.lt_size x
 have lD:D < s.heap.objs.size:=Heap.lt_size d1
 unfold collect
 refine wpAny_bind (wpAny_runValue (codeAny_builtin entry_proto_collect' ?_))
 show wpAny _ _ (do again (.builtin "list.__iadd__" ⟨[<-newList [],.ref V],[]⟩)) _ _ s
 refine wpAny_bind (wpAny_newList (wpAny_pure ⟨Code.quiet_builtin _ (by decide +kernel),?_⟩))
 refine qgM (s:=⟨s.heap.push (seqObj "list" #[] 0),s.gens,s.drawn,s.toks,s.os⟩) hh (let ⟨o,x1,x2⟩:=hv;⟨o,Heap.get?_push_of_some _ x1,x2⟩) (Heap.get?_push_of_some _ d1) d2 hn (S:=s.heap.objs.size) (Nat.ne_of_gt lV) (Nat.ne_of_lt lD) 0 (Heap.get?_push_size _ rfl) fun h' tk acc c as kp hS el pg ea=>?_
 show wpAny (model prog w) A (do
   let o <-load s.heap.objs.size
   match o.data with
   | .seq xs _=>pure xs.toList
   | _=>unsupported "internal:collect") Q E { s with heap:=h',toks:=tk }
 refine wpAny_bind (wpAny_load hS ?_)
 refine wpAny_pure ?_
 show Q acc.toList _
 rw [ea]
 exact q h' tk as (fun b o x=>kp b o (Nat.ne_of_lt (Heap.lt_size x)) (Heap.get?_push_of_some _ x)) el fun j a ja=>⟨Nat.lt_trans (by show s.heap.objs.size < (s.heap.push _).objs.size;rw [size_push'];exact Nat.lt_succ_self _) (pg j a ja).1,(pg j a ja).2⟩
end
end L2
end
section
namespace L2
open PySem PySem.Spec PyProof.Rows PySem.W PySem.Calls
section
variable {prog:Program} {w:World} {A:Around}
def vsh:Value->Option Bool
 | .int ..=>some false
 | .str ..=>some true
 | _=>none
theorem qci:∀ {ks:List Bool} {us vs:List Value},us.map vsh=ks.map some->vs.map vsh=ks.map some->qdd us vs
 | [],us,vs,h1,h2=>by
  rw [List.map_nil,List.map_eq_nil_iff] at h1
  subst h1
  exact fun p hp=>by simp at hp
 | k :: ks,[],vs,h1,h2=>by simp at h1
 | k :: ks,u :: us,[],h1,h2=>by simp at h2
 | k :: ks,u :: us,v :: vs,h1,h2=>by
  rw [List.map_cons,List.map_cons] at h1 h2
  injection h1 with a1 a2
  injection h2 with b1 b2
  intro p hp
  rw [List.zip_cons_cons] at hp
  rcases List.mem_cons.mp hp with rfl | hp
  ·dsimp only
   cases u<;>simp [vsh] at a1<;>cases v<;>simp [vsh] at b1
   ·exact .inl ⟨_,_,_,_,rfl,rfl⟩
   ·rw [a1] at b1;cases b1
   ·rw [a1] at b1;cases b1
   ·exact .inr ⟨_,_,_,_,rfl,rfl⟩
  ·exact qci a2 b2 p hp
def GF (ks:List Bool) (vs:List Value) (h:Heap):Prop:=∀ v∈vs,∃ a t us,TupO h v (.int a t :: us)/\us.map vsh=ks.map some
def GN (ks:List Bool) (vs:List Value) (h:Heap):Prop:=∀ v∈vs,∃ k a t kus,TupO h v [k,.int a t]/\TupO h k kus/\kus.map vsh=ks.map some
theorem TupO.mono {h h':Heap} {a:Addr} {v:Value} {xs:List Value} (x:TupO h v xs) (k:∀ b o,b≠a->h.get? b=some o->h'.get? b=some o) (n:∀ o,h.get? a=some o->o.cls = .type "list"):TupO h' v xs:=by
 obtain ⟨t,o,m,x1,x2,x3,x4⟩:=x
 refine ⟨t,o,m,x1,k t o (fun z=>?_) x2,x3,x4⟩
 subst z
 have:=n o x2
 rw [x3] at this
 exact absurd (Value.type.inj this) (by decide)
theorem TupO.ext {h h':Heap} {v:Value} {xs:List Value} (x:TupO h v xs) (k:∀ b o,h.get? b=some o->h'.get? b=some o):TupO h' v xs:=by
 obtain ⟨t,o,m,x1,x2,x3,x4⟩:=x
 exact ⟨t,o,m,x1,k t o x2,x3,x4⟩
theorem qks (ks:List Bool) (vs:List Value):Srt prog w A (.type "int") (GF ks vs) vs where
 mono:=fun k n g v hv=>by
  obtain ⟨a,t,us,x1,x2⟩:=g v hv
  exact ⟨a,t,us,x1.mono k n,x2⟩
 lt:=fun {E s x y C} g hx hy hC=>by
  rw [show (Value.type "int" != Value.type "tuple")=true by decide]
  obtain ⟨a,t,us,x1,x2⟩:=g x hx
  obtain ⟨b,t',us',y1,y2⟩:=g y hy
  exact qlw x1 y1 (qci x2 y2) hC
 fst:=fun {h} g=>by
  suffices hh:∀ l:List Value,(∀ v∈l,v∈vs)->∃ fs:List Value,KatTups h l fs/\fs.length=l.length/\∀ f∈fs,Looks (model prog w) h (typeOf f) (.type "int") from hh vs fun v hv=>hv
  intro l
  induction l with
  | nil=>exact fun _=>⟨[],.nil,rfl,fun f hf=>nomatch hf⟩
  | cons v l ih=>
   intro al
   obtain ⟨fs,f1,f2,f3⟩:=ih fun x hx=>al x (mC_ _ hx)
   obtain ⟨a,t,us,⟨p,o,n,rfl,x2,x3,x4⟩,_⟩:=g v (al v List.mem_cons_self)
   refine ⟨.int a t :: fs,.cons x2 x3 x4 rfl f1,by simp [f2],fun f hf=>?_⟩
   rcases List.mem_cons.mp hf with rfl | hf
   ·intro A' Q' E' s' k q
    exact wpAny_typeOf (T:= "int") rfl q
   ·exact f3 f hf
 ty:=by decide
theorem qmt (hu:A.units < cLine) (ks:List Bool) (vs:List Value):Srt prog w A (.type "tuple") (GN ks vs) vs where
 mono:=fun k n g v hv=>by
  obtain ⟨kk,a,t,us,x1,x2,x3⟩:=g v hv
  exact ⟨kk,a,t,us,x1.mono k n,x2.mono k n,x3⟩
 lt:=fun {E s x y C} g hx hy hC=>by
  rw [show (Value.type "tuple" != Value.type "tuple")=false by decide]
  obtain ⟨kk,a,t,us,x1,x2,x3⟩:=g x hx
  obtain ⟨kk',b,t',us',y1,y2,y3⟩:=g y hy
  exact qlx hu x1 y1 x2 y2 (qci x3 y3) (fun p hp=>by simp at hp;subst hp;exact .inl ⟨_,_,_,_,rfl,rfl⟩) hC
 fst:=fun {h} g=>by
  suffices hh:∀ l:List Value,(∀ v∈l,v∈vs)->∃ fs:List Value,KatTups h l fs/\fs.length=l.length/\∀ f∈fs,Looks (model prog w) h (typeOf f) (.type "tuple") from hh vs fun v hv=>hv
  intro l
  induction l with
  | nil=>exact fun _=>⟨[],.nil,rfl,fun f hf=>nomatch hf⟩
  | cons v l ih=>
   intro al
   obtain ⟨fs,f1,f2,f3⟩:=ih fun x hx=>al x (mC_ _ hx)
   obtain ⟨kk,a,t,us,⟨p,o,n,rfl,x2,x3,x4⟩,⟨p',o',n',rfl,y2,y3,y4⟩,_⟩:=g v (al v List.mem_cons_self)
   refine ⟨.ref p' :: fs,.cons x2 x3 x4 rfl f1,by simp [f2],fun f hf=>?_⟩
   rcases List.mem_cons.mp hf with rfl | hf
   ·intro A' Q' E' s' k q
    exact wpAny_typeOf (T:= "tuple") ⟨o',k _ _ y2,y3⟩ q
   ·exact f3 f hf
 ty:=by decide
end
section
variable {X:Cx} {p pos:Pos}
def shp:V->Option Bool
 | .int _=>some false
 | .str _=>some true
 | _=>none
theorem qbD:∀ {ks:List Bool} {xs:List V} {us:List Value},Vals xs us->xs.map shp=ks.map some->us.map vsh=ks.map some
 | ks,_,_,.nil,h=>h
 | [],_,_,.cons r t,h=>by simp at h
 | k :: ks,x :: xs,u :: us,.cons r t,h=>by
  rw [List.map_cons,List.map_cons] at h
  injection h with h1 h2
  rw [List.map_cons,List.map_cons,qbD t h2]
  congr 1
  cases x<;>simp [shp] at h1
  ·obtain ⟨t,rfl⟩:=r;simp [vsh,h1]
  ·obtain ⟨t,rfl⟩:=r;simp [vsh,h1]
theorem qh8 {P:Program} {w:World} {H:Hp} {h:Heap} {t:Addr} {xs:List V} (ok:HOk P w H h) (e:H t=some (.tup xs)):∃ us,TupO h (.ref t) us/\Vals xs us:=by
 obtain ⟨_,its,rv,o,o1,o2,n,o3⟩:=ok t _ e
 exact ⟨its,⟨t,o,n,rfl,o1,o2,o3⟩,rv⟩
theorem qbO {xs:List V} {us:List Value} {q:Array Nat} (rv:Vals xs us) (g:GoodP us.length q):∃ ys:List V,ys.length=xs.length/\(∀ y∈ys,y∈xs)/\Vals ys (q.toList.map fun i=>us.getD i Value.none):=by
 have il:us.length=xs.length:=rv.length.symm
 have plt:∀ i∈q.toList,i < xs.length:=fun i hi=>by
  have:=(Array.perm_iff_toList_perm.mp g).mem_iff.mp hi
  simp at this
  omega
 have pl:q.toList.length=xs.length:=by
  have:=(Array.perm_iff_toList_perm.mp g).length_eq
  simp at this
  simp [this,il]
 refine ⟨q.toList.map fun i=>xs.getD i .non,by rw [lM_,pl],fun y hy=>?_,?_⟩
 ·obtain ⟨j,hj,rfl⟩:=mM_ hy
  have jl:=plt j hj
  rw [List.getD_eq_getElem?_getD,gE_ jl]
  exact List.getElem_mem jl
 ·refine qdg (by rw [lM_,lM_]) fun i x u hx hu=>?_
  rw [gM_] at hx hu
  obtain ⟨j,hj,rfl⟩:=Option.map_eq_some_iff.mp hx
  rw [hj] at hu
  cases hu
  have jl:=plt j (mO_ hj)
  have hx':xs[j]? = some xs[j]:=gE_ jl
  obtain ⟨w,hw,rw'⟩:=rv.get hx'
  show RelV (xs.getD j .non) (us.getD j Value.none)
  rw [List.getD_eq_getElem?_getD,List.getD_eq_getElem?_getD,hx',hw]
  exact rw'
def qdc (r d:Addr):HO:=.ext fun h=>h.IsItemsView r d
def qj8 (ks:List Bool) (kvs:List (List Key×V)):Prop:=∀ q∈kvs,∃ i r,q.1=Sum.inl i :: r/\(r.map kV).map shp=ks.map some
def qhB (ks:List Bool) (q:Addr) (H:Hp) (Q:VK):Prop:=∃ xs:List V,H q=some (.lst xs)/\2<=xs.length/\xs.length < 64/\(∀ x∈xs,∃ t i r,x = .ref t/\H t=some (.tup (.int i :: r))/\r.map shp=ks.map some)/\∀ l ys,H l=none->ys.length=xs.length->(∀ y∈ys,y∈xs)->Q (.ref l) (upd H l (.lst ys))
def qhC (ks:List Bool) (q:Addr) (H:Hp) (Q:VK):Prop:=∃ kvs:List (List Key×V),H q=some (.dT kvs)/\2<=kvs.length/\kvs.length < 64/\qj8 ks kvs/\∀ l ys,H l=none->ys.length=kvs.length->(∀ y∈ys,∃ t,∃ p∈kvs,y = .ref t/\H t=some (.tup (p.1.map kV)))->Q (.ref l) (upd H l (.lst ys))
def qhD (ks:List Bool) (q:Addr) (H:Hp) (Q:VK):Prop:=∃ (d:Addr) (kvs:List (List Key×V)),H q=some (qdc q d)/\H d=some (.dT kvs)/\2<=kvs.length/\kvs.length < 64/\qj8 ks kvs/\(∀ p∈kvs,∃ n,p.2 = .int n) ∧
 ∀ l ys H',Same H H'->H l=none->H' l=some (.lst ys)->ys.length=kvs.length->(∀ y∈ys,∃ t kt,∃ p∈kvs,y = .ref t/\H' t=some (.tup [.ref kt,p.2])/\H' kt=some (.tup (p.1.map kV)))->Q (.ref l) H'
theorem qkt {ks:List Bool} {pins:List (Addr×Obj)} {s:Shared} {σ:St} {H:Hp} {q:Addr} {Q:VK} (I:Inv X pins σ H s) (h:qhB ks q H Q):wpAny (model X.prog X.w) X.A (call (.builtin "sorted") [.ref q]) (EP X pins σ Q) X.xe s:=by
 obtain ⟨xs,hq,h2,h64,al,k⟩:=h
 obtain ⟨z,its,n,rv,e⟩:=I.hok _ _ hq
 have il:its.length=xs.length:=rv.length.symm
 have g:GF ks its s.heap:=fun v hv=>by
  obtain ⟨i,hi⟩:=mG_ hv
  have il':=(gS_ hi).1
  have hx':xs[i]? = some xs[i]:=gE_ (by omega)
  obtain ⟨w,hw,rw'⟩:=rv.get hx'
  rw [hi] at hw
  cases hw
  obtain ⟨t,a,r,ex,ht,hs⟩:=al _ (mO_ hx')
  rw [ex] at rw'
  cases rw'
  obtain ⟨us,u1,u2⟩:=qh8 I.hok ht
  cases u2 with
  | cons r1 r2=>
   obtain ⟨ta,rfl⟩:=r1
   exact ⟨a,ta,_,u1,qbD r2 hs⟩
 refine qbn fun {R} go=>?_
 refine collect_list (vs:=its) ⟨_,e,rfl,_,rfl⟩ ?_ (by rw [sizeLine_eq];omega)
 have kp:∀ b o,s.heap.get? b=some o->((s.heap.push (seqObj "list" #[] 0)).update s.heap.objs.size (Obj.mapSeq (·++its.toArray))).get? b=some o:=fun b o x=>by
  have lt:b < s.heap.objs.size:=Heap.lt_size x
  rw [Heap.get?_update_ne _ _ _ _ (Nat.ne_of_lt lt),Heap.get?_push_ne _ _ _ (Nat.ne_of_lt lt)]
  exact x
 refine go _ s.toks its _ (GF ks its) kp ?_ (qks ks its) (fun v hv=>?_) (by omega) (by omega) fun h2 l p e gp kp2 lz he=>?_
 ·rw [Heap.size_update,size_push'];exact Nat.le_succ _
 ·obtain ⟨a,t,us,u1,u2⟩:=g v hv
  exact ⟨a,t,us,u1.ext kp,u2⟩
 ·obtain ⟨ys,y1,y2,y3⟩:=qbO rv gp
  have lz':s.heap.objs.size<=l:=Nat.le_trans (by rw [Heap.size_update,size_push'];exact Nat.le_succ _) lz
  exact ⟨.ref l,_,I.laid (o:=.lst ys) (t':=s.toks) (fun b o x=>kp2 b o (kp b o x)) lz' ⟨by rw [y1,sizeLine_eq];omega,_,e,y3,he⟩,rfl,k l ys (I.hok.fresh lz') y1 y2⟩
end
end L2
end
section
namespace L2
open PySem PySem.Spec PyProof.Rows PySem.W PySem.Calls
theorem qcG:∀ as:List Addr,Vals (as.map V.ref) (as.map Value.ref)
 | []=>.nil
 | _ :: as=>.cons rfl (qcG as)
theorem qbQ {α β:Type} {F:α->β->Prop}:∀ {l:List α} {m:List β},Paired F l m->∀ {i:Nat} {b:β},m[i]? = some b->∃ a,l[i]? = some a/\F a b
 | _,_,.nil,i,b,h=>by simp at h
 | _,_,.cons r t,0,b,h=>by cases h;exact ⟨_,rfl,r⟩
 | _,_,.cons r t,i+1,b,h=>qbQ t (i:=i) h
section
variable {X:Cx} {p pos:Pos}
theorem qku {ks:List Bool} {pins:List (Addr×Obj)} {s:Shared} {σ:St} {H:Hp} {q:Addr} {Q:VK} (hc:X.calm=true) (I:Inv X pins σ H s) (h:qhC ks q H Q):wpAny (model X.prog X.w) X.A (call (.builtin "sorted") [.ref q]) (EP X pins σ Q) X.xe s:=by
 obtain ⟨kvs,hq,h2,h64,fl,k⟩:=h
 obtain ⟨z,hd,xs,r,o,es,ep,d1,d2,d3,d4,d5⟩:=(show ObjOk X.prog X.w H s.heap q (.dT kvs) from I.hok q _ hq)
 have hT:s.TypeIs (.ref q) "dict" := ⟨o,d1,d2.1⟩
 have xl:kvs.length=xs.length:=Paired.length r
 have el:es.size=xs.length:=by
  have:=congrArg List.length d4
  simpa using this
 have rel:Vals ((xs.map (·.2.1)).map V.ref) (es.toList.map (·.key)):=by
  rw [d4]
  clear d4 d5 r xl el
  induction xs with
  | nil=>exact .nil
  | cons x xs ih=>exact .cons rfl ih
 refine qbn fun {R} go=>?_
 refine qbu (I.ok.hd hc) hd hT d1 d3 (by rw [sizeLine_eq];omega) fun h1 tk acc kp lt it=>?_
 have rv:=qa6 it rel
 have al:acc.toList.length=kvs.length:=by rw [<-rv.length,lM_,lM_,xl]
 have at_:∀ v∈(xs.map (·.2.1)).map V.ref,∃ t,∃ p∈kvs,v = .ref t/\H t=some (.tup (p.1.map kV)):=fun v hv=>by
  obtain ⟨t,ht,rfl⟩:=mM_ hv
  obtain ⟨x,hx,rfl⟩:=mM_ ht
  obtain ⟨i,hi⟩:=mG_ hx
  obtain ⟨p,p1,p2⟩:=qbQ r hi
  exact ⟨_,p,mO_ p1,rfl,p2.2.1⟩
 have g:GF ks acc.toList h1:=fun v hv=>by
  obtain ⟨i,hi⟩:=mG_ hv
  have il:=(gS_ hi).1
  have il':i < ((xs.map (·.2.1)).map V.ref).length:=by rw [rv.length];exact il
  have hx':=gE_ il'
  obtain ⟨w,hw,rw'⟩:=rv.get hx'
  rw [hi] at hw
  cases hw
  obtain ⟨t,p,pm,ex,ht⟩:=at_ _ (mO_ hx')
  rw [ex] at rw'
  cases rw'
  obtain ⟨a,r',e1,e2⟩:=fl p pm
  rw [e1] at ht
  obtain ⟨us,u1,u2⟩:=qh8 I.hok ht
  cases u2 with
  | cons r1 r2=>
   obtain ⟨ta,rfl⟩:=r1
   exact ⟨a,ta,_,u1.ext kp,qbD r2 e2⟩
 refine go h1 tk acc.toList _ (GF ks acc.toList) kp (Nat.le_of_lt lt) (qks ks _) g (by omega) (by omega) fun h2 l p e gp kp2 lz he=>?_
 obtain ⟨ys,y1,y2,y3⟩:=qbO rv gp
 have lz':s.heap.objs.size<=l:=Nat.le_trans (Nat.le_of_lt lt) lz
 have yl:ys.length=kvs.length:=by rw [y1,lM_,lM_,xl]
 exact ⟨.ref l,_,I.laid (o:=.lst ys) (t':=tk) (fun b o x=>kp2 b o (kp b o x)) lz' ⟨by rw [yl,sizeLine_eq];omega,_,e,y3,he⟩,rfl,k l ys (I.hok.fresh lz') yl fun y hy=>at_ y (y2 y hy)⟩
def nwT (as:List Addr) (ps:List (Addr×V)) (b:Addr):Option HO:=match as.findIdx? (· == b) with
 | none=>none
 | some j=>ps[j]?.map fun p=>.tup [.ref p.1,p.2]
theorem qg5 {as:List Addr} {ps:List (Addr×V)} {b:Addr} (hb:b∈as) (hl:as.length=ps.length):∃ (j:Nat) (p:Addr×V),as[j]? = some b/\ps[j]? = some p/\nwT as ps b=some (.tup [.ref p.1,p.2]):=by
 unfold nwT
 cases e:as.findIdx? (· == b) with
 | none=>
  have:=List.findIdx?_eq_none_iff.mp e b hb
  simp at this
 | some j=>
  obtain ⟨h1,h2,_⟩:=List.findIdx?_eq_some_iff_getElem.mp e
  have h2:as[j]=b:=by simpa using h2
  have hp:ps[j]? = some ps[j]:=gE_ (by omega)
  exact ⟨j,_,by rw [gE_ h1,h2],hp,by show ps[j]?.map _=_;rw [hp];rfl⟩
theorem qls {as:List Addr} {ps:List (Addr×V)} {b:Addr} {o:HO} (h:nwT as ps b=some o):∃ (j:Nat) (p:Addr×V),as[j]? = some b/\ps[j]? = some p/\o = .tup [.ref p.1,p.2]:=by
 unfold nwT at h
 cases e:as.findIdx? (· == b) with
 | none=>rw [e] at h;cases h
 | some j=>
  rw [e] at h
  obtain ⟨h1,h2,_⟩:=List.findIdx?_eq_some_iff_getElem.mp e
  have h2:as[j]=b:=by simpa using h2
  obtain ⟨p,hp,rfl⟩:=Option.map_eq_some_iff.mp h
  exact ⟨j,p,by rw [gE_ h1,h2],hp,rfl⟩
theorem qkv {ks:List Bool} {pins:List (Addr×Obj)} {s:Shared} {σ:St} {H:Hp} {q:Addr} {Q:VK} (hc:X.calm=true) (hu:X.A.units+64 < cLine) (I:Inv X pins σ H s) (h:qhD ks q H Q):wpAny (model X.prog X.w) X.A (call (.builtin "sorted") [.ref q]) (EP X pins σ Q) X.xe s:=by
 obtain ⟨d,kvs,hq,hdd,h2,h64,fl,vi,k⟩:=h
 have hv:s.heap.IsItemsView q d:=(show ObjOk X.prog X.w H s.heap q (qdc q d) from I.hok q _ hq).1
 obtain ⟨z,hd,xs,r,o,es,ep,d1,d2,d3,d4,d5⟩:=(show ObjOk X.prog X.w H s.heap d (.dT kvs) from I.hok d _ hdd)
 have xl:kvs.length=xs.length:=Paired.length r
 have el:es.size=xs.length:=by
  have:=congrArg List.length d4
  simpa using this
 have ent:∀ {j:Nat} {e:DictEntry},es[j]? = some e->∃ x p,xs[j]? = some x/\kvs[j]? = some p/\e.key = .ref x.2.1/\e.val=x.2.2/\H x.2.1=some (.tup (p.1.map kV))/\RelV p.2 x.2.2:=fun {j e} he=>by
  have he':es.toList[j]? = some e:=by simpa using he
  rw [d4,gM_] at he'
  obtain ⟨x,hx,rfl⟩:=Option.map_eq_some_iff.mp he'
  obtain ⟨p,p1,p2⟩:=qbQ r hx
  exact ⟨x,p,hx,p1,rfl,rfl,p2.2.1,p2.2.2⟩
 refine qbn fun {R} go=>?_
 refine qds (I.ok.hd hc) hv d1 d3 (by rw [sizeLine_eq];omega) fun h1 tk as kp al pg=>?_
 have g:GN (false :: ks) (as.map Value.ref) h1:=fun v hv=>by
  obtain ⟨a,ha,rfl⟩:=mM_ hv
  obtain ⟨j,hj⟩:=mG_ ha
  obtain ⟨_,e,e1,e2⟩:=pg j a hj
  obtain ⟨x,p,x1,x2,x3,x4,x5,x6⟩:=ent e1
  obtain ⟨n,hn⟩:=vi p (mO_ x2)
  rw [hn] at x6
  obtain ⟨t,ht⟩:=x6
  obtain ⟨i,r',f1,f2⟩:=fl p (mO_ x2)
  rw [f1] at x5
  obtain ⟨us,u1,u2⟩:=qh8 I.hok x5
  refine ⟨.ref x.2.1,n,t,us,⟨a,_,0,rfl,e2,rfl,by show Data.seq #[e.key,e.val] 0=_;rw [x3,x4,ht]⟩,u1.ext kp,?_⟩
  exact qbD (ks:=false :: ks) u2 (by rw [List.map_cons,List.map_cons,f2,List.map_cons];rfl)
 have sz:s.heap.objs.size<=h1.objs.size:=by
  have a0:0 < as.length:=by omega
  obtain ⟨b1,e',b2,b3⟩:=pg 0 _ (gE_ a0)
  exact Nat.le_of_lt (Nat.lt_trans b1 (Heap.lt_size b3))
 refine go h1 tk (as.map Value.ref) _ (GN (false :: ks) (as.map Value.ref)) kp sz (qmt (by rw [units_in1,units_in1];omega) (false :: ks) _) g (by rw [lM_];omega) (by rw [lM_];omega) fun h2 l p e gp kp2 lz he=>?_
 have rv:=qcG as
 obtain ⟨ys,y1,y2,y3⟩:=qbO rv gp
 have lz':s.heap.objs.size<=l:=Nat.le_trans sz lz
 have yl:ys.length=kvs.length:=by rw [y1,lM_];omega
 let ps:List (Addr×V):=(xs.zip kvs).map fun y=>(y.1.2.1,y.2.2)
 have psl:as.length=ps.length:=by show _=((xs.zip kvs).map _).length;rw [lM_,List.length_zip];omega
 have psa:∀ {j:Nat} {y:Addr×V},ps[j]? = some y->∃ x p,xs[j]? = some x/\kvs[j]? = some p/\y=(x.2.1,p.2):=fun {j y} hy=>by
  have hy:((xs.zip kvs).map fun y=>(y.1.2.1,y.2.2))[j]? = some y:=hy
  rw [gM_] at hy
  obtain ⟨⟨x,p⟩,hz,rfl⟩:=Option.map_eq_some_iff.mp hy
  obtain ⟨z1,z2⟩:=List.getElem?_zip_eq_some.mp hz
  exact ⟨x,p,z1,z2,rfl⟩
 generalize ps=ps at psl psa
 have aS:∀ {j:Nat} {a:Addr},as[j]? = some a->s.heap.objs.size<=a/\a≠l:=fun {j a} ha=>by
  obtain ⟨b1,e',b2,b3⟩:=pg j a ha
  exact ⟨Nat.le_of_lt b1,Nat.ne_of_lt (Nat.lt_of_lt_of_le (Heap.lt_size b3) lz)⟩
 let H':Hp:=fun b=>if b=l then some (.lst ys) else if s.heap.objs.size<=b then nwT as ps b else H b
 have old:∀ {b:Addr} {u:HO},H b=some u->H' b=some u:=fun {b u} e=>by
  have lt:b < s.heap.objs.size:=(I.hok b u e).lt
  show (if b=l then _ else if s.heap.objs.size<=b then _ else _)=_
  rw [if_neg (Nat.ne_of_lt (Nat.lt_of_lt_of_le lt lz')),if_neg (Nat.not_le.mpr lt)]
  exact e
 have hl':H' l=some (.lst ys):=if_pos rfl
 have hn':∀ {b:Addr},b∈as->H' b=nwT as ps b:=fun {b} hb=>by
  obtain ⟨j,hj⟩:=mG_ hb
  obtain ⟨b1,b2⟩:=aS hj
  show (if b=l then _ else if s.heap.objs.size<=b then _ else _)=_
  rw [if_neg b2,if_pos b1]
 have sm:Same H H':=fun b u e=>old e
 have un:Un X.fs [] H H' s.heap h2:=by
  refine ⟨fun b u x _ _ _=>kp2 b u (kp b u x),fun b u x _ _ _=>⟨u.slots,kp2 b u (kp b u x)⟩,fun b u x n _=>?_,fun b u x _=>⟨u,kp2 b u (kp b u x)⟩,fun b xs e=>old e,fun b u v e=>old e,fun b ps e=>⟨#[],by rw [Array.append_empty];exact old e⟩⟩
  have lt:b < s.heap.objs.size:=Heap.lt_size x
  show (if b=l then _ else if s.heap.objs.size<=b then _ else _)=_
  rw [if_neg (Nat.ne_of_lt (Nat.lt_of_lt_of_le lt lz')),if_neg (Nat.not_le.mpr lt)]
  exact n
 have hok:HOk X.prog X.w H' h2:=fun b u e=>by
  by_cases bl:b=l
  ·subst bl
   rw [hl'] at e
   cases e
   exact ⟨by rw [yl,sizeLine_eq];omega,_,_,y3,he⟩
  ·by_cases bs:s.heap.objs.size<=b
   ·have e:(if b=l then _ else if s.heap.objs.size<=b then _ else _)=some u:=e
    rw [if_neg bl,if_pos bs] at e
    obtain ⟨j,y,j1,j2,rfl⟩:=qls e
    obtain ⟨b1,e',b2,b3⟩:=pg j b j1
    obtain ⟨x,p,x1,x2,x3,x4,x5,x6⟩:=ent b2
    obtain ⟨x',p',x1',x2',rfl⟩:=psa j2
    rw [x1] at x1';cases x1'
    rw [x2] at x2';cases x2'
    exact ⟨lZ_ rfl,[.ref x.2.1,x.2.2],.cons rfl (.cons x6 .nil),_,kp2 _ _ b3,rfl,0,by show Data.seq #[e'.key,e'.val] 0=_;rw [x3,x4]⟩
   ·have e:(if b=l then _ else if s.heap.objs.size<=b then _ else _)=some u:=e
    rw [if_neg bl,if_neg bs] at e
    exact (I.hok b u e).stay (fun b' u' _ e'=>kp2 _ _ (kp _ _ e')) (fun b' z=>old z) fun b' xs z=>old z
 refine ⟨.ref l,H',I.un (t':=tk) un hok,rfl,k l ys H' sm (I.hok.fresh lz') hl' yl fun y hy=>?_⟩
 obtain ⟨a,ha,rfl⟩:=mM_ (y2 y hy)
 obtain ⟨j,y,j1,j2,j3⟩:=qg5 ha psl
 obtain ⟨x,p,x1,x2,rfl⟩:=psa j2
 obtain ⟨_,e',b2,_⟩:=pg j a j1
 obtain ⟨x',p',x1',x2',_,_,x5,_⟩:=ent b2
 rw [x1] at x1';cases x1'
 rw [x2] at x2';cases x2'
 exact ⟨a,x.2.1,p,mO_ x2,rfl,by rw [hn' ha,j3],old x5⟩
def qfq:List V->Hp->VK->Prop:=fun vs H Q=>match vs with
 | [.ref q]=>∃ ks,qhB ks q H Q\/qhC ks q H Q\/qhD ks q H Q
 | _=>False
theorem qeH (hc:X.calm=true) (hu:X.A.units+64 < cLine):CallR X (.builtin "sorted") qfq:=by
 intro pins s σ H xs us Q I r h
 unfold qfq at h
 split at h
 ·obtain ⟨u,rfl,rx⟩:=qaP r
  cases rx
  obtain ⟨ks,h | h | h⟩:=h
  ·exact qkt I h
  ·exact qku hc I h
  ·exact qkv hc hu I h
 ·exact h.elim
theorem qcA {e:Expr} {es:List Expr} {t:TA} {mg':Str->Option Value} (hm:mg' "sorted" = none) (hX:X.mg=mg') (hu:X.A.units+64 < cLine) (ha:PA X (e :: es) t) (hc:X.calm=true:=by kernel_rfl) (hg:gB X "sorted" = true:=by kernel_rfl) (he:starEach (e :: es) X.env=(false,eval e X.env) :: starEach es X.env:=by kernel_rfl) (hpl:(backTo pos (starEach es X.env)).any (·.1)=false:=by kernel_rfl) :
  PE X (.Call (.Name "sorted" p) (e :: es) [] pos) (tCB qfq t):=qaB (qeH hc hu) (qaD hg) (by rw [hX];exact hm) PyProof.Rows.boot_sorted ha (he:=he) (hpl:=hpl)
def qft:V->List V->Hp->VK->Prop:=fun x vs H Q=>match x,vs with
 | .ref d,[]=>∃ kvs,H d=some (.dT kvs)/\∀ r,H r=none->Q (.ref r) (upd H r (qdc r d))
 | _,_=>False
theorem qg8:MtM X "dict.items" qft:=by
 intro pins s σ H x vs v us Q I rx rv h
 unfold qft at h
 split at h
 ·rename_i d
  obtain ⟨kvs,hd,q⟩:=h
  cases rx
  have hus:=rv.zero
  subst hus
  obtain ⟨_,nd,_,_,o,es,ep,d1,d2,d3,_,_⟩:=(show ObjOk X.prog X.w H s.heap d (.dT kvs) from I.hok d _ hd)
  have ty:s.TypeIs (.ref d) "dict" := ⟨o,d1,d2.1⟩
  refine wpAny_call_entry F.slot_dict_items ty F.entry_dict_items ?_ (F.args_dict_items_1 _)
  unfold Builtin.«dict.items»
  refine wpAny_bind ?_
  unfold Builtin.Dict.noArgs
  refine wpAny_bind (wpAny_notOrdered_dict ty ?_)
  show wpAny _ _ (pure d) _ _ s
  refine wpAny_pure ?_
  show wpAny _ _ (Builtin.Dict.showsAll d >>= _) _ _ s
  unfold Builtin.Dict.showsAll
  rw [if_neg (by rw [nd];exact Bool.false_ne_true)]
  refine wpAny_bind (wpAny_pure ?_)
  refine wpAny_bind (wpAny_newObj_type (wpAny_pure ⟨_,rfl,?_⟩))
  have hi:(s.heap.push { cls:=.type "dict_items",data:=.fields #[.ref d] }).get? s.heap.objs.size=some { cls:=.type "dict_items",data:=.fields #[.ref d] }:=Heap.get?_push_size _ rfl
  refine ⟨.ref s.heap.objs.size,_,I.laid (o:=qdc s.heap.objs.size d) (t':=s.toks) (fun b u x=>Heap.get?_push_of_some _ x) (Nat.le_refl _) ⟨⟨_,hi,rfl,rfl⟩,⟨_,hi⟩,?_⟩,rfl,q _ (I.hok.fresh (Nat.le_refl _))⟩
  rintro h1 h2 ⟨o',o1,o2,o3⟩ k
  exact ⟨o',k _ o1,o2,o3⟩
 ·exact h.elim
theorem qjG {o:Expr} {to:TE} {apos cpos:Pos} (ho:PE X o to) (hbase:attributeBase o "items" X.env (eval o X.env)=eval o X.env:=by kernel_rfl) (hline:(apos.endLine == cpos.line)=true:=by kernel_rfl):PE X (.Call (.Attribute o "items" apos) [] [] cpos) (qnh X.K "dict" qft to qmp):=by
 intro pins s σ H Q I h
 refine wpAny_Call_method0_late hbase hline (thn (ho pins s σ H _ I h) fun v s1 ⟨x,H1,I1,r1,ty,q1⟩=>?_)
 obtain ⟨h1,h2⟩:=qeR I1 r1 ty
 exact ⟨"dict","dict.items",F.plainAttrs_dict,F.slot_dict_items,F.type_dict_items,h1,h2,Calls.callWith_builtin rfl (PySem.evalArgs_none (qg8 pins s1 σ H1 x [] v [] Q I1 r1 .nil q1))⟩
end
end L2
end
section
namespace K14
open PySem L2
section
variable {P:Program} {w:World} {K:PySem.W.Frag} {mg:Str->Option Value} {base:Heap}
theorem ql2:("0" : Str)=bs [false]:=by decide +kernel
theorem ql1:("1" : Str)=bs [true]:=by decide +kernel
theorem qiS {qs:List Nat} (h:qs.Pairwise (· < ·)) {i:Nat} (hi:i < qs.length):qs[i] ∉ qs.take i:=fun z=>by
 obtain ⟨j,hj⟩:=mG_ z
 rw [List.getElem?_take] at hj
 split at hj
 ·rename_i ji
  have:=List.pairwise_iff_getElem.mp h j i (by omega) hi ji
  rw [gE_ (by omega)] at hj
  have:=oI_ hj
  omega
 ·cases hj
theorem qhq {qs:List Nat} (h:qs.Pairwise (· < ·)) {i:Nat} (hi:i < qs.length):Om.adds (Om.adds (qae (qs.take i)) (qs[i],false)) (qs[i],true)=qae (qs.take (i+1)):=by
 have n:=qiS h hi
 have e1:Om.adds (qae (qs.take i)) (qs[i],false)=qae (qs.take i)++[(qs[i],false)]:=by
  unfold Om.adds
  rw [if_neg (fun z=>n (mem_keysOf.mp z))]
 rw [e1]
 have e2:Om.adds (qae (qs.take i)++[(qs[i],false)]) (qs[i],true)=qae (qs.take i)++[(qs[i],false)]++[(qs[i],true)]:=by
  unfold Om.adds
  rw [if_neg fun z=>?_]
  rcases mA_ z with z | z
  ·exact n (mem_keysOf.mp z)
  ·have:=congrArg Prod.snd (mS_ z)
   cases this
 rw [e2,List.take_add_one,gE_ hi]
 exact (qbS _ _).symm
theorem qhr {ks:List Ky} {y:Ky} (h:y∈ks):Om.adds ks y=ks:=by unfold Om.adds;rw [if_pos h]
theorem RunV.flat {kvs:List (List Key×V)} {ks:List Ky} {F:Ky->Nat} (h:RunV kvs ks F):∀ q∈kvs,∃ x∈ks,q.1=qaM x:=fun q hq=>by
 have:q.1∈ks.map qaM:=by rw [<-h.kz.ks];exact List.mem_map.mpr ⟨q,hq,rfl⟩
 obtain ⟨x,hx,e⟩:=mM_ this
 exact ⟨x,hx,e.symm⟩
theorem RunV.fl {kvs:List (List Key×V)} {ks:List Ky} {F:Ky->Nat} (h:RunV kvs ks F):qj8 [true] kvs:=fun q hq=>by
 obtain ⟨x,_,e⟩:=h.flat q hq
 exact ⟨_,_,e,rfl⟩
abbrev qiJ:Stmt:=top 35
def qfa:Sp:=fun vs H Q _=>match vs with
 | [cv]=>∃ (k n:Nat) (rows:Om.Rows),DV H cv (qax k n rows)/\Om.CodeOk k n rows/\∀ B kvs qs F H',Same H H'->H B=none->H' B=some (.dT kvs)->RchL rows qs->RunV kvs (qae qs) F->Q (.ref B) H'
 | _=>False
theorem scEnds:FnScope ["code","found","state","turn","sign","word","behind","last","many","top"] ["code"] (qad qiJ):=⟨rfl,rfl,rfl,by decide +kernel,rfl,by decide +kernel,by decide +kernel⟩
local macro_rules | `(tactic| walk_at "T.e")=>`(tactic| first | (with_reducible exact qbg) | ((with_reducible refine' qbk ?a0 ?a1 ?a2);(case a0=>exact Room.units (by assumption));(case a1=>with_reducible exact vn "found" 1);(case a2=>walk_at "T.e")) | fail "no")
local macro_rules | `(tactic| walk_at "T.g")=>`(tactic| ((with_reducible refine' qa3 ?a0 ?a1 ?a2);(case a0=>exact Room.units (by assumption));(case a1=>with_reducible exact vn "found" 1);(case a2=>walk_at "T.e")))
local macro_rules | `(tactic| walk_at "T.b")=>`(tactic| ((with_reducible refine' qcA ?a0 ?a9 ?a8 ?a1);(case a0=>with_reducible assumption);(case a9=>rfl);(case a8=>exact Room.units (by assumption));(case a1=>walk_at "T.a")))
theorem qjv (D:FnX K mg "_law_ends" qiJ ["code"]) (g1:mg "range" = none) (g2:mg "len" = none) (g3:mg "sorted" = none) (g4:mg "max" = none) (g5:mg "min" = none) (c1:Can P w K mg base "_law_come_to" 1 ["code"] qcP) (c2:Can P w K mg base "_law_runs" 1 ["sign","run","word"] qcN):Can P w K mg base "_law_ends" 2 ["code"] qfa:=by
 refine qak (k:=1) D scEnds (fun vs H Q E h=>?_) (fun f0 cdv A outer s H vs Q E hr h=>?_)
 all_goals
  unfold qfa at h
  split at h
 ·rfl
 ·exact h.elim
 ·rename_i cv
  obtain ⟨k,n,rows,hc,ok,q⟩:=h
  obtain ⟨a,b,ss,rfl,ha,hb,hss⟩:=qay hc
  have nd:=scEnds.nd
  have n1:=ok.n1
  have s8:=ok.s8
  refine ⟨_,(by walk_at "T.top"),?_⟩
  intro B hB
  have u1:=Same.upd (o:=.dT []) hB
  have hB1:upd H B (.dT []) B=some (.dT []):=qaa
  generalize upd H B (.dT [])=H1 at u1 hB1
  refine ⟨k,n,rows,hc.mono u1,ok,fun ls qs H2 s2 nls hls rc=>?_⟩
  have q8:=rc.2.2
  have q1:1<=qs.length:=List.length_pos_of_mem ((rc.2.1 0).mpr .z)
  have hB2:=s2 _ _ hB1
  have lB:ls≠B:=fun z=>by rw [z,hB1] at nls;cases nls
  have sl8:∀ s∈qs,s < rows.length:=fun s hs=>Om.rch_ok ok _ ((rc.2.1 _).mp hs)
  have S2:Same H H2:=u1.trans s2
  refine ⟨⟨_,SqL.of hls⟩,qam (qag _ ls (qs.map fun s=>V.int (s:Nat))) (fun i σ H3=>∃ (v2:Option V) (kvs:List (List Key×V)) (F:Ky->Nat),σ=[some (.ref a),some (.ref B),v2,none,none,none,none,none,none,none]/\SameT B H2 H3/\H3 B=some (.dT kvs)/\RunV kvs (qae (qs.take i)) F)
   ⟨none,[],fun _=>0,rfl,SameT.refl _ _,hB2,⟨KS.nil,fun x h=>nomatch h⟩⟩ (fun i σ H3 _ ⟨_,_,_,_,s3,_⟩=>SqL.of (s3 _ _ lB hls)) ?_ ?_⟩
  ·rintro i v σ H3 hi hv ⟨v2,kvs,F,rfl,s3,hB3,rv⟩
   rw [lM_] at hi
   rw [gM_,gE_ hi] at hv
   cases hv
   have kl:=rv.kz.len
   have kl2:=qao (qs.take i)
   rw [List.length_take] at kl2
   dsimp only [qah]
   refine ⟨lZ_ rfl,fun p hp=>?_⟩
   have z4:=Same.upd (o:=.tup [.int (qs[i]:Nat),.str "0"]) hp
   have hp4:upd H3 p (.tup [.int (qs[i]:Nat),.str "0"]) p=some (.tup ((qaM (qs[i],false)).map kV)):=by rw [qaa,ql2];rfl
   generalize upd H3 p (.tup [.int (qs[i]:Nat),.str "0"])=H4 at z4 hp4
   refine .inr ⟨B,_,rfl,DPut.t (k:=qaM (qs[i],false)) (z4 _ _ hB3) hp4 (qai (by omega)),?_⟩
   have r4:=rv.put (qs[i],false) 0
   have s4:SameT B H2 (upd H4 B (.dT (qaN kvs (qaM (qs[i],false)) (.int (0:Nat))))):=fun b o nb e=>by rw [qac nb];exact z4 _ _ (s3 _ _ nb e)
   have hB4:upd H4 B (.dT (qaN kvs (qaM (qs[i],false)) (.int (0:Nat)))) B=some (.dT (qaN kvs (qaM (qs[i],false)) (.int (0:Nat)))):=qaa
   have kl4:=qaW kvs (qaM (qs[i],false)) (.int (0:Nat))
   dsimp only [qah]
   refine ⟨lZ_ rfl,fun p' hp'=>?_⟩
   generalize upd H4 B (.dT (qaN kvs (qaM (qs[i],false)) (.int (0:Nat))))=H5 at s4 hB4 hp' ⊢
   have z6:=Same.upd (o:=.tup [.int (qs[i]:Nat),.str "1"]) hp'
   have hp6:upd H5 p' (.tup [.int (qs[i]:Nat),.str "1"]) p'=some (.tup ((qaM (qs[i],true)).map kV)):=by rw [qaa,ql1];rfl
   generalize upd H5 p' (.tup [.int (qs[i]:Nat),.str "1"])=H6 at z6 hp6
   refine .inr ⟨B,_,rfl,DPut.t (k:=qaM (qs[i],true)) (z6 _ _ hB4) hp6 (qai (by omega)),?_⟩
   have r6:=r4.put (qs[i],true) 0
   rw [qhq rc.1 hi] at r6
   exact ⟨_,_,_,rfl,fun b o nb e=>by rw [qac nb];exact z6 _ _ (s4 _ _ nb e),qaa,r6⟩
  ·rintro σ H3 ⟨v2,kvs,F,rfl,s3,hB3,rv⟩
   rw [lM_,List.take_length] at rv
   have sl:ss.length=rows.length:=by rw [hss.length,lM_]
   have aB:a≠B:=qaj (S2 _ _ ha) hB2 (fun z=>nomatch z)
   have bB:b≠B:=qaj (S2 _ _ hb) hB2 (fun z=>nomatch z)
   refine ⟨_,gt (s3 _ _ aB (S2 _ _ ha)) (by decide) rfl,_,qcV (s3 _ _ bB (S2 _ _ hb)),by omega,by omega,?_⟩
   refine qam (qaC 0 _) (fun i σ H4=>∃ (v2 v3 v4 v5 v6 v7 v8 v9:Option V) (kvs:List (List Key×V)) (F:Ky->Nat),σ=[some (.ref a),some (.ref B),v2,v3,v4,v5,v6,v7,v8,v9]/\SameT B H2 H4/\H4 B=some (.dT kvs)/\RunV kvs (qae qs) F)
    ⟨v2,none,none,none,none,none,none,none,kvs,F,rfl,s3,hB3,rv⟩ (fun _ _ _ _ _=>trivial) ?_ ?_
   rotate_left
   ·rintro σ H4 ⟨v2,v3,v4,v5,v6,v7,v8,v9,kvs,F,rfl,s4,hB4,rv⟩
    refine q B kvs qs F H4 (fun b o e=>s4 _ _ (qab e hB) (S2 _ _ e)) hB hB4 rc rv
   rintro i v σ H4 hi hv ⟨v2,v3,v4,v5,v6,v7,v8,v9,kvs,F,rfl,s4,hB4,rv⟩
   clear hi hv s3 hB3
   have kl:=rv.kz.len
   rw [qao] at kl
   dsimp only [qah]
   refine ⟨[true],.inr (.inl ⟨kvs,hB4,by omega,by omega,rv.fl,fun l ys nl yl ym=>?_⟩)⟩
   have z5:=Same.upd (o:=.lst ys) nl
   have hl5:upd H4 l (.lst ys) l=some (.lst ys):=qaa
   have ym5:∀ y∈ys,∃ t,∃ x∈qae qs,y = .ref t/\upd H4 l (.lst ys) t=some (.tup ((qaM x).map kV)):=fun y hy=>by
    obtain ⟨t,p,pm,e1,e2⟩:=ym y hy
    obtain ⟨x,xm,e3⟩:=rv.flat p pm
    rw [e3] at e2
    exact ⟨t,x,xm,e1,z5 _ _ e2⟩
   have hB5:=z5 _ _ hB4
   have lB5:l≠B:=fun z=>by rw [z,hB4] at nl;cases nl
   have s5:SameT B H2 (upd H4 l (.lst ys)):=s4.trans z5.t
   generalize upd H4 l (.lst ys)=H5 at z5 hl5 ym5 hB5 s5
   refine ⟨⟨_,SqL.of hl5⟩,qam (qag _ l ys) (fun i σ H6=>∃ (v2 v4 v5 v6 v7 v8 v9:Option V) (kvs:List (List Key×V)) (F:Ky->Nat),σ=[some (.ref a),some (.ref B),v2,some v,v4,v5,v6,v7,v8,v9]/\SameT B H5 H6/\H6 B=some (.dT kvs)/\RunV kvs (qae qs) F)
    ⟨v2,v4,v5,v6,v7,v8,v9,kvs,F,rfl,SameT.refl _ _,hB5,rv⟩ (fun i σ H6 _ ⟨_,_,_,_,_,_,_,_,_,_,s6,_⟩=>SqL.of (s6 _ _ lB5 hl5)) ?_ ?_⟩
   rotate_left
   ·rintro σ H6 ⟨v2,v4,v5,v6,v7,v8,v9,kvs,F,rfl,s6,hB6,rv⟩
    exact ⟨_,_,_,_,_,_,_,_,kvs,F,rfl,s5.trans s6,hB6,rv⟩
   clear rv kl ym
   rintro j y σ H6 hj hy ⟨v2,v4,v5,v6,v7,v8,v9,kvs,F,rfl,s6,hB6,rv⟩
   obtain ⟨t,x,xm,rfl,ht⟩:=ym5 y (mO_ hy)
   have tB:t≠B:=qaj ht hB5 (fun z=>nomatch z)
   have S6:Same H H6:=fun b o e=>s6 _ _ (qab e hB) (s5 _ _ (qab e hB) (S2 _ _ e))
   have xq:=mem_keysOf.mp xm
   have xl:=sl8 _ xq
   refine ⟨_,.inl (s6 _ _ tB ht),rfl,rfl,?_⟩
   obtain ⟨qx,rx,e1,e2,e3⟩:=qaA hss (s:=x.1) (st:=rows[x.1]) (gE_ xl)
   have rl:rx.length=2 ^ k:=by rw [e3.length,lM_];exact ok.len _ (List.getElem_mem xl)
   have qB:qx≠B:=qab e2 hB
   refine ⟨_,gt (S6 _ _ ha) (by decide) rfl,.ref qx,gl (S6 _ _ hb) (by omega) (by simpa using e1),⟨_,SqL.of (S6 _ _ e2)⟩,?_⟩
   refine qam (qag _ qx rx) (fun i σ H7=>∃ (v5 v6 v7 v8 v9:Option V) (kvs:List (List Key×V)) (F:Ky->Nat),σ=[some (.ref a),some (.ref B),some (.int (x.1:Nat)),some v,some (.str (bs [x.2])),v5,v6,v7,v8,v9]/\SameT B H6 H7/\H7 B=some (.dT kvs)/\RunV kvs (qae qs) F)
    ⟨v5,v6,v7,v8,v9,kvs,F,rfl,SameT.refl _ _,hB6,rv⟩ (fun i σ H7 _ ⟨_,_,_,_,_,_,_,_,s7,_⟩=>SqL.of (s7 _ _ qB (S6 _ _ e2))) ?_ ?_
   rotate_left
   ·rintro σ H7 ⟨v5,v6,v7,v8,v9,kvs,F,rfl,s7,hB7,rv⟩
    exact ⟨_,_,_,_,_,_,_,kvs,F,rfl,s6.trans s7,hB7,rv⟩
   clear rv hB6
   rintro m y σ H7 hm hy2 ⟨v5,v6,v7,v8,v9,kvs,F,rfl,s7,hB7,rv⟩
   have S7:Same H H7:=fun b o e=>s7 _ _ (qab e hB) (S6 _ _ e)
   have ml:m < rows[x.1].length:=by rw [ok.len _ (List.getElem_mem xl),<-rl];exact hm
   have er:rows[x.1][m]? = some rows[x.1][m]:=gE_ ml
   have rm:rows[x.1][m]∈rows.getD x.1 []:=by rw [List.getD_eq_getElem?_getD,gE_ xl];exact List.getElem_mem ml
   obtain ⟨ra,f4,f5⟩:=qbr e3 er
   rw [hy2] at f4
   cases f4
   generalize rows[x.1][m]=r at er rm f5
   obtain ⟨_,wne⟩:=qeh ok ((rc.2.1 _).mp xq) rm
   have tq:r.2∈qs:=(rc.2.1 _).mpr (.s ((rc.2.1 _).mp xq) (List.mem_map.mpr ⟨r,rm,rfl⟩))
   refine ⟨_,.inl (S7 _ _ f5),rfl,rfl,?_⟩
   refine ⟨lZ_ rfl,fun p hp=>?_⟩
   have z8:=Same.upd (o:=.tup [.int (x.1:Nat),.str (bs [x.2])]) hp
   have hp8:upd H7 p (.tup [.int (x.1:Nat),.str (bs [x.2])]) p=some (.tup ((qaM x).map kV)):=qaa
   have hB8:=z8 _ _ hB7
   generalize upd H7 p (.tup [.int (x.1:Nat),.str (bs [x.2])])=H8 at z8 hp8 hB8
   refine .inr ⟨B,.int (F x:Nat),rfl,rv.vl x xm ▸ DGet.t (k:=qaM x) hB8 hp8,?_⟩
   refine ⟨some x.2,F x,r.1,rfl,rfl,rfl,wne,fun p9 H9 s9 hp9=>?_⟩
   obtain ⟨b',eb,_⟩:=qd5 wne (some x.2) (F x) (F x)
   have eb:(pb (some x.2) (F x) r.1).1=some b':=eb
   rw [eb] at hp9
   have hB9:=s9 _ _ hB8
   refine ⟨_,.inl hp9,rfl,rfl,?_⟩
   dsimp only [qah]
   have ym:((r.2,b'):Ky)∈qae qs:=mem_keysOf.mpr tq
   refine ⟨lZ_ rfl,fun p10 hp10=>?_⟩
   have z10:=Same.upd (o:=.tup [.int (r.2:Nat),.str (sgn (some b'))]) hp10
   have hk10:upd H9 p10 (.tup [.int (r.2:Nat),.str (sgn (some b'))]) p10=some (.tup ((qaM (r.2,b')).map kV)):=qaa
   have hB10:=z10 _ _ hB9
   generalize upd H9 p10 (.tup [.int (r.2:Nat),.str (sgn (some b'))])=H10 at z10 hk10 hB10
   refine .inr ⟨B,.int (F (r.2,b'):Nat),rfl,rv.vl _ ym ▸ DGet.t (k:=qaM (r.2,b')) hB10 hk10,?_⟩
   generalize (pb (some x.2) (F x) r.1).2.1=cn at *
   generalize F (r.2,b')=fo at *
   obtain ⟨c,ec⟩ : ∃ c:Nat,(if (if (60:Int) < (cn:Nat) then (60:Int) else ((cn:Nat):Int)) > ((fo:Nat):Int) then (if (60:Int) < (cn:Nat) then (60:Int) else ((cn:Nat):Int)) else ((fo:Nat):Int))=((c:Nat):Int):=by
    refine ⟨Int.toNat _,(Int.toNat_of_nonneg ?_).symm⟩
    split<;>(try split)<;>omega
   refine ⟨lZ_ rfl,fun p11 hp11=>?_⟩
   have z11:=Same.upd (o:=.tup [.int (r.2:Nat),.str (sgn (some b'))]) hp11
   have hk11:upd H10 p11 (.tup [.int (r.2:Nat),.str (sgn (some b'))]) p11=some (.tup ((qaM (r.2,b')).map kV)):=qaa
   have hB11:=z11 _ _ hB10
   generalize upd H10 p11 (.tup [.int (r.2:Nat),.str (sgn (some b'))])=H11 at z11 hk11 hB11
   have kl:=rv.kz.len
   rw [qao] at kl
   refine .inr ⟨B,_,rfl,DPut.t (k:=qaM (r.2,b')) hB11 hk11 (qai (by omega)),?_⟩
   have rv2:=rv.put (r.2,b') c
   rw [qhr ym,<-ec] at rv2
   exact ⟨_,_,_,_,_,_,_,rfl,fun b o nb e=>by rw [qac nb];exact z11 _ _ (z10 _ _ (s9 _ _ (z8 _ _ (s7 _ _ nb e)))),qaa,rv2⟩
 ·exact h.elim
end
end K14
end
section
namespace L2
open PySem PySem.Spec PyProof.Rows
theorem qb8 {t u:TS} {D:Ends} {σ:St} {H:Hp} (M:St->Hp->Prop) (h1:∀ σ' H',M σ' H'->u D σ' H') (h2:∀ nx:St->Hp->Prop,(∀ σ' H',M σ' H'->nx σ' H')->t { D with nx:=nx } σ H):qgr t u D σ H:=h2 (u D) h1
theorem qis {t u v:TS} {D:Ends} {σ:St} {H:Hp} (M:St->Hp->Prop) (h1:∀ σ' H',M σ' H'->v D σ' H') (h2:∀ nx:St->Hp->Prop,(∀ σ' H',M σ' H'->nx σ' H')->qgr t u { D with nx:=nx } σ H):qgr t (qgr u v) D σ H:=h2 (v D) h1
theorem qeg {J:It} {xs:List V} {ok:Hp->Prop} {g:TG} {tb:TS} {D:Ends} {σ:St} {H:Hp} (IO:ItOk J xs ok) (Pv:Nat->St->Hp->Prop) (h0:Pv 0 σ H) (hl:∀ i σ H,i<=xs.length->Pv i σ H->ok H)
  (hs:∀ i x σ H,i < xs.length->xs[i]? = some x->Pv i σ H->∀ N bk:St->Hp->Prop,(∀ σ' H',Pv (i+1) σ' H'->N σ' H')->g x σ H fun σ2 H2=>tb { D with nx:=N,ct:=N,bk:=bk } σ2 H2) (hd:∀ σ H,Pv xs.length σ H->D.nx σ H) :
  ∃ W:Nat->Nat->St->Hp->Prop,(∃ m,W 0 m σ H)/\∀ i m σ H,W i m σ H →
   (J.stop i H/\D.nx σ H)\/(J.go i H/\∃ N:St->Hp->Prop,(∀ σ' H',N σ' H'->∃ m',m' < m/\W (i+1) m' σ' H')/\∀ x H',J.yld i H x H'->g x σ H' fun σ2 H2=>tb { D with nx:=N,ct:=N,bk:=D.nx } σ2 H2):=
 qam IO Pv h0 hl (fun i x σ H hi hx p=>hs i x σ H hi hx p _ _ fun _ _ z=>z) hd
theorem qbc {J:It} {D:Addr} {xs:List V} {ok:Hp->Prop} {g:TG} {tt:TT} {te:TE} {Q:Hp->Prop} {τ:St} {H:Hp} (IO:ItOk J xs ok) (Pv:Nat->St->Hp->List V->Prop) (hz:xs.length<=sizeLine) (h0:Pv 0 τ H [])
  (hl:∀ i τ H ys,i<=xs.length->Pv i τ H ys->ok H/\H D=some (.lst ys)/\ys.length<=i)
  (hs:∀ i x τ H ys,i < xs.length->xs[i]? = some x->Pv i τ H ys->∀ N:St->Hp->List V->Prop,(∀ τ' H' ys',Pv (i+1) τ' H' ys'->N τ' H' ys')->g x τ H fun τ4 H4=>tt τ4 H4 fun b H5=>
   if b=true then te τ4 H5 fun y H6=>H6 D=some (.lst ys)/\N τ4 (upd H6 D (.lst (ys++[y]))) (ys++[y]) else N τ4 H5 ys)
  (hd:∀ τ H ys,Pv xs.length τ H ys->Q H) :
  ∃ W:Nat->Nat->St->Hp->List V->Prop,(∃ m,W 0 m τ H [])/\∀ i m τ H2 ys,W i m τ H2 ys->H2 D=some (.lst ys) ∧
   ((J.stop i H2/\Q H2)\/(J.go i H2/\ys.length < sizeLine/\∃ N:St->Hp->List V->Prop,(∀ τ' H' ys',N τ' H' ys'->∃ m',m' < m/\W (i+1) m' τ' H' ys')/\∀ x H3,J.yld i H2 x H3->g x τ H3 fun τ4 H4=>tt τ4 H4 fun b H5=>
    if b=true then te τ4 H5 fun y H6=>H6 D=some (.lst ys)/\N τ4 (upd H6 D (.lst (ys++[y]))) (ys++[y])
    else N τ4 H5 ys)):=
 qaE IO Pv hz h0 hl (fun i x τ H ys hi hx p=>hs i x τ H ys hi hx p _ fun _ _ _ z=>z) hd
theorem qaG {t u:TS} {D:Ends} {σ:St} {H:Hp} (h:∀ U:TS,u=U->qgr t U D σ H):qgr t u D σ H:=h u rfl
theorem qh5 {H:Hp} {n:Addr} (o:HO) (h:H n=none):upd H n o n=some o:=qaa
end L2
end
section
namespace K14
open PySem L2
theorem qfR {c A B:Prop} [Decidable c] (hc:¬ c) (h:B):if c then A else B:=by rw [if_neg hc];exact h
def T1 (z:Str):Prop:=∃ b,z=bs [b]
def T0 (z:Str):Prop:=(PyData.str z).canLay0=true
theorem T1.t0 {z:Str} (h:T1 z):T0 z:=by obtain ⟨b,rfl⟩:=h;exact qel b
def Rw (T:Str->Prop) (H:Hp) (y:V):Prop:=∃ t a z c,y = .ref t/\H t=some (.tup [.int a,.str z,.int c])/\T z
theorem Rw.keep {T:Str->Prop} {H H':Hp} {y:V} (h:Rw T H y) (k:∀ b ys,H b=some (.tup ys)->H' b=some (.tup ys)):Rw T H' y:=by
 obtain ⟨t,a,z,c,e,h1,h2⟩:=h
 exact ⟨t,a,z,c,e,k _ _ h1,h2⟩
theorem Rw.imp {T T':Str->Prop} {H:Hp} {y:V} (h:Rw T H y) (k:∀ z,T z->T' z):Rw T' H y:=by
 obtain ⟨t,a,z,c,e,h1,h2⟩:=h
 exact ⟨t,a,z,c,e,h1,k _ h2⟩
theorem qcK {H:Hp} {C:Addr} {zs ys':List V} (h:H C=some (.lst zs)):∀ b ys,H b=some (.tup ys)->upd H C (.lst ys') b=some (.tup ys):=fun b ys e=>by
 rw [qac (qaj e h (fun z=>nomatch z))];exact e
theorem qbM {T:Str->Prop} {H:Hp} {C p:Addr} {ys:List V} {a c:Int} {z:Str} (h5:H C=some (.lst ys)) (hp:H p=none) (al:∀ y∈ys,Rw T H y) (hz:T z):∀ y∈ys++[.ref p],Rw T (upd (upd H p (.tup [.int a,.str z,.int c])) C (.lst (ys++[.ref p]))) y:=fun y hy=>by
 have Cp:C≠p:=qab h5 hp
 have k:∀ b ws,H b=some (.tup ws)->upd (upd H p (.tup [.int a,.str z,.int c])) C (.lst (ys++[.ref p])) b=some (.tup ws):=fun b ws e=>qcK (by rw [qac Cp];exact h5) _ _ (Same.upd hp _ _ e)
 rcases mA_ hy with m | m
 ·exact (al y m).keep k
 ·rw [mS_ m]
  exact ⟨p,a,z,c,rfl,by rw [qac (Ne.symm Cp),qaa],hz⟩
theorem qih {T:Str->Prop} {H:Hp} {bz:List V} {ps:List qch} (h:DVs H bz (ps.map qbe)) (ht:∀ p∈ps,T p.2.1):∀ y∈bz,Rw T H y:=fun y hy=>by
 obtain ⟨i,hi⟩:=mG_ hy
 have hl:=h.length
 rw [lM_] at hl
 have il:i < ps.length:=by rw [<-hl];exact (gS_ hi).1
 obtain ⟨b,b1,b2⟩:=qaZ h (gE_ il)
 rw [hi] at b1
 cases b1
 exact ⟨b,_,_,_,rfl,b2,ht _ (List.getElem_mem il)⟩
theorem qfo {T:Str->Prop} {H:Hp}:∀ {bz:List V},(∀ y∈bz,Rw T H y)->∃ ps:List qch,DVs H bz (ps.map qbe)/\∀ p∈ps,T p.2.1
 | [],_=>⟨[],.nil,fun p hp=>nomatch hp⟩
 | y :: bz,h=>by
  obtain ⟨ps,d,ht⟩:=qfo (bz:=bz) fun z hz=>h z (mC_ _ hz)
  obtain ⟨t,a,z,c,rfl,h1,h2⟩:=h y List.mem_cons_self
  refine ⟨(a,z,c) :: ps,.cons (.tup h1 (.cons (.int _) (.cons (.str _) (.cons (.int _) .nil)))) d,fun p hp=>?_⟩
  rcases List.mem_cons.mp hp with rfl | hp
  ·exact h2
  ·exact ht p hp
def Pw (T:Str->Prop) (H:Hp) (n:Addr) (zs:List V) (m:Nat):Prop:=H n=some (.lst zs)/\zs.length<=m/\∀ y∈zs,Rw T H y
section
variable {T T':Str->Prop} {H H':Hp} {n n' x:Addr} {zs zs':List V} {m m':Nat}
theorem Pw.mono (h:Pw T H n zs m) (s:Same H H'):Pw T H' n zs m:=⟨s _ _ h.1,h.2.1,fun y hy=>(h.2.2 y hy).keep fun _ _ e=>s _ _ e⟩
theorem Pw.imp (h:Pw T H n zs m) (k:∀ z,T z->T' z):Pw T' H n zs m:=⟨h.1,h.2.1,fun y hy=>(h.2.2 y hy).imp k⟩
theorem Pw.sub (h:Pw T H n zs m) (hx:H x=none) (s:∀ y∈zs',y∈zs) (l:zs'.length<=m'):Pw T (upd H x (.lst zs')) x zs' m':=⟨qaa,l,fun y hy=>(h.2.2 y (s y hy)).keep fun _ _ e=>Same.upd hx _ _ e⟩
theorem Pw.cut {lo hi:Option Int} (h:Pw T H n zs m) (hx:H x=none):Pw T (upd H x (.lst (cutV zs lo hi))) x (cutV zs lo hi) m:=h.sub hx (fun y hy=>List.mem_of_mem_drop (List.mem_of_mem_take hy)) (Nat.le_trans (qaK zs lo hi) h.2.1)
theorem Pw.rev (h:Pw T H n zs m) (hx:H x=none):Pw T (upd H x (.lst zs.reverse)) x zs.reverse m:=h.sub hx (fun y hy=>List.mem_reverse.mp hy) (by rw [List.length_reverse];exact h.2.1)
theorem Pw.app (h:Pw T H n zs m) (h':Pw T H n' zs' m') (hx:H x=none):Pw T (upd H x (.lst (zs++zs'))) x (zs++zs') (m+m'):=
 ⟨qaa,by rw [lA_];exact Nat.add_le_add h.2.1 h'.2.1,fun y hy=>(mA_ hy).elim (fun z=>(h.2.2 y z).keep fun _ _ e=>Same.upd hx _ _ e) fun z=>(h'.2.2 y z).keep fun _ _ e=>Same.upd hx _ _ e⟩
theorem Pw.one {t:Addr} {a c:Int} {z:Str} (h:H t=some (.tup [.int a,.str z,.int c])) (hz:T z) (hx:H x=none):Pw T (upd H x (.lst [.ref t])) x [.ref t] 1:=
 ⟨qaa,Nat.le_refl _,fun y hy=>by rw [mS_ hy];exact ⟨t,a,z,c,rfl,Same.upd hx _ _ h,hz⟩⟩
theorem Pw.at (h:Pw T H n zs m) {i:Int} (i0:0<=i) (il:i < (zs.length:Nat)):∃ b x z y,zs[i.toNat]? = some (.ref b)/\qcb H (.ref n) i=some (.ref b)/\H b=some (.tup [.int x,.str z,.int y])/\T z:=by
 have il':i.toNat < zs.length:=by omega
 obtain ⟨t,a,z,c,e,h1,h2⟩:=h.2.2 _ (List.getElem_mem il')
 have hz:zs[i.toNat]? = some (.ref t):=by rw [gE_ il',e]
 exact ⟨t,a,z,c,hz,gl h.1 i0 hz,h1,h2⟩
end
theorem qkc {kvs:List (List Key×V)} (nd:(kvs.map (·.1)).Nodup):∀ p∈kvs,qaL kvs p.1=some p.2:=by
 induction kvs with
 | nil=>exact fun p hp=>nomatch hp
 | cons q kvs ih=>
  intro p hp
  rw [List.map_cons,List.nodup_cons] at nd
  rcases List.mem_cons.mp hp with rfl | hp
  ·exact qas rfl
  ·rw [qat (fun e=>nd.1 (by rw [e];exact List.mem_map.mpr ⟨p,hp,rfl⟩))]
   exact ih nd.2 p hp
theorem RunV.ints {kvs:List (List Key×V)} {ks:List Ky} {F:Ky->Nat} (h:RunV kvs ks F):∀ p∈kvs,∃ n,p.2 = .int n:=fun p hp=>by
 have nd:(kvs.map (·.1)).Nodup:=by
  rw [h.kz.ks]
  exact Om.nodup_on (fun x _ y _ e=>qa7 _ _ e) h.kz.nd
 obtain ⟨x,xm,e⟩:=h.flat p hp
 have h1:=qkc nd p hp
 rw [e,h.vl x xm] at h1
 exact ⟨_,(oI_ h1).symm⟩
def KPr (H:Hp) (y:V):Prop:=∃ kt a b,y = .ref kt/\H kt=some (.tup [.int a,.str (bs [b])])
def IPr (H:Hp) (y:V):Prop:=∃ t kt n a b,y = .ref t/\H t=some (.tup [.ref kt,.int n])/\H kt=some (.tup [.int a,.str (bs [b])])
theorem KPr.keep {H H':Hp} {y:V} (h:KPr H y) (k:∀ b ys,H b=some (.tup ys)->H' b=some (.tup ys)):KPr H' y:=by
 obtain ⟨kt,a,b,e,h1⟩:=h
 exact ⟨kt,a,b,e,k _ _ h1⟩
theorem IPr.keep {H H':Hp} {y:V} (h:IPr H y) (k:∀ b ys,H b=some (.tup ys)->H' b=some (.tup ys)):IPr H' y:=by
 obtain ⟨t,kt,n,a,b,e,h1,h2⟩:=h
 exact ⟨t,kt,n,a,b,e,k _ _ h1,k _ _ h2⟩
def Pz (L:Addr) (H:Hp) (x:V):Prop:=∃ (p:Addr) (zs:List V),x = .ref p/\p≠L/\2<=zs.length/\Pw T1 H p zs 16
theorem Pz.keep {L:Addr} {H H':Hp} {x:V} {zs:List V} (h:Pz L H x) (hL:H L=some (.lst zs)) (k:∀ b o,b≠L->(∀ ps,o≠.tbl ps)->H b=some o->H' b=some o):Pz L H' x:=by
 obtain ⟨p,bz,e,n,l1,h1,h2,h3⟩:=h
 exact ⟨p,bz,e,n,l1,k _ _ n (fun ps z=>nomatch z) h1,h2,fun y hy=>(h3 y hy).keep fun b ys e=>k _ _ (qaj e hL (fun z=>nomatch z)) (fun ps z=>nomatch z) e⟩
theorem Pz.same {L:Addr} {H H':Hp} {x:V} {zs:List V} (h:Pz L H x) (hL:H L=some (.lst zs)) (s:Same H H'):Pz L H' x:=h.keep hL fun b o _ _ e=>s _ _ e
theorem Pz.up {L:Addr} {H:Hp} {x:V} {zs ys:List V} (h:Pz L H x) (hL:H L=some (.lst zs)):Pz L (upd H L (.lst ys)) x:=h.keep hL fun b o n _ e=>by rw [qac n];exact e
theorem Pz.t {L P0:Addr} {H H':Hp} {x:V} {zs:List V} {ls:Pos} {q:Str} (h:Pz L H x) (hL:H L=some (.lst zs)) (tb:Tab P0 ls q H) (s:SameT P0 H H'):Pz L H' x:=h.keep hL fun b o _ n e=>s _ _ (fun z=>by obtain ⟨ps,e'⟩:=tb.tbl;rw [z,e'] at e;exact n ps (oI_ e).symm) e
theorem SameT.ownN {P0 L:Addr} {H H':Hp} {o:HO} (s:SameT P0 H H') (n:H L=none):SameT P0 H (upd H' L o):=fun b u nb e=>by rw [qac (qab e n)];exact s _ _ nb e
structure PK (P0 L:Addr) (c:Pos) (q:Str) (H:Hp) (xs:List V) (Hx:Hp):Prop where
 S:SameT P0 H Hx
 t:Tab P0 c q Hx
 hL:Hx L=some (.lst xs)
 pp:∀ x∈xs,Pz L Hx x
section
variable {P0 L:Addr} {c:Pos} {q:Str} {H Hx Hy:Hp} {xs:List V} {x:V}
theorem PK.same (j:PK P0 L c q H xs Hx) (s:Same Hx Hy):PK P0 L c q H xs Hy:=⟨j.S.trans s.t,j.t.mono s,s _ _ j.hL,fun x hx=>(j.pp x hx).same j.hL s⟩
theorem PK.tr (j:PK P0 L c q H xs Hx) (s:SameT P0 Hx Hy) (t:Tab P0 c q Hy):PK P0 L c q H xs Hy:=⟨j.S.trans s,t,s _ _ (fun z=>by obtain ⟨ps,e⟩:=j.t.tbl;have:=j.hL;rw [z,e] at this;cases this) j.hL,fun x hx=>(j.pp x hx).t j.hL j.t s⟩
theorem PK.put (j:PK P0 L c q H xs Hx) (nL:H L=none) (px:Pz L Hx x):PK P0 L c q H (xs++[x]) (upd Hx L (.lst (xs++[x]))):=
 ⟨SameT.ownN j.S nL,j.t.upd j.hL,qaa,fun y hy=>by
  rcases mA_ hy with z | z
  ·exact (j.pp y z).up j.hL
  ·rw [mS_ z];exact px.up j.hL⟩
end
end K14
end
section
namespace K14
open PySem L2
section
variable {P:Program} {w:World} {K:PySem.W.Frag} {mg:Str->Option Value} {base:Heap}
abbrev qdq:Stmt:=top 36
def qcm (P0:Addr):Sp:=fun vs H Q _=>match vs with
 | [cv,.ref a,.int spot]=>∃ (k n:Nat) (rows:Om.Rows) (ds:List Int) (sp:Nat),DV H cv (qax k n rows)/\Om.CodeOk k n rows/\Tab P0 (qan qav) qSt H/\H a=some (.lst (ds.map V.int))/\spot=(sp:Nat)/\sp+20<=ds.length/\Drn ds ∧
   ∀ l xs H',SameT P0 H H'->Tab P0 (qan qav) qSt H'->H' l=some (.lst xs)->1<=xs.length->xs.length<=5->(∀ x∈xs,Pz l H' x)->Q (.ref l) H'
 | _=>False
theorem scPapers:FnScope ["code","d","spot","rows","keys","found","far","told"] ["code","d","spot"] (qad qdq):=⟨rfl,rfl,rfl,by decide +kernel,rfl,by decide +kernel,by decide +kernel⟩
local macro_rules | `(tactic| walk_at "T.c")=>`(tactic| (have ndc:(["k","keys","d","spot","far"]:List Str).Nodup:=(by decide +kernel));((with_reducible refine' qaF ["k","keys","d","spot","far"] [4,1,2,6] ?b1 ?b2 (fun cl C s H fp=>?b3) (fun cl C s H fp=>?b4) (fun cl C s H fp=>?b5));(case b1=>exact ndc);(case b2=>walk_at "T.i");(case b3=>walk_at "T.g");(case b4=>walk_at "T.pf");(case b5=>walk_at "T.e")))
local macro_rules | `(tactic| walk_at "T.c")=>`(tactic| (have ndc:(["key","d","spot"]:List Str).Nodup:=(by decide +kernel));((with_reducible refine' qaF ["key","d","spot"] [1,2] ?b1 ?b2 (fun cl C s H fp=>?b3) (fun cl C s H fp=>?b4) (fun cl C s H fp=>?b5));(case b1=>exact ndc);(case b2=>walk_at "T.i");(case b3=>walk_at "T.g");(case b4=>walk_at "T.pf");(case b5=>walk_at "T.e")))
local macro_rules | `(tactic| walk_at "T.c")=>`(tactic| (have ndc:(["state","sign","run","d","spot"]:List Str).Nodup:=(by decide +kernel));((with_reducible refine' qaF ["state","sign","run","d","spot"] [1,2] ?b1 ?b2 (fun cl C s H fp=>?b3) (fun cl C s H fp=>?b4) (fun cl C s H fp=>?b5));(case b1=>exact ndc);(case b2=>walk_at "T.i");(case b3=>walk_at "T.g");(case b4=>walk_at "T.pf");(case b5=>walk_at "T.e")))
local macro_rules | `(tactic| walk_at "T.c")=>`(tactic| (have ndc:(["key","run"]:List Str).Nodup:=(by decide +kernel));((with_reducible refine' qaF ["key","run"] [] ?b1 ?b2 (fun cl C s H fp=>?b3) (fun cl C s H fp=>?b4) (fun cl C s H fp=>?b5));(case b1=>exact ndc);(case b2=>walk_at "T.i");(case b3=>walk_at "T.g");(case b4=>walk_at "T.pf");(case b5=>walk_at "T.e")))
local macro_rules | `(tactic| walk_at "T.b")=>`(tactic| ((with_reducible refine' qcA ?a0 ?a9 ?a8 ?a1);(case a0=>with_reducible assumption);(case a9=>rfl);(case a8=>exact Room.units (by assumption));(case a1=>walk_at "T.a")))
local macro_rules | `(tactic| walk_at "T.m")=>`(tactic| ((with_reducible refine' qjG ?a1);(case a1=>walk_at "T.e")))
theorem qfE {P0:Addr} (D:FnX K mg "_law_papers" qdq ["code","d","spot"]) (g1:mg "sorted" = none) (g2:mg "range" = none) (g3:mg "len" = none) (g4:mg "list" = none) (c1:Can P w K mg base "_law_ends" 2 ["code"] qfa) (c2:Can P w K mg base "still_paper" 7 ["code"] (qe6 P0)):Can P w K mg base "_law_papers" 8 ["code","d","spot"] (qcm P0):=by
 refine qak (k:=7) D scPapers (fun vs H Q E h=>?_) (fun f cdv A outer s H vs Q E hr h=>?_)
 all_goals
  unfold qcm at h
  split at h
 ·rfl
 ·exact h.elim
 ·rename_i cv a spot
  obtain ⟨k,n,rows,ds,sp,hc,ok,tb,hA,rfl,dl,dr,q⟩:=h
  have nd:=scPapers.nd
  have dget:∀ {H1:Hp} {j:Int},H1 a=some (.lst (ds.map V.int))->0<=j->j < (sp+20:Nat)->∃ x:Int,0<=x/\x < 10007/\qcb H1 (.ref a) j=some (.int x):=fun {H1 j} h h0 h1=>by
   have il:j.toNat < ds.length:=by omega
   obtain ⟨e0,e1⟩:=dr _ (List.getElem_mem il)
   exact ⟨ds[j.toNat],e0,e1,gl h h0 (by rw [gM_,gE_ il];rfl)⟩
  refine ⟨_,(by walk_at "T.top"),?_⟩
  refine ⟨k,n,rows,hc,ok,fun B kvs qs F H1 s1 nB hB rc rv=>?_⟩
  refine ⟨.inr (.inr (.inl ⟨rfl,.inr ⟨kvs,hB⟩⟩)),kvs,hB,fun r hr=>?_⟩
  have w1:=Same.upd (o:=qdc r B) hr
  have q8:=rc.2.2
  have q1:1<=qs.length:=List.length_pos_of_mem ((rc.2.1 0).mpr .z)
  have kl:=rv.kz.len
  rw [qao] at kl
  refine ⟨[true],.inr (.inr ⟨B,kvs,qaa,w1 _ _ hB,by omega,by omega,rv.fl,rv.ints,fun l ys H2 s2' nl hl yl ym=>?_⟩)⟩
  have s2:Same H H2:=(s1.trans w1).trans s2'
  have pr:∀ y∈ys,IPr H2 y:=fun y hy=>by
   obtain ⟨t,kt,p,pm,e,h1,h2⟩:=ym y hy
   obtain ⟨x,_,ex⟩:=rv.flat p pm
   obtain ⟨n,en⟩:=rv.ints p pm
   rw [ex] at h2
   rw [en] at h1
   exact ⟨t,kt,n,_,x.2,e,h1,h2⟩
  clear ym w1 s2' s1
  have yl2:2<=ys.length:=by omega
  have yl16:ys.length<=16:=by omega
  clear yl kl rv hB hr nl nB
  dsimp only [qah]
  refine ⟨⟨_,SqL.of hl⟩,fun C1 hC1=>?_⟩
  refine qbc (qag _ l ys) (fun i τ H5 zs=>(∃ v0 v1,τ=[v0,v1])/\Same H2 H5/\H5 C1=some (.lst zs)/\zs.length=i/\∀ y∈zs,KPr H5 y) (qaf (by omega)) ⟨⟨none,none,rfl⟩,Same.upd hC1,qaa,rfl,fun y hy=>nomatch hy⟩ ?_ ?_ ?_
  ·rintro i τ H5 zs hi ⟨_,s5,h5,zl,_⟩
   exact ⟨SqL.of (s5 _ _ hl),h5,by omega⟩
  ·rintro i x τ H5 zs hi hx ⟨⟨v0,v1,rfl⟩,s5,h5,zl,kp⟩ N hN
   obtain ⟨t,kt,n,x1,x2,rfl,h1,h2⟩:=pr x (mO_ hx)
   refine ⟨_,.inl (s5 _ _ h1),rfl,rfl,?_⟩
   refine ⟨h5,hN _ _ _ ⟨⟨_,_,rfl⟩,s5.own hC1,qaa,by simp [zl],fun y hy=>?_⟩⟩
   rcases mA_ hy with z | z
   ·exact (kp y z).keep (qcK h5)
   ·rw [mS_ z]
    exact ⟨kt,x1,x2,rfl,qcK h5 _ _ (s5 _ _ h2)⟩
  rintro τ H3 ks ⟨_,s3,hC13,kl,kp⟩
  have S3:=s2.trans s3
  have hl3:=s3 _ _ hl
  have pr3:∀ y∈ys,IPr H3 y:=fun y hy=>(pr y hy).keep fun _ _ e=>s3 _ _ e
  dsimp only [qah]
  refine ⟨⟨_,SqL.of hl3⟩,fun C2 hC2=>?_⟩
  refine qbc (qag _ l ys) (fun i τ H5 zs=>(∃ v0 v1,τ=[v0,v1])/\Same H3 H5/\H5 C2=some (.lst zs)/\zs.length=i/\∀ y∈zs,Rw T1 H5 y) (qaf (by omega)) ⟨⟨none,none,rfl⟩,Same.upd hC2,qaa,rfl,fun y hy=>nomatch hy⟩ ?_ ?_ ?_
  ·rintro i τ H5 zs hi ⟨_,s5,h5,zl,_⟩
   exact ⟨SqL.of (s5 _ _ hl3),h5,by omega⟩
  ·rintro i x τ H5 zs hi hx ⟨⟨v0,v1,rfl⟩,s5,h5,zl,al⟩ N hN
   obtain ⟨t,kt,n,x1,x2,rfl,h1,h2⟩:=pr3 x (mO_ hx)
   have h2':=s5 _ _ h2
   refine ⟨_,.inl (s5 _ _ h1),rfl,rfl,?_⟩
   refine ⟨_,gt h2' (by decide) rfl,_,gt h2' (by decide) rfl,lZ_ rfl,fun p hp=>?_⟩
   exact ⟨by rw [qac (qab h5 hp)];exact h5,hN _ _ _ ⟨⟨_,_,rfl⟩,(s5.trans (Same.upd hp)).own hC2,qaa,by simp [zl],qbM h5 hp al ⟨x2,rfl⟩⟩⟩
  rintro τ H4 z2 ⟨_,s4,hC24,zl2,al2⟩
  refine ⟨lZ_ rfl,fun L hL=>?_⟩
  have C2L:C2≠L:=qab hC24 hL
  have nL:H L=none:=(S3.trans s4).free hL
  have w4:=Same.upd (o:=.lst [.ref C2]) hL
  have S5:=(S3.trans s4).trans w4
  have C1L:C1≠L:=qab (s4 _ _ hC13) hL
  have hC15:=w4 _ _ (s4 _ _ hC13)
  have kp5:∀ y∈ks,KPr (upd H4 L (.lst [.ref C2])) y:=fun y hy=>(kp y hy).keep fun _ _ e=>(s4.trans w4) _ _ e
  have J0:PK P0 L (qan qav) qSt H [.ref C2] (upd H4 L (.lst [.ref C2])):=⟨S5.t,tb.mono S5,qaa,fun x hx=>by
   rw [mS_ hx]
   exact ⟨C2,z2,rfl,C2L,by omega,w4 _ _ hC24,by omega,fun y hy=>(al2 y hy).keep fun _ _ e=>w4 _ _ e⟩⟩
  generalize upd H4 L (.lst [.ref C2])=H5 at w4 S5 hC15 kp5 J0
  clear al2 hC24 C2L kp pr pr3 hC13 hl3 hl s3
  dsimp only [qah]
  refine ⟨lZ_ rfl,fun p0 hp0=>?_⟩
  have w5:=Same.upd (o:=.lst [.int 3,.int 8,.int 20]) hp0
  have ep0:upd H5 p0 (.lst [.int 3,.int 8,.int 20]) p0=some (.lst [.int 3,.int 8,.int 20]):=qaa
  have J0:=J0.same w5
  have S6:=S5.trans w5
  have hC16:=w5 _ _ hC15
  have kp6:∀ y∈ks,KPr (upd H5 p0 (.lst [.int 3,.int 8,.int 20])) y:=fun y hy=>(kp5 y hy).keep fun _ _ e=>w5 _ _ e
  generalize upd H5 p0 (.lst [V.int 3,.int 8,.int 20])=H6 at w5 ep0 J0 S6 hC16 kp6 ⊢
  clear kp5 hC15
  have hA6:=S6 _ _ hA
  obtain ⟨x0,_,_,e0⟩:=dget hA6 (j:=((sp:Nat):Int)) (by omega) (by omega)
  have a0:=Int.emod_nonneg x0 (show (3:Int)≠0 by decide)
  have a1:=Int.emod_lt_of_pos x0 (show (0:Int) < 3 by decide)
  obtain ⟨fr,fr0,ef⟩ : ∃ fr:Int,0 < fr/\[V.int 3,.int 8,.int 20][(x0 % 3).toNat]? = some (.int fr):=by
   generalize x0 % 3=r0 at a0 a1 ⊢
   have:r0=0\/r0=1\/r0=2:=by omega
   rcases this with rfl | rfl | rfl
   ·exact ⟨3,by decide,rfl⟩
   ·exact ⟨8,by decide,rfl⟩
   ·exact ⟨20,by decide,rfl⟩
  refine ⟨_,e0,(by decide:(0:Int) < 3),.int fr,gl ep0 a0 ef,?_⟩
  dsimp only [qah]
  refine ⟨⟨_,rfl,J0.hL⟩,_,qcV hC16,by omega,by omega,fun C3 hC3=>?_⟩
  refine qbc (qaC 0 _) (fun i τ H7 zs=>(∃ v,τ=[v,some (.ref C1),some (.ref a),some (.int (sp:Nat)),some (.int fr)])/\Same H6 H7/\H7 C3=some (.lst zs)/\zs.length=i/\∀ y∈zs,Rw T1 H7 y) (by rw [lM_,List.length_range];exact qaf (by omega)) ⟨⟨none,rfl⟩,Same.upd hC3,qaa,rfl,fun y hy=>nomatch hy⟩ ?_ ?_ ?_
  ·rintro i τ H7 zs hi ⟨_,s7,h7,zl,_⟩
   rw [lM_,List.length_range] at hi
   exact ⟨trivial,h7,by omega⟩
  ·rintro i x τ H7 zs hi hx ⟨⟨v,rfl⟩,s7,h7,zl,al⟩ N hN
   rw [lM_,List.length_range] at hi
   have hi:i < ks.length:=by omega
   have ex:x=V.int (i:Nat):=by
    rw [gM_,List.getElem?_range (by omega)] at hx
    have:=oI_ hx
    rw [<-this];simp
   subst ex
   obtain ⟨kt,x1,x2,ek,hk⟩:=kp6 _ (List.getElem_mem hi)
   have gk:qcb H7 (.ref C1) ((i:Nat):Int)=some (.ref kt):=gl (s7 _ _ hC16) (by omega) (by rw [Int.toNat_natCast,gE_ hi,ek])
   have hk7:=s7 _ _ hk
   have m0:=Int.emod_nonneg ((i:Nat):Int) (show (16:Int)≠0 by decide)
   have m1:=Int.emod_lt_of_pos ((i:Nat):Int) (show (0:Int) < 16 by decide)
   obtain ⟨y1,_,_,f1⟩:=dget (s7 _ _ hA6) (j:=((sp:Nat):Int)+((i:Nat):Int) % 16) (by omega) (by omega)
   refine ⟨_,gk,_,gt hk7 (by decide) rfl,_,gk,_,gt hk7 (by decide) rfl,(by decide:(0:Int) < 16),_,f1,fr0,lZ_ rfl,fun p hp=>?_⟩
   exact ⟨by rw [qac (qab h7 hp)];exact h7,hN _ _ _ ⟨⟨_,rfl⟩,(s7.trans (Same.upd hp)).own hC3,qaa,by simp [zl],qbM h7 hp al ⟨x2,rfl⟩⟩⟩
  rintro τ H7 z3 ⟨_,s7,hC37,zl3,al3⟩
  rw [lM_,List.length_range] at zl3
  have C3L:C3≠L:=fun z=>by rw [z,J0.hL] at hC3;cases hC3
  have J1:=(J0.same s7).put nL (x:=.ref C3) ⟨C3,z3,rfl,C3L,by omega,hC37,by omega,al3⟩
  refine ⟨_,(J0.same s7).hL,qai (Nat.lt_of_sub_pos (Nat.succ_pos _)),?_⟩
  have S8:=(S6.trans s7).own (o:=.lst ([.ref C2]++[.ref C3])) nL
  have hC18:upd H7 L (.lst ([.ref C2]++[.ref C3])) C1=some (.lst ks):=by rw [qac C1L];exact s7 _ _ hC16
  have kp8:∀ y∈ks,KPr (upd H7 L (.lst ([.ref C2]++[.ref C3]))) y:=fun y hy=>(kp6 y hy).keep fun _ _ e=>qcK (J0.same s7).hL _ _ (s7 _ _ e)
  generalize upd H7 L (.lst ([.ref C2]++[.ref C3]))=H8 at S8 hC18 kp8 J1
  clear al3 hC37 kp6 hC16
  dsimp only
  refine ⟨⟨_,rfl,J1.hL⟩,⟨_,SqL.of hC18⟩,fun C4 hC4=>?_⟩
  refine qbc (qag _ C1 ks) (fun i τ H9 zs=>(∃ v,τ=[v,some (.ref a),some (.int (sp:Nat))])/\Same H8 H9/\H9 C4=some (.lst zs)/\zs.length=i/\∀ y∈zs,Rw T1 H9 y) (qaf (by omega)) ⟨⟨none,rfl⟩,Same.upd hC4,qaa,rfl,fun y hy=>nomatch hy⟩ ?_ ?_ ?_
  ·rintro i τ H9 zs hi ⟨_,s9,h9,zl,_⟩
   exact ⟨SqL.of (s9 _ _ hC18),h9,by omega⟩
  ·rintro i x τ H9 zs hi hx ⟨⟨v,rfl⟩,s9,h9,zl,al⟩ N hN
   obtain ⟨kt,x1,x2,rfl,hk⟩:=kp8 _ (mO_ hx)
   have hk9:=s9 _ _ hk
   obtain ⟨y1,_,_,f1⟩:=dget (s9 _ _ (S8 _ _ hA)) (j:=((sp:Nat):Int)+1) (by omega) (by omega)
   refine ⟨_,gt hk9 (by decide) rfl,_,gt hk9 (by decide) rfl,_,f1,(by decide:(0:Int) < 14),lZ_ rfl,fun p hp=>?_⟩
   exact ⟨by rw [qac (qab h9 hp)];exact h9,hN _ _ _ ⟨⟨_,rfl⟩,(s9.trans (Same.upd hp)).own hC4,qaa,by simp [zl],qbM h9 hp al ⟨x2,rfl⟩⟩⟩
  rintro τ H9 z4 ⟨_,s9,hC49,zl4,al4⟩
  have C4L:C4≠L:=fun z=>by rw [z,J1.hL] at hC4;cases hC4
  have J2:=(J1.same s9).put nL (x:=.ref C4) ⟨C4,z4,rfl,C4L,by omega,hC49,by omega,al4⟩
  refine ⟨_,(J1.same s9).hL,qai (Nat.lt_of_sub_pos (Nat.succ_pos _)),?_⟩
  have S10:=(S8.trans s9).own (o:=.lst (([.ref C2]++[.ref C3])++[.ref C4])) nL
  have xl:(([V.ref C2]++[V.ref C3])++[V.ref C4]).length=3:=rfl
  generalize ([V.ref C2]++[V.ref C3])++[V.ref C4]=xs3 at S10 J2 xl ⊢
  generalize upd H9 L (.lst xs3)=H10 at S10 J2 ⊢
  dsimp only
  have aP:a≠P0:=fun z=>by obtain ⟨ps,e⟩:=tb.tbl;rw [z,e] at hA;cases hA
  refine ⟨k,n,rows,hc.mono S10,ok,tb.mono S10,fun H11 s11 t11 _=>?_,fun tl bz qs' F' H11 s11 t11 ntl htl dr' rc' _ _ _=>?_⟩
  ·have J3:=J2.tr s11 t11
   dsimp only [qah,qgr,qkk,tBU,tOp,tV,tC,qcr,qaS]
   refine qfR (by simp) ?_
   exact q L xs3 H11 J3.S J3.t J3.hL (by omega) (by omega) J3.pp
  ·have J3:=J2.tr s11 t11
   have eq:=rc'.uniq rc
   subst eq
   have tL:tl≠L:=fun z=>by rw [z,J2.hL] at ntl;cases ntl
   have psl:=qaT qs' F'
   have bl:bz.length=(qau qs' F').length:=by rw [dr'.length,lM_]
   have alt:∀ y∈bz,Rw T1 H11 y:=qih dr' fun p hp=>by
    unfold qau at hp
    obtain ⟨x,_,rfl⟩:=mM_ hp
    exact ⟨x.2,rfl⟩
   dsimp only [qah,qgr,qkk,tBU,tOp,tV,tC,qcr,qaS]
   refine qmg (by simp) ?_
   refine ⟨⟨_,rfl,J3.hL⟩,_,.inl htl,fun n1 hn1=>?_⟩
   have w1:=Same.upd (o:=.lst bz) hn1
   have n1L:n1≠L:=fun z=>by rw [z,J3.hL] at hn1;cases hn1
   have J4:=(J3.same w1).put nL (x:=.ref n1) ⟨n1,bz,rfl,n1L,by omega,qaa,by omega,fun y hy=>(alt y hy).keep fun _ _ e=>w1 _ _ e⟩
   refine ⟨_,(J3.same w1).hL,qai (by omega),?_⟩
   have htl':upd (upd H11 n1 (.lst bz)) L (.lst (xs3++[.ref n1])) tl=some (.lst bz):=by rw [qac tL];exact w1 _ _ htl
   have dt':∀ y∈bz,Rw T1 (upd (upd H11 n1 (.lst bz)) L (.lst (xs3++[.ref n1]))) y:=fun y hy=>(alt y hy).keep fun b ws e=>qcK (J3.same w1).hL _ _ (w1 _ _ e)
   have xl4:(xs3++[V.ref n1]).length=4:=by rw [lA_,xl];rfl
   dsimp only
   generalize xs3++[V.ref n1]=xs4 at J4 xl4 htl' dt' ⊢
   generalize upd (upd H11 n1 (.lst bz)) L (.lst xs4)=H12 at J4 htl' dt' ⊢
   refine ⟨⟨_,rfl,J4.hL⟩,⟨_,SqL.of htl'⟩,fun C5 hC5=>?_⟩
   have C5L:C5≠L:=fun z=>by rw [z,J4.hL] at hC5;cases hC5
   refine qbc (qag _ tl bz) (fun i τ H13 zs=>(∃ v0 v1 v2,τ=[v0,v1,v2,some (.ref a),some (.int (sp:Nat))])/\Same H12 H13/\H13 C5=some (.lst zs)/\zs.length=i/\∀ y∈zs,Rw T1 H13 y) (qaf (by omega)) ⟨⟨none,none,none,rfl⟩,Same.upd hC5,qaa,rfl,fun y hy=>nomatch hy⟩ ?_ ?_ ?_
   ·rintro i τ H13 zs hi ⟨_,s13,h13,zl,_⟩
    exact ⟨SqL.of (s13 _ _ htl'),h13,by omega⟩
   ·rintro i x τ H13 zs hi hx ⟨⟨v0,v1,v2,rfl⟩,s13,h13,zl,al⟩ N hN
    obtain ⟨t,x1,x2,x3,rfl,ht,hT⟩:=dt' _ (mO_ hx)
    obtain ⟨y3,_,_,f3⟩:=dget (s13 _ _ (J4.S _ _ aP hA)) (j:=((sp:Nat):Int)+2) (by omega) (by omega)
    refine ⟨_,.inl (s13 _ _ ht),rfl,rfl,?_⟩
    refine ⟨_,f3,(by decide:(0:Int) < 5),lZ_ rfl,fun p hp=>?_⟩
    exact ⟨by rw [qac (qab h13 hp)];exact h13,hN _ _ _ ⟨⟨_,_,_,rfl⟩,(s13.trans (Same.upd hp)).own hC5,qaa,by simp [zl],qbM h13 hp al hT⟩⟩
   rintro τ H13 z5 ⟨_,s13,h13,zl5,al5⟩
   have J5:=(J4.same s13).put nL (x:=.ref C5) ⟨C5,z5,rfl,C5L,by omega,h13,by omega,al5⟩
   refine ⟨_,(J4.same s13).hL,qai (by omega),?_⟩
   exact q L _ _ J5.S J5.t J5.hL (by rw [lA_,xl4];omega) (by rw [lA_,xl4];exact Nat.le_refl _) J5.pp
 ·exact h.elim
end
end K14
end
section
namespace K14
open PySem L2
section
variable {P:Program} {w:World} {K:PySem.W.Frag} {mg:Str->Option Value} {base:Heap}
abbrev qiM:Stmt:=top 37
def qfb:Sp:=fun vs H Q _=>match vs with
 | [.ref p,.int x]=>∃ zs:List V,Pw T1 H p zs 16/\1<=zs.length/\0<=x/\∀ l zs' H',Same H H'->Pw T0 H' l zs' 50->Q (.ref l) H'
 | _=>False
theorem scBent:FnScope ["paper","x","at","state","sign","run"] ["paper","x"] (qad qiM):=⟨rfl,rfl,rfl,by decide +kernel,rfl,by decide +kernel,by decide +kernel⟩
theorem qjy (D:FnX K mg "_law_bent" qiM ["paper","x"]) (g1:mg "len" = none):Can P w K mg base "_law_bent" 1 ["paper","x"] qfb:=by
 refine qak (k:=0) D scBent (fun vs H Q E h=>?_) (fun f cdv A outer s H vs Q E hr h=>?_)
 all_goals
  unfold qfb at h
  split at h
 ·rfl
 ·exact h.elim
 ·rename_i p x
  obtain ⟨zs,pw,z1,x0,q⟩:=h
  have nd:=scBent.nd
  have z8:=pw.2.1
  refine ⟨_,(by walk_at "T.top"),?_⟩
  have zp:(0:Int) < ((zs.length:Nat):Int):=by omega
  refine ⟨_,qcV pw.1,zp,?_⟩
  have c0:=Int.emod_nonneg x (show ((zs.length:Nat):Int)≠0 by omega)
  have c1:=Int.emod_lt_of_pos x zp
  dsimp only [qah]
  generalize x % ((zs.length:Nat):Int)=at' at c0 c1 ⊢
  obtain ⟨b,s0,z0,r0,_,gb,hb,hz0⟩:=pw.at c0 c1
  refine ⟨_,gb,_,.inl hb,rfl,rfl,?_⟩
  refine ⟨lZ_ rfl,fun p0 hp0=>?_⟩
  have w0:=Same.upd (o:=.lst [.int 1,.int (-1),.int (-1),.int 2,.int (-2),.int 40,.int (-1 - r0)]) hp0
  have e0:upd H p0 (.lst [.int 1,.int (-1),.int (-1),.int 2,.int (-2),.int 40,.int (-1 - r0)]) p0=some (.lst [.int 1,.int (-1),.int (-1),.int 2,.int (-2),.int 40,.int (-1 - r0)]):=qaa
  have m0:=Int.emod_nonneg (x / 16) (show (7:Int)≠0 by decide)
  have m1:=Int.emod_lt_of_pos (x / 16) (show (0:Int) < 7 by decide)
  obtain ⟨mo,em⟩ : ∃ mo:Int,[V.int 1,.int (-1),.int (-1),.int 2,.int (-2),.int 40,.int (-1 - r0)][(x / 16 % 7).toNat]? = some (.int mo):=by
   generalize x / 16 % 7=r at m0 m1 ⊢
   have:r=0\/r=1\/r=2\/r=3\/r=4\/r=5\/r=6:=by omega
   rcases this with rfl | rfl | rfl | rfl | rfl | rfl | rfl<;>exact ⟨_,rfl⟩
  refine ⟨⟨by decide,by decide⟩,(by decide:(0:Int) < 7),.int mo,gl e0 m0 em,?_⟩
  have pw1:=(pw.imp fun _=>T1.t0).mono w0
  dsimp only [qah,qb4]
  generalize upd H p0 (.lst [.int 1,.int (-1),.int (-1),.int 2,.int (-2),.int 40,.int (-1 - r0)])=H1 at w0 pw1 ⊢
  refine ⟨_,pw1.1,fun n1 hn1=>?_⟩
  have w1:=Same.upd (o:=.lst (cutV zs none (some at'))) hn1
  have x1:=pw1.cut (lo:=none) (hi:=some at') hn1
  have pw2:=pw1.mono w1
  dsimp only
  generalize upd H1 n1 (.lst (cutV zs none (some at')))=H3 at w1 x1 pw2 ⊢
  refine ⟨lZ_ rfl,fun n2 hn2=>?_⟩
  have w2:=Same.upd (o:=.tup [.int s0,.str z0,.int (r0+mo)]) hn2
  have h2:upd H3 n2 (.tup [.int s0,.str z0,.int (r0+mo)]) n2=some (.tup [.int s0,.str z0,.int (r0+mo)]):=qaa
  have x1:=x1.mono w2
  have pw3:=pw2.mono w2
  dsimp only
  generalize upd H3 n2 (.tup [.int s0,.str z0,.int (r0+mo)])=H4 at w2 x1 pw3 h2 ⊢
  refine ⟨lZ_ rfl,fun n3 hn3=>?_⟩
  have w3:=Same.upd (o:=.lst [.ref n2]) hn3
  have x3:=Pw.one h2 hz0.t0 hn3
  have x1:=x1.mono w3
  have pw4:=pw3.mono w3
  generalize upd H4 n3 (.lst [.ref n2])=H5 at w3 x1 x3 pw4 ⊢
  have l1:=x1.2.1
  refine ⟨_,_,x1.1,x3.1,qaf (by rw [List.length_singleton];omega),fun n4 hn4=>?_⟩
  have w4:=Same.upd (o:=.lst (cutV zs none (some at')++[.ref n2])) hn4
  have x4:=x1.app x3 hn4
  have pw5:=pw4.mono w4
  dsimp only
  generalize upd H5 n4 (.lst (cutV zs none (some at')++[.ref n2]))=H6 at w4 x4 pw5 ⊢
  refine ⟨_,pw5.1,fun n5 hn5=>?_⟩
  have w5:=Same.upd (o:=.lst (cutV zs (some (at'+1)) none)) hn5
  have x5:=pw5.cut (lo:=some (at'+1)) (hi:=none) hn5
  have x4:=x4.mono w5
  dsimp only
  generalize upd H6 n5 (.lst (cutV zs (some (at'+1)) none))=H7 at w5 x4 x5 ⊢
  have l4:=x4.2.1
  have l5:=x5.2.1
  refine ⟨_,_,x4.1,x5.1,qaf (by omega),fun n6 hn6=>?_⟩
  have x6:=x4.app x5 hn6
  exact q n6 _ _ (((((w0.trans w1).trans w2).trans w3).trans (w4.trans w5)).trans (Same.upd hn6)) ⟨x6.1,by have:=x6.2.1;omega,x6.2.2⟩
 ·exact h.elim
end
end K14
end
section
namespace K14
open PySem L2
section
variable {P:Program} {w:World} {K:PySem.W.Frag} {mg:Str->Option Value} {base:Heap}
theorem qn2 (as:List Int):∃ ms:List Int,cutV (as.map V.int) none (some 1)=ms.map V.int/\ms.length<=1:=by
 refine ⟨(as.drop (HT.sIx as.length 0 none)).take (HT.sIx as.length as.length (some 1) - HT.sIx as.length 0 none),by unfold cutV;rw [lM_,List.map_take,List.map_drop],?_⟩
 rw [List.length_take]
 have b:HT.sIx as.length as.length (some 1)<=1:=by
  unfold HT.sIx
  dsimp only
  rw [if_neg (by decide)]
  exact Nat.min_le_left _ _
 omega
theorem Pw.sort {T:Str->Prop} {H:Hp} {n x:Addr} {zs ys:List V} {m:Nat} (h:Pw T H n zs m) (hx:H x=none) (yl:ys.length=zs.length) (ym:∀ y∈ys,y∈zs):Pw T (upd H x (.lst ys)) x ys m:=h.sub hx ym (by rw [yl];exact h.2.1)
theorem Pw.trips {T:Str->Prop} {H:Hp} {n:Addr} {zs:List V} {m:Nat} (h:Pw T H n zs m):∀ y∈zs,∃ t i r,y = .ref t/\H t=some (.tup (.int i :: r))/\r.map shp=[true,false].map some:=fun y hy=>by
 obtain ⟨t,a,z,c,e,h1,_⟩:=h.2.2 y hy
 exact ⟨t,a,_,e,h1,rfl⟩
theorem qnj:T0 "0" := by unfold T0;decide +kernel
theorem qnH:T0 "1" := by unfold T0;decide +kernel
theorem qnY {H:Hp} (b:Bool):qcb H (.str "10") (if b then 1 else 0)=some (.str (bs [!b])):=by
 rw [qm8]
 cases b
 ·exact gs (qaf (by decide)) (by decide) rfl
 ·exact gs (qaf (by decide)) (by decide) rfl
def Px (H:Hp) (y:V):Prop:=∃ n zs,y = .ref n/\Pw T0 H n zs 50
theorem Px.mono {H H':Hp} {y:V} (h:Px H y) (s:Same H H'):Px H' y:=let ⟨n,zs,e,a⟩:=h;⟨n,zs,e,a.mono s⟩
theorem Pw.px {H:Hp} {n:Addr} {zs:List V} {m:Nat} (h:Pw T0 H n zs m) (hm:m<=50):Px H (.ref n):=⟨n,zs,rfl,h.1,Nat.le_trans h.2.1 hm,h.2.2⟩
def Yl (T:Str->Prop) (t:TE) (σ:St) (H:Hp) (m:Nat):Prop:=∀ Q:VK,(∀ n zs H',Same H H'->Pw T H' n zs m->Q (.ref n) H')->t σ H Q
theorem qbb {T:Str->Prop} {ta tb:TE} {σ:St} {H:Hp} {m m':Nat} (h1:Yl T ta σ H m) (h2:∀ H',Same H H'->Yl T tb σ H' m') (hm:m+m'<=1000):Yl T (tOp qb4 ta tb) σ H (m+m'):=fun Q k=>h1 _ fun n zs H1 s1 p1=>h2 H1 s1 _ fun n' zs' H2 s2 p2=>
 ⟨_,_,(p1.mono s2).1,p2.1,qaf (by have:=p1.2.1;have:=p2.2.1;omega),fun x hx=>k x _ _ ((s1.trans s2).trans (Same.upd hx)) ((p1.mono s2).app p2 hx)⟩
theorem qgs {ta tb:TE} {σ:St} {H:Hp} {S:Addr} {Q:VK} (e:∀ K:VK,K (.ref S) H->ta σ H K) (h:tb σ H fun y H2=>qb4 (.ref S) y H2 Q):tOp qb4 ta tb σ H Q:=e _ h
theorem pc {H:Hp} {y:V} {ys:List V} (h:Px H y) (t:∀ z∈ys,Px H z):∀ z∈y :: ys,Px H z:=fun z hz=>(List.mem_cons.mp hz).elim (fun e=>e ▸ h) (t z)
theorem pn {H:Hp}:∀ z∈([]:List V),Px H z:=fun z hz=>nomatch hz
def MT (f:V->St) (H:Hp) (L:Nat) (σ:St) (Hx:Hp):Prop:=∃ (S:Addr) (xs:List V),σ=f (.ref S)/\Same H Hx/\Hx S=some (.lst xs)/\xs.length=L/\∀ y∈xs,Px Hx y
theorem MT.add {f:V->St} {H Hx Hy:Hp} {L k:Nat} {S x n:Addr} {xs ys:List V} (sx:Same H Hx) (hS:Hx S=some (.lst xs)) (xl:xs.length=L) (px:∀ y∈xs,Px Hx y) (s:Same Hx Hy) (hx:Hy x=none) (hn:upd Hy x (.lst ys) n=none) (py:∀ y∈ys,Px Hy y) (yl:ys.length=k):MT f H (L+k) (f (.ref n)) (upd (upd Hy x (.lst ys)) n (.lst (xs++ys))):=by
 have w:=(Same.upd (o:=.lst ys) hx).trans (Same.upd (o:=.lst (xs++ys)) hn)
 refine ⟨n,_,rfl,(sx.trans s).trans w,qaa,by rw [lA_,xl,yl],fun y hy=>?_⟩
 rcases mA_ hy with z | z
 ·exact (px y z).mono (s.trans w)
 ·exact (py y z).mono w
abbrev qiy:Stmt:=top 38
def qe3:Sp:=fun vs H Q _=>match vs with
 | [.ref p,.int x,.ref ai]=>∃ (zs:List V) (as:List Int),Pw T1 H p zs 16/\2<=zs.length/\0<=x/\H ai=some (.lst (as.map V.int))/\∀ l zs' H',Same H H'->Pw T0 H' l zs' 50->Q (.ref l) H'
 | _=>False
theorem scTorn:FnScope ["paper","x","aside","at","state","sign","run","some","odd","other"] ["paper","x","aside"] (qad qiy):=⟨rfl,rfl,rfl,by decide +kernel,rfl,by decide +kernel,by decide +kernel⟩
local macro_rules | `(tactic| walk_at "T.ty")=>`(tactic| ((with_reducible refine' qm3 ?a1 ?a2);(case a1=>walk_at "T.e");(case a2=>walk_at "T.o")))
local macro_rules | `(tactic| walk_at "T.b")=>`(tactic| ((with_reducible refine' qcA ?a0 ?a9 ?a8 ?a1);(case a0=>with_reducible assumption);(case a9=>rfl);(case a8=>exact Room.units (by assumption));(case a1=>walk_at "T.a")))
theorem qjl (D:FnX K mg "_law_torn" qiy ["paper","x","aside"]) (g1:mg "len" = none) (g2:mg "sorted" = none) (g3:mg "int" = none):Can P w K mg base "_law_torn" 1 ["paper","x","aside"] qe3:=by
 refine qak (k:=0) D scTorn (fun vs H Q E h=>?_) (fun f cdv A outer s H vs Q E hr h=>?_)
 all_goals
  unfold qe3 at h
  split at h
 ·rfl
 ·exact h.elim
 ·rename_i p x ai
  obtain ⟨zs,as,pw,z1,x0,hai,q⟩:=h
  have nd:=scTorn.nd
  have z8:=pw.2.1
  refine ⟨_,(by walk_at "T.top"),?_⟩
  have zp:(0:Int) < ((zs.length:Nat):Int):=by omega
  refine ⟨_,qcV pw.1,zp,?_⟩
  have c0:=Int.emod_nonneg x (show ((zs.length:Nat):Int)≠0 by omega)
  have c1:=Int.emod_lt_of_pos x zp
  dsimp only [qah]
  generalize x % ((zs.length:Nat):Int)=at' at c0 c1 ⊢
  obtain ⟨b,s0,z0,r0,zb,gb,hb,hz1⟩:=pw.at c0 c1
  have hz0:=hz1.t0
  obtain ⟨bz,ezb⟩:=hz1
  have pw:=pw.imp fun _=>T1.t0
  refine ⟨_,gb,_,.inl hb,rfl,rfl,?_⟩
  clear gb
  have pw0:=pw
  have hb0:=hb
  dsimp only [qah]
  refine qb8 (MT (fun S=>[some (.ref p),some (.int x),some (.ref ai),some (.int at'),some (.int s0),some (.str z0),some (.int r0),some S,none,none]) H 4) ?_ (fun nx fin=>?_)
  rotate_left
  ·skip
   refine qbb (T:=T0) (fun Q k=>⟨_,pw.1,fun n hn=>k n _ _ (Same.upd hn) (pw.cut hn)⟩) (fun H' s=>fun Q k=>⟨_,(pw.mono s).1,fun n hn=>k n _ _ (Same.upd hn) ((pw.mono s).cut hn)⟩) (by decide) _ fun n1 z1 H1 s1 p1=>?_
   have pw:=pw.mono s1
   have hb:=s1 _ _ hb
   refine qbb (T:=T0) (qbb (fun Q k=>⟨_,pw.1,fun n hn=>k n _ _ (Same.upd hn) (pw.cut hn)⟩) (fun H' s=>fun Q k=>⟨_,gl (pw.mono s).1 c0 zb,lZ_ rfl,fun n hn=>k n _ _ (Same.upd hn) (Pw.one (s _ _ hb) hz0 hn)⟩) (by decide)) (fun H' s=>fun Q k=>⟨_,(pw.mono s).1,fun n hn=>k n _ _ (Same.upd hn) ((pw.mono s).cut hn)⟩) (by decide) _ fun n2 z2 H2 s2 p2=>?_
   have pw:=pw.mono s2
   refine ⟨_,pw.1,fun n3 h3=>?_⟩
   have p3:=pw.cut (lo:=none) (hi:=some 0) h3
   have s3:=Same.upd (o:=.lst (cutV zs none (some 0))) h3
   have pw:=pw.mono s3
   refine ⟨⟨by decide,by decide⟩,.inr ⟨by decide,by decide⟩,_,pw.1,fun n4 h4=>?_⟩
   have p4:=pw.cut (lo:=none) (hi:=some (at' / 2 * 2)) h4
   have s4:=Same.upd (o:=.lst (cutV zs none (some (at' / 2 * 2)))) h4
   refine ⟨lZ_ rfl,fun n5 h5=>?_⟩
   have s5:=Same.upd (o:=.lst [.ref n1,.ref n2,.ref n3,.ref n4]) h5
   have s45:=s4.trans s5
   exact fin _ _ ⟨n5,_,rfl,((s1.trans s2).trans s3).trans s45,qaa,rfl,pc ((p1.mono (s2.trans (s3.trans s45))).px (by decide)) (pc ((p2.mono (s3.trans s45)).px (by decide)) (pc ((p3.mono s45).px (by decide)) (pc ((p4.mono s5).px (by decide)) pn)))⟩
  rintro σ Hx ⟨S,xs,rfl,sx,hS,xl,px⟩
  have pw:=pw0.mono sx
  refine qb8 (MT (fun S=>[some (.ref p),some (.int x),some (.ref ai),some (.int at'),some (.int s0),some (.str z0),some (.int r0),some S,none,none]) H 7) ?_ (fun nx fin=>?_)
  rotate_left
  ·refine qgs (fun K h=>h) ?_
   refine qbb (T:=T0) (qbb (fun Q k=>⟨_,pw.1,fun n hn=>k n _ _ (Same.upd hn) (pw.cut hn)⟩) (fun H' s=>fun Q k=>⟨lZ_ rfl,fun t ht=>⟨lZ_ rfl,fun n hn=>k n _ _ ((Same.upd ht).trans (Same.upd hn)) (Pw.one qaa hz0 hn)⟩⟩) (by decide)) (fun H' s=>fun Q k=>⟨_,(pw.mono s).1,fun n hn=>k n _ _ (Same.upd hn) ((pw.mono s).cut hn)⟩) (by decide) _ fun n1 z1 H1 s1 p1=>?_
   have pw:=pw.mono s1
   refine ⟨rfl,_,pw.1,fun n2 h2=>?_⟩
   have p2:=pw.rev h2
   have s2:=Same.upd (o:=.lst zs.reverse) h2
   have pw:=pw.mono s2
   refine qbb (T:=T0) (fun Q k=>⟨_,pw.1,fun n hn=>k n _ _ (Same.upd hn) (pw.cut hn)⟩) (fun H' s=>fun Q k=>⟨_,(pw.mono s).1,fun n hn=>k n _ _ (Same.upd hn) ((pw.mono s).cut hn)⟩) (by decide) _ fun n3 z3 H3 s3 p3=>?_
   have pw:=pw.mono s3
   refine ⟨lZ_ rfl,fun nX hX=>?_⟩
   exact ⟨_,_,(((s1.trans s2).trans s3).trans (Same.upd hX)) _ _ hS,qaa,qaf (by rw [xl];exact Nat.le_of_ble_eq_true rfl),fun nY hY=>fin _ _ (MT.add sx hS xl px ((s1.trans s2).trans s3) hX hY (pc ((p1.mono (s2.trans s3)).px (by decide)) (pc ((p2.mono s3).px (by decide)) (pc (p3.px (by decide)) pn))) rfl)⟩
  rintro σ Hx ⟨S,xs,rfl,sx,hS,xl,px⟩
  have pw:=pw0.mono sx
  refine qb8 (MT (fun S=>[some (.ref p),some (.int x),some (.ref ai),some (.int at'),some (.int s0),some (.str z0),some (.int r0),some S,none,none]) H 9) ?_ (fun nx fin=>?_)
  rotate_left
  ·refine qgs (fun K h=>h) ?_
   refine qbb (T:=T0) (qbb (fun Q k=>⟨_,pw.1,fun n hn=>k n _ _ (Same.upd hn) (pw.cut hn)⟩) (fun H' s=>fun Q k=>⟨bz,ezb,_,qnY bz,lZ_ rfl,fun t ht=>⟨lZ_ rfl,fun n hn=>k n _ _ ((Same.upd ht).trans (Same.upd hn)) (Pw.one qaa (qel _) hn)⟩⟩) (by decide)) (fun H' s=>fun Q k=>⟨_,(pw.mono s).1,fun n hn=>k n _ _ (Same.upd hn) ((pw.mono s).cut hn)⟩) (by decide) _ fun n1 z1 H1 s1 p1=>?_
   have pw:=pw.mono s1
   refine qbb (T:=T0) (fun Q k=>k p zs _ (Same.refl _) pw) (fun H' s=>fun Q k=>⟨lZ_ rfl,fun t ht=>⟨lZ_ rfl,fun n hn=>k n _ _ ((Same.upd ht).trans (Same.upd hn)) (Pw.one qaa qnj hn)⟩⟩) (by decide) _ fun n2 z2 H2 s2 p2=>?_
   have pw:=pw.mono s2
   refine ⟨lZ_ rfl,fun nX hX=>?_⟩
   exact ⟨_,_,((s1.trans s2).trans (Same.upd hX)) _ _ hS,qaa,qaf (by rw [xl];exact Nat.le_of_ble_eq_true rfl),fun nY hY=>fin _ _ (MT.add sx hS xl px (s1.trans s2) hX hY (pc ((p1.mono s2).px (by decide)) (pc (p2.px (by decide)) pn)) rfl)⟩
  rintro σ Hx ⟨S,xs,rfl,sx,hS,xl,px⟩
  have pw:=pw0.mono sx
  refine qb8 (MT (fun S=>[some (.ref p),some (.int x),some (.ref ai),some (.int at'),some (.int s0),some (.str z0),some (.int r0),some S,none,none]) H 11) ?_ (fun nx fin=>?_)
  rotate_left
  ·refine qgs (fun K h=>h) ?_
   refine qbb (T:=T0) (fun Q k=>⟨lZ_ rfl,fun t ht=>⟨lZ_ rfl,fun n hn=>k n _ _ ((Same.upd ht).trans (Same.upd hn)) (Pw.one qaa hz0 hn)⟩⟩) (fun H' s=>fun Q k=>k p zs _ (Same.refl _) (pw.mono s)) (by decide) _ fun n1 z1 H1 s1 p1=>?_
   have pw:=pw.mono s1
   refine qbb (T:=T0) (qbb (fun Q k=>⟨_,pw.1,fun n hn=>k n _ _ (Same.upd hn) (pw.cut hn)⟩) (fun H' s=>fun Q k=>⟨lZ_ rfl,fun t ht=>⟨lZ_ rfl,fun n hn=>k n _ _ ((Same.upd ht).trans (Same.upd hn)) (Pw.one qaa hz0 hn)⟩⟩) (by decide)) (fun H' s=>fun Q k=>⟨_,(pw.mono s).1,fun n hn=>k n _ _ (Same.upd hn) ((pw.mono s).cut hn)⟩) (by decide) _ fun n2 z2 H2 s2 p2=>?_
   have pw:=pw.mono s2
   refine ⟨lZ_ rfl,fun nX hX=>?_⟩
   exact ⟨_,_,((s1.trans s2).trans (Same.upd hX)) _ _ hS,qaa,qaf (by rw [xl];exact Nat.le_of_ble_eq_true rfl),fun nY hY=>fin _ _ (MT.add sx hS xl px (s1.trans s2) hX hY (pc ((p1.mono s2).px (by decide)) (pc (p2.px (by decide)) pn)) rfl)⟩
  rintro σ Hx ⟨S,xs,rfl,sx,hS,xl,px⟩
  have pw:=pw0.mono sx
  refine ⟨lZ_ rfl,fun o1 ho1=>?_⟩
  have wo_:=Same.upd (o:=.lst [.str "",.str "x",.str "00",.str "2"]) ho1
  have eo:upd Hx o1 (.lst [.str "",.str "x",.str "00",.str "2"]) o1=some (.lst [.str "",.str "x",.str "00",.str "2"]):=qaa
  have m0:=Int.emod_nonneg (x / 16) (show (4:Int)≠0 by decide)
  have m1:=Int.emod_lt_of_pos (x / 16) (show (0:Int) < 4 by decide)
  obtain ⟨od,tod,eod⟩ : ∃ od:Str,T0 od/\[V.str "",.str "x",.str "00",.str "2"][(x / 16 % 4).toNat]? = some (.str od):=by
   generalize x / 16 % 4=r at m0 m1 ⊢
   have:r=0\/r=1\/r=2\/r=3:=by omega
   unfold T0
   rcases this with rfl | rfl | rfl | rfl
   ·exact ⟨"",by decide +kernel,rfl⟩
   ·exact ⟨"x",by decide +kernel,rfl⟩
   ·exact ⟨"00",by decide +kernel,rfl⟩
   ·exact ⟨"2",by decide +kernel,rfl⟩
  refine ⟨⟨by decide,by decide⟩,(by decide:(0:Int) < 4),.str od,gl eo m0 eod,?_⟩
  dsimp only [qah]
  have sx:=sx.trans wo_
  have hS:=wo_ _ _ hS
  have px:=fun y hy=>(px y hy).mono wo_
  have pw:=pw.mono wo_
  generalize upd Hx o1 (.lst [.str "",.str "x",.str "00",.str "2"])=Hx at sx hS px pw ⊢
  refine qb8 (MT (fun S=>[some (.ref p),some (.int x),some (.ref ai),some (.int at'),some (.int s0),some (.str z0),some (.int r0),some S,some (.str od),none]) H 13) ?_ (fun nx fin=>?_)
  rotate_left
  ·refine qgs (fun K h=>h) ?_
   refine qbb (T:=T0) (qbb (fun Q k=>⟨_,pw.1,fun n hn=>k n _ _ (Same.upd hn) (pw.cut hn)⟩) (fun H' s=>fun Q k=>⟨lZ_ rfl,fun t ht=>⟨lZ_ rfl,fun n hn=>k n _ _ ((Same.upd ht).trans (Same.upd hn)) (Pw.one qaa tod hn)⟩⟩) (by decide)) (fun H' s=>fun Q k=>⟨_,(pw.mono s).1,fun n hn=>k n _ _ (Same.upd hn) ((pw.mono s).cut hn)⟩) (by decide) _ fun n1 z1 H1 s1 p1=>?_
   have pw:=pw.mono s1
   refine qbb (T:=T0) (fun Q k=>k p zs _ (Same.refl _) pw) (fun H' s=>fun Q k=>⟨lZ_ rfl,fun t ht=>⟨lZ_ rfl,fun n hn=>k n _ _ ((Same.upd ht).trans (Same.upd hn)) (Pw.one qaa tod hn)⟩⟩) (by decide) _ fun n2 z2 H2 s2 p2=>?_
   have pw:=pw.mono s2
   refine ⟨lZ_ rfl,fun nX hX=>?_⟩
   exact ⟨_,_,((s1.trans s2).trans (Same.upd hX)) _ _ hS,qaa,qaf (by rw [xl];exact Nat.le_of_ble_eq_true rfl),fun nY hY=>fin _ _ (MT.add sx hS xl px (s1.trans s2) hX hY (pc ((p1.mono s2).px (by decide)) (pc (p2.px (by decide)) pn)) rfl)⟩
  rintro σ Hx ⟨S,xs,rfl,sx,hS,xl,px⟩
  have pw:=pw0.mono sx
  have hai:=sx _ _ hai
  have W:=sx
  have hS4:=hS
  refine ⟨_,hai,fun n1 hn1=>?_⟩
  obtain ⟨ms,em,ml⟩:=qn2 as
  rw [em]
  have v1:=Same.upd (o:=.lst (ms.map V.int)) hn1
  have hm1:upd Hx n1 (.lst (ms.map V.int)) n1=some (.lst (ms.map V.int)):=qaa
  have W:=W.trans v1
  have pw:=pw.mono v1
  have hS4:=v1 _ _ hS4
  have px:=fun y hy=>(px y hy).mono v1
  generalize upd Hx n1 (.lst (ms.map V.int))=H0_ at v1 hm1 W pw hS4 px
  refine ⟨⟨_,SqL.of hm1⟩,?_⟩
  refine qeg (qag _ n1 (ms.map V.int)) (fun i σ Hy=>∃ (v8:Option V) (S:Addr) (xs:List V),σ=[some (.ref p),some (.int x),some (.ref ai),some (.int at'),some (.int s0),some (.str z0),some (.int r0),some (.ref S),some (.str od),v8]/\Same H0_ Hy/\Hy S=some (.lst xs)/\xs.length=13+2 * i/\∀ y∈xs,Px Hy y)
   ⟨none,S,xs,rfl,Same.refl _,hS4,xl,px⟩ (fun i σ Hy _ ⟨_,_,_,_,sx,_⟩=>SqL.of (sx _ _ hm1)) ?_ ?_
  ·rintro i y σ Hx hi hy ⟨v8,S,xs,rfl,sx,hS,xl',px'⟩ N bk fin
   rw [lM_] at hi
   rw [gM_] at hy
   obtain ⟨o,_,rfl⟩:=Option.map_eq_some_iff.mp hy
   have pw:=pw.mono sx
   have zl:=pw.2.1
   refine ⟨lZ_ rfl,fun ta hta=>?_⟩
   have ua:=Same.upd (o:=.tup [.int o,.str "0",.int r0]) hta
   have ka:=qh5 (.tup [.int o,.str "0",.int r0]) hta
   have pw:=pw.mono ua
   refine ⟨lZ_ rfl,fun t1 ht1=>?_⟩
   have u1:=Same.upd (o:=.tup [.int o,.str "1",.int r0]) ht1
   have k1:=qh5 (.tup [.int o,.str "1",.int r0]) ht1
   have ka:=u1 _ _ ka
   have pw:=pw.mono u1
   refine ⟨lZ_ rfl,fun t2 ht2=>?_⟩
   have u2:=Same.upd (o:=.lst [.ref ta,.ref t1]) ht2
   have y1:Pw T0 (upd _ t2 (.lst [.ref ta,.ref t1])) t2 [.ref ta,.ref t1] 2:=⟨qaa,Nat.le_refl _,fun y hy=>by
    rcases List.mem_cons.mp hy with rfl | hy
    ·exact ⟨ta,_,_,_,rfl,u2 _ _ ka,qnj⟩
    ·rw [mS_ hy];exact ⟨t1,_,_,_,rfl,u2 _ _ k1,qnH⟩⟩
   have pw:=pw.mono u2
   refine ⟨_,_,pw.1,y1.1,qaf (by show zs.length+2<=1000;omega),fun t3 ht3=>?_⟩
   have u3:=Same.upd (o:=.lst (zs++[.ref ta,.ref t1])) ht3
   have y3:=pw.app y1 ht3
   have pw:=pw.mono u3
   have ly:=y3.2.1
   refine ⟨[true,false],.inl ⟨_,y3.1,by rw [lA_];show 2<=zs.length+2;omega,by omega,y3.trips,fun t4 ys4 ht4 yl4 ym4=>?_⟩⟩
   have u4:=Same.upd (o:=.lst ys4) ht4
   have y4:=y3.sort ht4 yl4 ym4
   have pw:=pw.mono u4
   refine ⟨lZ_ rfl,fun t5 ht5=>?_⟩
   have u5:=Same.upd (o:=.tup [.int o,.str z0,.int 60]) ht5
   have k5:=qh5 (.tup [.int o,.str z0,.int 60]) ht5
   have pw:=pw.mono u5
   have y4:=y4.mono u5
   refine ⟨lZ_ rfl,fun t6 ht6=>?_⟩
   have u6:=Same.upd (o:=.lst [.ref t5]) ht6
   have y6:=Pw.one (T:=T0) k5 hz0 ht6
   have pw:=pw.mono u6
   have y4:=y4.mono u6
   refine ⟨_,_,pw.1,y6.1,qaf (by rw [List.length_singleton];omega),fun t7 ht7=>?_⟩
   have u7:=Same.upd (o:=.lst (zs++[.ref t5])) ht7
   have y7:=pw.app y6 ht7
   have y4:=y4.mono u7
   have ly:=y7.2.1
   refine ⟨[true,false],.inl ⟨_,y7.1,by rw [lA_,List.length_singleton];omega,by omega,y7.trips,fun t8 ys8 ht8 yl8 ym8=>?_⟩⟩
   have u8:=Same.upd (o:=.lst ys8) ht8
   have y8:=y7.sort ht8 yl8 ym8
   have y4:=y4.mono u8
   refine ⟨lZ_ rfl,fun t9 ht9=>?_⟩
   have u9:=Same.upd (o:=.lst [.ref t4,.ref t8]) ht9
   have U:=((((ua.trans u1).trans u2).trans u3).trans (u4.trans u5)).trans (((u6.trans u7).trans u8).trans u9)
   refine ⟨_,_,U _ _ hS,qaa,qaf (by rw [xl'];show 13+2 * i+2<=1000;omega),fun t10 ht10=>?_⟩
   have u10:=Same.upd (o:=.lst (xs++[.ref t4,.ref t8])) ht10
   refine fin _ _ ⟨_,t10,_,rfl,(sx.trans U).trans u10,qaa,by rw [lA_,xl'];show 13+2 * i+2=_;omega,fun y hy=>?_⟩
   rcases mA_ hy with z | z
   ·exact ((px' y z).mono U).mono u10
   ·rcases List.mem_cons.mp z with z | z
    ·rw [z];exact ((y4.px (by decide)).mono u9).mono u10
    ·rw [mS_ z];exact ((y8.px (by decide)).mono u9).mono u10
  ·rintro σ Hx ⟨v8,S,xs,rfl,sx,hS,xl',px'⟩
   have xp:(0:Int) < ((xs.length:Nat):Int):=by omega
   have r0:=Int.emod_nonneg (x / 16) (show ((xs.length:Nat):Int)≠0 by omega)
   have r1:=Int.emod_lt_of_pos (x / 16) xp
   have il:(x / 16 % ((xs.length:Nat):Int)).toNat < xs.length:=by omega
   obtain ⟨n,zs',e,pwn⟩:=px' _ (List.getElem_mem il)
   refine ⟨⟨by decide,by decide⟩,_,qcV hS,xp,_,gl hS r0 (gE_ il),?_⟩
   rw [e]
   exact q n zs' Hx (W.trans sx) pwn
 ·exact h.elim
end
end K14
end
section
namespace K14
open PySem L2
section
variable {P:Program} {w:World} {K:PySem.W.Frag} {mg:Str->Option Value} {base:Heap}
def Kp (H H':Hp):Prop:=∀ b o,(∀ ps,o≠.tbl ps)->H b=some o->H' b=some o
theorem SameT.kp {P0:Addr} {c:Pos} {q:Str} {H H':Hp} (tb:Tab P0 c q H) (s:SameT P0 H H'):Kp H H':=fun b o n e=>s _ _ (fun z=>by obtain ⟨ps,e'⟩:=tb.tbl;rw [z,e'] at e;exact n ps (oI_ e).symm) e
theorem Kp.lst {H H':Hp} (s:Kp H H') {b:Addr} {xs:List V} (h:H b=some (.lst xs)):H' b=some (.lst xs):=s _ _ (fun ps z=>nomatch z) h
theorem Kp.tup {H H':Hp} (s:Kp H H') {b:Addr} {xs:List V} (h:H b=some (.tup xs)):H' b=some (.tup xs):=s _ _ (fun ps z=>nomatch z) h
theorem Pw.kp {T:Str->Prop} {H H':Hp} {n:Addr} {zs:List V} {m:Nat} (h:Pw T H n zs m) (s:Kp H H'):Pw T H' n zs m:=⟨s.lst h.1,h.2.1,fun y hy=>(h.2.2 y hy).keep fun _ _ e=>s.tup e⟩
theorem qdS {p:qch} (h:T0 p.2.1):(qbe p).canLay0=true:=by
 unfold T0 at h
 unfold qbe
 simp only [PyData.canLay0,PyData.canLayAll0,Bool.and_true,Bool.true_and] at h ⊢
 exact h
theorem qeZ {ps:List qch} (h:∀ p∈ps,T0 p.2.1):SeqAt.shaped (qcl ps)=true:=by
 refine qbK (k:=1) (fun d hd=>?_) (fun d hd=>?_) (by decide)
 ·obtain ⟨x,hx,rfl⟩:=mM_ hd
  exact qdS (h x hx)
 ·obtain ⟨x,hx,rfl⟩:=mM_ hd
  exact Nat.le_refl _
theorem qe0 {ps:List qch} (h:∀ p∈ps,T0 p.2.1):PyData.eqv (qcl ps) (qcl ps)=true:=SeqAt.eqv_refl _ (by
 unfold qcl
 rw [PyData.canLay0]
 exact qa2 fun d hd=>by
  obtain ⟨x,hx,rfl⟩:=mM_ hd
  exact qdS (h x hx))
abbrev qiG:Stmt:=top 39
def qe9 (P0:Addr) (K:PySem.W.Frag):Sp:=fun vs H Q _=>match vs with
 | [.ref a]=>∃ ns:List Int,SqL K H a (ns.map V.int)/\ns.length<=63/\Tab P0 (qan qav) qSt H/\∀ H',Q (.bl true) H'
 | _=>False
theorem scLaw:FnScope ["script","d","code","aside","due","far","numbers","papers","handed_code","k","paper","some","one","number","handed","found"] ["script"] (qad qiG):=⟨rfl,rfl,rfl,by decide +kernel,rfl,by decide +kernel,by decide +kernel⟩
local macro_rules | `(tactic| walk_at "T.sc")=>`(tactic| (have ndc:(["state","code"]:List Str).Nodup:=(by decide +kernel));((with_reducible refine' qfh "aside" 3 ["state","code"] [2] ?b1 ?b0 ?b2 (fun cl C s H fp=>?b3) (fun cl C s H fp=>?b4) (fun cl C s H fp=>?b5));(case b1=>exact ndc);(case b0=>assumption);(case b2=>walk_at "T.i");(case b3=>walk_at "T.g");(case b4=>walk_at "T.pf");(case b5=>walk_at "T.e")))
local macro_rules | `(tactic| walk_at "T.c")=>`(tactic| (have ndc:(["row","far"]:List Str).Nodup:=(by decide +kernel));((with_reducible refine' qaF ["row","far"] [5] ?b1 ?b2 (fun cl C s H fp=>?b3) (fun cl C s H fp=>?b4) (fun cl C s H fp=>?b5));(case b1=>exact ndc);(case b2=>walk_at "T.i");(case b3=>walk_at "T.g");(case b4=>walk_at "T.pf");(case b5=>walk_at "T.e")))
inductive LA (a d0 a0 AS NB PB ah P0:Addr) (du fr:Int) (H14:Hp) (i:Nat) (σ:L2.St) (H15:L2.Hp):Prop
 | mk (v9 v10 v11 v12 v13 v14 v15:Option V) (z0:σ=[some (.ref a),some (.ref d0),some (.ref a0),some (.ref AS),some (.int du),some (.int fr),some (.ref NB),some (.ref PB),some (.ref ah),v9,v10,v11,v12,v13,v14,v15]) (z1:SameT P0 H14 H15) (z2:Tab P0 (qan qav) qSt H15):LA a d0 a0 AS NB PB ah P0 du fr H14 i σ H15
inductive LB (a d0 a0 AS NB PB ah pn SL P0:Addr) (du fr:Int) (i:Nat) (H20:Hp) (j:Nat) (σ:L2.St) (H21:L2.Hp):Prop
 | mk (v12 v13 v14 v15:Option V) (z0:σ=[some (.ref a),some (.ref d0),some (.ref a0),some (.ref AS),some (.int du),some (.int fr),some (.ref NB),some (.ref PB),some (.ref ah),some (.int (i:Nat)),some (.ref pn),some (.ref SL),v12,v13,v14,v15]) (z1:SameT P0 H20 H21) (z2:Tab P0 (qan qav) qSt H21):LB a d0 a0 AS NB PB ah pn SL P0 du fr i H20 j σ H21
inductive LC (a d0 a0 AS NB PB ah pn SL on P0:Addr) (du fr:Int) (i:Nat) (H22:Hp) (m:Nat) (σ:L2.St) (H23:L2.Hp):Prop
 | mk (v13 v14 v15:Option V) (z0:σ=[some (.ref a),some (.ref d0),some (.ref a0),some (.ref AS),some (.int du),some (.int fr),some (.ref NB),some (.ref PB),some (.ref ah),some (.int (i:Nat)),some (.ref pn),some (.ref SL),some (.ref on),v13,v14,v15]) (z1:SameT P0 H22 H23) (z2:Tab P0 (qan qav) qSt H23):LC a d0 a0 AS NB PB ah pn SL on P0 du fr i H22 m σ H23
theorem qlq {f:Addr} {fd:FuncData} {P0:Addr} (D:Fun K "law" "law" qiG f fd) (g1:mg "range" = none) (g2:mg "len" = none) (g3:mg "list" = none) (g4:mg "isinstance" = none) (g5:mg "bool" = none) (c1:Can P w K mg base "_law_draws" 1 ["script","many"] (qdn K)) (c2:Can P w K mg base "_law_code" 2 ["d","spot"] qdk)
  (c3:Can P w K mg base "_law_wider" 1 ["code","x"] qe1) (c4:Can P w K mg base "_law_come_to" 1 ["code"] qcP) (c5:Can P w K mg base "_law_most" 2 ["code"] qdj) (c7:Can P w K mg base "_law_papers" 8 ["code","d","spot"] (qcm P0)) (c8:Can P w K mg base "_law_copy" 1 ["code"] qdo)
  (c9:Can P w K mg base "_law_bent" 1 ["paper","x"] qfb) (c10:Can P w K mg base "_law_torn" 1 ["paper","x","aside"] qe3) (c11:Can P w K mg base "still_shows" 7 ["code","number","paper"] (qe4 P0)) (c12:Can P w K mg base "_law_shows" 2 ["code","number","paper"] qin):FnOk P w K mg base CX0 9 f fd ["script"] (qe9 P0 K):=by
 refine D.ok (k:=8) scLaw (fun vs H Q E h=>?_) (fun cdv A outer s H vs Q E hr h=>?_)
 all_goals
  unfold qe9 at h
  split at h
 ·rfl
 ·exact h.elim
 ·rename_i a
  obtain ⟨ns,hS,h63,tb,q⟩:=h
  have nd:=scLaw.nd
  refine ⟨_,(by walk_at "T.top"),?_⟩
  refine qaG fun U1 hU1=>?_
  refine ⟨ns,130,hS,h63,rfl,by decide,fun d0 ds H1 s1 hl d130 drn=>?_⟩
  have dget:∀ {Hx:Hp} {j:Nat},Hx d0=some (.lst (ds.map V.int))->j < 130->∃ x:Int,0<=x/\x < 10007/\qcb Hx (.ref d0) (j:Nat)=some (.int x):=fun {Hx j} h h1=>by
   have il:j < ds.length:=by omega
   obtain ⟨e0,e1⟩:=drn _ (List.getElem_mem il)
   exact ⟨ds[j],e0,e1,gl h (by omega) (by rw [Int.toNat_natCast,gM_,gE_ il];rfl)⟩
  have t1:=tb.mono s1
  dsimp only [qah]
  subst hU1
  refine qb8 (fun σ H3=>∃ (cv:V) (k n:Nat) (rows:Om.Rows),σ=[some (.ref a),some (.ref d0),some cv,none,none,none,none,none,none,none,none,none,none,none,none,none]/\Same H1 H3/\DV H3 cv (qax k n rows)/\Om.CodeOk k n rows) ?_ (fun nx fin=>?_)
  rotate_left
  ·refine ⟨ds,0,hl,rfl,by decide,by omega,drn,fun cv k n rows H2 s2 dv2 ok=>?_⟩
   obtain ⟨x,x0,_,ex⟩:=dget (s2 _ _ hl) (j:=128) (by decide)
   refine ⟨_,ex,k,n,rows,dv2,ok,x0,?_,fun v rws H3 s3 dv3 ok3=>?_⟩
   ·exact fin _ _ ⟨cv,k,n,rows,rfl,s2,dv2,ok⟩
   ·exact fin _ _ ⟨v,k,n,rws,rfl,s2.trans s3,dv3,ok3⟩
  rintro σ H3 ⟨cv,k,n,rows,rfl,s3,dv3,ok⟩
  have t3:=t1.mono s3
  have hd3:=s3 _ _ hl
  obtain ⟨a0,b0,ss0,rfl,ha0,hb0,hss0⟩:=qay dv3
  have sl0:ss0.length=rows.length:=by rw [hss0.length,lM_]
  have s8:=ok.s8
  refine qaG fun U2 hU2=>?_
  refine ⟨_,gt ha0 (by decide) rfl,_,qcV hb0,?_⟩
  refine ⟨by omega,by omega,fun AS nAS=>?_⟩
  refine qbc (qaC 0 _) (fun i τ H4 ys=>(∃ v,τ=[v,some (.ref a0)])/\Same H3 H4/\H4 AS=some (.lst ys)/\ys.length<=i/\∃ as:List Int,ys=as.map V.int) (by rw [lM_,List.length_range];exact qaf (by omega)) ⟨⟨none,rfl⟩,Same.upd nAS,qaa,Nat.le_refl _,[],rfl⟩ ?_ ?_ ?_
  ·rintro i τ H4 ys hi ⟨_,s4,h4,yl,_⟩
   exact ⟨trivial,h4,yl⟩
  ·rintro i y τ H4 ys hi hy ⟨⟨v,rfl⟩,s4,h4,yl,as,rfl⟩ N hN
   rw [lM_,List.length_range] at hi
   obtain ⟨j,rfl⟩ : ∃ j:Int,y = .int j:=by
    rw [gM_] at hy
    obtain ⟨j,_,rfl⟩:=Option.map_eq_some_iff.mp hy
    exact ⟨_,rfl⟩
   refine ⟨k,n,rows,dv3.mono s4,ok,fun l5 qs5 H5 s5 nl5 hl5 rc5=>?_⟩
   refine ⟨qs5.map fun s=>((s:Nat):Int),by rw [hl5,List.map_map];rfl,?_⟩
   refine qaJ (fun _=>?_) (fun _=>?_)
   ·exact ⟨s5 _ _ h4,hN _ _ _ ⟨⟨_,rfl⟩,(s4.trans s5).own nAS,qaa,by rw [lA_];exact Nat.succ_le_succ yl,as++[j],by rw [List.map_append];rfl⟩⟩
   ·exact hN _ _ _ ⟨⟨_,rfl⟩,s4.trans s5,s5 _ _ h4,Nat.le_succ_of_le yl,as,rfl⟩
  rintro τ H4 ys ⟨_,s4,hAS,_,as,rfl⟩
  dsimp only [qah]
  subst hU2
  refine qis (fun σ H5=>∃ (du:Int),σ=[some (.ref a),some (.ref d0),some (.ref a0),some (.ref AS),some (.int du),none,none,none,none,none,none,none,none,none,none,none]/\Same H4 H5) ?_ (fun nx fin=>?_)
  rotate_left
  ·refine ⟨k,n,rows,dv3.mono s4,ok,fun H5 s5 _=>?_,fun m H5 s5 _=>?_⟩
   ·dsimp only [qah,qkk,tBU,tOp,tV,tC,qmc,qaS]
    refine qmg (by simp) ?_
    obtain ⟨x110,_,_,e110⟩:=dget ((s4.trans s5) _ _ hd3) (j:=110) (by decide)
    refine ⟨_,e110,(by decide:(0:Int) < 20),?_⟩
    exact fin _ _ ⟨_,rfl,s5⟩
   ·dsimp only [qah,qkk,tBU,tOp,tV,tC,qmc,qaS]
    refine qfR (by simp) ?_
    exact fin _ _ ⟨_,rfl,s5⟩
  rintro σ H5 ⟨du,rfl,s5⟩
  have S5:=s4.trans s5
  refine qaG fun U3 hU3=>?_
  refine ⟨⟨by decide,by decide,by decide⟩,⟨by decide,by decide,by decide⟩,lZ_ rfl,fun p0 hp0=>?_⟩
  have w0:=Same.upd (o:=.lst [.int 60,.int (10 ^ (6:Int).toNat),.int (10 ^ (25:Int).toNat)]) hp0
  have e0:upd H5 p0 (.lst [.int 60,.int (10 ^ (6:Int).toNat),.int (10 ^ (25:Int).toNat)]) p0=some (.lst [.int 60,.int (10 ^ (6:Int).toNat),.int (10 ^ (25:Int).toNat)]):=qaa
  dsimp only
  generalize upd H5 p0 (.lst [.int 60,.int (10 ^ (6:Int).toNat),.int (10 ^ (25:Int).toNat)])=H6 at w0 e0 ⊢
  have S6:=S5.trans w0
  obtain ⟨x111,_,_,e111⟩:=dget (S6 _ _ hd3) (j:=111) (by decide)
  obtain ⟨x112,_,_,e112⟩:=dget (S6 _ _ hd3) (j:=112) (by decide)
  have r0:=Int.emod_nonneg x111 (show (3:Int)≠0 by decide)
  have r1:=Int.emod_lt_of_pos x111 (show (0:Int) < 3 by decide)
  obtain ⟨m,em⟩ : ∃ m:Int,[V.int 60,.int (10 ^ (6:Int).toNat),.int (10 ^ (25:Int).toNat)][(x111 % 3).toNat]? = some (.int m):=by
   generalize x111 % 3=r at r0 r1 ⊢
   have:r=0\/r=1\/r=2:=by omega
   rcases this with rfl | rfl | rfl<;>exact ⟨_,rfl⟩
  refine ⟨_,e111,(by decide:(0:Int) < 3),.int m,gl e0 r0 em,_,e112,?_⟩
  dsimp only [qah,qb4]
  generalize m+x112=fr
  subst hU3
  refine qaG fun U4 hU4=>?_
  obtain ⟨x113,_,_,e113⟩:=dget (S6 _ _ hd3) (j:=113) (by decide)
  obtain ⟨x114,_,_,e114⟩:=dget (S6 _ _ hd3) (j:=114) (by decide)
  refine ⟨_,e113,(by decide:(0:Int) < 20),_,e114,(by decide:(0:Int) < 30),lZ_ rfl,fun NB nNB=>?_⟩
  have W:=Same.upd (o:=.lst [.int du,.int (du - 1),.int (du+1),.int (du+x113 % 20),.int (x114 % 30 - 2)]) nNB
  have hNB:upd H6 NB (.lst [.int du,.int (du - 1),.int (du+1),.int (du+x113 % 20),.int (x114 % 30 - 2)]) NB=some (.lst ([du,du - 1,du+1,du+x113 % 20,x114 % 30 - 2].map V.int)):=qaa
  have nl5:[du,du - 1,du+1,du+x113 % 20,x114 % 30 - 2].length=5:=rfl
  dsimp only [qah,qb4]
  generalize [du,du - 1,du+1,du+x113 % 20,x114 % 30 - 2]=nbs at hNB nl5
  generalize upd H6 NB (.lst [.int du,.int (du - 1),.int (du+1),.int (du+x113 % 20),.int (x114 % 30 - 2)])=H9 at W hNB ⊢
  subst hU4
  have S9:=S6.trans W
  have t9:=t3.mono S9
  refine qaG fun U5 hU5=>?_
  refine ⟨k,n,rows,ds,70,dv3.mono S9,ok,t9,S9 _ _ hd3,rfl,by omega,drn,fun PL xs H10 s10 t10 hPL xl1 xl5 pz=>?_⟩
  have k10:=SameT.kp t9 s10
  have dv10:=(dv3.mono S9).monoT t9 s10
  have hd10:=k10.lst (S9 _ _ hd3)
  refine ⟨k,n,rows,ds,70,dv10,ok,t10,hd10,rfl,by omega,drn,fun PL2 xs2 H11 s11 t11 hPL2 x21 x25 pz2=>?_⟩
  have k11:=SameT.kp t10 s11
  obtain ⟨pp,zs2,ep2,_,zl2,pw2⟩:=pz2 _ (List.getElem_mem (show 0 < xs2.length by omega))
  refine ⟨.ref pp,gl hPL2 (by decide) (by rw [<-ep2];exact gE_ (show 0 < xs2.length by omega)),?_⟩
  have z16:=pw2.2.1
  refine ⟨⟨_,SqL.of pw2.1⟩,fun C hC=>?_⟩
  refine qbc (qag _ pp zs2) (fun i τ H5 ys=>(∃ v,τ=[v,some (.int fr)])/\Same H11 H5/\H5 C=some (.lst ys)/\ys.length=i/\∀ y∈ys,Rw T1 H5 y) (qaf (by omega)) ⟨⟨none,rfl⟩,Same.upd hC,qaa,rfl,fun y hy=>nomatch hy⟩ ?_ ?_ ?_
  ·rintro i τ H5 ys hi ⟨_,s5,h5,yl,_⟩
   exact ⟨SqL.of (s5 _ _ pw2.1),h5,by omega⟩
  ·rintro i x τ H5 ys hi hx ⟨⟨v,rfl⟩,s5,h5,yl,al⟩ N hN
   obtain ⟨t,x1,x2,x3,rfl,ht,hT⟩:=pw2.2.2 _ (mO_ hx)
   have ht5:=s5 _ _ ht
   refine ⟨_,gt ht5 (by decide) rfl,_,gt ht5 (by decide) rfl,lZ_ rfl,fun p hp=>?_⟩
   exact ⟨by rw [qac (qab h5 hp)];exact h5,hN _ _ _ ⟨⟨_,rfl⟩,(s5.trans (Same.upd hp)).own hC,qaa,by simp [yl],qbM h5 hp al hT⟩⟩
  rintro τ H12 ysC ⟨_,s12,hC12,ylC,alC⟩
  refine ⟨lZ_ rfl,fun m3 hm3=>?_⟩
  have w4:=Same.upd (o:=.lst [.ref C]) hm3
  refine ⟨_,_,(s12.trans w4) _ _ (k11.lst hPL),qaa,qaf (by rw [List.length_singleton];omega),fun PB nPB=>?_⟩
  have w5:=Same.upd (o:=.lst (xs++[.ref C])) nPB
  have W2:=(s12.trans w4).trans w5
  have hPB:upd (upd H12 m3 (.lst [.ref C])) PB (.lst (xs++[.ref C])) PB=some (.lst (xs++[.ref C])):=qaa
  have pwB:∀ x∈xs++[V.ref C],∃ n zs,x = .ref n/\Pw T1 (upd (upd H12 m3 (.lst [.ref C])) PB (.lst (xs++[.ref C]))) n zs 16/\2<=zs.length:=fun x hx=>by
   rcases mA_ hx with z | z
   ·obtain ⟨p,bz,e,_,l2,h⟩:=pz x z
    exact ⟨p,bz,e,(h.kp k11).mono W2,l2⟩
   ·exact ⟨C,ysC,mS_ z,⟨(w4.trans w5) _ _ hC12,by omega,fun y hy=>(alC y hy).keep fun _ _ e=>(w4.trans w5) _ _ e⟩,by omega⟩
  have pl6:(xs++[V.ref C]).length<=6:=by rw [lA_,List.length_singleton];omega
  dsimp only [qah]
  generalize xs++[V.ref C]=pbs at hPB pwB pl6 W2 ⊢
  generalize upd (upd H12 m3 (.lst [.ref C])) PB (.lst pbs)=H13 at W2 hPB pwB ⊢
  subst hU5
  have dv11:=dv10.monoT t10 s11
  have dv13:=dv11.mono W2
  refine qaG fun U6 hU6=>?_
  refine ⟨k,n,rows,dv13,ok.s8,fun ah bh qh H14 s14 nah C14=>?_⟩
  have dvh:=C14.dv
  have dvB:=dv13.mono s14
  have tB:=t11.mono (W2.trans s14)
  have kB:Kp H9 H14:=fun b o n e=>(W2.trans s14) _ _ (k11 b o n (k10 b o n e))
  have hdB:=kB.lst (S9 _ _ hd3)
  have hASB:=kB.lst (((s5.trans w0).trans W) _ _ hAS)
  have hNBB:=kB.lst hNB
  have hPBB:=s14 _ _ hPB
  have pwBB:∀ x∈pbs,∃ n zs,x = .ref n/\Pw T1 H14 n zs 16/\2<=zs.length:=fun x hx=>let ⟨n,zs,e,a,b⟩:=pwB x hx;⟨n,zs,e,a.mono s14,b⟩
  clear pwB hNB hPB hAS pz pz2 C14 alC pw2
  have dgi:∀ {Hx:Hp} {j:Int},Kp H14 Hx->0<=j->j < 130->∃ x:Int,0<=x/\x < 10007/\qcb Hx (.ref d0) j=some (.int x):=fun {Hx j} kx h0 h1=>by
   obtain ⟨x,a1,a2,a3⟩:=dget (kx.lst hdB) (j:=j.toNat) (by omega)
   exact ⟨x,a1,a2,by rw [show j=((j.toNat:Nat):Int) by omega];exact a3⟩
  dsimp only [qah]
  subst hU6
  refine ⟨_,qcV hPBB,by omega,by omega,?_⟩
  refine qeg (qaC 0 _) (LA a d0 a0 AS NB PB ah P0 du fr H14)
   ⟨none,none,none,none,none,none,none,rfl,SameT.refl _ _,tB⟩ (fun _ _ _ _ _=>trivial) ?_ ?_
  rotate_left
  ·rintro σ H15 ⟨_,_,_,_,_,_,_,rfl,_,_⟩
   exact q _
  rintro i y σ H15 hi hy ⟨v9,v10,v11,v12,v13,v14,v15,rfl,s15,t15⟩ N1 b1 hN1
  rw [lM_,List.length_range] at hi
  have hi:i < pbs.length:=by omega
  have ey:y=V.int (i:Nat):=by
   rw [gM_,List.getElem?_range (by omega)] at hy
   have:=oI_ hy
   rw [<-this];simp
  subst ey
  have k15:=SameT.kp tB s15
  obtain ⟨pn,zs,epn,pw0,z1⟩:=pwBB _ (List.getElem_mem hi)
  have pw15:=pw0.kp k15
  refine qaG fun U7 hU7=>?_
  refine ⟨.ref pn,gl (k15.lst hPBB) (by omega) (by rw [Int.toNat_natCast,gE_ hi,epn]),?_⟩
  obtain ⟨xa,xa0,_,exa⟩:=dgi k15 (j:=90+2 * ((i:Nat):Int)) (by omega) (by omega)
  dsimp only [qah]
  subst hU7
  refine qaG fun U8 hU8=>?_
  refine ⟨.inl ⟨by decide,by decide⟩,_,exa,zs,pw15,by omega,xa0,fun l1 zs1 H16 s16 pw1=>?_⟩
  have k16:Kp H14 H16:=fun b o n e=>s16 _ _ (k15 b o n e)
  obtain ⟨xb,xb0,_,exb⟩:=dgi k16 (j:=91+2 * ((i:Nat):Int)) (by omega) (by omega)
  refine ⟨.inl ⟨by decide,by decide⟩,_,exb,zs,pw15.mono s16,by omega,xb0,fun l2 zs2 H17 s17 pw2=>?_⟩
  have pw1:=pw1.mono s17
  refine ⟨lZ_ rfl,fun SL nSL=>?_⟩
  have u1:=Same.upd (o:=.lst [.ref pn,.ref l1,.ref l2]) nSL
  have hSL:upd H17 SL (.lst [.ref pn,.ref l1,.ref l2]) SL=some (.lst [.ref pn,.ref l1,.ref l2]):=qaa
  have pw1:=pw1.mono u1
  have pw2:=pw2.mono u1
  have pw18:=((pw15.mono s16).mono s17).mono u1
  have V18:=(s16.trans s17).trans u1
  dsimp only [qah]
  generalize upd H17 SL (.lst [.ref pn,.ref l1,.ref l2])=H18 at u1 hSL pw1 pw2 pw18 V18 ⊢
  subst hU8
  have k18:Kp H14 H18:=fun b o n e=>V18 _ _ (k15 b o n e)
  obtain ⟨xc,xc0,_,exc⟩:=dgi k18 (j:=115+((i:Nat):Int)) (by omega) (by omega)
  refine ⟨_,exc,zs,as,pw18,z1,xc0,k18.lst hASB,fun l3 zs3 H19 s19 pw3=>?_⟩
  refine ⟨lZ_ rfl,fun m4 hm4=>?_⟩
  have u2:=Same.upd (o:=.lst [.ref l3]) hm4
  refine ⟨_,_,(s19.trans u2) _ _ hSL,qaa,lZ_ rfl,fun L4 nL4=>?_⟩
  have u3:=Same.upd (o:=.lst ([.ref pn,.ref l1,.ref l2]++[.ref l3])) nL4
  have hL4:upd (upd H19 m4 (.lst [.ref l3])) L4 (.lst ([.ref pn,.ref l1,.ref l2]++[.ref l3])) L4=some (.lst ([.ref pn,.ref l1,.ref l2]++[.ref l3])):=qaa
  have U:=(s19.trans u2).trans u3
  have px:∀ y∈[V.ref pn,V.ref l1,V.ref l2]++[V.ref l3],Px (upd (upd H19 m4 (.lst [.ref l3])) L4 (.lst ([.ref pn,.ref l1,.ref l2]++[.ref l3]))) y:=fun y hy=>by
   simp only [List.cons_append,List.nil_append,List.mem_cons,List.not_mem_nil,or_false] at hy
   rcases hy with rfl | rfl | rfl | rfl
   ·exact ((pw18.imp fun _=>T1.t0).mono U).px (by decide)
   ·exact (pw1.mono U).px (by decide)
   ·exact (pw2.mono U).px (by decide)
   ·exact ((pw3.mono u2).mono u3).px (by decide)
  have ol:([V.ref pn,V.ref l1,V.ref l2]++[V.ref l3]).length=4:=rfl
  generalize [V.ref pn,V.ref l1,V.ref l2]++[V.ref l3]=ones at hL4 px ol u3 U ⊢
  generalize upd (upd H19 m4 (.lst [.ref l3])) L4 (.lst ones)=H20 at hL4 px U ⊢
  have t20:=(t15.mono V18).mono U
  have S20:=s15.trans (V18.trans U).t
  refine ⟨⟨_,SqL.of hL4⟩,?_⟩
  refine qeg (qag _ L4 ones) (LB a d0 a0 AS NB PB ah pn SL P0 du fr i H20)
   ⟨v12,v13,v14,v15,rfl,SameT.refl _ _,t20⟩ (fun j σ H21 _ ⟨_,_,_,_,_,s21,_⟩=>SqL.of ((SameT.kp t20 s21).lst hL4)) ?_ ?_
  rotate_left
  ·rintro σ H21 ⟨v12,v13,v14,v15,rfl,s21,t21⟩
   exact hN1 _ _ ⟨_,_,_,_,_,_,_,rfl,S20.trans s21,t21⟩
  rintro j y σ H21 hj hy ⟨v12,v13,v14,v15,rfl,s21,t21⟩ N2 b2 hN2
  have k21:=SameT.kp t20 s21
  obtain ⟨on,zo,rfl,pwo⟩:=px y (mO_ hy)
  have pwo:=pwo.kp k21
  have k20:Kp H14 H21:=SameT.kp tB (S20.trans s21)
  obtain ⟨xd,xd0,_,exd⟩:=dgi k20 (j:=122+((i:Nat):Int)) (by omega) (by omega)
  have gN:∀ {z:Int},0<=z->z < 5->∃ v:Int,qcb H21 (.ref NB) z=some (.int v):=fun {z} h0 h1=>by
   have il:z.toNat < nbs.length:=by omega
   exact ⟨nbs[z.toNat],gl (k20.lst hNBB) h0 (by rw [gM_,gE_ il];rfl)⟩
  have m0:=Int.emod_nonneg ((i:Nat):Int) (show (5:Int)≠0 by decide)
  have m1:=Int.emod_lt_of_pos ((i:Nat):Int) (show (0:Int) < 5 by decide)
  obtain ⟨w1',gw1⟩:=gN (z:=((i:Nat):Int) % 5) m0 m1
  obtain ⟨w2',gw2⟩:=gN (z:=0) (by decide) (by decide)
  obtain ⟨w3',gw3⟩:=gN (z:=3) (by decide) (by decide)
  dsimp only [qah]
  refine ⟨(by decide:(0:Int) < 5),_,gw1,_,gw2,_,gw3,(by decide:(0:Int) < 7),lZ_ rfl,fun L5' nL5'=>?_⟩
  have u5':=Same.upd (o:=.lst [.int w1',.int w2',.int w3',.int (fr+((i:Nat):Int) % 7)]) nL5'
  have hL5':upd H21 L5' (.lst [.int w1',.int w2',.int w3',.int (fr+((i:Nat):Int) % 7)]) L5'=some (.lst ([w1',w2',w3',fr+((i:Nat):Int) % 7].map V.int)):=qaa
  have n4:[w1',w2',w3',fr+((i:Nat):Int) % 7].length=4:=rfl
  generalize [w1',w2',w3',fr+((i:Nat):Int) % 7]=fours at hL5' n4
  generalize upd H21 L5' (.lst [.int w1',.int w2',.int w3',.int (fr+((i:Nat):Int) % 7)])=H21' at u5' hL5' ⊢
  obtain ⟨xd',_,_,exd'⟩:=dgi (fun b o n e=>u5' _ _ (k20 b o n e)) (j:=122+((i:Nat):Int)) (by omega) (by omega)
  refine ⟨_,exd',(by decide:(0:Int) < 3),_,hL5',fun L5 nL5=>?_⟩
  have u5:=u5'.trans (Same.upd (o:=.lst (cutV (fours.map V.int) none (some (2+xd' % 3)))) nL5)
  have hL5:upd H21' L5 (.lst (cutV (fours.map V.int) none (some (2+xd' % 3)))) L5=some (.lst (cutV (fours.map V.int) none (some (2+xd' % 3)))):=qaa
  have al5:∀ y∈cutV (fours.map V.int) none (some (2+xd' % 3)),∃ z:Int,y = .int z:=fun y hy=>by
   obtain ⟨z,_,e⟩:=mM_ (List.mem_of_mem_drop (List.mem_of_mem_take hy))
   exact ⟨z,e.symm⟩
  have cl5:=qaK (fours.map V.int) none (some (2+xd' % 3))
  rw [lM_] at cl5
  generalize cutV (fours.map V.int) none (some (2+xd' % 3))=cs at nL5 u5 hL5 al5 cl5 ⊢
  generalize upd H21' L5 (.lst cs)=H22 at u5 hL5 ⊢
  have t22:=t21.mono u5
  have S22:=(S20.trans s21).trans u5.t
  have pwo22:=pwo.mono u5
  refine ⟨⟨_,SqL.of hL5⟩,?_⟩
  refine qeg (qag _ L5 cs) (LC a d0 a0 AS NB PB ah pn SL on P0 du fr i H22)
   ⟨v13,v14,v15,rfl,SameT.refl _ _,t22⟩ (fun m σ H23 _ ⟨_,_,_,_,s23,_⟩=>SqL.of ((SameT.kp t22 s23).lst hL5)) ?_ ?_
  rotate_left
  ·rintro σ H23 ⟨v13,v14,v15,rfl,s23,t23⟩
   exact hN2 _ _ ⟨_,_,_,_,rfl,(s21.trans u5.t).trans s23,t23⟩
  rintro m' y σ H23 hm hy ⟨v13,v14,v15,rfl,s23,t23⟩ N3 b3 hN3
  have S23:=S22.trans s23
  have k23:=SameT.kp tB S23
  obtain ⟨num,rfl⟩:=al5 y (mO_ hy)
  have pwo23:=pwo22.kp (SameT.kp t22 s23)
  refine qaG fun U9 hU9=>?_
  refine ⟨zo,.inl pwo23.1,fun hd nhd=>?_⟩
  obtain ⟨ho,zl,alo⟩:=pwo23
  obtain ⟨ps,dps,tps⟩:=qfo alo
  have pl:ps.length<=50:=by have:=dps.length;rw [lM_] at this;omega
  have u6:=Same.upd (o:=.lst zo) nhd
  have hhd:upd H23 hd (.lst zo) hd=some (.lst zo):=qaa
  have ho:=u6 _ _ ho
  have dps:=dps.mono u6
  have t24:=t23.mono u6
  have S24:=S23.trans u6.t
  dsimp only [qah]
  generalize upd H23 hd (.lst zo)=H24 at u6 hhd ho dps t24 S24 ⊢
  subst hU9
  refine ⟨k,n,rows,ps,dvh.monoT tB S24,ok,t24,.lst hhd dps,pl,tps,fun bb1 H25 s25 t25 iff1=>?_⟩
  have k25:=SameT.kp t24 s25
  have S25:=S24.trans s25
  have dps25:DVs H25 zo (ps.map qbe):=qdT dps fun b ys e=>k25.tup e
  refine ⟨"bool",rfl,by decide,?_⟩
  refine qaJ (fun z=>absurd z (by decide)) (fun _=>?_)
  refine ⟨k,n,rows,ps,dvB.monoT tB S25,ok,.lst (k25.lst ho) dps25,pl,tps,fun bb2 H26 s26 iff2=>?_⟩
  have eb:bb1=bb2:=Bool.eq_iff_iff.mpr (iff1.trans iff2.symm)
  subst eb
  refine qaJ (fun z=>absurd z (by simp)) (fun _=>?_)
  have S26:=S25.trans s26.t
  refine ⟨_,_,DV.lst (s26 _ _ (k25.lst hhd)) (dps25.mono s26),DV.lst (s26 _ _ (k25.lst ho)) (dps25.mono s26),qeZ tps,qeZ tps,?_⟩
  have pe:=qe0 tps
  unfold qcl at pe
  rw [pe]
  refine qaJ (fun z=>absurd z (by decide)) (fun _=>?_)
  refine ⟨_,_,dvh.monoT tB S26,dvB.monoT tB S26,qbv _ _ _,qbv _ _ _,?_⟩
  rw [qhn]
  refine qaJ (fun z=>absurd z (by decide)) (fun _=>?_)
  exact hN3 _ _ ⟨_,_,_,rfl,((s23.trans u6.t).trans s25).trans s26.t,t25.mono s26⟩
 ·exact h.elim
end
end K14
end
section
namespace K14
open PySem L2
theorem qbl {K:PySem.W.Frag} {h:Heap} {mg:Str->Option Value} {x:Str} {st:Stmt} {p0:Str} (D:DefIn K x st) (X:K.In h) (G:h.Ns mainGlobals mg)
  (hb:∀ (kV doc pm:Value) (an:Option Addr) (cdv ct:Value) (a0:Value),bindArgs (PySem.W.fnOf x x (qaw st) (qar st) (qad st) .none kV doc pm an cdv ct) ⟨[a0],[]⟩=pure ([p0].zip [a0])):FnX K mg x st [p0]:=
 D.fnX X G fun kV doc pm an cdv ct us hl=>match us,hl with
  | [a0],_=>hb kV doc pm an cdv ct a0
theorem qbY {K:PySem.W.Frag} {h:Heap} {mg:Str->Option Value} {x:Str} {st:Stmt} {p0 p1:Str} (D:DefIn K x st) (X:K.In h) (G:h.Ns mainGlobals mg)
  (hb:∀ (kV doc pm:Value) (an:Option Addr) (cdv ct:Value) (a0 a1:Value),bindArgs (PySem.W.fnOf x x (qaw st) (qar st) (qad st) .none kV doc pm an cdv ct) ⟨[a0,a1],[]⟩=pure ([p0,p1].zip [a0,a1])):FnX K mg x st [p0,p1]:=
 D.fnX X G fun kV doc pm an cdv ct us hl=>match us,hl with
  | [a0,a1],_=>hb kV doc pm an cdv ct a0 a1
theorem qdD {K:PySem.W.Frag} {h:Heap} {mg:Str->Option Value} {x:Str} {st:Stmt} {p0 p1 p2:Str} (D:DefIn K x st) (X:K.In h) (G:h.Ns mainGlobals mg)
  (hb:∀ (kV doc pm:Value) (an:Option Addr) (cdv ct:Value) (a0 a1 a2:Value),bindArgs (PySem.W.fnOf x x (qaw st) (qar st) (qad st) .none kV doc pm an cdv ct) ⟨[a0,a1,a2],[]⟩=pure ([p0,p1,p2].zip [a0,a1,a2])):FnX K mg x st [p0,p1,p2]:=
 D.fnX X G fun kV doc pm an cdv ct us hl=>match us,hl with
  | [a0,a1,a2],_=>hb kV doc pm an cdv ct a0 a1 a2
theorem qm2 {K:PySem.W.Frag} {h:Heap} {mg:Str->Option Value} {x:Str} {st:Stmt} {p0 p1 p2 p3:Str} (D:DefIn K x st) (X:K.In h) (G:h.Ns mainGlobals mg)
  (hb:∀ (kV doc pm:Value) (an:Option Addr) (cdv ct:Value) (a0 a1 a2 a3:Value),bindArgs (PySem.W.fnOf x x (qaw st) (qar st) (qad st) .none kV doc pm an cdv ct) ⟨[a0,a1,a2,a3],[]⟩=pure ([p0,p1,p2,p3].zip [a0,a1,a2,a3])):FnX K mg x st [p0,p1,p2,p3]:=
 D.fnX X G fun kV doc pm an cdv ct us hl=>match us,hl with
  | [a0,a1,a2,a3],_=>hb kV doc pm an cdv ct a0 a1 a2 a3
theorem qm1 {K:PySem.W.Frag} {h:Heap} {mg:Str->Option Value} {x:Str} {st:Stmt} {p0 p1 p2 p3 p4:Str} (D:DefIn K x st) (X:K.In h) (G:h.Ns mainGlobals mg)
  (hb:∀ (kV doc pm:Value) (an:Option Addr) (cdv ct:Value) (a0 a1 a2 a3 a4:Value),bindArgs (PySem.W.fnOf x x (qaw st) (qar st) (qad st) .none kV doc pm an cdv ct) ⟨[a0,a1,a2,a3,a4],[]⟩=pure ([p0,p1,p2,p3,p4].zip [a0,a1,a2,a3,a4])):FnX K mg x st [p0,p1,p2,p3,p4]:=
 D.fnX X G fun kV doc pm an cdv ct us hl=>match us,hl with
  | [a0,a1,a2,a3,a4],_=>hb kV doc pm an cdv ct a0 a1 a2 a3 a4
def qj6 (K:PySem.W.Frag) (x:Str) (xs:List V):Prop:=∃ (a:Addr) (o:Obj) (its:Array Value) (n:Nat),PySem.W.nsIn K mainGlobals x=some (some (.ref a))/\K.lookup a=some o/\o.cls = .type "tuple"/\o.data = .seq its n/\its.size<=sizeLine/\Vals xs its.toList
theorem tp_mk {K:PySem.W.Frag} {x:Str} {xs:List V} {v:Value} {a:Addr} {o:Obj} {its:Array Value} {n:Nat} (h:PySem.W.nsIn K mainGlobals x=some (some v)) (e:v = .ref a) (l:K.lookup a=some o) (c:o.cls = .type "tuple") (d:o.data = .seq its n) (z:its.size<=sizeLine) (r:Vals xs its.toList):qj6 K x xs:=⟨a,o,its,n,by rw [h,e],l,c,d,z,r⟩
theorem qmw {K:PySem.W.Frag} {h:Heap} {mg:Str->Option Value} (X:K.In h) (G:h.Ns mainGlobals mg) (t:qj6 K "SIGNS" [.str "0",.str "1"]):∃ a,SgT K mg a:=by
 obtain ⟨a,o,its,n,h1,h2,h3,h4,h5,h6⟩:=t
 have e0:bs [false] = "0" := by decide +kernel
 have e1:bs [true] = "1" := by decide +kernel
 refine ⟨a,PySem.W.mg_of X G h1,fun H=>?_⟩
 rw [e0,e1]
 exact .inr ⟨o,its,n,h2,h3,h4,h5,h6⟩
theorem all_mk {l:PySem.W.OpenLaw} {w:World} {K:PySem.W.Frag} {h:Heap} {mg:Str->Option Value} {fa:Addr} (X:K.In h) (G:h.Ns mainGlobals mg) (hfa:mg "law" = some (.ref fa))
  (d1:DefIn K "texts_from" qdX) (d2:DefIn K "state_texts" qkA) (d3:DefIn K "reached" qcp) (d4:DefIn K "put_behind" qmB) (d5:DefIn K "paper_keys" qiH) (d6:DefIn K "greatest_peak" qiD) (d7:DefIn K "runs_over" qiF) (d8:DefIn K "greatest_runs" sGR) (d9:DefIn K "standing_steps" qmA) (d10:DefIn K "layer_behind" qmD) (d11:DefIn K "layers_of" qmC) (d12:DefIn K "comes_back" sCB) (d13:DefIn K "longest_walk" qix) (d14:DefIn K "first_return" qfm) (d15:DefIn K "loop_of" qmE) (d16:DefIn K "standing_loop" qfi) (d17:DefIn K "still_paper" qiB) (d18:DefIn K "is_whole" qiI) (d19:DefIn K "is_paper_row" qiE) (d20:DefIn K "is_paper" qfl) (d21:DefIn K "still_shows" qiz) (d22:DefIn K "_law_runs" qiC) (d23:DefIn K "_law_most" qfj) (d24:DefIn K "_law_come_to" qiL) (d25:DefIn K "_law_shows" qmF) (d26:DefIn K "_law_draws" qfn) (d27:DefIn K "_law_behind" qmG) (d28:DefIn K "_law_some" qiA) (d29:DefIn K "_law_code" qfk) (d30:DefIn K "_law_copy" qiK) (d31:DefIn K "_law_wider" qiw) (d32:DefIn K "_law_ends" qiJ) (d33:DefIn K "_law_papers" qdq) (d34:DefIn K "_law_bent" qiM) (d35:DefIn K "_law_torn" qiy) (dl:DefIn K "law" qiG) {c0 P0:Addr} (ht:PySem.W.tabIn K "state_texts" = some (c0,P0))
  (z1:PySem.W.nsIn K mainGlobals "len" = some none) (z2:PySem.W.nsIn K mainGlobals "range" = some none) (z3:PySem.W.nsIn K mainGlobals "isinstance" = some none) (z4:PySem.W.nsIn K mainGlobals "int" = some none) (z5:PySem.W.nsIn K mainGlobals "bool" = some none) (z6:PySem.W.nsIn K mainGlobals "list" = some none) (z7:PySem.W.nsIn K mainGlobals "tuple" = some none) (z8:PySem.W.nsIn K mainGlobals "str" = some none) (z9:PySem.W.nsIn K mainGlobals "max" = some none) (z10:PySem.W.nsIn K mainGlobals "min" = some none) (z11:PySem.W.nsIn K mainGlobals "enumerate" = some none) (z12:PySem.W.nsIn K mainGlobals "sorted" = some none) (z13:PySem.W.nsIn K mainGlobals "abs" = some none) (z14:PySem.W.nsIn K mainGlobals "dict" = some none) (z15:PySem.W.nsIn K mainGlobals "reversed" = some none) (z16:PySem.W.nsIn K mainGlobals "all" = some none) (tp1:qj6 K "SIGNS" [.str "0",.str "1"]) :
  ∃ fd:FuncData,(∀ (s:Shared) (v:Value),BindsTo s fd ⟨[v],[]⟩ [("script",v)])/\∀ base:Heap,K.In base->base.Ns mainGlobals mg->Maker mg base c0 P0->FnOk l.prog w K mg base CX0 9 fa fd ["script"] (qe9 P0 K):=by
 obtain ⟨f,oc,od,an,osl,kV,dc,pm,cd,ct,h1,h2,h3,h4⟩:=dl
 have e:=hfa.symm.trans (PySem.W.mg_of X G h1)
 cases e
 have F:=qhT (st:=qiG) h2 h3 h4
 refine ⟨PySem.W.fnOf "law" "law" (qaw qiG) (qar qiG) (qad qiG) .none kV dc pm an cd ct,fun s v=>.of_eq rfl,fun base _ _ M=>?_⟩
 have z_len:=PySem.W.mg_none_of X G z1
 have z_range:=PySem.W.mg_none_of X G z2
 have z_isinstance:=PySem.W.mg_none_of X G z3
 have z_int:=PySem.W.mg_none_of X G z4
 have z_bool:=PySem.W.mg_none_of X G z5
 have z_list:=PySem.W.mg_none_of X G z6
 have z_tuple:=PySem.W.mg_none_of X G z7
 have z_str:=PySem.W.mg_none_of X G z8
 have z_max:=PySem.W.mg_none_of X G z9
 have z_min:=PySem.W.mg_none_of X G z10
 have z_enumerate:=PySem.W.mg_none_of X G z11
 have z_sorted:=PySem.W.mg_none_of X G z12
 have z_abs:=PySem.W.mg_none_of X G z13
 have z_dict:=PySem.W.mg_none_of X G z14
 have z_reversed:=PySem.W.mg_none_of X G z15
 have z_all:=PySem.W.mg_none_of X G z16
 obtain ⟨aS,sg⟩:=qmw X G tp1
 have x_tf:=qbY d1 X G (fun _ _ _ _ _ _ _ _=>rfl)
 have c_stT:=qlj (P:=l.prog) (w:=w) (base:=base) (FnC.of d2 ht X G (fun kV doc pm an cdv ct us hl=>match us,hl with | [_],_=>rfl)) x_tf z_len z_enumerate M
 have c_reached:=qey (P:=l.prog) (w:=w) (base:=base) (qbl d3 X G (fun _ _ _ _ _ _ _=>rfl)) z_sorted c_stT
 have c_put:=qll (P:=l.prog) (w:=w) (base:=base) (qdD d4 X G (fun _ _ _ _ _ _ _ _ _=>rfl)) z_max
 have c_keys:=qjt (P:=l.prog) (w:=w) (base:=base) (qbl d5 X G (fun _ _ _ _ _ _ _=>rfl)) sg c_reached
 have c_peak:=qjr (P:=l.prog) (w:=w) (base:=base) (qbY d6 X G (fun _ _ _ _ _ _ _ _=>rfl)) z_max c_put
 have c_over:=qjs (P:=l.prog) (w:=w) (base:=base) (qbY d7 X G (fun _ _ _ _ _ _ _ _=>rfl)) c_put
 have c_gr:=qmR (P:=l.prog) (w:=w) (base:=base) (qbl d8 X G (fun _ _ _ _ _ _ _=>rfl)) c_keys c_over
 have c_stS:=qlk (P:=l.prog) (w:=w) (base:=base) (qdD d9 X G (fun _ _ _ _ _ _ _ _ _=>rfl)) z_enumerate
 have c_lyB:=qln (P:=l.prog) (w:=w) (base:=base) (qbY d10 X G (fun _ _ _ _ _ _ _ _=>rfl))
 have c_lyO:=qlm (P:=l.prog) (w:=w) (base:=base) (qbY d11 X G (fun _ _ _ _ _ _ _ _=>rfl)) z_len c_lyB
 have c_cb:=qmS (P:=l.prog) (w:=w) (base:=base) (qbY d12 X G (fun _ _ _ _ _ _ _ _=>rfl)) z_len
 have c_walk:=qjk (P:=l.prog) (w:=w) (base:=base) (qbl d13 X G (fun _ _ _ _ _ _ _=>rfl)) z_list z_reversed
 have c_first:=qg3 (P:=l.prog) (w:=w) (base:=base) (qbl d14 X G (fun _ _ _ _ _ _ _=>rfl)) z_enumerate
 have c_lpO:=qlp (P:=l.prog) (w:=w) (base:=base) (qbl d15 X G (fun _ _ _ _ _ _ _=>rfl)) c_first
 have c_stand:=qgZ (P:=l.prog) (w:=w) (base:=base) (qbl d16 X G (fun _ _ _ _ _ _ _=>rfl)) sg c_reached c_stS c_lyO c_cb c_lpO c_walk
 have c_spap:=qjn (P:=l.prog) (w:=w) (base:=base) (qbl d17 X G (fun _ _ _ _ _ _ _=>rfl)) c_stand c_gr c_keys
 have c_isWh:=qju (P:=l.prog) (w:=w) (base:=base) (qbl d18 X G (fun _ _ _ _ _ _ _=>rfl)) z_isinstance z_int z_bool
 have c_prow:=qjq (P:=l.prog) (w:=w) (base:=base) (qbl d19 X G (fun _ _ _ _ _ _ _=>rfl)) z_isinstance z_tuple z_len z_str c_isWh
 have c_isPap:=qg2 (P:=l.prog) (w:=w) (base:=base) (qbY d20 X G (fun _ _ _ _ _ _ _ _=>rfl)) z_isinstance z_list z_all c_prow c_keys
 have c_stsh:=qjm (P:=l.prog) (w:=w) (base:=base) (qdD d21 X G (fun _ _ _ _ _ _ _ _ _=>rfl)) c_isWh c_isPap c_peak c_over
 have c_runs:=qjp (P:=l.prog) (w:=w) (base:=base) (qdD d22 X G (fun _ _ _ _ _ _ _ _ _=>rfl)) z_max
 have c_lmost:=qg0 (P:=l.prog) (w:=w) (base:=base) (qbl d23 X G (fun _ _ _ _ _ _ _=>rfl)) z_len z_max c_runs
 have c_come:=qjx (P:=l.prog) (w:=w) (base:=base) (qbl d24 X G (fun _ _ _ _ _ _ _=>rfl)) z_len z_sorted
 have c_lsh:=qlo (P:=l.prog) (w:=w) (base:=base) (qdD d25 X G (fun _ _ _ _ _ _ _ _ _=>rfl)) c_come c_runs
 have c_draws:=qg4 (P:=l.prog) (w:=w) (base:=base) (qbY d26 X G (fun _ _ _ _ _ _ _ _=>rfl)) z_enumerate z_abs z_len z_range
 have c_beh:=qlr (P:=l.prog) (w:=w) (base:=base) (qm1 d27 X G (fun _ _ _ _ _ _ _ _ _ _ _=>rfl))
 have c_some:=qjo (P:=l.prog) (w:=w) (base:=base) (qm2 d28 X G (fun _ _ _ _ _ _ _ _ _ _=>rfl)) z_len
 have c_lcode:=qg1 (P:=l.prog) (w:=w) (base:=base) (qbY d29 X G (fun _ _ _ _ _ _ _ _=>rfl)) z_range z_len c_beh c_some
 have c_copy:=qjw (P:=l.prog) (w:=w) (base:=base) (qbl d30 X G (fun _ _ _ _ _ _ _=>rfl)) z_list
 have c_wide:=qjj (P:=l.prog) (w:=w) (base:=base) (qbY d31 X G (fun _ _ _ _ _ _ _ _=>rfl)) z_len
 have c_ends:=qjv (P:=l.prog) (w:=w) (base:=base) (qbl d32 X G (fun _ _ _ _ _ _ _=>rfl)) z_range z_len z_sorted z_max z_min c_come c_runs
 have c_papers:=qfE (P:=l.prog) (w:=w) (base:=base) (qdD d33 X G (fun _ _ _ _ _ _ _ _ _=>rfl)) z_sorted z_range z_len z_list c_ends c_spap
 have c_bent:=qjy (P:=l.prog) (w:=w) (base:=base) (qbY d34 X G (fun _ _ _ _ _ _ _ _=>rfl)) z_len
 have c_torn:=qjl (P:=l.prog) (w:=w) (base:=base) (qdD d35 X G (fun _ _ _ _ _ _ _ _ _=>rfl)) z_len z_sorted z_int
 exact qlq F z_range z_len z_list z_isinstance z_bool c_draws c_lcode c_wide c_come c_lmost c_papers c_copy c_bent c_torn c_stsh c_lsh
theorem walk {l:PySem.W.OpenLaw} {q:Program} {loose:List Str} {XP:(Str->Option Value)->Heap->Prop} {YP:World->Heap->Prop} {d:DefRec} {K:Params->PySem.W.Frag} {c0 P0:Addr} (hn:l.most=some 63) (hdf:d.params.defaults=[])
  (hY:∀ (w:World) (h:Heap),YP w h->(K w.params).In h) (hnt:∀ w:World,PySem.W.noTabs (K w.params)=true) (htb:∀ (w:World) (h:Heap),YP w h->h.get? P0=some (PySem.W.tabObj #[])) (hcd:∀ w:World,PySem.W.codeHdIn (K w.params) c0 P0=true) (ht0:∀ w:World,PySem.W.tabIn (K w.params) "state_texts" = some (c0,P0))
  (F:∀ (w:World) (mg:Str->Option Value) (fa:Addr) (h:Heap),(K w.params).In h->h.Ns mainGlobals mg->mg d.name=some (.ref fa) →
   ∃ fd:FuncData,(∀ (s:Shared) (u:Value),BindsTo s fd ⟨[u],[]⟩ [("script",u)])/\∀ base:Heap,(K w.params).In base->base.Ns mainGlobals mg->Maker mg base c0 P0->FnOk l.prog w (K w.params) mg base CX0 9 fa fd ["script"] (qe9 P0 (K w.params))) :
  PySem.W.WalkO q loose XP YP l.row.toRowW d [] (fun f vs=>PySem.call f vs):=
 L2.walk_ofT (n:=63) (k:=9) (x:= "script") (CX:=fun _=>CX0) (sp:=fun w=>qe9 P0 (K w.params)) hn (by decide) hdf ⟨rfl,by decide,by decide⟩ hY hnt htb hcd F (fun _ _ a ns hl hT hS=>⟨ns,hS,hl,.inl hT,fun _=>rfl⟩) fun _ _ _ _ _ z=>z
end K14
open PySem PySem.W PyProof.Rows
local macro_rules | `(tactic| walk_at "k_def")=>`(tactic| ((refine' L2.DefIn.mk ?a ?l ?c ?k);(case a=>k_is);(case l=>k_is);(case c=>k_is);(case k=>k_is)))
set_option maxRecDepth 100000 in
set_option maxHeartbeats 0 in
theorem PySem.Challenge.cw_ownbeat_k14_papers_let_by_or_not_holds : PySem.Challenge.rw_ownbeat_k14_papers_let_by_or_not.Holds := by
 w_on;o_law
 refine PySem.W.holds_open (q:=KH.V) (loose:=[]) (Xt:=(fun s=>xlAt KH.V [] s && recOk (RowW.records (OpenRow.toRowW KH.Rw.row)) s)) (N:=2452) (XP:=PySem.W.XL KH.V []) (Yf:=PySem.W.Hook.obs KH.hk) (Ya:=PySem.W.Hook.val KH.hk) (YP:=PySem.W.Hook.says KH.hk) ?hl (PySem.W.Hook.of KH.hk) (PySem.W.Hook.keeps KH.hk) (fun s e=>PySem.W.xl_of s (Bool.and_eq_true_iff.mp e).1) PySem.W.XL.keeps (by rfl) (by rfl) (by rfl) (fun s e=>PySem.W.recFacts_of (Bool.and_eq_true_iff.mp e).2) (by rfl) (by first | assumption | decide +kernel) (by decide +kernel) ⟨rfl,rfl,rfl,rfl,rfl,by decide +kernel⟩ ?hw ?hc
 (case hl=>exact KH.HL)
 (case hw=>w_witness2)
 delta KH.hk
 k_fill
 refine' K14.walk (l:=PySem.Challenge.rw_ownbeat_k14_papers_let_by_or_not) rfl rfl (fun w h Y=>PySem.W.km_in_of Y) ?nt ?tb ?cd ?t0 ?F
 (case t0=>intro w;exact rfl)
 (case nt=>intro w;exact rfl)
 (case tb=>intro w h Y;exact PySem.W.km_tabs_of Y _ (by decide))
 (case cd=>intro w;exact rfl)
 case F=>
  intro w mg fa h KX G hmg
  refine' K14.all_mk KX G hmg ?d1 ?d2 ?d3 ?d4 ?d5 ?d6 ?d7 ?d8 ?d9 ?d10 ?d11 ?d12 ?d13 ?d14 ?d15 ?d16 ?d17 ?d18 ?d19 ?d20 ?d21 ?d22 ?d23 ?d24 ?d25 ?d26 ?d27 ?d28 ?d29 ?d30 ?d31 ?d32 ?d33 ?d34 ?d35 ?dl (by exact rfl) ?z1 ?z2 ?z3 ?z4 ?z5 ?z6 ?z7 ?z8 ?z9 ?z10 ?z11 ?z12 ?z13 ?z14 ?z15 ?z16 ?tp1
  (case d1=>walk_at "k_def")
  (case d2=>walk_at "k_def")
  (case d3=>walk_at "k_def")
  (case d4=>walk_at "k_def")
  (case d5=>walk_at "k_def")
  (case d6=>walk_at "k_def")
  (case d7=>walk_at "k_def")
  (case d8=>walk_at "k_def")
  (case d9=>walk_at "k_def")
  (case d10=>walk_at "k_def")
  (case d11=>walk_at "k_def")
  (case d12=>walk_at "k_def")
  (case d13=>walk_at "k_def")
  (case d14=>walk_at "k_def")
  (case d15=>walk_at "k_def")
  (case d16=>walk_at "k_def")
  (case d17=>walk_at "k_def")
  (case d18=>walk_at "k_def")
  (case d19=>walk_at "k_def")
  (case d20=>walk_at "k_def")
  (case d21=>walk_at "k_def")
  (case d22=>walk_at "k_def")
  (case d23=>walk_at "k_def")
  (case d24=>walk_at "k_def")
  (case d25=>walk_at "k_def")
  (case d26=>walk_at "k_def")
  (case d27=>walk_at "k_def")
  (case d28=>walk_at "k_def")
  (case d29=>walk_at "k_def")
  (case d30=>walk_at "k_def")
  (case d31=>walk_at "k_def")
  (case d32=>walk_at "k_def")
  (case d33=>walk_at "k_def")
  (case d34=>walk_at "k_def")
  (case d35=>walk_at "k_def")
  (case dl=>walk_at "k_def")
  (case z1=>k_is)
  (case z2=>k_is)
  (case z3=>k_is)
  (case z4=>k_is)
  (case z5=>k_is)
  (case z6=>k_is)
  (case z7=>k_is)
  (case z8=>k_is)
  (case z9=>k_is)
  (case z10=>k_is)
  (case z11=>k_is)
  (case z12=>k_is)
  (case z13=>k_is)
  (case z14=>k_is)
  (case z15=>k_is)
  (case z16=>k_is)
  (case tp1=>((refine' K14.tp_mk ?hx ?ex ?l ?c ?d ?z ?r);(case hx=>k_is);(case ex=>rfl);(case l=>k_is);(case c=>rfl);(case d=>rfl);(case z=>decide);(case r=>exact .cons ⟨_,rfl⟩ (.cons ⟨_,rfl⟩ .nil))))
end
end
