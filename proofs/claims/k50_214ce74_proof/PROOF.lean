import PyProof.Rows.All
import Wide.All
import OpenK.AllK
import Wide.FinOn
import PyProof.EqAt
import PyProof.EqKinds
import PyProof.TupleCall
import Lean
import PyProof.CompFree
import PyProof.IsInstanceH
import PyProof.IsiPairs
import PyProof.ConsumeWalk
import PyProof.IsiNone
import KE.KIntText
import PyProof.Rows.EqDataRows
import PyProof.RangeIter
import PyProof.ZipIter
import PyProof.EnumMake
import PyProof.WalksEnum
import PyProof.Rows.ZipGen
import PyProof.Rows.SortWalk
import KE.KEqDict
import KE.KDictLaws
import PyProof.Rows.SumAny
import PyProof.Rows.FStr
import PyProof.ListRange
import PyProof.DictWalks
import PyProof.DictCopy
import KE.KDictOf
import PyProof.Rows.StrRev
import PyProof.ListStr
import KE.KRevSl
import KE.KLam
import PyProof.Rows.SetFrom
import PyProof.SetRoads
import KE.KNestM
import PyProof.StrLawsIdx
import PyProof.StrLoop
import PyProof.StrWalks
import PyProof.StrLawsChain
import PyProof.FitsReplace
import PyProof.MeetsStr2
import KE.KRevIter
import PyProof.DictUpdate
import KE.KSortTup
import PyProof.Rows.SortStr
import PyProof.FactsAll.set
import PyProof.FactsAll.dict_keyiterator
import PyProof.AttrMissHeap
import PyProof.Rows.SeqMore2
import KE.KItemsList
import PyProof.MeetsSeq3
import PyProof.Rows.StrStep
import KE.KxWritten
import PyProof.TupleIter
import PyProof.Draws
import KE.KTryMore
import PyProof.ExcClass2
import PyProof.ExcInit
import PyProof.InstStoreFacts
import PyProof.ExcBaseAll.ValueError
import PyProof.RulesAs
import PyProof.NsDelKeeps
import OpenK.KRaise
import PyProof.ExcArgs
import PyProof.StrBlock2
import PySem.Challenge.RW_ownbeat_k50_greatest_quiet_sets
set_option Elab.async false
set_option linter.all false
set_option maxRecDepth 100000
set_option maxHeartbeats 4000000
section
namespace KH
open PySem PySem.W
abbrev Pw:Program:=PySem.Challenge.pw_ownbeat_k50_greatest_quiet_sets
abbrev Rw:OpenLaw:=PySem.Challenge.rw_ownbeat_k50_greatest_quiet_sets
abbrev tp (i:Nat):Stmt:=Pw.main.body.getD i (.Pass ⟨0,0,0,0⟩)
abbrev cm:Stmt->Nat->Stmt
 | .ClassDef _ _ _ body _ _ _ _ _ _ _,i=>body.getD i (.Pass ⟨0,0,0,0⟩)
 | s,_=>s
abbrev dA (s:Stmt):Arguments:=match s with
 | .FunctionDef _ a _ _ _ _ _ _ _ _=>a
 | _=>{ posonlyargs:=[],args:=[],vararg:=none,kwonlyargs:=[],kw_defaults:=[],kwarg:=none,defaults:=[] }
abbrev dB (s:Stmt):List Stmt:=match s with
 | .FunctionDef _ _ b _ _ _ _ _ _ _=>b
 | _=>[]
abbrev dS (s:Stmt):Scope:=match s with
 | .FunctionDef _ _ _ _ _ _ sc _ _ _=>sc
 | _=>{ kind:=.function,names:=[],isGenerator:=false,isCoroutine:=false }
abbrev en (P:Params) (k:Str) (t:Nat) (v:Value):DictEntry:=⟨PyData.keyHash P k,.str k t,v⟩
abbrev tu (l:List Value):Obj:=⟨.type "tuple",none,.seq l.toArray 0,#[]⟩
abbrev di (l:List DictEntry):Obj:=⟨.type "dict",none,.dict l.toArray 0,#[]⟩
abbrev co (n:Str) (t1:Nat) (q:Str) (t2 t3:Nat) (l c:Int) (a b:Nat) (x y:Value) (z:Nat) (d:Int) (t4:Nat):Obj:=⟨.type "code",none,.fields #[.str n t1,.str q t2,.str "/claim/cut.py" t3,.int l 0,.int c 0,.int 0 0,.int 0 0,.int 3 0,.ref a,.bool true,.int 181 0,.ref b,.none,x,y,.ref z,.int d 0,.int l 0,.str "/claim/cut.py" t4],#[]⟩
abbrev fu (n q:Str) (st:Stmt) (m:Str) (t c:Nat):Obj:=⟨.type "function",none,.func ⟨n,q,dA st,.stmts (dB st),dS st,3,[],.none,.none,.none,.str m t,none,.ref c,.none,0⟩,#[]⟩
abbrev cl (n:Str) (self ns a t1 t2:Nat):Obj:=⟨.type "type",none,.cls ⟨n,[.ref 24],[.ref self,.ref 24,.type "ValueError",.type "Exception",.type "BaseException",.type "object"],ns,n,true,[],[],false,none,false⟩,#[some (.ref a),none,some (.str n t1),some (.str n t2),some (.builtin "ValueError.__new__"),some (.bool true)]⟩
noncomputable def K (P:Params):Frag:=
 (nat_lit 2,⟨.none,none,.dict #[],#[]⟩) ::
 (nat_lit 3,⟨.type "dict",none,.dict #[en P "__name__" 165 (.str "law_ownbeat_k50_greatest_quiet_sets" 425),en P "__doc__" 166 (.none),en P "__package__" 167 (.none),en P "__loader__" 168 (.builtin "__main__.__loader__#opaque"),en P "__spec__" 169 (.none),en P "__annotations__" 170 (.ref 6),en P "__builtins__" 171 (.ref 4),en P "__file__" 173 (.str "/claim/cut.py" 172),en P "__cached__" 174 (.none),en P "all_signs" 194 (.ref 19),en P "texts_from" 208 (.ref 26),en P "state_texts" 216 (.ref 33),en P "reached" 223 (.ref 40),en P "layers_of" 233 (.ref 47),en P "layer_behind" 245 (.ref 54),en P "comes_back" 253 (.ref 61),en P "longest_walk" 264 (.ref 68),en P "first_return" 274 (.ref 75),en P "SIGNS" 279 (.ref 76),en P "still" 286 (.ref 83),en P "put_behind" 297 (.ref 90),en P "paper_keys" 307 (.ref 97),en P "greatest_peak" 319 (.ref 104),en P "runs_over" 333 (.ref 111),en P "greatest_runs" 343 (.ref 118),en P "standing_loop" 356 (.ref 125),en P "standing_steps" 362 (.ref 130),en P "loop_of" 368 (.ref 135),en P "is_quiet" 376 (.ref 140),en P "greatest_quiet" 384 (.ref 147),en P "quiet_paper" 392 (.ref 154),en P "greatest_with_paper" 405 (.ref 161),en P "words_by" 411 (.ref 166),en P "keeps_to" 424 (.ref 173),en P "_law_cell" 434 (.ref 180),en P "_law_behind" 446 (.ref 187),en P "_law_quiet" 459 (.ref 194),en P "_law_all" 465 (.ref 199),en P "_law_ahead" 475 (.ref 206),en P "_law_by" 488 (.ref 213),en P "_law_alone" 500 (.ref 220),en P "_law_greatest" 506 (.ref 225),en P "_law_good" 523 (.ref 232),en P "law" 532 (.ref 239)] 44,#[]⟩) ::
 (nat_lit 15,tu []) ::
 (nat_lit 18,co "all_signs" 189 "all_signs" 190 191 2 1 15 16 (.none) (.none) 17 192 193) ::
 (nat_lit 19,fu "all_signs" "all_signs" (tp 1) "ownbeat.walks" 187 18) ::
 (nat_lit 20,tu []) ::
 (nat_lit 22,tu [.str "start" 198,.str "steps" 199,.str "texts" 200,.str "queue" 201,.str "place" 202,.str "node" 203,.str "letter" 204,.str "to" 205]) ::
 (nat_lit 23,tu []) ::
 (nat_lit 25,co "texts_from" 195 "texts_from" 196 197 7 2 20 21 (.ref 22) (.ref 23) 24 206 207) ::
 (nat_lit 26,fu "texts_from" "texts_from" (tp 2) "ownbeat.walks" 187 25) ::
 (nat_lit 27,tu []) ::
 (nat_lit 29,tu [.str "code" 212]) ::
 (nat_lit 30,tu [.str "code" 213]) ::
 (nat_lit 32,co "state_texts" 209 "state_texts" 210 211 19 1 27 28 (.ref 29) (.ref 30) 31 214 215) ::
 (nat_lit 33,fu "state_texts" "state_texts" (tp 3) "ownbeat.walks" 187 32) ::
 (nat_lit 34,tu []) ::
 (nat_lit 36,tu [.str "code" 220]) ::
 (nat_lit 37,tu []) ::
 (nat_lit 39,co "reached" 217 "reached" 218 219 21 1 34 35 (.ref 36) (.ref 37) 38 221 222) ::
 (nat_lit 40,fu "reached" "reached" (tp 4) "ownbeat.walks" 187 39) ::
 (nat_lit 41,tu []) ::
 (nat_lit 43,tu [.str "first" 227,.str "graph" 228,.str "layers" 229,.str "layer" 230]) ::
 (nat_lit 44,tu []) ::
 (nat_lit 46,co "layers_of" 224 "layers_of" 225 226 23 2 41 42 (.ref 43) (.ref 44) 45 231 232) ::
 (nat_lit 47,fu "layers_of" "layers_of" (tp 5) "ownbeat.walks" 187 46) ::
 (nat_lit 48,tu []) ::
 (nat_lit 50,tu [.str "layer" 237,.str "graph" 238,.str "behind" 239,.str "node" 240,.str "label" 241,.str "to" 242]) ::
 (nat_lit 51,tu []) ::
 (nat_lit 53,co "layer_behind" 234 "layer_behind" 235 236 30 2 48 49 (.ref 50) (.ref 51) 52 243 244) ::
 (nat_lit 54,fu "layer_behind" "layer_behind" (tp 6) "ownbeat.walks" 187 53) ::
 (nat_lit 55,tu []) ::
 (nat_lit 57,tu [.str "layers" 249,.str "graph" 250]) ::
 (nat_lit 58,tu []) ::
 (nat_lit 60,co "comes_back" 246 "comes_back" 247 248 37 2 55 56 (.ref 57) (.ref 58) 59 251 252) ::
 (nat_lit 61,fu "comes_back" "comes_back" (tp 7) "ownbeat.walks" 187 60) ::
 (nat_lit 62,tu []) ::
 (nat_lit 64,tu [.str "layers" 257,.str "node" 258,.str "walk" 259,.str "layer" 260,.str "ahead" 261]) ::
 (nat_lit 65,tu []) ::
 (nat_lit 67,co "longest_walk" 254 "longest_walk" 255 256 39 1 62 63 (.ref 64) (.ref 65) 66 262 263) ::
 (nat_lit 68,fu "longest_walk" "longest_walk" (tp 8) "ownbeat.walks" 187 67) ::
 (nat_lit 69,tu []) ::
 (nat_lit 71,tu [.str "walk" 268,.str "places" 269,.str "place" 270,.str "step" 271]) ::
 (nat_lit 72,tu []) ::
 (nat_lit 74,co "first_return" 265 "first_return" 266 267 47 1 69 70 (.ref 71) (.ref 72) 73 272 273) ::
 (nat_lit 75,fu "first_return" "first_return" (tp 9) "ownbeat.walks" 187 74) ::
 (nat_lit 76,tu [.str "0" 277,.str "1" 278]) ::
 (nat_lit 77,tu []) ::
 (nat_lit 79,tu [.str "code" 283]) ::
 (nat_lit 80,tu []) ::
 (nat_lit 82,co "still" 280 "still" 281 282 56 1 77 78 (.ref 79) (.ref 80) 81 284 285) ::
 (nat_lit 83,fu "still" "still" (tp 12) "ownbeat.stillness" 275 82) ::
 (nat_lit 84,tu []) ::
 (nat_lit 86,tu [.str "sign" 290,.str "count" 291,.str "word" 292,.str "peak" 293,.str "one" 294]) ::
 (nat_lit 87,tu []) ::
 (nat_lit 89,co "put_behind" 287 "put_behind" 288 289 60 3 84 85 (.ref 86) (.ref 87) 88 295 296) ::
 (nat_lit 90,fu "put_behind" "put_behind" (tp 13) "ownbeat.stillness" 275 89) ::
 (nat_lit 91,tu []) ::
 (nat_lit 93,tu [.str "code" 301,.str "keys" 302,.str "state" 303,.str "sign" 304]) ::
 (nat_lit 94,tu []) ::
 (nat_lit 96,co "paper_keys" 298 "paper_keys" 299 300 67 1 91 92 (.ref 93) (.ref 94) 95 305 306) ::
 (nat_lit 97,fu "paper_keys" "paper_keys" (tp 14) "ownbeat.stillness" 275 96) ::
 (nat_lit 98,tu []) ::
 (nat_lit 100,tu [.str "code" 311,.str "runs" 312,.str "peak" 313,.str "state" 314,.str "sign" 315,.str "row" 316]) ::
 (nat_lit 101,tu []) ::
 (nat_lit 103,co "greatest_peak" 308 "greatest_peak" 309 310 73 2 98 99 (.ref 100) (.ref 101) 102 317 318) ::
 (nat_lit 104,fu "greatest_peak" "greatest_peak" (tp 15) "ownbeat.stillness" 275 103) ::
 (nat_lit 105,tu []) ::
 (nat_lit 107,tu [.str "code" 323,.str "runs" 324,.str "over" 325,.str "state" 326,.str "sign" 327,.str "row" 328,.str "run" 329,.str "key" 330]) ::
 (nat_lit 108,tu []) ::
 (nat_lit 110,co "runs_over" 320 "runs_over" 321 322 79 2 105 106 (.ref 107) (.ref 108) 109 331 332) ::
 (nat_lit 111,fu "runs_over" "runs_over" (tp 16) "ownbeat.stillness" 275 110) ::
 (nat_lit 112,tu []) ::
 (nat_lit 114,tu [.str "code" 337,.str "runs" 338,.str "key" 339,.str "over" 340]) ::
 (nat_lit 115,tu []) ::
 (nat_lit 117,co "greatest_runs" 334 "greatest_runs" 335 336 88 1 112 113 (.ref 114) (.ref 115) 116 341 342) ::
 (nat_lit 118,fu "greatest_runs" "greatest_runs" (tp 17) "ownbeat.stillness" 275 117) ::
 (nat_lit 119,tu []) ::
 (nat_lit 121,tu [.str "code" 347,.str "states" 348,.str "sign" 349,.str "graph" 350,.str "state" 351,.str "first" 352,.str "layers" 353]) ::
 (nat_lit 122,tu []) ::
 (nat_lit 124,co "standing_loop" 344 "standing_loop" 345 346 97 1 119 120 (.ref 121) (.ref 122) 123 354 355) ::
 (nat_lit 125,fu "standing_loop" "standing_loop" (tp 18) "ownbeat.stillness" 275 124) ::
 (nat_lit 126,tu []) ::
 (nat_lit 129,co "standing_steps" 357 "standing_steps" 358 359 110 3 126 127 (.none) (.none) 128 360 361) ::
 (nat_lit 130,fu "standing_steps" "standing_steps" (tp 19) "ownbeat.stillness" 275 129) ::
 (nat_lit 131,tu []) ::
 (nat_lit 134,co "loop_of" 363 "loop_of" 364 365 112 1 131 132 (.none) (.none) 133 366 367) ::
 (nat_lit 135,fu "loop_of" "loop_of" (tp 20) "ownbeat.stillness" 275 134) ::
 (nat_lit 136,tu []) ::
 (nat_lit 139,co "is_quiet" 371 "is_quiet" 372 373 116 2 136 137 (.none) (.none) 138 374 375) ::
 (nat_lit 140,fu "is_quiet" "is_quiet" (tp 22) "ownbeat.quiet" 369 139) ::
 (nat_lit 141,tu []) ::
 (nat_lit 143,tu [.str "n" 380,.str "r" 381]) ::
 (nat_lit 144,tu []) ::
 (nat_lit 146,co "greatest_quiet" 377 "greatest_quiet" 378 379 119 2 141 142 (.ref 143) (.ref 144) 145 382 383) ::
 (nat_lit 147,fu "greatest_quiet" "greatest_quiet" (tp 23) "ownbeat.quiet" 369 146) ::
 (nat_lit 148,tu []) ::
 (nat_lit 150,tu [.str "n" 388,.str "r" 389]) ::
 (nat_lit 151,tu []) ::
 (nat_lit 153,co "quiet_paper" 385 "quiet_paper" 386 387 121 2 148 149 (.ref 150) (.ref 151) 152 390 391) ::
 (nat_lit 154,fu "quiet_paper" "quiet_paper" (tp 24) "ownbeat.quiet" 369 153) ::
 (nat_lit 155,tu []) ::
 (nat_lit 157,tu [.str "n" 396,.str "r" 397,.str "paper" 398,.str "found" 399,.str "p" 400,.str "q" 401,.str "words" 402]) ::
 (nat_lit 158,tu []) ::
 (nat_lit 160,co "greatest_with_paper" 393 "greatest_with_paper" 394 395 123 2 155 156 (.ref 157) (.ref 158) 159 403 404) ::
 (nat_lit 161,fu "greatest_with_paper" "greatest_with_paper" (tp 25) "ownbeat.quiet" 369 160) ::
 (nat_lit 162,tu []) ::
 (nat_lit 165,co "words_by" 406 "words_by" 407 408 133 3 162 163 (.none) (.none) 164 409 410) ::
 (nat_lit 166,fu "words_by" "words_by" (tp 26) "ownbeat.quiet" 369 165) ::
 (nat_lit 167,tu []) ::
 (nat_lit 169,tu [.str "word" 415,.str "r" 416,.str "paper" 417,.str "sign" 418,.str "most" 419,.str "begun" 420,.str "ended" 421]) ::
 (nat_lit 170,tu []) ::
 (nat_lit 172,co "keeps_to" 412 "keeps_to" 413 414 135 3 167 168 (.ref 169) (.ref 170) 171 422 423) ::
 (nat_lit 173,fu "keeps_to" "keeps_to" (tp 27) "ownbeat.quiet" 369 172) ::
 (nat_lit 174,tu []) ::
 (nat_lit 176,tu [.str "script" 430,.str "k" 431]) ::
 (nat_lit 177,tu []) ::
 (nat_lit 179,co "_law_cell" 427 "_law_cell" 428 429 143 2 174 175 (.ref 176) (.ref 177) 178 432 433) ::
 (nat_lit 180,fu "_law_cell" "_law_cell" (tp 29) "law_ownbeat_k50_greatest_quiet_sets" 425 179) ::
 (nat_lit 181,tu []) ::
 (nat_lit 183,tu [.str "end" 438,.str "word" 439,.str "r" 440,.str "sign" 441,.str "many" 442,.str "one" 443]) ::
 (nat_lit 184,tu []) ::
 (nat_lit 186,co "_law_behind" 435 "_law_behind" 436 437 147 3 181 182 (.ref 183) (.ref 184) 185 444 445) ::
 (nat_lit 187,fu "_law_behind" "_law_behind" (tp 30) "law_ownbeat_k50_greatest_quiet_sets" 425 186) ::
 (nat_lit 188,tu []) ::
 (nat_lit 190,tu [.str "words" 450,.str "r" 451,.str "been" 452,.str "waiting" 453,.str "end" 454,.str "word" 455,.str "later" 456]) ::
 (nat_lit 191,tu []) ::
 (nat_lit 193,co "_law_quiet" 447 "_law_quiet" 448 449 158 2 188 189 (.ref 190) (.ref 191) 192 457 458) ::
 (nat_lit 194,fu "_law_quiet" "_law_quiet" (tp 31) "law_ownbeat_k50_greatest_quiet_sets" 425 193) ::
 (nat_lit 195,tu []) ::
 (nat_lit 198,co "_law_all" 460 "_law_all" 461 462 171 1 195 196 (.none) (.none) 197 463 464) ::
 (nat_lit 199,fu "_law_all" "_law_all" (tp 32) "law_ownbeat_k50_greatest_quiet_sets" 425 198) ::
 (nat_lit 200,tu []) ::
 (nat_lit 202,tu [.str "word" 469,.str "sign" 470,.str "many" 471,.str "one" 472]) ::
 (nat_lit 203,tu []) ::
 (nat_lit 205,co "_law_ahead" 466 "_law_ahead" 467 468 176 2 200 201 (.ref 202) (.ref 203) 204 473 474) ::
 (nat_lit 206,fu "_law_ahead" "_law_ahead" (tp 33) "law_ownbeat_k50_greatest_quiet_sets" 425 205) ::
 (nat_lit 207,tu []) ::
 (nat_lit 209,tu [.str "alone" 479,.str "r" 480,.str "p" 481,.str "q" 482,.str "found" 483,.str "word" 484,.str "tips" 485]) ::
 (nat_lit 210,tu []) ::
 (nat_lit 212,co "_law_by" 476 "_law_by" 477 478 183 4 207 208 (.ref 209) (.ref 210) 211 486 487) ::
 (nat_lit 213,fu "_law_by" "_law_by" (tp 34) "law_ownbeat_k50_greatest_quiet_sets" 425 212) ::
 (nat_lit 214,tu []) ::
 (nat_lit 216,tu [.str "n" 492,.str "r" 493,.str "found" 494,.str "word" 495,.str "turned" 496,.str "tips" 497]) ::
 (nat_lit 217,tu []) ::
 (nat_lit 219,co "_law_alone" 489 "_law_alone" 490 491 189 2 214 215 (.ref 216) (.ref 217) 218 498 499) ::
 (nat_lit 220,fu "_law_alone" "_law_alone" (tp 35) "law_ownbeat_k50_greatest_quiet_sets" 425 219) ::
 (nat_lit 221,tu []) ::
 (nat_lit 224,co "_law_greatest" 501 "_law_greatest" 502 503 197 2 221 222 (.none) (.none) 223 504 505) ::
 (nat_lit 225,fu "_law_greatest" "_law_greatest" (tp 36) "law_ownbeat_k50_greatest_quiet_sets" 425 224) ::
 (nat_lit 226,tu []) ::
 (nat_lit 228,tu [.str "n" 510,.str "r" 511,.str "found" 512,.str "word" 513,.str "first" 514,.str "alone" 515,.str "p" 516,.str "q" 517,.str "words" 518,.str "told" 519,.str "kept" 520]) ::
 (nat_lit 229,tu []) ::
 (nat_lit 231,co "_law_good" 507 "_law_good" 508 509 206 2 226 227 (.ref 228) (.ref 229) 230 521 522) ::
 (nat_lit 232,fu "_law_good" "_law_good" (tp 37) "law_ownbeat_k50_greatest_quiet_sets" 425 231) ::
 (nat_lit 233,tu []) ::
 (nat_lit 235,tu [.str "script" 527,.str "k" 528,.str "cell" 529]) ::
 (nat_lit 236,tu []) ::
 (nat_lit 238,co "law" 524 "law" 525 526 232 1 233 234 (.ref 235) (.ref 236) 237 530 531) ::
 (nat_lit 239,fu "law" "law" (tp 38) "law_ownbeat_k50_greatest_quiet_sets" 425 238) :: []
def V:Program:=view Pw [1,2,3,4,5,6,7,8,9,11,12,13,14,15,16,17,18,19,20,22,23,24,25,26,27,29,30,31,32,33,34,35,36,37,38]
noncomputable abbrev hk:Hook:=kmHook K [2,3,15,18,19,20,22,23,25,26,27,29,30,32,33,34,36,37,39,40,41,43,44,46,47,48,50,51,53,54,55,57,58,60,61,62,64,65,67,68,69,71,72,74,75,76,77,79,80,82,83,84,86,87,89,90,91,93,94,96,97,98,100,101,103,104,105,107,108,110,111,112,114,115,117,118,119,121,122,124,125,126,129,130,131,134,135,136,139,140,141,143,144,146,147,148,150,151,153,154,155,157,158,160,161,162,165,166,167,169,170,172,173,174,176,177,179,180,181,183,184,186,187,188,190,191,193,194,195,198,199,200,202,203,205,206,207,209,210,212,213,214,216,217,219,220,221,224,225,226,228,229,231,232,233,235,236,238,239] (fun _=>by kernel_rfl) [28]
theorem HL:LeftO (Rw.row).prog V [] (fun s=>xlAt V [] s && recOk (RowW.records (OpenRow.toRowW Rw.row)) s) (Hook.obs hk) (Hook.val hk) 2360:=by
 intro w
 rw [Fast.te14364793385576792824,Fast.te4187177175401517315,Fast.te5923862056798008813]
 kernel_rfl
end KH
noncomputable def PySem.W.Fast.tw8992263268321042656:PySem.Program:=PySem.Challenge.pw_ownbeat_k50_greatest_quiet_sets
theorem PySem.W.Fast.te8992263268321042656:PySem.Challenge.pw_ownbeat_k50_greatest_quiet_sets=PySem.W.Fast.tw8992263268321042656:=rfl
noncomputable def PySem.W.Fast.tw17261154982618576195:PySem.W.OpenLaw:=PySem.Challenge.rw_ownbeat_k50_greatest_quiet_sets
theorem PySem.W.Fast.te17261154982618576195:PySem.Challenge.rw_ownbeat_k50_greatest_quiet_sets=PySem.W.Fast.tw17261154982618576195:=rfl
noncomputable def PySem.W.Fast.tw5761066807429076752:PySem.Program:=KH.V
theorem PySem.W.Fast.te5761066807429076752:KH.V=PySem.W.Fast.tw5761066807429076752:=rfl
noncomputable def PySem.W.Fast.tw13718576055750932966:PySem.Params->PySem.W.Frag:=KH.K
theorem PySem.W.Fast.te13718576055750932966:KH.K=PySem.W.Fast.tw13718576055750932966:=rfl
noncomputable def PySem.W.Fast.tw770474345414848920:PySem.Program:=KH.Pw
theorem PySem.W.Fast.te770474345414848920:KH.Pw=PySem.W.Fast.tw770474345414848920:=rfl
noncomputable def PySem.W.Fast.tw14237125333626191895:PySem.W.OpenLaw:=KH.Rw
theorem PySem.W.Fast.te14237125333626191895:KH.Rw=PySem.W.Fast.tw14237125333626191895:=rfl
end
set_option compiler.extract_closed false
namespace L2
open PySem PySem.Spec PyProof.Rows
abbrev Key:=Sum Int Str
def keyIs:Key->Value->Bool
 | .inl k,v=>Value.isInt k v
 | .inr x,v=>Value.isStrOf x v
def keyH (w:World):Key->Int
 | .inl k=>hashInt k
 | .inr x=>hashStr w x
theorem keyIs_shape:∀ {k:Key} {v:Value},keyIs k v=true->(∃ i t,k=Sum.inl i/\v=Value.int i t)\/(∃ x t,k=Sum.inr x/\v=Value.str x t)
 | .inl i,v,h=>by
  obtain ⟨t,e⟩:=Value.isInt_shape (k:=i) (v:=v) h
  exact .inl ⟨i,t,rfl,e⟩
 | .inr x,v,h=>by
  obtain ⟨t,e⟩:=Value.isStrOf_shape (x:=x) (v:=v) h
  exact .inr ⟨x,t,rfl,e⟩
theorem keyIs_int (i:Int) (t:Tok):keyIs (.inl i) (.int i t)=true:=by simp [keyIs,Value.isInt]
theorem keyIs_str (x:Str) (t:Tok):keyIs (.inr x) (.str x t)=true:=by simp [keyIs,Value.isStrOf]
theorem key_ll (a b:Int):decide ((Sum.inl a:Key)=Sum.inl b)=(a == b):=by
 by_cases e:a=b
 ·subst e;simp
 ·have h:¬ (Sum.inl a:Key)=Sum.inl b:=fun q=>e (Sum.inl.inj q)
  rw [decide_eq_false h]
  exact (beq_eq_false_iff_ne.mpr e).symm
theorem key_rr (a b:Str):decide ((Sum.inr a:Key)=Sum.inr b)=decide (a=b):=by
 by_cases e:a=b
 ·subst e;simp
 ·have h:¬ (Sum.inr a:Key)=Sum.inr b:=fun q=>e (Sum.inr.inj q)
  rw [decide_eq_false h,decide_eq_false e]
theorem key_lr (a:Int) (b:Str):decide ((Sum.inl a:Key)=Sum.inr b)=false:=decide_eq_false (fun q=>nomatch q)
theorem key_rl (a:Str) (b:Int):decide ((Sum.inr a:Key)=Sum.inl b)=false:=decide_eq_false (fun q=>nomatch q)
def mixKind (prog:Program) (w:World):PySem.KeyKind prog w Key where
 is:=keyIs
 hash:=keyH w
 inj:=fun v a b ha hb=>by
  rcases keyIs_shape ha with ⟨i,t,rfl,rfl⟩ | ⟨x,t,rfl,rfl⟩
  ·rcases keyIs_shape hb with ⟨j,u,rfl,e⟩ | ⟨y,u,rfl,e⟩
   ·injection e with e1 _;rw [e1]
   ·exact nomatch e
  ·rcases keyIs_shape hb with ⟨j,u,rfl,e⟩ | ⟨y,u,rfl,e⟩
   ·exact nomatch e
   ·injection e with e1 _;rw [e1]
 byValue:=fun k v h=>by
  rcases keyIs_shape h with ⟨i,t,rfl,rfl⟩ | ⟨x,t,rfl,rfl⟩<;>rfl
 pyHash:=fun hv h=>by
  rcases keyIs_shape hv with ⟨i,t,rfl,rfl⟩ | ⟨x,t,rfl,rfl⟩
  ·exact wpAny_pyHash_int h
  ·exact wpAny_pyHash_str h
 eqBool:=fun hu hv h=>by
  rcases keyIs_shape hu with ⟨i,t,rfl,rfl⟩ | ⟨x,t,rfl,rfl⟩
  ·rcases keyIs_shape hv with ⟨j,u,rfl,rfl⟩ | ⟨y,u,rfl,rfl⟩
   ·rw [key_ll] at h;exact wpAny_eqBool_int h
   ·rw [key_lr] at h;exact SeqAt.EqAt.int_str i t y u _ _ _ _ h
  ·rcases keyIs_shape hv with ⟨j,u,rfl,rfl⟩ | ⟨y,u,rfl,rfl⟩
   ·rw [key_rl] at h;exact SeqAt.EqAt.str_int x t j u _ _ _ _ h
   ·rw [key_rr] at h;exact wpAny_eqBool_str h
 «strs» := fun k x t v h=>by
  rcases keyIs_shape h with ⟨i,u,rfl,e⟩ | ⟨y,u,rfl,e⟩
  ·exact nomatch e
  ·injection e with e1 _
   subst e1
   cases v<;>rfl
theorem mixKind_int (prog:Program) (w:World) (i:Int) (t:Tok):(mixKind prog w).is (.inl i) (.int i t)=true:=keyIs_int i t
theorem mixKind_str (prog:Program) (w:World) (x:Str) (t:Tok):(mixKind prog w).is (.inr x) (.str x t)=true:=keyIs_str x t
end L2
namespace L2
open PySem PySem.Spec PyProof.Rows
inductive V where
 | non | bl (b:Bool) | int (i:Int) | str (x:Str) | byt (b:Array UInt8) | flt (b:UInt64) | ref (a:Addr) | ty (n:String)
 deriving DecidableEq
def RelV:V->Value->Prop
 | .non,u=>u=Value.none
 | .bl b,u=>u=Value.bool b
 | .int i,u=>∃ t,u=Value.int i t
 | .str x,u=>∃ t,u=Value.str x t
 | .byt b,u=>∃ t,u=Value.bytes b t
 | .flt b,u=>∃ t,u=Value.float b t
 | .ref a,u=>u=Value.ref a
 | .ty n,u=>u=Value.type n
abbrev Vals:List V->List Value->Prop:=Paired RelV
theorem Vals.length {xs:List V} {us:List Value} (r:Vals xs us):xs.length=us.length:=Paired.length r
theorem Vals.get:∀ {xs:List V} {us:List Value} {i:Nat} {x:V},Vals xs us->xs[i]? = some x->∃ u,us[i]? = some u/\RelV x u
 | _,_,_,_,.nil,e=>by simp at e
 | _,_,0,_,.cons r _,e=>by simp at e;subst e;exact ⟨_,rfl,r⟩
 | _,_,i+1,x,.cons _ t,e=>by
  obtain ⟨u,h1,h2⟩:=Vals.get (i:=i) (x:=x) t (by simpa using e)
  exact ⟨u,by simpa using h1,h2⟩
theorem Vals.set {x:V} {u:Value} (r:RelV x u):∀ {xs:List V} {us:List Value} (i:Nat),Vals xs us->Vals (xs.set i x) (us.set i u)
 | _,_,_,.nil=>.nil
 | _,_,0,.cons _ t=>.cons r t
 | _,_,i+1,.cons q t=>.cons q (Vals.set r i t)
theorem Vals.append:∀ {xs ys:List V} {us ws:List Value},Vals xs us->Vals ys ws->Vals (xs++ys) (us++ws)
 | _,_,_,_,.nil,s=>s
 | _,_,_,_,.cons r t,s=>.cons r (Vals.append t s)
theorem Vals.take:∀ {xs:List V} {us:List Value} (n:Nat),Vals xs us->Vals (xs.take n) (us.take n)
 | _,_,0,_=>.nil
 | _,_,_+1,.nil=>.nil
 | _,_,n+1,.cons r t=>.cons r (Vals.take n t)
theorem Vals.drop:∀ {xs:List V} {us:List Value} (n:Nat),Vals xs us->Vals (xs.drop n) (us.drop n)
 | _,_,0,r=>r
 | _,_,_+1,.nil=>.nil
 | _,_,n+1,.cons _ t=>Vals.drop n t
def RelO:Option V->Option Value->Prop
 | some v,some u=>RelV v u
 | none,none=>True
 | _,_=>False
def KV {κ:Type}:List (κ×V)->List (κ×Value)->Prop:=Paired fun (p:κ×V) (q:κ×Value)=>p.1=q.1/\RelV p.2 q.2
def kV:Key->V
 | .inl i=>.int i
 | .inr x=>.str x
inductive HO where
  | lst (xs:List V)
  | tup (xs:List V)
  | dK (kvs:List (Key×V)) | dT (kvs:List (List Key×V))
  | set (S:Int->Bool) (n:Nat)
  | ins (C dx:Addr) (fs:List (Str×V))
  | own (x:Addr)
  | xd (fs:List (Str×V))
  | met (f x:Addr)
  | rng (lo hi:Int)
  | frz (o:Obj) (u:HO)
  | tbl (ps:Array Value)
  | ext (φ:Heap->Prop)
abbrev Hp:=Addr->Option HO
def upd (H:Hp) (a:Addr) (o:HO):Hp:=fun b=>if b=a then some o else H b
theorem upd_same {H:Hp} {a:Addr} {o:HO}:upd H a o a=some o:=by unfold upd;rw [if_pos rfl]
theorem upd_ne {H:Hp} {a b:Addr} {o:HO} (h:b≠a):upd H a o b=H b:=by unfold upd;rw [if_neg h]
theorem upd_upd {H:Hp} {a:Addr} {o u:HO}:upd (upd H a o) a u=upd H a u:=by
 funext b;unfold upd;split<;>rfl
theorem ne_of {H:Hp} {a b:Addr} {o u:HO} (h:H a=some o) (h':H b=some u) (d:o≠u):a≠b:=by
 intro e;subst e;rw [h] at h';exact d (Option.some.inj h')
theorem ne_of_none {H:Hp} {a b:Addr} {o:HO} (h:H a=some o) (h':H b=none):a≠b:=by
 intro e;subst e;rw [h] at h';cases h'
section
variable (P:Program) (w:World)
def ObjOk (H:Hp) (h:Heap) (a:Addr):HO->Prop
 | .lst xs=>xs.length<=sizeLine/\∃ (its:List Value) (n:Nat),Vals xs its/\h.get? a=some { cls:=.type "list",data:=.seq its.toArray n }
 | .tup xs=>xs.length<=sizeLine/\∃ its:List Value,Vals xs its/\IsTup h a its.toArray
 | .dK kvs=>kvs.length<=sizeLine/\(a == sysModules)=false/\∃ vs,KV kvs vs/\h.DictOf (mixKind P w) a vs
 | .dT kvs=>kvs.length<=sizeLine/\(a == sysModules)=false/\∃ xs:List (List Key×Addr×Value),
   Paired (fun (p:List Key×V) (q:List Key×Addr×Value)=>p.1=q.1/\H q.2.1=some (.tup (p.1.map kV))/\RelV p.2 q.2.2) kvs xs ∧
   ∃ o es ep,h.get? a=some o/\o.ExactDict/\o.data = .dict es ep/\es.toList=xs.map (entryOfKey (tupleKind (mixKind P w)))/\(xs.map (·.1)).Nodup
 | .set S n=>h.SetOf (intKind P w) a S n
 | .ins C dx fs=>H dx=some (.own a)/\fs.length<=1000/\dx≠a/\h.get? a=some (PySem.W.instObj C dx) ∧
   ∃ mA,h.Ns1 dx mA/\(∀ f,RelO (fs.lookup f) (mA f))/\PySem.Within mA (fs.map (·.1))
 | .own _=>∃ o,h.get? a=some o
 | .xd fs=>∃ mA,h.Ns1 a mA/\∀ f,RelO (fs.lookup f) (mA f)
 | .rng lo hi=>∃ t u v,h.get? a=some { cls:=.type "range",data:=.fields #[.int lo t,.int hi u,.int 1 v] }
 | .frz o u=>h.get? a=some o/\ObjOk H h a u
 | .tbl ps=>h.get? a=some { cls:=.none,data:=.fields ps }
 | .met f x=>h.get? a=some (PySem.W.methodObj (.ref f) (.ref x))
 | .ext φ=>φ h/\(∃ o,h.get? a=some o)/\∀ h1 h2:Heap,φ h1->(∀ o,h1.get? a=some o->h2.get? a=some o)->φ h2
def HOk (H:Hp) (h:Heap):Prop:=∀ a o,H a=some o->ObjOk P w H h a o
end
section
variable {P:Program} {w:World} {H H':Hp} {h h':Heap} {a:Addr} {o:HO}
theorem ObjOk.lt (x:ObjOk P w H h a o):a < h.objs.size:=by
 cases o with
 | lst xs=>obtain ⟨_,_,_,_,e⟩:=x;exact Heap.lt_size e
 | tup xs=>obtain ⟨_,_,_,p⟩:=x;exact p.lt
 | dK kvs=>obtain ⟨_,_,_,_,o,_,_,e,_⟩:=x;exact Heap.lt_size e
 | dT kvs=>obtain ⟨_,_,_,_,o,_,_,e,_⟩:=x;exact Heap.lt_size e
 | set S n=>obtain ⟨o,_,_,_,e,_⟩:=x;exact Heap.lt_size e
 | ins C dx fs=>obtain ⟨_,_,_,e,_⟩:=x;exact Heap.lt_size e
 | own y=>obtain ⟨_,e⟩:=x;exact Heap.lt_size e
 | xd fs=>obtain ⟨_,⟨_,_,_,e,_⟩,_⟩:=x;exact Heap.lt_size e
 | rng lo hi=>obtain ⟨_,_,_,e⟩:=x;exact Heap.lt_size e
 | frz ob u=>obtain ⟨e,_⟩:=x;exact Heap.lt_size e
 | tbl ps=>exact Heap.lt_size (show h.get? a=some _ from x)
 | met f y=>exact Heap.lt_size (show h.get? a=some _ from x)
 | ext φ=>obtain ⟨_,⟨_,e⟩,_⟩:=x;exact Heap.lt_size e
theorem Paired.mapP {α β:Type} {F G:α->β->Prop}:∀ {l₁:List α} {l₂:List β},Paired F l₁ l₂->(∀ a b,F a b->G a b)->Paired G l₁ l₂
 | _,_,.nil,_=>.nil
 | _,_,.cons r t,f=>.cons (f _ _ r) (Paired.mapP t f)
theorem ObjOk.stay (x:ObjOk P w H h a o) (k:∀ b u,(b=a\/H b=some (.own a))->h.get? b=some u->h'.get? b=some u)
  (ho:∀ b,H b=some (.own a)->H' b=some (.own a)) (ht:∀ b xs,H b=some (.tup xs)->H' b=some (.tup xs)):ObjOk P w H' h' a o:=by
 induction o with
 | lst xs=>obtain ⟨z,its,n,r,e⟩:=x;exact ⟨z,its,n,r,k _ _ (.inl rfl) e⟩
 | tup xs=>obtain ⟨z,its,r,ob,e,c⟩:=x;exact ⟨z,its,r,ob,k _ _ (.inl rfl) e,c⟩
 | dK kvs=>obtain ⟨z,y,vs,r,ob,es,ep,e,c⟩:=x;exact ⟨z,y,vs,r,ob,es,ep,k _ _ (.inl rfl) e,c⟩
 | dT kvs=>
  obtain ⟨z,y,xs,r,ob,es,ep,e,c⟩:=x
  exact ⟨z,y,xs,Paired.mapP r fun p q z=>⟨z.1,ht _ _ z.2.1,z.2.2⟩,ob,es,ep,k _ _ (.inl rfl) e,c⟩
 | set S n=>obtain ⟨ob,es,ep,t,e,c⟩:=x;exact ⟨ob,es,ep,t,k _ _ (.inl rfl) e,c⟩
 | ins C dx fs=>
  obtain ⟨d,z,ne,e,mA,⟨od,es,ep,e2,c⟩,r⟩:=x
  exact ⟨ho _ d,z,ne,k _ _ (.inl rfl) e,mA,⟨od,es,ep,k _ _ (.inr d) e2,c⟩,r⟩
 | own y=>obtain ⟨ob,e⟩:=x;exact ⟨ob,k _ _ (.inl rfl) e⟩
 | xd fs=>obtain ⟨mA,⟨od,es,ep,e,c⟩,r⟩:=x;exact ⟨mA,⟨od,es,ep,k _ _ (.inl rfl) e,c⟩,r⟩
 | rng lo hi=>obtain ⟨t,u,v,e⟩:=x;exact ⟨t,u,v,k _ _ (.inl rfl) e⟩
 | frz ob u ih=>obtain ⟨e,q⟩:=x;exact ⟨k _ _ (.inl rfl) e,ih q⟩
 | tbl ps=>
  have e:h.get? a=some { cls:=.none,data:=.fields ps }:=x
  show h'.get? a=some { cls:=.none,data:=.fields ps }
  exact k a _ (.inl rfl) e
 | met f y=>
  have e:h.get? a=some (PySem.W.methodObj (.ref f) (.ref y)):=x
  show h'.get? a=some (PySem.W.methodObj (.ref f) (.ref y))
  exact k a _ (.inl rfl) e
 | ext φ=>obtain ⟨p,⟨o,e⟩,st⟩:=x;exact ⟨st _ _ p fun o q=>k _ _ (.inl rfl) q,⟨o,k _ _ (.inl rfl) e⟩,st⟩
theorem HOk.lt (x:HOk P w H h) (e:H a=some o):a < h.objs.size:=(x a o e).lt
theorem HOk.fresh (x:HOk P w H h) (e:h.objs.size<=a):H a=none:=by
 cases q:H a with
 | none=>rfl
 | some u=>exact absurd (Nat.lt_of_lt_of_le (x.lt q) e) (Nat.lt_irrefl _)
theorem HOk.kept (x:HOk P w H h) (k:∀ b u,h.get? b=some u->h'.get? b=some u):HOk P w H h':=fun a o e=>
 (x a o e).stay (fun b u _ q=>k b u q) (fun _ q=>q) fun _ _ q=>q
theorem HOk.laid (x:HOk P w H h) (k:∀ b u,h.get? b=some u->h'.get? b=some u) (hp:h.objs.size<=a) (new:ObjOk P w (upd H a o) h' a o):HOk P w (upd H a o) h':=fun b u e=>by
 have hn:=x.fresh hp
 by_cases hb:b=a
 ·subst hb;rw [upd_same] at e;cases e;exact new
 ·rw [upd_ne hb] at e
  exact (x b u e).stay (fun c v _ q=>k c v q) (fun c q=>by rw [upd_ne (ne_of_none q hn)];exact q) fun c xs q=>by rw [upd_ne (ne_of_none q hn)];exact q
end
def Rd (H:Hp) (a:Addr) (u:HO):Prop:=H a=some u\/∃ o,H a=some (.frz o u)
theorem Rd.of {H:Hp} {a:Addr} {u:HO} (h:H a=some u):Rd H a u:=.inl h
theorem Rd.ok {P:Program} {w:World} {H:Hp} {h:Heap} {a:Addr} {u:HO} (r:Rd H a u) (x:HOk P w H h):ObjOk P w H h a u:=by
 rcases r with r | ⟨o,r⟩
 ·exact x a u r
 ·obtain ⟨_,q⟩:=x a _ r
  exact q
def Mut:Option HO->Prop
 | some (.lst _)=>True
 | some (.dK _)=>True
 | some (.dT _)=>True
 | some (.set _ _)=>True
 | some (.ins _ _ _)=>True
 | some (.ext _)=>True
 | _=>False
section
variable {P:Program} {w:World} {H:Hp} {h h':Heap} {x e:Addr} {o':HO}
theorem HOk.write (ok:HOk P w H h) (mu:Mut (H x)) (he:e=x\/H e=some (.own x)) (k:∀ b u,b≠e->h.get? b=some u->h'.get? b=some u) (heo:∃ u,h'.get? e=some u)
  (new:ObjOk P w (upd H x o') h' x o'):HOk P w (upd H x o') h':=fun b u q=>by
 have nown:∀ c y,H c=some (.own y)->c≠x:=fun c y r z=>by subst z;rw [r] at mu;exact mu
 have ntup:∀ c xs,H c=some (.tup xs)->c≠x:=fun c xs r z=>by subst z;rw [r] at mu;exact mu
 by_cases hb:b=x
 ·subst hb;rw [upd_same] at q;cases q;exact new
 ·rw [upd_ne hb] at q
  by_cases hbe:b=e
  ·have q':H b=some (.own x):=by
    rcases he with z | z
    ·exact absurd (hbe.trans z) hb
    ·rw [hbe];exact z
   rw [q] at q';cases q'
   obtain ⟨v,hv⟩:=heo
   exact ⟨v,by rw [hbe];exact hv⟩
  ·refine (ok b u q).stay (fun c v hc r=>k c v ?_ r) (fun c r=>by rw [upd_ne (nown c b r)];exact r) fun c xs r=>by rw [upd_ne (ntup c xs r)];exact r
   rcases hc with rfl | hc
   ·exact hbe
   ·rintro rfl
    rcases he with z | z
    ·exact nown c b hc z
    ·rw [hc] at z;cases z;exact hb rfl
end
structure Un (fs ex:List Addr) (H H':Hp) (h h':Heap):Prop where
 keep:∀ b o,h.get? b=some o->H b=none->b ∉ fs->b ∉ ex->h'.get? b=some o
 slot:∀ b o,h.get? b=some o->H b=none->b∈fs->b ∉ ex->∃ sl,h'.get? b=some { o with slots:=sl }
 free:∀ b o,h.get? b=some o->H b=none->b ∉ ex->H' b=none
 there:∀ b o,h.get? b=some o->b ∉ ex->∃ o',h'.get? b=some o'
 tups:∀ b xs,H b=some (.tup xs)->H' b=some (.tup xs)
 frzs:∀ b o u,H b=some (.frz o u)->H' b=some (.frz o u)
 tbls:∀ b ps,H b=some (.tbl ps)->∃ more,H' b=some (.tbl (ps++more))
section
variable {fs fs' ex ex':List Addr} {H H1 H2:Hp} {h h1 h2 h':Heap} {a x e:Addr} {o:HO}
theorem Un.any (u:Un fs ex H H1 h h1) {b:Addr} {ob:Obj} (q:h.get? b=some ob) (n:H b=none) (hx:b ∉ ex):∃ sl,h1.get? b=some { ob with slots:=sl }:=by
 by_cases hb:b∈fs
 ·exact u.slot b ob q n hb hx
 ·exact ⟨ob.slots,u.keep b ob q n hb hx⟩
theorem Un.trans (a:Un fs ex H H1 h h1) (b:Un fs ex H1 H2 h1 h2):Un fs ex H H2 h h2 where
 keep:=fun c ob q n hc hx=>b.keep c ob (a.keep c ob q n hc hx) (a.free c ob q n hx) hc hx
 slot:=fun c ob q n hc hx=>by
  obtain ⟨sl,e1⟩:=a.slot c ob q n hc hx
  obtain ⟨sl',e2⟩:=b.slot c _ e1 (a.free c ob q n hx) hc hx
  exact ⟨sl',e2⟩
 free:=fun c ob q n hx=>by
  obtain ⟨o',e1⟩:=a.there c ob q hx
  exact b.free c o' e1 (a.free c ob q n hx) hx
 there:=fun c ob q hx=>by
  obtain ⟨o',e1⟩:=a.there c ob q hx
  exact b.there c o' e1 hx
 tups:=fun c xs q=>b.tups c xs (a.tups c xs q)
 frzs:=fun c ob xs q=>b.frzs c ob xs (a.frzs c ob xs q)
 tbls:=fun c ps q=>by
  obtain ⟨m1,e1⟩:=a.tbls c ps q
  obtain ⟨m2,e2⟩:=b.tbls c _ e1
  exact ⟨m1++m2,by rw [e2,Array.append_assoc]⟩
theorem Un.kept (k:∀ b u,h.get? b=some u->h'.get? b=some u):Un fs ex H H h h':=
 ⟨fun b ob q _ _ _=>k b ob q,fun b ob q _ _ _=>⟨ob.slots,k b ob q⟩,fun _ _ _ n _=>n,fun b ob q _=>⟨ob,k b ob q⟩,fun _ _ q=>q,fun _ _ _ q=>q,fun _ ps q=>⟨#[],by rw [q];simp⟩⟩
theorem Un.refl:Un fs ex H H h h:=Un.kept fun _ _ q=>q
theorem Un.laid (k:∀ b u,h.get? b=some u->h'.get? b=some u) (hp:h.objs.size<=a) (hn:H a=none):Un fs ex H (upd H a o) h h' where
 keep:=fun b u q _ _ _=>k b u q
 slot:=fun b u q _ _ _=>⟨u.slots,k b u q⟩
 free:=fun b u q n _=>by rw [upd_ne (Nat.ne_of_lt (Nat.lt_of_lt_of_le (Heap.lt_size q) hp))];exact n
 there:=fun b u q _=>⟨u,k b u q⟩
 tups:=fun b xs q=>by rw [upd_ne (ne_of_none q hn)];exact q
 frzs:=fun b u xs q=>by rw [upd_ne (ne_of_none q hn)];exact q
 tbls:=fun b ps q=>⟨#[],by rw [upd_ne (ne_of_none q hn),q];simp⟩
theorem Un.write (mu:Mut (H x)) (he:e=x\/H e=some (.own x)) (k:∀ b u,b≠e->h.get? b=some u->h'.get? b=some u) (heo:∃ u,h'.get? e=some u):Un fs ex H (upd H x o) h h':=by
 have hx:∀ b,H b=none->b≠x:=fun b n z=>by subst z;rw [n] at mu;exact mu
 have hb:∀ b,H b=none->b≠e:=fun b n z=>by
  subst z
  rcases he with r | r
  ·exact hx b n r
  ·rw [n] at r;cases r
 have hm:∀ b u,H b=some u->¬ Mut (some u)->b≠x:=fun b u q nm z=>by subst z;rw [q] at mu;exact nm mu
 refine ⟨fun b u q n _ _=>k b u (hb b n) q,fun b u q n _ _=>⟨u.slots,k b u (hb b n) q⟩,fun b u q n _=>by rw [upd_ne (hx b n)];exact n,fun b u q _=>?_,
  fun b xs q=>by rw [upd_ne (hm b _ q fun z=>z)];exact q,fun b u xs q=>by rw [upd_ne (hm b _ q fun z=>z)];exact q,fun b ps q=>⟨#[],by rw [upd_ne (hm b _ q fun z=>z),q];simp⟩⟩
 by_cases hbe:b=e
 ·subst hbe;exact heo
 ·exact ⟨u,k b u hbe q⟩
theorem Un.mono (u:Un fs ex H H1 h h1) (hs:∀ b∈fs,b∈fs') (hx:∀ b∈ex,b∈ex'):Un fs' ex' H H1 h h1:=
 ⟨fun b ob q n hb he=>u.keep b ob q n (fun z=>hb (hs b z)) fun z=>he (hx b z),fun _ _ q n _ he=>u.any q n fun z=>he (hx _ z),fun b ob q n he=>u.free b ob q n fun z=>he (hx b z),fun b ob q he=>u.there b ob q fun z=>he (hx b z),u.tups,u.frzs,u.tbls⟩
end
def trk (h:Heap) (H:Hp):List Addr:=(List.range h.objs.size).filter fun a=>(H a).isSome
def hidT (h:Heap) (H:Hp):Heap:=PySem.W.hideAll h (trk h H)
theorem hidT_size (h:Heap) (H:Hp):(hidT h H).objs.size=h.objs.size:=PySem.W.hideAll_size _ _
theorem hidT_get {h:Heap} {H:Hp} {b:Addr} {o:Obj} (e:h.get? b=some o) (n:H b=none):(hidT h H).get? b=some o:=
 PySem.W.hideAll_get _ e fun hm=>by
  have q:(H b).isSome=true:=(List.mem_filter.mp hm).2
  rw [n] at q;simp at q
theorem of_hidT {h:Heap} {H:Hp} {b:Addr} {o:Obj} (e:(hidT h H).get? b=some o):h.get? b=some o/\H b=none:=by
 have e':h.get? b=some o:=PySem.W.of_hideAll (trk h H) e
 refine ⟨e',?_⟩
 cases q:H b with
 | none=>rfl
 | some x=>
  have hm:b∈trk h H:=List.mem_filter.mpr ⟨List.mem_range.mpr (Heap.lt_size e'),by simp [q]⟩
  have z:(hidT h H).get? b=none:=PySem.W.hideAll_none (trk h H) hm
  rw [z] at e;cases e
def allNews (g h:Heap) (L:Addr):List (Addr×Obj):=(List.range h.objs.size).filterMap fun a=>if a=L\/(g.get? a).isSome=true then none else (h.get? a).map fun o=>(a,o)
def rest (g h:Heap) (L d:Addr):List (Addr×Obj):=(allNews g h L).filter fun p=>decide (p.1≠d)
end L2
namespace L2
open PySem PySem.Spec PyProof.Rows
structure Mod (K:PySem.W.Frag) (mg:Str->Option Value) (base:Heap):Prop where
 kin:K.In base
 glob:base.Ns mainGlobals mg
 blt:∃ mb,base.Ns builtinsNs mb/\∀ x:Str,x≠"__name__"->mb x=bootBuiltins x
 nolimit:base.NoLimit
structure Cx where
 prog:Program
 w:World
 K:PySem.W.Frag
 mg:Str->Option Value
 base:Heap
 A:Around
 N:List Str
 s₀:Shared
 H₀:Hp
 env:Env
 outer:List Env
 stack:List Env
 ex:List Addr
 fn:Str->Bool
 calm:Bool
 pn:List (Addr×Obj)
 xe:Value->Shared->Prop
def frs (l:List Env):List Addr:=l.filterMap (·.frame)
abbrev Cx.fs (X:Cx):List Addr:=frs X.outer
def Vis (sc:Scope) (x:Str):Prop:=sc.names.lookup x=some .local\/sc.names.lookup x=some .cell\/sc.names.lookup x=some .free
def Loc (sc:Scope) (x:Str):Prop:=sc.names.lookup x=some .local\/sc.names.lookup x=some .cell
def Look (env:Env) (h:Heap) (m:Str->Option Value) (x:Str) (u:Value):Prop:=
 (env.kindOf x=some .local/\m x=some u)\/((env.kindOf x=some .cell\/env.kindOf x=some .free)/\∃ c,env.cells.lookup x=some c/\h.IsCell c (some u))
structure Cx.Ok (X:Cx):Prop where
 mod:Mod X.K X.mg X.base
 kind:X.env.scope.kind = .function
 glob:X.env.globals=mainGlobals
 blt:X.env.builtins=builtinsNs
 above:X.s₀.heap.objs.size<=X.env.locals
 inj:∀ x y c,X.env.cells.lookup x=some c->X.env.cells.lookup y=some c->x=y
 has:∀ x,(X.env.kindOf x=some .cell\/X.env.kindOf x=some .free)->∃ c,X.env.cells.lookup x=some c
 cab:∀ x c,X.fn x=true->X.env.cells.lookup x=some c->X.s₀.heap.objs.size<=c
 hd:X.calm=true->X.A.handled=none
 frames:X.A.frames=some X.stack
 stk:X.stack=X.outer\/(X.stack=X.env :: X.outer/\X.env.frame=some X.env.locals)
 exf:∀ b∈X.ex,b≠X.env.locals/\∀ x c,X.env.cells.lookup x=some c->c≠b
 bs:∀ b o,X.base.get? b=some o->X.s₀.heap.get? b=some o/\X.H₀ b=none
 bsz:X.base.objs.size<=X.s₀.heap.objs.size
 noex:∀ b o,X.base.get? b=some o->b ∉ X.ex
 exfs:∀ b∈X.ex,b ∉ X.fs
 funs:X.s₀.heap.FunFrames X.base X.outer
 frf:∀ b∈X.fs,X.H₀ b=none
structure Inv (X:Cx) (pins:List (Addr×Obj)) (σ:List (Option V)) (H:Hp) (s:Shared):Prop where
 ok:X.Ok
 os:s.os=X.s₀.os
 bare:AllBare s.gens
 base:Un X.fs X.ex X.H₀ H X.s₀.heap s.heap
 loc:∃ m,s.heap.Ns X.env.locals m/\∀ (i:Nat) (x:Str) (v:V),X.N[i]? = some x->σ[i]? = some (some v)->Vis X.env.scope x->∃ u,RelV v u/\Look X.env s.heap m x u
 cell:∀ x c,X.env.cells.lookup x=some c->∃ v,s.heap.IsCell c v
 free:H X.env.locals=none
 freeC:∀ x c,X.env.cells.lookup x=some c->H c=none
 pin:∀ p∈X.pn++pins,s.heap.get? p.1=some p.2/\H p.1=none/\p.1≠X.env.locals/\p.1 ∉ X.fs/\∀ v,p.2.data≠.cell v
 hok:HOk X.prog X.w H s.heap
 len:σ.length=X.N.length
section
variable {X:Cx} {pins:List (Addr×Obj)} {σ:List (Option V)} {H H':Hp} {s:Shared} {h':Heap}
theorem Cx.Ok.nofr (ok:X.Ok) {b:Addr} {o:Obj} (e:X.base.get? b=some o):b ∉ X.fs:=fun hb=>by
 have:=(ok.funs.mem hb).1
 rw [e] at this;cases this
theorem Inv.bs (I:Inv X pins σ H s):∀ b o,X.base.get? b=some o->s.heap.get? b=some o/\H b=none:=fun b o e=>
 ⟨I.base.keep b o (I.ok.bs b o e).1 (I.ok.bs b o e).2 (I.ok.nofr e) (I.ok.noex b o e),I.base.free b o (I.ok.bs b o e).1 (I.ok.bs b o e).2 (I.ok.noex b o e)⟩
theorem Inv.bk (I:Inv X pins σ H s):∀ b o,X.base.get? b=some o->s.heap.get? b=some o:=fun b o e=>(I.bs b o e).1
theorem Inv.mod (I:Inv X pins σ H s):Mod X.K X.mg X.base:=I.ok.mod
theorem Inv.kIn (I:Inv X pins σ H s):X.K.In s.heap:=I.ok.mod.kin.keeps I.bk
theorem Inv.nolimit (I:Inv X pins σ H s):s.heap.NoLimit:=I.ok.mod.nolimit.keeps I.bk
theorem Inv.fr (I:Inv X pins σ H s):∃ m,Fr X.base X.env.locals s.heap m:=
 let ⟨m,hn,_⟩:=I.loc
 ⟨m,hn,I.bk,Nat.le_trans I.ok.bsz I.ok.above⟩
theorem Inv.lt (I:Inv X pins σ H s):X.env.locals < s.heap.objs.size:=let ⟨_,hn,_⟩:=I.loc;hn.lt
theorem Inv.sz (I:Inv X pins σ H s):X.s₀.heap.objs.size<=s.heap.objs.size:=Nat.le_trans I.ok.above (Nat.le_of_lt I.lt)
theorem Inv.nofs (I:Inv X pins σ H s) {a:Addr} (h:s.heap.objs.size<=a):a ∉ X.fs:=fun hb=>by
 obtain ⟨_,o,ho,_⟩:=I.ok.funs.mem hb
 exact absurd (Nat.lt_of_lt_of_le (Heap.lt_size ho) (Nat.le_trans I.sz h)) (Nat.lt_irrefl _)
theorem Inv.cne (I:Inv X pins σ H s):∀ x c,X.env.cells.lookup x=some c->c≠X.env.locals:=fun x c e z=>by
 obtain ⟨v,o,ho,hd⟩:=I.cell x c e
 obtain ⟨m,⟨o',es,ep,ho',hd',_⟩,_⟩:=I.loc
 rw [z,ho'] at ho;cases ho;rw [hd'] at hd;cases hd
theorem Inv.funs (I:Inv X pins σ H s):s.heap.FunFrames X.base X.outer:=by
 have all:∀ (l:List Env),(∀ b∈frs l,b∈X.fs)->X.s₀.heap.FunFrames X.base l->s.heap.FunFrames X.base l:=by
  intro l
  induction l with
  | nil=>intro _ _;trivial
  | cons env r ih=>
   intro hs hl
   obtain ⟨hk,⟨L,o,hf,hn,ho,hd⟩,hr⟩:=hl
   have hL:L∈X.fs:=hs L (by unfold frs;rw [List.filterMap_cons,hf];exact List.mem_cons_self)
   obtain ⟨sl,e⟩:=I.base.slot L o ho (I.ok.frf L hL) hL fun z=>I.ok.exfs L z hL
   exact ⟨hk,⟨L,_,hf,hn,e,hd⟩,ih (fun b hb=>hs b (by unfold frs;rw [List.filterMap_cons,hf];exact List.mem_cons_of_mem _ hb)) hr⟩
 exact all X.outer (fun _ hb=>hb) I.ok.funs
theorem Inv.stack (I:Inv X pins σ H s):s.heap.FunFrames X.base X.stack:=by
 rcases I.ok.stk with e | ⟨e,hf⟩
 ·rw [e];exact I.funs
 ·rw [e]
  obtain ⟨m,hn,_⟩:=I.loc
  refine .cons (by rw [I.ok.kind];decide) hf hn ?_ I.funs
  exact Heap.get?_none_of_le (Nat.le_trans I.ok.bsz I.ok.above)
theorem Inv.stkSub (I:Inv X pins σ H s):∀ b∈frs X.stack,b∈X.env.locals :: X.fs:=fun b hb=>by
 rcases I.ok.stk with e | ⟨e,hf⟩
 ·rw [e] at hb;exact List.mem_cons_of_mem _ hb
 ·rw [e] at hb
  unfold frs at hb
  rw [List.filterMap_cons,hf] at hb
  exact hb
theorem Inv.stkFree (I:Inv X pins σ H s):∀ b∈frs X.stack,H b=none:=fun b hb=>by
 rcases List.mem_cons.mp (I.stkSub b hb) with e | hb
 ·rw [e];exact I.free
 ·obtain ⟨_,o,ho,_⟩:=I.ok.funs.mem hb
  exact I.base.free b o ho (I.ok.frf b hb) fun z=>I.ok.exfs b z hb
theorem Inv.step {g':Array GenState} {t':Nat} {d':Drawn} {ch:List Addr} (I:Inv X pins σ H s)
  (hch:∀ b∈ch,(b∈X.ex\/X.s₀.heap.objs.size<=b)/\b≠X.env.locals/\(∀ x c,X.env.cells.lookup x=some c->c≠b)/\∀ p∈X.pn++pins,p.1≠b)
  (keep:∀ b o,b≠X.env.locals->b ∉ X.fs->b ∉ ch->s.heap.get? b=some o->H b=none->h'.get? b=some o)
  (slot:∀ b o,b≠X.env.locals->b∈X.fs->b ∉ ch->s.heap.get? b=some o->H b=none->∃ sl,h'.get? b=some { o with slots:=sl }) (free:∀ b o,b ∉ ch->s.heap.get? b=some o->H b=none->H' b=none)
  (there:∀ b o,b ∉ ch->s.heap.get? b=some o->∃ o',h'.get? b=some o')
  (tups:∀ b xs,H b=some (.tup xs)->H' b=some (.tup xs)) (frzs:∀ b o u,H b=some (.frz o u)->H' b=some (.frz o u)) (tbls:∀ b ps,H b=some (.tbl ps)->∃ more,H' b=some (.tbl (ps++more)))
  (ns:∀ m,s.heap.Ns X.env.locals m->h'.Ns X.env.locals m) (hok:HOk X.prog X.w H' h') (hg:AllBare g') :
  Inv X pins σ H' { s with heap:=h',gens:=g',drawn:=d',toks:=t' }:=by
 have neL:∀ b o,X.s₀.heap.get? b=some o->b≠X.env.locals:=fun b o e=>Nat.ne_of_lt (Nat.lt_of_lt_of_le (Heap.lt_size e) I.ok.above)
 have neC:∀ b o,X.s₀.heap.get? b=some o->b ∉ X.ex->b ∉ ch:=fun b o e hx hb=>by
  rcases (hch b hb).1 with z | z
  ·exact hx z
  ·exact absurd (Nat.lt_of_lt_of_le (Heap.lt_size e) z) (Nat.lt_irrefl _)
 have cellK:∀ x c,X.env.cells.lookup x=some c->∀ v,s.heap.IsCell c v->h'.IsCell c v:=fun x c e v ⟨o,ho,hd⟩=>by
  have nch:c ∉ ch:=fun z=>(hch c z).2.2.1 x c e rfl
  by_cases hc:c∈X.fs
  ·obtain ⟨sl,q⟩:=slot c o (I.cne x c e) hc nch ho (I.freeC x c e)
   exact ⟨_,q,hd⟩
  ·exact ⟨o,keep c o (I.cne x c e) hc nch ho (I.freeC x c e),hd⟩
 refine ⟨I.ok,I.os,hg,⟨fun b o e n hb hx=>?_,fun b o e n hb hx=>?_,fun b o e n hx=>?_,fun b o e hx=>?_,fun b xs e=>tups b xs (I.base.tups b xs e),fun b o xs e=>frzs b o xs (I.base.frzs b o xs e),fun b ps e=>?_⟩,?_,fun x c e=>?_,?_,fun x c e=>?_,fun p hp=>?_,hok,I.len⟩
 ·exact keep b o (neL b o e) hb (neC b o e hx) (I.base.keep b o e n hb hx) (I.base.free b o e n hx)
 ·obtain ⟨sl,e1⟩:=I.base.slot b o e n hb hx
  obtain ⟨sl',e2⟩:=slot b _ (neL b o e) hb (neC b o e hx) e1 (I.base.free b o e n hx)
  exact ⟨sl',e2⟩
 ·obtain ⟨o',e1⟩:=I.base.there b o e hx
  exact free b o' (neC b o e hx) e1 (I.base.free b o e n hx)
 ·obtain ⟨o',e1⟩:=I.base.there b o e hx
  exact there b o' (neC b o e hx) e1
 ·obtain ⟨m1,e1⟩:=I.base.tbls b ps e
  obtain ⟨m2,e2⟩:=tbls b _ e1
  exact ⟨m1++m2,by rw [e2,Array.append_assoc]⟩
 ·obtain ⟨m,hn,hl⟩:=I.loc
  refine ⟨m,ns m hn,fun i x v e1 e2 e3=>?_⟩
  obtain ⟨u,r,l⟩:=hl i x v e1 e2 e3
  refine ⟨u,r,?_⟩
  rcases l with l | ⟨k,c,e,z⟩
  ·exact .inl l
  ·exact .inr ⟨k,c,e,cellK x c e _ z⟩
 ·obtain ⟨v,z⟩:=I.cell x c e
  exact ⟨v,cellK x c e v z⟩
 ·obtain ⟨m,⟨o,_,_,ho,_⟩,_⟩:=I.loc
  exact free _ o (fun z=>(hch _ z).2.1 rfl) ho I.free
 ·obtain ⟨v,o,ho,hd⟩:=I.cell x c e
  exact free c o (fun z=>(hch c z).2.2.1 x c e rfl) ho (I.freeC x c e)
 ·obtain ⟨e,n,ne,nf,d⟩:=I.pin p hp
  have nch:p.1 ∉ ch:=fun z=>(hch p.1 z).2.2.2 p hp rfl
  exact ⟨keep p.1 p.2 ne nf nch e n,free p.1 p.2 nch e n,ne,nf,d⟩
theorem Inv.un {t':Nat} (I:Inv X pins σ H s) (u:Un X.fs [] H H' s.heap h') (hok:HOk X.prog X.w H' h'):Inv X pins σ H' { s with heap:=h',toks:=t' }:=by
 obtain ⟨m,⟨o,es,ep,ho,r⟩,_⟩:=id I.loc
 obtain ⟨sl,hL⟩:=u.any ho I.free (by simp)
 exact I.step (g':=s.gens) (d':=s.drawn) (ch:=[]) (fun _ z=>nomatch z) (fun b o _ hb _ e n=>u.keep b o e n hb (by simp)) (fun b o _ hb _ e n=>u.slot b o e n hb (by simp)) (fun b o _ e n=>u.free b o e n (by simp)) (fun b o _ e=>u.there b o e (by simp)) u.tups u.frzs u.tbls (fun m' hm=>by
  obtain ⟨o',es',ep',ho',r'⟩:=hm
  rw [ho] at ho';cases ho'
  exact ⟨_,es',ep',hL,r'⟩) hok I.bare
theorem Inv.call {g':Array GenState} {t':Nat} {d':Drawn} {ch:List Addr} (I:Inv X pins σ H s) (u:Un (frs X.stack) ch H H' s.heap h') (hok:HOk X.prog X.w H' h') (hg:AllBare g')
  (hch:∀ b∈ch,(b∈X.ex\/X.s₀.heap.objs.size<=b)/\b≠X.env.locals/\(∀ x c,X.env.cells.lookup x=some c->c≠b)/\∀ p∈X.pn++pins,p.1≠b) :
  Inv X pins σ H' { s with heap:=h',gens:=g',drawn:=d',toks:=t' }:=by
 obtain ⟨m,⟨o,es,ep,ho,r⟩,_⟩:=id I.loc
 obtain ⟨sl,hL⟩:=u.any ho I.free fun z=>(hch _ z).2.1 rfl
 exact I.step (ch:=ch) hch (fun b o hL hb hc e n=>u.keep b o e n (fun z=>(List.mem_cons.mp (I.stkSub b z)).elim hL hb) hc) (fun b o _ _ hc e n=>u.any e n hc) (fun b o hc e n=>u.free b o e n hc) (fun b o hc e=>u.there b o e hc) u.tups u.frzs u.tbls (fun m' hm=>by
  obtain ⟨o',es',ep',ho',r'⟩:=hm
  rw [ho] at ho';cases ho'
  exact ⟨_,es',ep',hL,r'⟩) hok hg
theorem Inv.turned {t':Nat} {it:Addr} (I:Inv X pins σ H s) (k:∀ b o,b≠it->s.heap.get? b=some o->h'.get? b=some o) (hn:H it=none) (hL:it≠X.env.locals)
  (h1:it∈X.ex\/X.s₀.heap.objs.size<=it) (h2:∀ x c,X.env.cells.lookup x=some c->c≠it) (h3:∀ p∈X.pn++pins,p.1≠it):Inv X pins σ H { s with heap:=h',toks:=t' }:=by
 have nit:∀ b u,H b=some u->b≠it:=fun b u e z=>by rw [z,hn] at e;cases e
 refine I.step (g':=s.gens) (d':=s.drawn) (ch:=[it]) (fun b hb=>?_) (fun b o _ _ hc e _=>k b o (fun z=>hc (by simp [z])) e) (fun b o _ _ hc e _=>⟨o.slots,k b o (fun z=>hc (by simp [z])) e⟩) (fun _ _ _ _ n=>n)
  (fun b o hc e=>⟨o,k b o (fun z=>hc (by simp [z])) e⟩) (fun _ _ e=>e) (fun _ _ _ e=>e) (fun b ps e=>⟨#[],by rw [e];simp⟩) (fun m hm=>?_) (fun b u e=>?_) I.bare
 ·have e:b=it:=by simpa using hb
  subst e
  exact ⟨h1,hL,h2,h3⟩
 ·obtain ⟨o,es,ep,ho,r⟩:=hm
  exact ⟨o,es,ep,k _ o (Ne.symm hL) ho,r⟩
 ·refine (I.hok b u e).stay (fun c v hc q=>k c v ?_ q) (fun _ q=>q) fun _ _ q=>q
  rcases hc with z | z
  ·rw [z];exact nit b u e
  ·exact nit c _ z
theorem Inv.tok (I:Inv X pins σ H s) (t:Nat):Inv X pins σ H { s with toks:=t }:=I.un (h':=s.heap) (t':=t) Un.refl I.hok
theorem Inv.kept {t':Nat} (I:Inv X pins σ H s) (k:∀ b u,s.heap.get? b=some u->h'.get? b=some u):Inv X pins σ H { s with heap:=h',toks:=t' }:=I.un (Un.kept k) (I.hok.kept k)
theorem Inv.laid {a:Addr} {o:HO} {t':Nat} (I:Inv X pins σ H s) (k:∀ b u,s.heap.get? b=some u->h'.get? b=some u) (hp:s.heap.objs.size<=a) (new:ObjOk X.prog X.w (upd H a o) h' a o) :
  Inv X pins σ (upd H a o) { s with heap:=h',toks:=t' }:=I.un (Un.laid k hp (I.hok.fresh hp)) (I.hok.laid k hp new)
theorem Inv.write {x e:Addr} {o:HO} {t':Nat} (I:Inv X pins σ H s) (mu:Mut (H x)) (he:e=x\/H e=some (.own x)) (k:∀ b u,b≠e->s.heap.get? b=some u->h'.get? b=some u) (heo:∃ u,h'.get? e=some u)
  (new:ObjOk X.prog X.w (upd H x o) h' x o):Inv X pins σ (upd H x o) { s with heap:=h',toks:=t' }:=I.un (Un.write mu he k heo) (I.hok.write mu he k heo new)
theorem Inv.pins_of {pins':List (Addr×Obj)} (I:Inv X pins σ H s) (h:∀ p∈pins',s.heap.get? p.1=some p.2/\H p.1=none/\p.1≠X.env.locals/\p.1 ∉ X.fs/\∀ v,p.2.data≠.cell v):Inv X pins' σ H s:=
 ⟨I.ok,I.os,I.bare,I.base,I.loc,I.cell,I.free,I.freeC,fun p hp=>(List.mem_append.mp hp).elim (fun z=>I.pin p (List.mem_append_left _ z)) (h p),I.hok,I.len⟩
theorem nodup_ix {N:List Str} (hN:N.Nodup) {i j:Nat} {x:Str} (a:N[i]? = some x) (b:N[j]? = some x):i=j:=by
 obtain ⟨h1,e1⟩:=List.getElem?_eq_some_iff.mp a
 obtain ⟨h2,e2⟩:=List.getElem?_eq_some_iff.mp b
 exact (List.getElem_inj hN).mp (e1.trans e2.symm)
theorem store_ok2 {M:Model} {A:Around} {E:Value->Shared->Prop} {i:Nat} {x:Str} {v:V} {u:Value} {Q:Unit->Shared->Prop} (I:Inv X pins σ H s) (hN:X.N.Nodup) (hi:X.N[i]? = some x) (hx:Loc X.env.scope x) (r:RelV v u)
  (h:∀ s',Inv X pins (σ.set i (some v)) H s'->(∃ a,Heap.SameBut a s.heap s'.heap/\(a=X.env.locals\/X.env.cells.lookup x=some a))->Q () s') (hf:X.fn x=true\/X.env.scope.names.lookup x=some .local:=by first | exact .inl rfl | exact .inr rfl | assumption):wpAny M A (storeName X.env x u) Q E s:=by
 obtain ⟨m,hn,hl⟩:=id I.loc
 have hcls:(X.env.scope.kind == .class || (X.env.scope.kind == .module && X.env.locals != X.env.globals))=false:=by rw [I.ok.kind];rfl
 have hiσ:i < σ.length:=by rw [I.len];exact (List.getElem?_eq_some_iff.mp hi).1
 have cne:=I.cne
 have tracked:∀ {a:Addr} {h':Heap},(∃ o,s.heap.get? a=some o/\H a=none)->Heap.SameBut a s.heap h'->HOk X.prog X.w H h':=fun {a h'} ha hs b ob e=>by
  obtain ⟨_,_,hfree⟩:=ha
  refine (I.hok b ob e).stay (fun c w' hc q=>(hs.2 c ?_).trans q) (fun _ q=>q) fun _ _ q=>q
  rintro rfl
  rcases hc with rfl | hc
  ·rw [hfree] at e;cases e
  ·rw [hfree] at hc;cases hc
 rcases hx with hk | hk
 ·refine wpAny_storeName_local hk hn (fun h' hn' hs=>?_) hcls
  obtain ⟨oL,_,_,hoL,_⟩:=id hn
  refine h _ ⟨I.ok,I.os,I.bare,⟨fun b o e n hb hx=>?_,fun b o e n hb hx=>?_,I.base.free,fun b o e hx=>?_,I.base.tups,I.base.frzs,I.base.tbls⟩,⟨_,hn',fun j y v' e1 e2 e3=>?_⟩,fun y c e=>?_,I.free,I.freeC,fun p hp=>?_,tracked ⟨oL,hoL,I.free⟩ hs,by simpa using I.len⟩ ⟨_,hs,.inl rfl⟩
  ·exact (hs.2 b (Nat.ne_of_lt (Nat.lt_of_lt_of_le (Heap.lt_size e) I.ok.above))).trans (I.base.keep b o e n hb hx)
  ·obtain ⟨sl,e1⟩:=I.base.slot b o e n hb hx
   exact ⟨sl,(hs.2 b (Nat.ne_of_lt (Nat.lt_of_lt_of_le (Heap.lt_size e) I.ok.above))).trans e1⟩
  ·obtain ⟨o',e1⟩:=I.base.there b o e hx
   exact ⟨o',(hs.2 b (Nat.ne_of_lt (Nat.lt_of_lt_of_le (Heap.lt_size e) I.ok.above))).trans e1⟩
  ·by_cases hj:j=i
   ·subst hj
    rw [hi] at e1;cases e1
    rw [List.getElem?_set_self hiσ] at e2
    cases e2
    exact ⟨u,r,.inl ⟨hk,by simp⟩⟩
   ·rw [List.getElem?_set_ne (Ne.symm hj)] at e2
    obtain ⟨u',r',q⟩:=hl j y v' e1 e2 e3
    refine ⟨u',r',?_⟩
    rcases q with ⟨k,e⟩ | ⟨k,c,e,z⟩
    ·refine .inl ⟨k,?_⟩
     have:y≠x:=fun e=>hj (nodup_ix hN e1 (e ▸ hi))
     simp [this,e]
    ·exact .inr ⟨k,c,e,z.sameBut hs (cne y c e)⟩
  ·obtain ⟨w',z⟩:=I.cell y c e
   exact ⟨w',z.sameBut hs (cne y c e)⟩
  ·obtain ⟨e,n,ne,nf,d⟩:=I.pin p hp
   exact ⟨(hs.2 p.1 ne).trans e,n,ne,nf,d⟩
 ·have hfn:X.fn x=true:=by
   rcases hf with z | z
   ·exact z
   ·rw [z] at hk;cases hk
  obtain ⟨c,hc⟩:=I.ok.has x (.inl hk)
  obtain ⟨w',z⟩:=I.cell x c hc
  refine wpAny_storeName_cell I.ok.kind hk hc z (fun h' hc' hs=>?_)
  obtain ⟨oc,hoc,hocd⟩:=id z
  refine h { s with heap:=h' } ⟨I.ok,I.os,I.bare,⟨fun b o e n hb hx=>?_,fun b o e n hb hx=>?_,I.base.free,fun b o e hx=>?_,I.base.tups,I.base.frzs,I.base.tbls⟩,⟨m,hn.sameBut hs (Ne.symm (cne x c hc)),fun j y v' e1 e2 e3=>?_⟩,fun y c' e=>?_,I.free,I.freeC,fun p hp=>?_,tracked ⟨oc,hoc,I.freeC x c hc⟩ hs,by simpa using I.len⟩ ⟨c,hs,.inr hc⟩
  ·exact (hs.2 b (Nat.ne_of_lt (Nat.lt_of_lt_of_le (Heap.lt_size e) (I.ok.cab x c hfn hc)))).trans (I.base.keep b o e n hb hx)
  ·obtain ⟨sl,e1⟩:=I.base.slot b o e n hb hx
   exact ⟨sl,(hs.2 b (Nat.ne_of_lt (Nat.lt_of_lt_of_le (Heap.lt_size e) (I.ok.cab x c hfn hc)))).trans e1⟩
  ·obtain ⟨o',e1⟩:=I.base.there b o e hx
   exact ⟨o',(hs.2 b (Nat.ne_of_lt (Nat.lt_of_lt_of_le (Heap.lt_size e) (I.ok.cab x c hfn hc)))).trans e1⟩
  ·by_cases hj:j=i
   ·subst hj
    rw [hi] at e1;cases e1
    rw [List.getElem?_set_self hiσ] at e2
    cases e2
    exact ⟨u,r,.inr ⟨.inl hk,c,hc,hc'⟩⟩
   ·rw [List.getElem?_set_ne (Ne.symm hj)] at e2
    obtain ⟨u',r',q⟩:=hl j y v' e1 e2 e3
    refine ⟨u',r',?_⟩
    rcases q with q | ⟨k,c',e,z'⟩
    ·exact .inl q
    ·refine .inr ⟨k,c',e,z'.sameBut hs ?_⟩
     rintro rfl
     exact hj (nodup_ix hN e1 (I.ok.inj _ _ _ e hc ▸ hi))
  ·by_cases hcc:c'=c
   ·subst hcc;exact ⟨_,hc'⟩
   ·obtain ⟨w2,z2⟩:=I.cell y c' e
    exact ⟨w2,z2.sameBut hs hcc⟩
  ·obtain ⟨e,n,ne,nf,d⟩:=I.pin p hp
   refine ⟨(hs.2 p.1 ?_).trans e,n,ne,nf,d⟩
   intro q
   rw [q,hoc] at e
   have q':oc=p.2:=Option.some.inj e
   exact d w' (by rw [<-q'];exact hocd)
theorem store_ok {M:Model} {A:Around} {E:Value->Shared->Prop} {i:Nat} {x:Str} {v:V} {u:Value} {Q:Unit->Shared->Prop} (I:Inv X pins σ H s) (hN:X.N.Nodup) (hi:X.N[i]? = some x) (hx:Loc X.env.scope x) (r:RelV v u)
  (h:∀ s',Inv X pins (σ.set i (some v)) H s'->Q () s') (hf:X.fn x=true\/X.env.scope.names.lookup x=some .local:=by first | exact .inl rfl | exact .inr rfl | assumption):wpAny M A (storeName X.env x u) Q E s:=
 store_ok2 I hN hi hx r (fun s' I' _=>h s' I') hf
theorem Inv.call' {s':Shared} {ch:List Addr} (I:Inv X pins σ H s) (ho:s'.os=s.os) (u:Un (frs X.stack) ch H H' s.heap s'.heap) (hok:HOk X.prog X.w H' s'.heap) (hg:AllBare s'.gens)
  (hch:∀ b∈ch,(b∈X.ex\/X.s₀.heap.objs.size<=b)/\b≠X.env.locals/\(∀ x c,X.env.cells.lookup x=some c->c≠b)/\∀ p∈X.pn++pins,p.1≠b):Inv X pins σ H' s':=by
 obtain ⟨h',g',d',t',o'⟩:=s'
 have e:o'=s.os:=ho
 subst e
 exact I.call (g':=g') (t':=t') (d':=d') u hok hg hch
end
abbrev XK:=Value->Option Addr->Hp->Prop
abbrev St:=List (Option V)
abbrev VK:=V->Hp->Prop
abbrev TE:=St->Hp->VK->Prop
abbrev TT:=St->Hp->(Bool->Hp->Prop)->Prop
abbrev TA:=St->Hp->(List V->Hp->Prop)->Prop
structure Ends where
 nx:St->Hp->Prop
 rt:VK
 bk:St->Hp->Prop:=fun _ _=>False
 ct:St->Hp->Prop:=fun _ _=>False
abbrev TS:=Ends->St->Hp->Prop
def EP (X:Cx) (pins:List (Addr×Obj)) (σ:St) (Q:VK) (u:Value) (s':Shared):Prop:=∃ v H',Inv X pins σ H' s'/\RelV v u/\Q v H'
def TP (X:Cx) (pins:List (Addr×Obj)) (σ:St) (Q:Bool->Hp->Prop) (b:Bool) (s':Shared):Prop:=∃ H',Inv X pins σ H' s'/\Q b H'
def AP (X:Cx) (pins:List (Addr×Obj)) (σ:St) (Q:List V->Hp->Prop) (us:List Value) (s':Shared):Prop:=∃ vs H',Inv X pins σ H' s'/\Vals vs us/\Q vs H'
def SP (X:Cx) (pins:List (Addr×Obj)) (D:Ends) (f:Flow) (s':Shared):Prop:=
 match f with
 | .next=>∃ σ' H',Inv X pins σ' H' s'/\D.nx σ' H'
 | .brk=>∃ σ' H',Inv X pins σ' H' s'/\D.bk σ' H'
 | .cont=>∃ σ' H',Inv X pins σ' H' s'/\D.ct σ' H'
 | .ret u=>∃ v σ' H',Inv X pins σ' H' s'/\RelV v u/\D.rt v H'
def PE (X:Cx) (e:Expr) (t:TE):Prop:=
 ∀ (pins:List (Addr×Obj)) (s:Shared) (σ:St) (H:Hp) (Q:VK),Inv X pins σ H s->t σ H Q->wpAny (model X.prog X.w) X.A (eval e X.env) (EP X pins σ Q) X.xe s
def PT (X:Cx) (e:Expr) (t:TT):Prop:=
 ∀ (pins:List (Addr×Obj)) (s:Shared) (σ:St) (H:Hp) (Q:Bool->Hp->Prop),Inv X pins σ H s->t σ H Q->wpAny (model X.prog X.w) X.A (isTrue e X.env (eval e X.env)) (TP X pins σ Q) X.xe s
def PW (X:Cx) (e:Expr) (t:TT):Prop:=
 ∀ (whole:Sem Value) (pins:List (Addr×Obj)) (s:Shared) (σ:St) (H:Hp) (Q:Bool->Hp->Prop),Inv X pins σ H s->t σ H Q->wpAny (model X.prog X.w) X.A (isTrue e X.env whole) (TP X pins σ Q) X.xe s
theorem PW.pt {X:Cx} {e:Expr} {t:TT} (h:PW X e t):PT X e t:=h _
def PA (X:Cx) (es:List Expr) (t:TA):Prop:=
 ∀ (pos:Pos) (pins:List (Addr×Obj)) (s:Shared) (σ:St) (H:Hp) (Q:List V->Hp->Prop),Inv X pins σ H s->t σ H Q->wpAny (model X.prog X.w) X.A (spliced (backTo pos (starEach es X.env))) (AP X pins σ Q) X.xe s
def PS (X:Cx) (st:Stmt) (t:TS):Prop:=
 ∀ (pins:List (Addr×Obj)) (s:Shared) (σ:St) (H:Hp) (D:Ends),Inv X pins σ H s->t D σ H->wpAny (model X.prog X.w) X.A (exec st X.env) (SP X pins D) X.xe s
def PSs (X:Cx) (st:List Stmt) (t:TS):Prop:=
 ∀ (pins:List (Addr×Obj)) (s:Shared) (σ:St) (H:Hp) (D:Ends),Inv X pins σ H s->t D σ H->wpAny (model X.prog X.w) X.A (execs st X.env) (SP X pins D) X.xe s
theorem thn {α:Type} {t:Sem α} {Q Q':α->Shared->Prop} {M:Model} {A:Around} {E:Value->Shared->Prop} {s:Shared} (h:wpAny M A t Q E s) (hQ:∀ a s,Q a s->Q' a s):wpAny M A t Q' E s:=wpAny_mono h hQ fun _ _ x=>x
end L2
namespace L2
open PySem PySem.Spec PyProof.Rows
section
variable {X:Cx}
def tVar (i:Nat):TE:=fun σ H Q=>∃ v,σ[i]? = some (some v)/\Q v H
def tC (v:V):TE:=fun _ H Q=>Q v H
theorem pe_var {i:Nat} {x:Str} {pos:Pos} (hN:X.N[i]? = some x) (hv:Vis X.env.scope x) (hd:(x == ("__debug__" : Str))=false:=by decide) (hcd:(x == ("__classdict__" : Str))=false:=by decide):PE X (.Name x pos) (tVar i):=by
 intro pins s σ H Q I h
 obtain ⟨v,e,h⟩:=h
 obtain ⟨m,hn,hl⟩:=I.loc
 obtain ⟨u,r,l⟩:=hl i x v hN e hv
 have fin:EP X pins σ Q u s:=⟨v,H,I,r,h⟩
 rcases l with ⟨hk,hm⟩ | ⟨hk,c,hc,hcell⟩
 ·exact wpAny_Name (wpAny_loadName_local I.ok.kind hk hn hm fin) hd
 ·rcases hk with hk | hk
  ·exact wpAny_Name (wpAny_loadName_cell I.ok.kind hk hc hcell fin) hd
  ·exact wpAny_Name (wpAny_loadName_free I.ok.kind hk hc hcell fin hcd) hd
theorem pe_int {i j pos}:PE X (.Constant (.int i) j pos) (tC (.int i)):=fun _ _ _ H _ I h=>wpAny_Constant_int ⟨.int i,H,I.tok _,⟨_,rfl⟩,h⟩
theorem pe_bl {b j pos}:PE X (.Constant (.bool b) j pos) (tC (.bl b)):=fun _ _ _ H _ I h=>Constant_bool ⟨.bl b,H,I,rfl,h⟩
theorem pe_non {j pos}:PE X (.Constant .none j pos) (tC .non):=fun _ _ _ H _ I h=>Constant_none ⟨.non,H,I,rfl,h⟩
theorem pe_str {x j pos}:PE X (.Constant (.str x) j pos) (tC (.str x)):=fun _ _ _ H _ I h=>Calls.Constant_str ⟨.str x,H,I.tok _,⟨_,rfl⟩,h⟩
def Gl (X:Cx) (x:Str):Prop:=X.env.kindOf x=some .globalImplicit
theorem ld_glob {E:Value->Shared->Prop} {pins:List (Addr×Obj)} {s:Shared} {σ:St} {H:Hp} {x:Str} {u:Value} {pos:Pos} {Q:Value->Shared->Prop} (I:Inv X pins σ H s) (hg:Gl X x) (hm:X.mg x=some u) (h:Q u s)
  (hd:(x == ("__debug__" : Str))=false:=by decide):wpAny (model X.prog X.w) X.A (eval (.Name x pos) X.env) Q E s:=
 Calls.Name_function_global I.ok.kind hg (Calls.loadGlobal_global (by rw [I.ok.glob];exact I.mod.glob.keeps I.bk) hm h) hd
theorem ld_blt {E:Value->Shared->Prop} {pins:List (Addr×Obj)} {s:Shared} {σ:St} {H:Hp} {x:Str} {u:Value} {pos:Pos} {Q:Value->Shared->Prop} (I:Inv X pins σ H s) (hg:Gl X x) (hm:X.mg x=none) (hv:bootBuiltins x=some u) (h:Q u s)
  (hn:x≠"__name__" := by decide) (hd:(x == ("__debug__" : Str))=false:=by decide):wpAny (model X.prog X.w) X.A (eval (.Name x pos) X.env) Q E s:=by
 obtain ⟨mb,h1,h2⟩:=I.mod.blt
 exact Calls.Name_function_global I.ok.kind hg (Calls.loadGlobal_builtin (by rw [I.ok.glob];exact I.mod.glob.keeps I.bk) hm (by rw [I.ok.blt];exact h1.keeps I.bk) ((h2 x hn).trans hv) h) hd
theorem pe_glob {x:Str} {v:V} {u:Value} {pos:Pos} (hg:Gl X x) (hm:X.mg x=some u) (r:RelV v u) (hd:(x == ("__debug__" : Str))=false:=by decide):PE X (.Name x pos) (tC v):=
 fun _ _ _ H _ I h=>ld_glob I hg hm ⟨v,H,I,r,h⟩ hd
theorem pe_bltn {x:Str} {v:V} {u:Value} {pos:Pos} (hg:Gl X x) (hm:X.mg x=none) (hv:bootBuiltins x=some u) (r:RelV v u) (hn:x≠"__name__" := by decide) (hd:(x == ("__debug__" : Str))=false:=by decide):PE X (.Name x pos) (tC v):=
 fun _ _ _ H _ I h=>ld_blt I hg hm hv ⟨v,H,I,r,h⟩ hn hd
variable {a b:Expr} {ta tb:TE} {pos:Pos}
variable {tA tB':TT} {rest:List Expr}
def tAnd (t u:TT):TT:=fun σ H Q=>t σ H fun c H1=>if c=true then u σ H1 Q else Q false H1
def tOr (t u:TT):TT:=fun σ H Q=>t σ H fun c H1=>if c=true then Q true H1 else u σ H1 Q
def tNot (t:TT):TT:=fun σ H Q=>t σ H fun c H1=>Q (!c) H1
theorem pw_and1 (ha:PT X a tA):PW X (.BoolOp .And [a] pos) tA:=by
 intro wh pins s σ H Q I h
 refine isTrue_and (thn (ha pins s σ H Q I h) fun c s1 e=>?_)
 cases c with
 | true=>exact isTrue_and_nil e
 | false=>exact e
theorem pw_or1 (ha:PT X a tA):PW X (.BoolOp .Or [a] pos) tA:=by
 intro wh pins s σ H Q I h
 refine isTrue_or (thn (ha pins s σ H Q I h) fun c s1 e=>?_)
 cases c with
 | false=>exact isTrue_or_nil e
 | true=>exact e
theorem pw_and (ha:PT X a tA) (hb:PW X (.BoolOp .And (b :: rest) pos) tB'):PW X (.BoolOp .And (a :: b :: rest) pos) (tAnd tA tB'):=by
 intro wh pins s σ H Q I h
 refine isTrue_and (thn (ha pins s σ H _ I h) fun c s1 ⟨H1,I1,q1⟩=>?_)
 cases c with
 | true=>exact hb wh pins s1 σ H1 Q I1 q1
 | false=>exact ⟨H1,I1,q1⟩
theorem pw_or (ha:PT X a tA) (hb:PW X (.BoolOp .Or (b :: rest) pos) tB'):PW X (.BoolOp .Or (a :: b :: rest) pos) (tOr tA tB'):=by
 intro wh pins s σ H Q I h
 refine isTrue_or (thn (ha pins s σ H _ I h) fun c s1 ⟨H1,I1,q1⟩=>?_)
 cases c with
 | true=>exact ⟨H1,I1,q1⟩
 | false=>exact hb wh pins s1 σ H1 Q I1 q1
theorem pt_not (ha:PT X a tA):PT X (.UnaryOp .Not a pos) (tNot tA):=by
 intro pins s σ H Q I h
 exact isTrue_not (ha pins s σ H (fun c H1=>Q (!c) H1) I h)
theorem pe_one {op} {t:TE} (h:PE X a t):PE X (.BoolOp op [a] pos) t:=fun pins s σ H Q I hw=>BoolOp_one (h pins s σ H Q I hw)
def tIf (t:TT) (ta tb:TE):TE:=fun σ H Q=>t σ H fun c H1=>if c=true then ta σ H1 Q else tb σ H1 Q
theorem pe_ifExp {c:Expr} (hc:PT X c tA) (ha:PE X a ta) (hb:PE X b tb):PE X (.IfExp c a b pos) (tIf tA ta tb):=by
 intro pins s σ H Q I h
 refine wpAny_IfExp (thn (hc pins s σ H _ I h) fun d s1 ⟨H1,I1,q1⟩=>?_)
 cases d with
 | true=>exact ha pins s1 σ H1 Q I1 q1
 | false=>exact hb pins s1 σ H1 Q I1 q1
end
end L2
namespace L2
open PySem PySem.Spec PyProof.Rows
def SqL (K:PySem.W.Frag) (H:Hp) (a:Addr) (xs:List V):Prop:=
 Rd H a (.lst xs) ∨
  ∃ (o:Obj) (its:Array Value) (n:Nat),K.lookup a=some o/\o.cls = .type "list"/\o.dict=none/\o.data = .seq its n/\its.size<=sizeLine/\Vals xs its.toList
def SqT (K:PySem.W.Frag) (H:Hp) (a:Addr) (xs:List V):Prop:=
 Rd H a (.tup xs) ∨
  ∃ (o:Obj) (its:Array Value) (n:Nat),K.lookup a=some o/\o.cls = .type "tuple"/\o.data = .seq its n/\its.size<=sizeLine/\Vals xs its.toList
def absV:Value->Option V
 | .none=>some .non
 | .bool b=>some (.bl b)
 | .int i _=>some (.int i)
 | .str x _=>some (.str x)
 | .bytes b _=>some (.byt b)
 | .float b _=>some (.flt b)
 | .ref a=>some (.ref a)
 | .type n=>some (.ty n)
 | _=>none
theorem RelV.abs {x:V} {u:Value} (r:RelV x u):absV u=some x:=by
 cases x with
 | non=>cases r;rfl
 | bl _=>cases r;rfl
 | int _=>obtain ⟨t,rfl⟩:=r;rfl
 | str _=>obtain ⟨t,rfl⟩:=r;rfl
 | byt _=>obtain ⟨t,rfl⟩:=r;rfl
 | flt _=>obtain ⟨t,rfl⟩:=r;rfl
 | ref _=>cases r;rfl
 | ty _=>cases r;rfl
theorem RelV.inj {x y:V} {u:Value} (r:RelV x u) (q:RelV y u):x=y:=Option.some.inj (r.abs.symm.trans q.abs)
theorem Vals.inj:∀ {xs ys:List V} {us:List Value},Vals xs us->Vals ys us->xs=ys
 | _,_,_,.nil,.nil=>rfl
 | _,_,_,.cons r t,.cons r' t'=>by rw [r.inj r',Vals.inj t t']
section
variable {X:Cx} {pins:List (Addr×Obj)} {σ:St} {H:Hp} {s:Shared} {a:Addr} {xs ys:List V}
theorem SqL.of {K:PySem.W.Frag} (h:H a=some (.lst xs)):SqL K H a xs:=.inl (.inl h)
theorem SqT.of {K:PySem.W.Frag} (h:H a=some (.tup xs)):SqT K H a xs:=.inl (.inl h)
theorem Inv.list (I:Inv X pins σ H s) (h:SqL X.K H a xs):∃ its:List Value,Vals xs its/\PlainL s.heap a its.toArray/\xs.length<=sizeLine:=by
 rcases h with h | ⟨o,its,n,hk,hc,hd,hs,hz,r⟩
 ·obtain ⟨z,its,n,r,e⟩:=h.ok I.hok
  exact ⟨its,r,⟨_,n,e,rfl,rfl,rfl⟩,z⟩
 ·refine ⟨its.toList,r,⟨o,n,I.kIn a o hk,hc,hd,by simpa using hs⟩,?_⟩
  have e:=r.length
  simp only [Array.length_toList] at e
  omega
theorem Inv.tuple (I:Inv X pins σ H s) (h:SqT X.K H a xs):∃ its:List Value,Vals xs its/\IsTup s.heap a its.toArray/\xs.length<=sizeLine:=by
 rcases h with h | ⟨o,its,n,hk,hc,hs,hz,r⟩
 ·obtain ⟨z,its,r,p⟩:=h.ok I.hok
  exact ⟨its,r,p,z⟩
 ·refine ⟨its.toList,r,⟨o,I.kIn a o hk,hc,n,by simpa using hs⟩,?_⟩
  have e:=r.length
  simp only [Array.length_toList] at e
  omega
theorem Inv.list_inj (I:Inv X pins σ H s) (h:SqL X.K H a xs) (h':SqL X.K H a ys):xs=ys:=by
 obtain ⟨its,r,⟨o,n,e,_,_,d⟩,_⟩:=I.list h
 obtain ⟨its',r',⟨o',n',e',_,_,d'⟩,_⟩:=I.list h'
 rw [e] at e';cases e'
 rw [d] at d'
 injection d' with d1 _
 have:its=its':=by simpa using congrArg Array.toList d1
 subst this
 exact r.inj r'
theorem Inv.tuple_inj (I:Inv X pins σ H s) (h:SqT X.K H a xs) (h':SqT X.K H a ys):xs=ys:=by
 obtain ⟨its,r,⟨o,e,_,n,d⟩,_⟩:=I.tuple h
 obtain ⟨its',r',⟨o',e',_,n',d'⟩,_⟩:=I.tuple h'
 rw [e] at e';cases e'
 rw [d] at d'
 injection d' with d1 _
 have:its=its':=by simpa using congrArg Array.toList d1
 subst this
 exact r.inj r'
end
abbrev Cx.wish (X:Cx) (E:Value->Shared->Prop):Cx:={ X with xe:=E }
abbrev Cx.nox (X:Cx):Cx:=X.wish fun _ _=>False
theorem Cx.Ok.wish {X:Cx} (ok:X.Ok) (E:Value->Shared->Prop):(X.wish E).Ok:=
 ⟨ok.mod,ok.kind,ok.glob,ok.blt,ok.above,ok.inj,ok.has,ok.cab,ok.hd,ok.frames,ok.stk,ok.exf,ok.bs,ok.bsz,ok.noex,ok.exfs,ok.funs,ok.frf⟩
theorem Cx.Ok.unwish {X:Cx} {E:Value->Shared->Prop} (ok:(X.wish E).Ok):X.Ok:=
 ⟨ok.mod,ok.kind,ok.glob,ok.blt,ok.above,ok.inj,ok.has,ok.cab,ok.hd,ok.frames,ok.stk,ok.exf,ok.bs,ok.bsz,ok.noex,ok.exfs,ok.funs,ok.frf⟩
section
variable {X:Cx} {pins:List (Addr×Obj)} {σ:St} {H:Hp} {s:Shared} {E:Value->Shared->Prop}
theorem Inv.wish (I:Inv X pins σ H s) (E:Value->Shared->Prop):Inv (X.wish E) pins σ H s:=⟨I.ok.wish E,I.os,I.bare,I.base,I.loc,I.cell,I.free,I.freeC,I.pin,I.hok,I.len⟩
theorem Inv.unwish (I:Inv (X.wish E) pins σ H s):Inv X pins σ H s:=⟨I.ok.unwish,I.os,I.bare,I.base,I.loc,I.cell,I.free,I.freeC,I.pin,I.hok,I.len⟩
theorem SP.unwish {D:Ends} {f:Flow} {s':Shared} (h:SP (X.wish E) pins D f s'):SP X pins D f s':=by
 cases f with
 | next=>obtain ⟨σ',H',I,q⟩:=h;exact ⟨σ',H',I.unwish,q⟩
 | brk=>obtain ⟨σ',H',I,q⟩:=h;exact ⟨σ',H',I.unwish,q⟩
 | cont=>obtain ⟨σ',H',I,q⟩:=h;exact ⟨σ',H',I.unwish,q⟩
 | ret u=>obtain ⟨v,σ',H',I,r,q⟩:=h;exact ⟨v,σ',H',I.unwish,r,q⟩
theorem PE.nox {e:Expr} {t:TE} (h:PE X.nox e t):PE X e t:=fun pins s σ H Q I hw=>
 wpAny_mono (h pins s σ H Q (I.wish _) hw) (fun _ _ ⟨v,H',I',r,q⟩=>⟨v,H',I'.unwish,r,q⟩) fun _ _ z=>False.elim z
theorem PT.nox {e:Expr} {t:TT} (h:PT X.nox e t):PT X e t:=fun pins s σ H Q I hw=>
 wpAny_mono (h pins s σ H Q (I.wish _) hw) (fun _ _ ⟨H',I',q⟩=>⟨H',I'.unwish,q⟩) fun _ _ z=>False.elim z
theorem PSs.nox {st:List Stmt} {t:TS} (h:PSs X.nox st t):PSs X st t:=fun pins s σ H D I hw=>
 wpAny_mono (h pins s σ H D (I.wish _) hw) (fun _ _ q=>q.unwish) fun _ _ z=>False.elim z
end
section
variable {X:Cx} {st:Stmt} {rest:List Stmt} {t u:TS} {e:Expr} {te:TE} {pos:Pos}
def tNext:TS:=fun D σ H=>D.nx σ H
def tSeq (t u:TS):TS:=fun D σ H=>t { D with nx:=u D } σ H
theorem pss_nil:PSs X [] tNext:=fun _ _ σ H _ I h=>wpAny_execs_nil ⟨σ,H,I,h⟩
theorem pss_cons (h1:PS X st t) (h2:PSs X rest u):PSs X (st :: rest) (tSeq t u):=by
 intro pins s σ H D I h
 refine wpAny_execs_cons (thn (h1 pins s σ H { D with nx:=u D } I h) fun f s1 q=>?_)
 cases f with
 | next=>
  obtain ⟨σ',H',I',q⟩:=q
  exact h2 pins s1 σ' H' D I' q
 | ret v=>exact q
 | brk=>exact q
 | cont=>exact q
theorem pss_one (h1:PS X st t):PSs X [st] t:=by
 intro pins s σ H D I h
 refine wpAny_execs_cons (thn (h1 pins s σ H D I h) fun f s1 q=>?_)
 cases f with
 | next=>exact wpAny_execs_nil q
 | ret v=>exact q
 | brk=>exact q
 | cont=>exact q
theorem Inv.quiet {pins:List (Addr×Obj)} {σ:St} {H:Hp} {s:Shared} (I:Inv X pins σ H s):interactive X.env=false:=by simp [interactive,I.ok.kind]
def tDrop (te:TE):TS:=fun D σ H=>te σ H fun _ H1=>D.nx σ H1
theorem ps_expr (he:PE X e te) (hs:swapsWith e none pos.line X.env=pure false:=by rfl):PS X (.Expr e pos) (tDrop te):=by
 intro pins s σ H D I h
 exact wpAny_Expr_any (thn (he pins s σ H _ I h) fun v s1 ⟨x,H1,I1,r1,q1⟩=>⟨σ,H1,I1,q1⟩) I.quiet hs
def tRet (te:TE):TS:=fun D σ H=>te σ H D.rt
theorem ps_ret (he:PE X e te):PS X (.Return (some e) pos) (tRet te):=by
 intro pins s σ H D I h
 exact wpAny_Return_some (thn (he pins s σ H _ I h) fun v s1 ⟨x,H1,I1,r1,q1⟩=>⟨x,σ,H1,I1,r1,q1⟩)
def tIfS (c:TT) (t u:TS):TS:=fun D σ H=>c σ H fun b H1=>if b=true then t D σ H1 else u D σ H1
theorem ps_if {c:Expr} {a b:List Stmt} {tc:TT} (hc:PT X c tc) (ha:PSs X a t) (hb:PSs X b u):PS X (.If c a b pos) (tIfS tc t u):=by
 intro pins s σ H D I h
 refine wpAny_If (thn (hc pins s σ H _ I h) fun d s1 ⟨H1,I1,q1⟩=>?_)
 cases d with
 | true=>exact ha pins s1 σ H1 D I1 q1
 | false=>exact hb pins s1 σ H1 D I1 q1
end
abbrev TG:=V->St->Hp->(St->Hp->Prop)->Prop
abbrev TGs:=List V->St->Hp->(St->Hp->Prop)->Prop
def PG (X:Cx) (target:Expr) (t:TG):Prop:=
 ∀ (pins:List (Addr×Obj)) (s:Shared) (σ:St) (H:Hp) (v:V) (u:Value) (Q:St->Hp->Prop),Inv X pins σ H s->RelV v u->t v σ H Q →
  wpAny (model X.prog X.w) X.A (assign target X.env u) (fun _ s'=>∃ σ' H',Inv X pins σ' H' s'/\Q σ' H') X.xe s
def PGs (X:Cx) (ts:List Expr) (t:TGs):Prop:=
 ∀ (pins:List (Addr×Obj)) (s:Shared) (σ:St) (H:Hp) (vs:List V) (us:List Value) (Q:St->Hp->Prop),Inv X pins σ H s->Vals vs us->t vs σ H Q →
  wpAny (model X.prog X.w) X.A (assignInOrder ((assignEach ts X.env).map (·.2)) us) (fun _ s'=>∃ σ' H',Inv X pins σ' H' s'/\Q σ' H') X.xe s
abbrev TSet:=V->V->V->Hp->(Hp->Prop)->Prop
def PSet (X:Cx) (t:TSet):Prop:=
 ∀ (pins:List (Addr×Obj)) (s:Shared) (σ:St) (H:Hp) (o i v:V) (ov iv u:Value) (Q:Hp->Prop),Inv X pins σ H s->RelV o ov->RelV i iv->RelV v u->t o i v H Q →
  wpAny (model X.prog X.w) X.A (setItem ov iv u) (fun _ s'=>∃ H',Inv X pins σ H' s'/\Q H') X.xe s
abbrev TIp:=V->V->Hp->VK->Prop
def PIp (X:Cx) (op:Operator) (t:TIp):Prop:=
 ∀ (pins:List (Addr×Obj)) (s:Shared) (σ:St) (H:Hp) (x y:V) (v u:Value) (Q:VK),Inv X pins σ H s->RelV x v->RelV y u->t x y H Q →
  wpAny (model X.prog X.w) X.A (inplaceOp op v u) (EP X pins σ Q) X.xe s
section
variable {X:Cx} {pos:Pos}
def gName (i:Nat):TG:=fun v σ H Q=>Q (σ.set i (some v)) H
theorem pg_name {i:Nat} {x:Str} (hN:X.N.Nodup) (hi:X.N[i]? = some x) (hx:Loc X.env.scope x) (hf:X.fn x=true\/X.env.scope.names.lookup x=some .local:=by first | exact .inl rfl | exact .inr rfl | assumption):PG X (.Name x pos) (gName i):=by
 intro pins s σ H v u Q I r h
 exact wpAny_assign_Name (store_ok I hN hi hx r (fun s' I'=>⟨_,H,I',h⟩) hf)
def gNil:TGs:=fun vs σ H Q=>vs=[]/\Q σ H
def gCons (t:TG) (u:TGs):TGs:=fun vs σ H Q=>∃ v r,vs=v :: r/\t v σ H fun σ' H'=>u r σ' H' Q
theorem pgs_nil:PGs X [] gNil:=by
 intro pins s σ H vs us Q I r h
 obtain ⟨e,h⟩:=h
 subst e
 cases r
 exact assignInOrder_nil ⟨σ,H,I,h⟩
theorem pgs_cons {e:Expr} {es:List Expr} {t:TG} {u:TGs} (h1:PG X e t) (h2:PGs X es u)
  (hs:(assignEach (e :: es) X.env).map (·.2)=assign e X.env :: (assignEach es X.env).map (·.2):=by rfl):PGs X (e :: es) (gCons t u):=by
 intro pins s σ H vs us Q I r h
 obtain ⟨v,vr,e1,h⟩:=h
 subst e1
 cases r with
 | cons r rr=>
  rw [hs]
  refine assignInOrder_cons (thn (h1 pins s σ H _ _ _ I r h) fun _ s1 ⟨σ1,H1,I1,q1⟩=>?_)
  exact h2 pins s1 σ1 H1 _ _ Q I1 rr q1
def gTup (K:PySem.W.Frag) (n:Nat) (t:TGs):TG:=fun v σ H Q=>∃ a xs,v = .ref a/\SqT K H a xs/\xs.length=n/\t xs σ H Q
theorem pg_tup {es:List Expr} {k:Nat} {t:TGs} {n:Nat} (hc:X.calm=true) (h:PGs X es t)
  (hn:(assignEach es X.env).length=n:=by rfl) (hst:(assignEach es X.env).findIdx? (·.1)=none:=by rfl):PG X (.Tuple es k pos) (gTup X.K n t):=by
 intro pins s σ H v u Q I r hw
 obtain ⟨a,xs,e1,hq,hl,hw⟩:=hw
 subst e1
 cases r
 obtain ⟨its,rv,ht,hz⟩:=I.tuple hq
 refine assign_Tuple_tuple (I.ok.hd hc) ht (by simp [hn,<-hl,rv.length]) hst fun h' hx=>?_
 have I1:Inv X pins σ H { s with heap:=h' }:=I.kept (t':=s.toks) fun b o e=>hx b o (Nat.ne_of_lt (Heap.lt_size e)) e
 exact h pins _ σ H xs _ Q I1 (by simpa using rv) hw
def gSub (to ti:TE) (t:TSet):TG:=fun v σ H Q=>to σ H fun o H1=>ti σ H1 fun i H2=>t o i v H2 fun H3=>Q σ H3
theorem pg_sub {o i:Expr} {to ti:TE} {t:TSet} (ho:PE X o to) (hi:PE X i ti) (hs:PSet X t)
  (ha:∀ v,assign (.Subscript o i pos) X.env v=(do
   let ov <-holding [v] (eval o X.env)
   let iv <-holding [v,ov] (eval i X.env)
   standAt pos
   holding [v,ov,iv] (setItem ov iv v)
   release [v,ov,iv] []):=by intro _;rfl):PG X (.Subscript o i pos) (gSub to ti t):=by
 intro pins s σ H v u Q I r h
 rw [ha]
 refine wpAny_bind (wpAny_holding (thn (ho pins s σ H _ I h) fun ov s1 ⟨x,H1,I1,r1,q1⟩=>?_))
 refine wpAny_bind (wpAny_holding (thn (hi pins s1 σ H1 _ I1 q1) fun iv s2 ⟨y,H2,I2,r2,q2⟩=>?_))
 refine wpAny_bind (wpAny_standAt (wpAny_bind (wpAny_holding (thn (hs pins s2 σ H2 x y v ov iv u _ I2 r1 r2 r q2) fun _ s3 ⟨H3,I3,q3⟩=>?_))))
 exact wpAny_release ⟨σ,H3,I3,q3⟩
def tAsg (te:TE) (g:TG):TS:=fun D σ H=>te σ H fun x H1=>g x σ H1 D.nx
theorem ps_asg {tg e:Expr} {te:TE} {g:TG} (he:PE X e te) (hg:PG X tg g) (hs:swapsWithSole [tg] e pos.line X.env=pure false:=by rfl) (hw:swappedStores [tg] e X.env=pure none:=by rfl)
  (h1:(assignEach [tg] X.env).map (·.2)=[assign tg X.env]:=by rfl):PS X (.Assign [tg] e pos) (tAsg te g):=by
 intro pins s σ H D I h
 refine wpAny_Assign_stores (thn (he pins s σ H _ I h) fun v s1 ⟨x,H1,I1,r1,q1⟩=>?_) hs hw
 rw [h1]
 exact thn (hg pins s1 σ H1 x v _ I1 r1 q1) fun _ s2 q=>q
def tAug (i:Nat) (te:TE) (ti:TIp):TS:=fun D σ H=>∃ x,σ[i]? = some (some x)/\te σ H fun y H1=>ti x y H1 fun z H2=>D.nx (σ.set i (some z)) H2
theorem ps_aug {i:Nat} {x:Str} {e:Expr} {te:TE} {op:Operator} {ti:TIp} {pos':Pos} (hN:X.N.Nodup) (hi:X.N[i]? = some x) (hx:Loc X.env.scope x) (he:PE X e te) (ho:PIp X op ti) (hf:X.fn x=true\/X.env.scope.names.lookup x=some .local:=by first | exact .inl rfl | exact .inr rfl | assumption) :
  PS X (.AugAssign (.Name x pos') op e pos) (tAug i te ti):=by
 intro pins s σ H D I h
 obtain ⟨v,e1,h⟩:=h
 obtain ⟨m,hn,hl⟩:=I.loc
 have vis:Vis X.env.scope x:=by rcases hx with k | k;exact .inl k;exact .inr (.inl k)
 obtain ⟨u,r,l⟩:=hl i x v hi e1 vis
 refine wpAny_AugAssign_Name ?_
 have go:wpAny (model X.prog X.w) X.A (eval e X.env) (fun w s₂=>wpAny (model X.prog X.w) X.A (inplaceOp op u w) (fun r s₃=>wpAny (model X.prog X.w) X.A (storeName X.env x r) (fun _=>SP X pins D .next) X.xe s₃) X.xe s₂) X.xe s:=by
  refine thn (he pins s σ H _ I h) fun w s1 ⟨y,H1,I1,r1,q1⟩=>?_
  refine thn (ho pins s1 σ H1 v y u w _ I1 r r1 q1) fun z s2 ⟨zv,H2,I2,r2,q2⟩=>?_
  exact store_ok I2 hN hi hx r2 (fun s3 I3=>⟨_,H2,I3,q2⟩) hf
 rcases l with ⟨hk,hm⟩ | ⟨hk,c,hc,hcell⟩
 ·exact wpAny_loadName_local I.ok.kind hk hn hm go
 ·rcases hk with hk | hk
  ·exact wpAny_loadName_cell I.ok.kind hk hc hcell go
  ·rcases hx with k | k
   ·have:X.env.scope.names.lookup x=some .free:=hk
    rw [k] at this;cases this
   ·have:X.env.scope.names.lookup x=some .free:=hk
    rw [k] at this;cases this
def ipI (f:Int->Int->Int):TIp:=fun x y H Q=>∃ i j,x = .int i/\y = .int j/\Q (.int (f i j)) H
theorem ip_add:PIp X .Add (ipI fun i j=>i+j):=by
 intro pins s σ H x y v u Q I r1 r2 h
 obtain ⟨i,j,e1,e2,q⟩:=h
 subst e1;subst e2
 obtain ⟨t,rfl⟩:=r1
 obtain ⟨t',rfl⟩:=r2
 exact iadd_int ⟨.int _,H,I.tok _,⟨_,rfl⟩,q⟩
end
section
variable {X:Cx} {pos:Pos}
def tWhile (c:TT) (tb:TS):TS:=fun D σ H=>∃ W:Nat->St->Hp->Prop,(∃ m,W m σ H)/\∀ m σ H,W m σ H →
 c σ H fun b H1=>if b=true then ∃ N:St->Hp->Prop,(∀ σ' H',N σ' H'->∃ m',m' < m/\W m' σ' H')/\tb { D with nx:=N,ct:=N,bk:=D.nx } σ H1 else D.nx σ H1
theorem ps_while {c:Expr} {body:List Stmt} {tc:TT} {tb:TS} (hp:PassesOwn (model X.prog X.w) X.A X.env X.xe) (hc:PT X c tc) (hb:PSs X body tb):PS X (.While c body [] pos) (tWhile tc tb):=by
 intro pins s σ H D I h
 obtain ⟨W,⟨m0,w0⟩,turn⟩:=h
 refine wpAny_While (codeAny_whileLoop (fun n s'=>∃ σ' H',Inv X pins σ' H' s'/\W n σ' H') ?_ m0 ⟨σ,H,I,w0⟩)
 rintro n s1 ⟨σ1,H1,I1,w1⟩
 refine wpAny_passesOwn hp (thn (hc pins s1 σ1 H1 _ I1 (turn n σ1 H1 w1)) fun b s2 ⟨H2,I2,q2⟩=>?_)
 cases b with
 | true=>
  obtain ⟨N,hN,q2⟩:=q2
  rw [if_pos rfl]
  refine wpAny_passesOwn hp (thn (hb pins s2 σ1 H2 _ I2 q2) fun f s3 q3=>?_)
  cases f with
  | next=>
   obtain ⟨σ3,H3,I3,n3⟩:=q3
   obtain ⟨m',hm,w3⟩:=hN σ3 H3 n3
   exact ⟨m',hm,σ3,H3,I3,w3⟩
  | cont=>
   obtain ⟨σ3,H3,I3,n3⟩:=q3
   obtain ⟨m',hm,w3⟩:=hN σ3 H3 n3
   exact ⟨m',hm,σ3,H3,I3,w3⟩
  | brk=>exact q3
  | ret v=>exact q3
 | false=>
  rw [if_neg Bool.false_ne_true]
  exact wpAny_execs_nil ⟨σ1,H2,I2,q2⟩
end
structure It where
 go:Nat->Hp->Prop
 yld:Nat->Hp->V->Hp->Prop
 stop:Nat->Hp->Prop
def FpOk (X:Cx) (pins:List (Addr×Obj)) (H:Hp) (b:Addr):Prop:=
 H b=none/\b≠X.env.locals/\b ∉ X.fs/\(b∈X.ex\/X.s₀.heap.objs.size<=b)/\(∀ x c,X.env.cells.lookup x=some c->c≠b)/\∀ p∈X.pn++pins,p.1≠b
theorem Inv.fpOk {X:Cx} {pins:List (Addr×Obj)} {σ:St} {H H':Hp} {s:Shared} {b:Addr} (I:Inv X pins σ H s) (hb:s.heap.objs.size<=b) (hn:H' b=none):FpOk X pins H' b:=by
 refine ⟨hn,Nat.ne_of_gt (Nat.lt_of_lt_of_le I.lt hb),I.nofs hb,.inr (Nat.le_trans I.sz hb),fun x c e z=>?_,fun p hp z=>?_⟩
 ·obtain ⟨v,q⟩:=I.cell x c e
  exact absurd (Nat.lt_of_lt_of_le q.lt (by rw [z];exact hb)) (Nat.lt_irrefl _)
 ·exact absurd (Nat.lt_of_lt_of_le (Heap.lt_size (I.pin p hp).1) (by rw [z];exact hb)) (Nat.lt_irrefl _)
structure Turn (P:Program) (w:World) (K:PySem.W.Frag) (tg:Expr) (J:It) (fp:List Addr) (it:Addr) (tn:Nat->Heap->Prop):Prop where
 mem:it∈fp
 obj:∀ i h,tn i h->∀ b∈fp,∃ o,h.get? b=some o/\∀ v,o.data≠.cell v
 keep:∀ i h h',tn i h->(∀ b∈fp,∀ o,h.get? b=some o->h'.get? b=some o)->tn i h'
 item:∀ (X:Cx),X.prog=P->X.w=w->X.K=K->X.calm=true->∀ (i:Nat) (pins:List (Addr×Obj)) (s:Shared) (σ:St) (H:Hp) (E:Value->Shared->Prop),Inv X pins σ H s->(∀ b∈fp,FpOk X pins H b)->tn i s.heap->J.go i H →
  wpAny (model P w) X.A (pyNext (.ref it)) (fun r s1=>∃ u,r=some u ∧
   wpAny (model P w) X.A (letOwnedTupleGo tg (.ref it) u) (fun _ s2=>∃ x H',Inv X pins σ H' s2/\RelV x u/\J.yld i H x H'/\tn (i+1) s2.heap/\∀ b∈fp,H' b=none) E s1) E s
 done:∀ (X:Cx),X.prog=P->X.w=w->X.K=K->X.calm=true->∀ (i:Nat) (pins:List (Addr×Obj)) (s:Shared) (σ:St) (H:Hp) (E:Value->Shared->Prop),Inv X pins σ H s->(∀ b∈fp,FpOk X pins H b)->tn i s.heap->J.stop i H →
  wpAny (model P w) X.A (pyNext (.ref it)) (fun r s1=>r=none/\Inv X pins σ H s1) E s
 self:∀ (A:Around) (i:Nat) (s:Shared) (Q:Value->Shared->Prop) (E:Value->Shared->Prop),tn i s.heap->Q (.ref it) s->wpAny (model P w) A (pyIter (.ref it)) Q E s
abbrev TI:=St->Hp->(It->Hp->Prop)->Prop
def PIE (X:Cx) (pins:List (Addr×Obj)) (σ:St) (tg:Expr) (R:It->Hp->Prop) (itv:Value) (s2:Shared):Prop:=
 ∃ (it:Addr) (fp:List Addr) (tn:Nat->Heap->Prop) (J:It) (H':Hp),itv = .ref it/\Inv X pins σ H' s2/\Turn X.prog X.w X.K tg J fp it tn/\tn 0 s2.heap/\(∀ b∈fp,FpOk X pins H' b)/\R J H'
def PI (X:Cx) (tg iter:Expr) (wi:TI):Prop:=
 ∀ (pins:List (Addr×Obj)) (s:Shared) (σ:St) (H:Hp) (R:It->Hp->Prop),Inv X pins σ H s->wi σ H R →
  wpAny (model X.prog X.w) X.A (eval iter X.env) (fun v s1=>wpAny (model X.prog X.w) X.A (pyIter v) (PIE X pins σ tg R) X.xe s1) X.xe s
theorem go_of {M:Model} {A:Around} {E:Value->Shared->Prop} {s:Shared} {tg:Expr} {it:Addr} {u:Value} {o:Obj} {n:String} {vs:Array Value} {Q:Unit->Shared->Prop} (ho:s.heap.get? it=some o) (hc:o.cls = .type n) (hd:o.data = .fields vs)
  (hn:["enumerate","zip","dict_itemiterator","dict_reverseitemiterator","odict_iterator","itertools.zip_longest","itertools.pairwise"].contains n=false) (hQ:Q () s):wpAny M A (letOwnedTupleGo tg (.ref it) u) Q E s:=by
 unfold letOwnedTupleGo
 cases tg<;>first
  | exact wpAny_pure hQ
  | (cases u<;>first
    | exact wpAny_pure hQ
    | (refine wpAny_bind (wpAny_load ho ?_)
       rw [hc,hd]
       show wpAny M A (if (["enumerate","zip","dict_itemiterator","dict_reverseitemiterator","odict_iterator","itertools.zip_longest","itertools.pairwise"].contains n && vs[0]? == some (rawInt _))=true then _ else _) Q E s
       rw [if_neg (by intro h;rw [hn,Bool.false_and] at h;cases h)]
       exact wpAny_pure hQ))
def Itl (K:PySem.W.Frag) (a:Addr):It:=
 ⟨fun i H=>∃ xs x,SqL K H a xs/\xs[i]? = some x,fun i H x H'=>H'=H/\∀ xs,SqL K H a xs->xs[i]? = some x,fun i H=>∃ xs,SqL K H a xs/\xs.length<=i⟩
def Itt (K:PySem.W.Frag) (a:Addr):It:=
 ⟨fun i H=>∃ xs x,SqT K H a xs/\xs[i]? = some x,fun i H x H'=>H'=H/\∀ xs,SqT K H a xs->xs[i]? = some x,fun i H=>∃ xs,SqT K H a xs/\xs.length<=i⟩
def Itr (lo:Int) (n:Nat):It:=⟨fun i _=>i < n,fun i H x H'=>H'=H/\x = .int (lo+i),fun i _=>n<=i⟩
theorem turn_list {P:Program} {w:World} {K:PySem.W.Frag} {tg:Expr} (a it:Addr):Turn P w K tg (Itl K a) [it] it (fun i h=>h.IsListIter it a i) where
 mem:=by simp
 obj:=fun i h st b hb=>by
  have e:b=it:=by simpa using hb
  subst e
  obtain ⟨o,e,c,d⟩:=st
  exact ⟨o,e,fun v z=>by rw [d] at z;cases z⟩
 keep:=fun i h h' st k=>st.at fun o e=>k it (by simp) o e
 item:=by
  intro X hP hw hK hc i pins s σ H E I hf st hg
  subst hP hw hK
  obtain ⟨xs,x,hq,hx⟩:=hg
  obtain ⟨its,rv,p,hz⟩:=I.list hq
  obtain ⟨u,hu,ru⟩:=rv.get hx
  obtain ⟨f0,f1,f2,f3,f4,f5⟩:=hf it (by simp)
  refine wpAny_pyNext_list_item st p.isList (x:=u) (by simpa using hu) fun h' st' sb=>?_
  have I1:Inv X pins σ H { s with heap:=h' }:=I.turned (t':=s.toks) (fun b o hb e=>(sb.2 b hb).trans e) f0 f1 f3 f4 f5
  obtain ⟨o,e,c,d⟩:=id st'
  exact ⟨u,rfl,go_of (s:={ s with heap:=h' }) e c d (by decide) ⟨x,H,I1,ru,⟨rfl,fun ys hy=>by rw [I.list_inj hy hq];exact hx⟩,st',fun b hb=>(hf b hb).1⟩⟩
 done:=by
  intro X hP hw hK hc i pins s σ H E I hf st hg
  subst hP hw hK
  obtain ⟨xs,hq,hx⟩:=hg
  obtain ⟨its,rv,p,hz⟩:=I.list hq
  obtain ⟨f0,f1,f2,f3,f4,f5⟩:=hf it (by simp)
  have hl:=rv.length
  exact wpAny_pyNext_list_end (I.ok.hd hc) st p.isList (by simp;omega) fun h' eb=>⟨rfl,I.turned (t':=s.toks) (fun b o hb e=>eb b o hb e) f0 f1 f3 f4 f5⟩
 self:=fun _ _ _ _ _ st h=>wpAny_pyIter_listiter st h
theorem turn_tuple {P:Program} {w:World} {K:PySem.W.Frag} {tg:Expr} (a it:Addr):Turn P w K tg (Itt K a) [it] it (fun i h=>h.IsTupleIter it a i) where
 mem:=by simp
 obj:=fun i h st b hb=>by
  have e:b=it:=by simpa using hb
  subst e
  obtain ⟨o,e,c,d⟩:=st
  exact ⟨o,e,fun v z=>by rw [d] at z;cases z⟩
 keep:=fun i h h' st k=>st.at fun o e=>k it (by simp) o e
 item:=by
  intro X hP hw hK hc i pins s σ H E I hf st hg
  subst hP hw hK
  obtain ⟨xs,x,hq,hx⟩:=hg
  obtain ⟨its,rv,p,hz⟩:=I.tuple hq
  obtain ⟨u,hu,ru⟩:=rv.get hx
  obtain ⟨f0,f1,f2,f3,f4,f5⟩:=hf it (by simp)
  refine wpAny_pyNext_tuple_item st (show s.heap.IsTuple a its.toArray from p) (x:=u) (by simpa using hu) fun h' st' sb=>?_
  have I1:Inv X pins σ H { s with heap:=h' }:=I.turned (t':=s.toks) (fun b o hb e=>(sb.2 b hb).trans e) f0 f1 f3 f4 f5
  obtain ⟨o,e,c,d⟩:=id st'
  exact ⟨u,rfl,go_of (s:={ s with heap:=h' }) e c d (by decide) ⟨x,H,I1,ru,⟨rfl,fun ys hy=>by rw [I.tuple_inj hy hq];exact hx⟩,st',fun b hb=>(hf b hb).1⟩⟩
 done:=by
  intro X hP hw hK hc i pins s σ H E I hf st hg
  subst hP hw hK
  obtain ⟨xs,hq,hx⟩:=hg
  obtain ⟨its,rv,p,hz⟩:=I.tuple hq
  obtain ⟨f0,f1,f2,f3,f4,f5⟩:=hf it (by simp)
  have hl:=rv.length
  exact wpAny_pyNext_tuple_end (I.ok.hd hc) st (show s.heap.IsTuple a its.toArray from p) (by simp;omega) fun h' eb=>⟨rfl,I.turned (t':=s.toks) (fun b o hb e=>eb b o hb e) f0 f1 f3 f4 f5⟩
 self:=fun _ _ _ _ _ st h=>wpAny_pyIter_tupleiter st h
theorem turn_range {P:Program} {w:World} {K:PySem.W.Frag} {tg:Expr} (it:Addr) (lo:Int) (n:Nat):Turn P w K tg (Itr lo n) [it] it (fun i h=>IsRangeIter h it (lo+(i:Nat) * 1) ((n:Int) - (i:Nat)) 1) where
 mem:=by simp
 obj:=fun i h st b hb=>by
  have e:b=it:=by simpa using hb
  subst e
  exact ⟨_,st,fun v z=>by
   have z':Data.fields _=Data.cell v:=z
   cases z'⟩
 keep:=fun i h h' st k=>k it (by simp) _ st
 item:=by
  intro X hP hw hK hc i pins s σ H E I hf st hg
  subst hP hw hK
  obtain ⟨f0,f1,f2,f3,f4,f5⟩:=hf it (by simp)
  have W:=Walks.range (prog:=X.prog) (w:=X.w) (I.ok.hd hc) it lo 1 n
  refine W.item i s _ _ hg st fun v h' tk hv st' kk=>?_
  obtain ⟨t,rfl⟩:=hv
  have I1:Inv X pins σ H { s with heap:=h',toks:=tk }:=I.turned (fun b o hb e=>kk b o (by simpa using hb) e) f0 f1 f3 f4 f5
  refine ⟨_,rfl,go_of (s:={ s with heap:=h',toks:=tk }) (n:= "range_iterator") st' rfl rfl (by decide) ⟨.int (lo+i),H,I1,⟨t,?_⟩,⟨rfl,rfl⟩,st',fun b hb=>(hf b hb).1⟩⟩
  rw [Int.mul_one]
 done:=by
  intro X hP hw hK hc i pins s σ H E I hf st hg
  subst hP hw hK
  obtain ⟨f0,f1,f2,f3,f4,f5⟩:=hf it (by simp)
  exact wpAny_pyNext_range_end (I.ok.hd hc) st (by have:n<=i:=hg;omega) fun h' eb=>⟨rfl,I.turned (t':=s.toks) (fun b o hb e=>eb b o hb e) f0 f1 f3 f4 f5⟩
 self:=fun _ _ _ _ _ st h=>wpAny_pyIter_rangeiter st h
end L2
namespace L2
open PySem PySem.Spec PyProof.Rows
section
variable {X:Cx} {tg:Expr}
def iTup (K:PySem.W.Frag) (tl:TE):TI:=fun σ H R=>tl σ H fun x H1=>∃ a,x = .ref a/\(∃ xs,SqT K H1 a xs)/\R (Itt K a) H1
theorem pi_tup {l:Expr} {tl:TE} (hl:PE X l tl):PI X tg l (iTup X.K tl):=by
 intro pins s σ H R I h
 refine thn (hl pins s σ H _ I h) fun v s1 ⟨x,H1,I1,r1,q1⟩=>?_
 obtain ⟨a,e,⟨xs,hq⟩,q⟩:=q1
 subst e
 cases r1
 obtain ⟨its,rv,p,hz⟩:=I1.tuple hq
 refine wpAny_pyIter_tuple (show s1.heap.IsTuple a its.toArray from p) ?_
 refine ⟨s1.heap.objs.size,[s1.heap.objs.size],_,_,H1,rfl,I1.kept (t':=s1.toks) fun b o e=>Heap.get?_push_of_some _ e,turn_tuple a _,⟨_,Heap.get?_push_size _ rfl,rfl,rfl⟩,fun b hb=>?_,q⟩
 have e:b=s1.heap.objs.size:=by simpa using hb
 subst e
 exact I1.fpOk (Nat.le_refl _) (I1.hok.fresh (Nat.le_refl _))
theorem range_it {pins:List (Addr×Obj)} {σ:St} {H:Hp} {s:Shared} {R:It->Hp->Prop} {E:Value->Shared->Prop} {lo hi:Int} {t u v:Tok} {tk:Nat} (I:Inv X pins σ H s) (h1 : -(2 ^ 62)<=lo) (h2:lo < 2 ^ 62) (h3 : -(2 ^ 62)<=hi) (h4:hi < 2 ^ 62)
  (q:R (Itr lo (hi - lo).toNat) H):wpAny (model X.prog X.w) X.A (pyIter (.ref s.heap.objs.size)) (PIE X pins σ tg R) E { s with heap:=s.heap.push { cls:=.type "range",data:=.fields #[.int lo t,.int hi u,.int 1 v] },toks:=tk }:=by
 refine wpAny_pyIter_range (IsRange.new ..) (small_one h1 h2 h3 h4) ?_
 have I1:Inv X pins σ H { s with heap:=s.heap.push { cls:=.type "range",data:=.fields #[.int lo t,.int hi u,.int 1 v] },toks:=tk }:=I.kept fun b o e=>Heap.get?_push_of_some _ e
 refine ⟨(s.heap.push { cls:=.type "range",data:=.fields #[.int lo t,.int hi u,.int 1 v] }).objs.size,[(s.heap.push { cls:=.type "range",data:=.fields #[.int lo t,.int hi u,.int 1 v] }).objs.size],_,_,H,rfl,
  I1.kept (t':=tk) fun b o e=>Heap.get?_push_of_some _ e,turn_range _ lo (hi - lo).toNat,?_,fun b hb=>?_,q⟩
 ·have e1:lo+((0:Nat):Int) * 1=lo:=by simp
  have e2:(((hi - lo).toNat:Nat):Int) - ((0:Nat):Int)=Builtin.Range.rangeSize lo hi 1:=by rw [rangeSize_one];split<;>omega
  show IsRangeIter _ _ (lo+((0:Nat):Int) * 1) ((((hi - lo).toNat:Nat):Int) - ((0:Nat):Int)) 1
  rw [e1,e2]
  exact Heap.get?_push_size _ rfl
 ·have e:b=(s.heap.push { cls:=.type "range",data:=.fields #[.int lo t,.int hi u,.int 1 v] }).objs.size:=by simpa using hb
  subst e
  exact I1.fpOk (Nat.le_refl _) (I1.hok.fresh (Nat.le_refl _))
def tFor (wi:TI) (g:TG) (tb:TS):TS:=fun D σ H=>wi σ H fun J H1=>∃ W:Nat->Nat->St->Hp->Prop,(∃ m,W 0 m σ H1)/\∀ i m σ H,W i m σ H →
 (J.stop i H/\D.nx σ H)\/(J.go i H/\∃ N:St->Hp->Prop,(∀ σ' H',N σ' H'->∃ m',m' < m/\W (i+1) m' σ' H')/\∀ x H',J.yld i H x H'->g x σ H' fun σ2 H2=>tb { D with nx:=N,ct:=N,bk:=D.nx } σ2 H2)
def pinsAt (fp:List Addr) (h:Heap):List (Addr×Obj):=fp.filterMap fun b=>(h.get? b).map fun o=>(b,o)
theorem mem_pinsAt {fp:List Addr} {h:Heap} {b:Addr} {o:Obj} (hb:b∈fp) (e:h.get? b=some o):(b,o)∈pinsAt fp h:=List.mem_filterMap.mpr ⟨b,hb,by rw [e];rfl⟩
theorem of_pinsAt {fp:List Addr} {h:Heap} {p:Addr×Obj} (hp:p∈pinsAt fp h):p.1∈fp/\h.get? p.1=some p.2:=by
 obtain ⟨b,hb,e⟩:=List.mem_filterMap.mp hp
 cases q:h.get? b with
 | none=>rw [q] at e;cases e
 | some o=>
  rw [q] at e
  have e':(b,o)=p:=Option.some.inj e
  subst e'
  exact ⟨hb,q⟩
theorem Inv.pinned {pins:List (Addr×Obj)} {σ:St} {H:Hp} {s:Shared} {fp:List Addr} (I:Inv X pins σ H s) (hf:∀ b∈fp,FpOk X pins H b) (ho:∀ b∈fp,∃ o,s.heap.get? b=some o/\∀ v,o.data≠.cell v):Inv X (pins++pinsAt fp s.heap) σ H s:=
 I.pins_of fun p hp=>(List.mem_append.mp hp).elim (fun z=>I.pin p (List.mem_append_right _ z)) fun z=>by
  obtain ⟨hb,e⟩:=of_pinsAt z
  obtain ⟨f0,f1,f2,_⟩:=hf p.1 hb
  obtain ⟨o,e',d⟩:=ho p.1 hb
  rw [e] at e';cases e'
  exact ⟨e,f0,f1,f2,d⟩
theorem Inv.unpinned {pins pl:List (Addr×Obj)} {σ:St} {H:Hp} {s:Shared} (I:Inv X (pins++pl) σ H s):Inv X pins σ H s:=I.pins_of fun p hp=>I.pin p (List.mem_append_right _ (List.mem_append_left _ hp))
theorem ps_for {iter:Expr} {body:List Stmt} {wi:TI} {g:TG} {tb:TS} {pos:Pos} (hp:PassesOwn (model X.prog X.w) X.A X.env X.xe) (hc:X.calm=true) (hi:PI X tg iter wi) (hg:PG X tg g) (hb:PSs X body tb)
  (hs:∀ x,foldedSetIterable iter X.env x=pure x:=by intro _;rfl):PS X (.For tg iter body [] pos) (tFor wi g tb):=by
 intro pins s σ H D I h
 refine wpAny_For (thn (hi pins s σ H _ I h) fun v s1 h1=>thn h1 fun itv s2 h2=>?_) hs
 obtain ⟨it,fp,tn,J,H2,e,I2,T,st2,f2,W,⟨m0,w0⟩,turn⟩:=h2
 subst e
 have stat:∀ {H':Hp},(∀ b∈fp,H' b=none)->∀ b∈fp,FpOk X pins H' b:=fun hn b hb=>⟨hn b hb,(f2 b hb).2⟩
 refine codeAny_forLoop_any (fun n s'=>∃ i σ' H',Inv X pins σ' H' s'/\tn i s'.heap/\(∀ b∈fp,H' b=none)/\W i n σ' H') ?_ m0 ⟨0,σ,H2,I2,st2,fun b hb=>(f2 b hb).1,w0⟩
 rintro n s3 ⟨i,σ3,H3,I3,st3,fr3,w3⟩
 rcases turn i n σ3 H3 w3 with ⟨stop,qn⟩ | ⟨go,N,hN,step⟩
 ·refine wpAny_passesOwn hp (thn (T.done X rfl rfl rfl hc i pins s3 σ3 H3 X.xe I3 (stat fr3) st3 stop) fun r s4 ⟨hr,I4⟩=>?_)
  subst hr
  exact wpAny_execs_nil ⟨σ3,H3,I4,qn⟩
 ·refine wpAny_passesOwn hp (thn (T.item X rfl rfl rfl hc i pins s3 σ3 H3 X.xe I3 (stat fr3) st3 go) fun r s4 ⟨u,hr,h4⟩=>?_)
  subst hr
  refine wpAny_passesOwn hp (thn h4 fun _ s5 ⟨x,H5,I5,r5,y5,st5,fr5⟩=>?_)
  have I5':=I5.pinned (stat fr5) (T.obj _ _ st5)
  refine wpAny_passesOwn hp (thn (hg _ s5 σ3 H5 x u _ I5' r5 (step x H5 y5)) fun _ s6 ⟨σ6,H6,I6,q6⟩=>?_)
  refine wpAny_passesOwn hp (thn (hb _ s6 σ6 H6 _ I6 q6) fun f s7 q7=>?_)
  have again:∀ {σ7:St} {H7:Hp},Inv X (pins++pinsAt fp s5.heap) σ7 H7 s7->N σ7 H7->∃ m,m < n/\∃ i σ' H',Inv X pins σ' H' s7/\tn i s7.heap/\(∀ b∈fp,H' b=none)/\W i m σ' H':=fun {σ7 H7} I7 n7=>by
   obtain ⟨m',hm,w7⟩:=hN σ7 H7 n7
   refine ⟨m',hm,i+1,σ7,H7,I7.unpinned,T.keep _ _ _ st5 fun b hb o e=>(I7.pin (b,o) (List.mem_append_right _ (List.mem_append_right _ (mem_pinsAt hb e)))).1,fun b hb=>?_,w7⟩
   obtain ⟨o,e,d⟩:=T.obj _ _ st5 b hb
   exact (I7.pin (b,o) (List.mem_append_right _ (List.mem_append_right _ (mem_pinsAt hb e)))).2.1
  cases f with
  | next=>obtain ⟨σ7,H7,I7,n7⟩:=q7;exact again I7 n7
  | cont=>obtain ⟨σ7,H7,I7,n7⟩:=q7;exact again I7 n7
  | brk=>obtain ⟨σ7,H7,I7,q7⟩:=q7;exact ⟨σ7,H7,I7.unpinned,q7⟩
  | ret v=>obtain ⟨x7,σ7,H7,I7,r7,q7⟩:=q7;exact ⟨x7,σ7,H7,I7.unpinned,r7,q7⟩
end
end L2
namespace L2
open PySem PySem.Spec PyProof.Rows
abbrev R2:=V->V->Hp->VK->Prop
def OpR (X:Cx) (f:Value->Value->Sem Value) (r:R2):Prop:=
 ∀ (pins:List (Addr×Obj)) (s:Shared) (σ:St) (H:Hp) (x y:V) (v u:Value) (Q:VK),Inv X pins σ H s->RelV x v->RelV y u->r x y H Q →
  wpAny (model X.prog X.w) X.A (f v u) (EP X pins σ Q) X.xe s
def UnR (X:Cx) (f:Value->Sem Value) (r:V->Hp->VK->Prop):Prop:=
 ∀ (pins:List (Addr×Obj)) (s:Shared) (σ:St) (H:Hp) (x:V) (v:Value) (Q:VK),Inv X pins σ H s->RelV x v->r x H Q →
  wpAny (model X.prog X.w) X.A (f v) (EP X pins σ Q) X.xe s
def CallR (X:Cx) (f:Value) (r:List V->Hp->VK->Prop):Prop:=
 ∀ (pins:List (Addr×Obj)) (s:Shared) (σ:St) (H:Hp) (xs:List V) (us:List Value) (Q:VK),Inv X pins σ H s->Vals xs us->r xs H Q →
  wpAny (model X.prog X.w) X.A (call f us) (EP X pins σ Q) X.xe s
def TruR (X:Cx) (r:V->Hp->(Bool->Hp->Prop)->Prop):Prop:=
 ∀ (pins:List (Addr×Obj)) (s:Shared) (σ:St) (H:Hp) (x:V) (v:Value) (Q:Bool->Hp->Prop),Inv X pins σ H s->RelV x v->r x H Q →
  wpAny (model X.prog X.w) X.A (truthy v) (TP X pins σ Q) X.xe s
def tOp (r:R2) (ta tb:TE):TE:=fun σ H Q=>ta σ H fun x H1=>tb σ H1 fun y H2=>r x y H2 Q
def tUn (r:V->Hp->VK->Prop) (ta:TE):TE:=fun σ H Q=>ta σ H fun x H1=>r x H1 Q
def rI (C:Int->Int->Prop) (g:Int->Int->V):R2:=fun x y H Q=>∃ i j,x = .int i/\y = .int j/\C i j/\Q (g i j) H
def rI0 (g:Int->Int->V):R2:=fun x y H Q=>∃ i j,x = .int i/\y = .int j/\Q (g i j) H
def rU (g:Int->V):V->Hp->VK->Prop:=fun x H Q=>∃ i,x = .int i/\Q (g i) H
section
variable {X:Cx} {a b c:Expr} {ta tb tc:TE} {pos:Pos}
theorem binT (ha:PE X a ta) (hb:PE X b tb) {pins:List (Addr×Obj)} {s:Shared} {σ:St} {H:Hp} {R:V->V->Hp->Prop} (I:Inv X pins σ H s)
  (h:ta σ H fun x H1=>tb σ H1 fun y H2=>R x y H2) {Q:Value->Shared->Prop} {f:Value->Value->Sem Value}
  (hf:∀ v u s2 x y H2,Inv X pins σ H2 s2->RelV x v->RelV y u->R x y H2->wpAny (model X.prog X.w) X.A (f v u) Q X.xe s2) :
  wpAny (model X.prog X.w) X.A (eval a X.env) (fun v s₁=>wpAny (model X.prog X.w) X.A (eval b X.env) (fun u s₂=>wpAny (model X.prog X.w) X.A (f v u) Q X.xe s₂) X.xe s₁) X.xe s:=by
 refine thn (ha pins s σ H _ I h) fun v s1 ⟨x,H1,I1,r1,q1⟩=>?_
 refine thn (hb pins s1 σ H1 _ I1 q1) fun u s2 ⟨y,H2,I2,r2,q2⟩=>?_
 exact hf v u s2 x y H2 I2 r1 r2 q2
theorem pe_op {op:Operator} {r:R2} (ho:OpR X (binaryOp op) r) (ha:PE X a ta) (hb:PE X b tb):PE X (.BinOp a op b pos) (tOp r ta tb):=by
 intro pins s σ H Q I h
 exact wpAny_BinOp (binT ha hb I h fun v u s2 x y H2 I2 rx ry q=>ho pins s2 σ H2 x y v u Q I2 rx ry q)
theorem pe_un {op:UnaryOp} {r:V->Hp->VK->Prop} (ho:UnR X (unaryOp op) r) (ha:PE X a ta):PE X (.UnaryOp op a pos) (tUn r ta):=by
 intro pins s σ H Q I h
 exact UnaryOp_ (thn (ha pins s σ H _ I h) fun v s1 ⟨x,H1,I1,r1,q1⟩=>ho pins s1 σ H1 x v Q I1 r1 q1)
theorem opI {f:Value->Value->Sem Value} {C:Int->Int->Prop} {g:Int->Int->Int}
  (rule:∀ (i j:Int) (t u:Tok) (s:Shared) (Q:Value->Shared->Prop) (E:Value->Shared->Prop),C i j->Q (.int (g i j) s.toks) { s with toks:=s.toks+1 }->wpAny (model X.prog X.w) X.A (f (.int i t) (.int j u)) Q E s) :
  OpR X f (rI C fun i j=>.int (g i j)):=by
 intro pins s σ H x y v u Q I rx ry h
 obtain ⟨i,j,rfl,rfl,hc,q⟩:=h
 obtain ⟨t,rfl⟩:=rx
 obtain ⟨t',rfl⟩:=ry
 exact rule i j t t' s _ _ hc ⟨.int (g i j),H,I.tok _,⟨_,rfl⟩,q⟩
theorem opI0 {f:Value->Value->Sem Value} {g:Int->Int->Int}
  (rule:∀ (i j:Int) (t u:Tok) (s:Shared) (Q:Value->Shared->Prop) (E:Value->Shared->Prop),Q (.int (g i j) s.toks) { s with toks:=s.toks+1 }->wpAny (model X.prog X.w) X.A (f (.int i t) (.int j u)) Q E s) :
  OpR X f (rI0 fun i j=>.int (g i j)):=by
 intro pins s σ H x y v u Q I rx ry h
 obtain ⟨i,j,rfl,rfl,q⟩:=h
 obtain ⟨t,rfl⟩:=rx
 obtain ⟨t',rfl⟩:=ry
 exact rule i j t t' s _ _ ⟨.int (g i j),H,I.tok _,⟨_,rfl⟩,q⟩
theorem opB0 {f:Value->Value->Sem Value} {g:Int->Int->Bool}
  (rule:∀ (i j:Int) (t u:Tok) (s:Shared) (Q:Value->Shared->Prop) (E:Value->Shared->Prop),Q (.bool (g i j)) s->wpAny (model X.prog X.w) X.A (f (.int i t) (.int j u)) Q E s) :
  OpR X f (rI0 fun i j=>.bl (g i j)):=by
 intro pins s σ H x y v u Q I rx ry h
 obtain ⟨i,j,rfl,rfl,q⟩:=h
 obtain ⟨t,rfl⟩:=rx
 obtain ⟨t',rfl⟩:=ry
 exact rule i j t t' s _ _ ⟨.bl (g i j),H,I,rfl,q⟩
def CDiv (i j:Int):Prop:=0 < j/\j < 1073741824
def CMul (i j:Int):Prop:=(-(2 ^ 64) < i/\i < 2 ^ 64)\/(-(2 ^ 64) < j/\j < 2 ^ 64)
theorem CMul.ok {i j:Int} (h:CMul i j):IntMulOk i j:=by
 rcases h with ⟨h1,h2⟩ | ⟨h1,h2⟩
 ·exact .of_left (intBits_le_64 h1 h2)
 ·exact .of_right (intBits_le_64 h1 h2)
theorem op_add:OpR X (binaryOp .Add) (rI0 fun i j=>.int (i+j)):=opI0 fun _ _ _ _ _ _ _ q=>add_int q
theorem op_sub:OpR X (binaryOp .Sub) (rI0 fun i j=>.int (i - j)):=opI0 fun _ _ _ _ _ _ _ q=>sub_int q
theorem op_mul:OpR X (binaryOp .Mult) (rI CMul fun i j=>.int (i * j)):=opI fun _ _ _ _ _ _ _ hc q=>mul_int q hc.ok
theorem op_fdiv:OpR X (binaryOp .FloorDiv) (rI CDiv fun i j=>.int (i / j)):=opI fun i j _ _ _ _ _ hc q=>by
 have h1:(0:Int) < j:=hc.1
 have h2:j < 1073741824:=hc.2
 exact floordiv_int (by omega) (by rw [Int.fdiv_eq_ediv_of_nonneg i (by omega)];exact q) (.inl (PyProof.noPylong_small (by omega)))
theorem op_mod:OpR X (binaryOp .Mod) (rI (fun _ j=>0 < j) fun i j=>.int (i % j)):=opI fun i j _ _ _ _ _ hc q=>by
 have h1:(0:Int) < j:=hc
 exact mod_int' (by omega) (by rw [Int.fmod_eq_emod_of_nonneg i (by omega)];exact q)
theorem unI {f:Value->Sem Value} {g:Int->Int}
  (rule:∀ (i:Int) (t:Tok) (s:Shared) (Q:Value->Shared->Prop) (E:Value->Shared->Prop),Q (.int (g i) s.toks) { s with toks:=s.toks+1 }->wpAny (model X.prog X.w) X.A (f (.int i t)) Q E s) :
  UnR X f (rU fun i=>.int (g i)):=by
 intro pins s σ H x v Q I rx h
 obtain ⟨i,rfl,q⟩:=h
 obtain ⟨t,rfl⟩:=rx
 exact rule i t s _ _ ⟨.int (g i),H,I.tok _,⟨_,rfl⟩,q⟩
theorem un_neg:UnR X (unaryOp .USub) (rU fun i=>.int (-i)):=unI fun _ _ _ _ _ q=>neg_int q
end
def scal:V->V->Bool
 | .non,.non=>true | .non,.int _=>true | .int _,.non=>true | .non,.bl _=>true | .bl _,.non=>true | .non,.str _=>true | .str _,.non=>true
 | .int _,.int _=>true | .bl _,.bl _=>true | .str _,.str _=>true | .byt _,.byt _=>true
 | .int _,.str _=>true | .str _,.int _=>true | .bl _,.str _=>true | .str _,.bl _=>true
 | _,_=>false
def rEq:R2:=fun x y H Q=>scal x y=true/\Q (.bl (decide (x=y))) H
def rNe:R2:=fun x y H Q=>scal x y=true/\Q (.bl (!decide (x=y))) H
theorem dec_int {i j:Int}:decide (V.int i=V.int j)=(i == j):=by
 rw [Bool.eq_iff_iff]
 simp
theorem dec_bl {i j:Bool}:decide (V.bl i=V.bl j)=(i == j):=by
 rw [Bool.eq_iff_iff]
 simp
theorem dec_str {i j:Str}:decide (V.str i=V.str j)=(i == j):=by
 rw [Bool.eq_iff_iff]
 simp
theorem dec_byt {i j:Array UInt8}:decide (V.byt i=V.byt j)=(i.toList == j.toList):=by
 rw [Bool.eq_iff_iff]
 cases i
 cases j
 simp
section
variable {X:Cx} {a b c:Expr} {ta tb tc:TE} {pos:Pos}
theorem fin_bl {pins:List (Addr×Obj)} {σ:St} {H:Hp} {s:Shared} {Q:VK} {k k':Bool} (I:Inv X pins σ H s) (q:Q (.bl k) H) (e:k=k'):EP X pins σ Q (.bool k') s:=by
 subst e
 exact ⟨.bl k,H,I,rfl,q⟩
theorem op_eq:OpR X (compareOp .Eq) rEq:=by
 intro pins s σ H x y v u Q I rx ry h
 obtain ⟨hs,q⟩:=h
 cases x with
 | non=>
  cases rx
  cases y with
  | non=>cases ry;exact PySem.EqNone.eq_none_none (fin_bl I q (by simp))
  | bl j=>cases ry;exact PySem.EqNone.eq_none_bool (fin_bl I q (by simp))
  | int j=>obtain ⟨t',rfl⟩:=ry;exact PySem.EqNone.eq_none_int (fin_bl I q (by simp))
  | str j=>obtain ⟨t',rfl⟩:=ry;exact PySem.EqNone.eq_none_str (fin_bl I q (by simp))
  | _=>exact absurd (show false=true from hs) Bool.false_ne_true
 | bl i=>
  cases rx
  cases y with
  | non=>cases ry;exact PySem.EqNone.eq_bool_none (fin_bl I q (by simp))
  | bl j=>cases ry;exact eq_bool (fin_bl I q dec_bl)
  | str j=>obtain ⟨t',rfl⟩:=ry;exact PySem.EqMixed.eq_bool_str (fin_bl I q (by simp))
  | _=>exact absurd (show false=true from hs) Bool.false_ne_true
 | int i=>
  obtain ⟨t,rfl⟩:=rx
  cases y with
  | non=>cases ry;exact PySem.EqNone.eq_int_none (fin_bl I q (by simp))
  | int j=>obtain ⟨t',rfl⟩:=ry;exact eq_int (fin_bl I q dec_int)
  | str j=>obtain ⟨t',rfl⟩:=ry;exact PySem.EqMixed.eq_int_str (fin_bl I q (by simp))
  | _=>exact absurd (show false=true from hs) Bool.false_ne_true
 | str i=>
  obtain ⟨t,rfl⟩:=rx
  cases y with
  | non=>cases ry;exact PySem.EqNone.eq_str_none (fin_bl I q (by simp))
  | bl j=>cases ry;exact PySem.EqMixed.eq_str_bool (fin_bl I q (by simp))
  | int j=>obtain ⟨t',rfl⟩:=ry;exact PySem.EqMixed.eq_str_int (fin_bl I q (by simp))
  | str j=>obtain ⟨t',rfl⟩:=ry;exact eq_str (fin_bl I q dec_str)
  | _=>exact absurd (show false=true from hs) Bool.false_ne_true
 | byt i=>
  obtain ⟨t,rfl⟩:=rx
  cases y with
  | byt j=>obtain ⟨t',rfl⟩:=ry;exact PySem.W.eq_bytes (fin_bl I q dec_byt)
  | _=>exact absurd (show false=true from hs) Bool.false_ne_true
 | _=>cases y<;>exact absurd (show false=true from hs) Bool.false_ne_true
theorem op_ne:OpR X (compareOp .NotEq) rNe:=by
 intro pins s σ H x y v u Q I rx ry h
 obtain ⟨hs,q⟩:=h
 cases x with
 | non=>
  cases rx
  cases y with
  | non=>cases ry;exact PySem.EqNone.ne_none_none (fin_bl I q (by simp))
  | bl j=>cases ry;exact PySem.EqNone.ne_none_bool (fin_bl I q (by simp))
  | int j=>obtain ⟨t',rfl⟩:=ry;exact PySem.EqNone.ne_none_int (fin_bl I q (by simp))
  | str j=>obtain ⟨t',rfl⟩:=ry;exact PySem.EqNone.ne_none_str (fin_bl I q (by simp))
  | _=>exact absurd (show false=true from hs) Bool.false_ne_true
 | bl i=>
  cases rx
  cases y with
  | non=>cases ry;exact PySem.EqNone.ne_bool_none (fin_bl I q (by simp))
  | bl j=>cases ry;exact ne_bool (fin_bl I q (congrArg not dec_bl))
  | str j=>obtain ⟨t',rfl⟩:=ry;exact PySem.EqMixed.ne_bool_str (fin_bl I q (by simp))
  | _=>exact absurd (show false=true from hs) Bool.false_ne_true
 | int i=>
  obtain ⟨t,rfl⟩:=rx
  cases y with
  | non=>cases ry;exact PySem.EqNone.ne_int_none (fin_bl I q (by simp))
  | int j=>obtain ⟨t',rfl⟩:=ry;exact ne_int (fin_bl I q (congrArg not dec_int))
  | str j=>obtain ⟨t',rfl⟩:=ry;exact PySem.EqMixed.ne_int_str (fin_bl I q (by simp))
  | _=>exact absurd (show false=true from hs) Bool.false_ne_true
 | str i=>
  obtain ⟨t,rfl⟩:=rx
  cases y with
  | non=>cases ry;exact PySem.EqNone.ne_str_none (fin_bl I q (by simp))
  | bl j=>cases ry;exact PySem.EqMixed.ne_str_bool (fin_bl I q (by simp))
  | int j=>obtain ⟨t',rfl⟩:=ry;exact PySem.EqMixed.ne_str_int (fin_bl I q (by simp))
  | str j=>obtain ⟨t',rfl⟩:=ry;exact ne_str (fin_bl I q (congrArg not dec_str))
  | _=>exact absurd (show false=true from hs) Bool.false_ne_true
 | byt i=>
  obtain ⟨t,rfl⟩:=rx
  cases y with
  | byt j=>obtain ⟨t',rfl⟩:=ry;exact PySem.W.ne_bytes (fin_bl I q (congrArg not dec_byt))
  | _=>exact absurd (show false=true from hs) Bool.false_ne_true
 | _=>cases y<;>exact absurd (show false=true from hs) Bool.false_ne_true
theorem op_lt:OpR X (compareOp .Lt) (rI0 fun i j=>.bl (decide (i < j))):=opB0 fun _ _ _ _ _ _ _ q=>lt_int q
theorem op_le:OpR X (compareOp .LtE) (rI0 fun i j=>.bl (decide (i<=j))):=opB0 fun _ _ _ _ _ _ _ q=>le_int q
theorem op_gt:OpR X (compareOp .Gt) (rI0 fun i j=>.bl (decide (j < i))):=opB0 fun _ _ _ _ _ _ _ q=>gt_int q
theorem op_isN:OpR X (compareOp .Is) (fun x y H Q=>y = .non/\Q (.bl (decide (x = .non))) H):=by
 intro pins s σ H x y v u Q I rx ry h
 obtain ⟨rfl,q⟩:=h
 cases ry
 refine is_none_gen (fin_bl I q ?_)
 cases x<;>first
  | (cases rx;rfl)
  | (obtain ⟨t,rfl⟩:=rx;rfl)
theorem op_notN:OpR X (compareOp .IsNot) (fun x y H Q=>y = .non/\Q (.bl (!decide (x = .non))) H):=by
 intro pins s σ H x y v u Q I rx ry h
 obtain ⟨rfl,q⟩:=h
 cases ry
 refine isnot_none_gen (fin_bl I q ?_)
 cases x<;>first
  | (cases rx;rfl)
  | (obtain ⟨t,rfl⟩:=rx;rfl)
theorem OpR.or {f:Value->Value->Sem Value} {r r':R2} (h:OpR X f r) (h':OpR X f r'):OpR X f (fun x y H Q=>r x y H Q\/r' x y H Q):=by
 intro pins s σ H x y v u Q I rx ry q
 rcases q with q | q
 ·exact h pins s σ H x y v u Q I rx ry q
 ·exact h' pins s σ H x y v u Q I rx ry q
theorem nomark (b:Expr) {op:CmpOp} (h:op≠.In:=by decide) (h2:op≠.NotIn:=by decide):behindInMarks op b=false:=by
 have e1:(op == CmpOp.In)=false:=by cases op<;>first | rfl | exact absurd rfl h
 have e2:(op == CmpOp.NotIn)=false:=by cases op<;>first | rfl | exact absurd rfl h2
 cases b<;>simp [behindInMarks,e1,e2]
theorem pe_cmpR {op:CmpOp} {r:R2} (ho:OpR X (compareOp op) r) (ha:PE X a ta) (hb:PE X b tb) (hm:behindInMarks op b=false):PE X (.Compare a [op] [b] pos) (tOp r ta tb):=by
 intro pins s σ H Q I h
 exact wpAny_Compare1 (binT ha hb I h fun v u s2 x y H2 I2 rx ry q=>ho pins s2 σ H2 x y v u Q I2 rx ry q) hm
def TruV (K:PySem.W.Frag) (x:V) (H:Hp) (k:Bool):Prop:=
 match x with
 | .non=>k=false
 | .bl b=>k=b
 | .int i=>k=(i != 0)
 | .str y=>y.length<=sizeLine/\k=((y.length:Int) != 0)
 | .byt y=>y.size<=sizeLine/\k=((y.size:Int) != 0)
 | .ref p=>(∃ xs,SqL K H p xs/\k=!xs.isEmpty)\/(∃ xs,SqT K H p xs/\k=!xs.isEmpty)\/∃ kvs,H p=some (.dK kvs)/\k=!kvs.isEmpty
 | _=>False
theorem isEmpty_kv {κ:Type} {kvs:List (κ×V)} {vs:List (κ×Value)} (r:KV kvs vs):(!vs.isEmpty)=!kvs.isEmpty:=by
 cases r<;>rfl
theorem isEmpty_of {xs:List V} {its:List Value} (r:Vals xs its):(!its.toArray.isEmpty)=!xs.isEmpty:=by
 cases r<;>simp
theorem line63:(sizeLine:Nat) < 2 ^ 63:=by rw [sizeLine_eq];decide
theorem tru_ok:TruR X (fun x H Q=>∃ k,TruV X.K x H k/\Q k H):=by
 intro pins s σ H x v Q I rx h
 obtain ⟨k,e,q⟩:=h
 have hl:=line63
 have hs:sizeLine=16777216:=sizeLine_eq
 cases x with
 | non=>
  cases rx
  have e':k=false:=e
  subst e'
  exact truthy_none ⟨H,I,q⟩
 | bl b=>
  cases rx
  have e':k=b:=e
  subst e'
  exact wpAny_truthy_bool ⟨H,I,q⟩
 | int i=>
  obtain ⟨t,rfl⟩:=rx
  have e':k=(i != 0):=e
  subst e'
  exact PySem.P.truthy_int ⟨H,I,q⟩
 | str y=>
  obtain ⟨t,rfl⟩:=rx
  obtain ⟨hy,e'⟩ : y.length<=sizeLine/\k=((y.length:Int) != 0):=e
  subst e'
  exact PySem.P.truthy_str (by omega) ⟨H,I.tok _,q⟩
 | byt y=>
  obtain ⟨t,rfl⟩:=rx
  obtain ⟨hy,e'⟩ : y.size<=sizeLine/\k=((y.size:Int) != 0):=e
  subst e'
  exact PySem.W.truthy_bytes (by omega) ⟨H,I.tok _,q⟩
 | ref p=>
  cases rx
  have e':(∃ xs,SqL X.K H p xs/\k=!xs.isEmpty)\/(∃ xs,SqT X.K H p xs/\k=!xs.isEmpty)\/∃ kvs,H p=some (.dK kvs)/\k=!kvs.isEmpty:=e
  rcases e' with ⟨xs,hx,e'⟩ | ⟨xs,hx,e'⟩ | ⟨kvs,hx,e'⟩
  ·subst e'
   obtain ⟨its,r,pl,hz⟩:=I.list hx
   have hlen:=r.length
   exact wpAny_truthy_list pl.isList (by simp only [List.size_toArray];omega) ⟨H,I.tok _,by rw [isEmpty_of r];exact q⟩
  ·subst e'
   obtain ⟨its,r,pl,hz⟩:=I.tuple hx
   have hlen:=r.length
   exact truthy_tuple pl (by simp only [List.size_toArray];omega) ⟨H,I.tok _,by rw [isEmpty_of r];exact q⟩
  ·subst e'
   obtain ⟨hz,hS,vs,r,m⟩ : kvs.length<=sizeLine/\(p == sysModules)=false/\∃ vs,KV kvs vs/\s.heap.DictOf (mixKind X.prog X.w) p vs:=I.hok p _ hx
   have hlen:kvs.length=vs.length:=Paired.length r
   exact wpAny_truthy_dict hS m (by omega) ⟨H,I.tok _,by rw [isEmpty_kv r];exact q⟩
 | _=>exact (show False from e).elim
theorem op_add_str:OpR X (binaryOp .Add) (fun x y H Q=>∃ i j,x = .str i/\y = .str j/\i.length+j.length<=sizeLine/\Q (.str (i++j)) H):=by
 intro pins s σ H x y v u Q I rx ry h
 obtain ⟨i,j,rfl,rfl,hz,q⟩:=h
 obtain ⟨t,rfl⟩:=rx
 obtain ⟨t',rfl⟩:=ry
 exact add_str (fun t' tk=>⟨.str (i++j),H,I.tok _,⟨_,rfl⟩,q⟩) hz
theorem vals1 {x:V} {us:List Value} (r:Vals [x] us):∃ u,us=[u]/\RelV x u:=by
 cases r with
 | cons r1 r2=>cases r2;exact ⟨_,rfl,r1⟩
theorem vals2 {x y:V} {us:List Value} (r:Vals [x,y] us):∃ u w',us=[u,w']/\RelV x u/\RelV y w':=by
 cases r with
 | cons r1 r2=>
  cases r2 with
  | cons r3 r4=>cases r4;exact ⟨_,_,rfl,r1,r3⟩
theorem call_max2 (hc:X.calm=true):CallR X (.builtin "max") (fun xs H Q=>∃ i j,xs=[.int i,.int j]/\Q (.int (if j > i then j else i)) H):=by
 intro pins s σ H xs us Q I r h
 obtain ⟨i,j,rfl,q⟩:=h
 obtain ⟨u,w',rfl,⟨t,rfl⟩,⟨t',rfl⟩⟩:=vals2 r
 refine max_two_ints (I.ok.hd hc) fun h' tk k=>⟨_,H,I.kept k,?_,q⟩
 by_cases hj:j > i
 ·rw [if_pos hj,if_pos hj];exact ⟨_,rfl⟩
 ·rw [if_neg hj,if_neg hj];exact ⟨_,rfl⟩
theorem call_min2 (hc:X.calm=true):CallR X (.builtin "min") (fun xs H Q=>∃ i j,xs=[.int i,.int j]/\Q (.int (if j < i then j else i)) H):=by
 intro pins s σ H xs us Q I r h
 obtain ⟨i,j,rfl,q⟩:=h
 obtain ⟨u,w',rfl,⟨t,rfl⟩,⟨t',rfl⟩⟩:=vals2 r
 refine min_two_ints (I.ok.hd hc) fun h' tk k=>⟨_,H,I.kept k,?_,q⟩
 by_cases hj:j < i
 ·rw [if_pos hj,if_pos hj];exact ⟨_,rfl⟩
 ·rw [if_neg hj,if_neg hj];exact ⟨_,rfl⟩
end
end L2
namespace L2
open PySem PySem.Spec PyProof.Rows
section
variable {prog:Program} {w:World} {A:Around} {E:Value->Shared->Prop} {s:Shared} {K:PySem.W.Frag} {x dx C f:Addr} {mA:Str->Option Value} {name:Str} {v:Value}
end
theorem RelO.some_of {v:V} {o:Option Value} (r:RelO (some v) o):∃ u,o=some u/\RelV v u:=by
 cases o with
 | none=>exact (show False from r).elim
 | some u=>exact ⟨u,rfl,r⟩
section
variable {P:Program} {w:World} {H H':Hp} {h h':Heap} {a C dx:Addr} {fs fs':List (Str×V)}
end
section
variable {X:Cx} {pins:List (Addr×Obj)} {σ:St} {H:Hp} {s:Shared} {a C dx:Addr} {fs:List (Str×V)} {f:Str} {v:V} {A:Around} {E:Value->Shared->Prop}
theorem Inv.made (I:Inv X pins σ H s):Inv X pins σ (upd (upd H s.heap.objs.size (.own (s.heap.objs.size+1))) (s.heap.objs.size+1) (.ins C s.heap.objs.size []))
  { s with heap:=(s.heap.push PySem.W.emptyDict).push (PySem.W.instObj C s.heap.objs.size) }:=by
 have e1:(s.heap.push PySem.W.emptyDict).get? s.heap.objs.size=some PySem.W.emptyDict:=Heap.get?_push_size s.heap rfl
 have e2:((s.heap.push PySem.W.emptyDict).push (PySem.W.instObj C s.heap.objs.size)).get? (s.heap.objs.size+1)=some (PySem.W.instObj C s.heap.objs.size):=by
  have:=Heap.get?_push_size (s.heap.push PySem.W.emptyDict) (o:=PySem.W.instObj C s.heap.objs.size) rfl
  rwa [Heap.size_push] at this
 have e3:(s.heap.push PySem.W.emptyDict).Ns s.heap.objs.size (fun _=>none):=⟨PySem.W.emptyDict,#[],_,e1,rfl,(fun e he=>absurd he (by simp)),fun _=>rfl⟩
 have I1:=I.laid (a:=s.heap.objs.size) (o:=.own (s.heap.objs.size+1)) (h':=s.heap.push PySem.W.emptyDict) (t':=s.toks) (fun b u q=>Heap.get?_push_of_some _ q) (Nat.le_refl _) ⟨_,e1⟩
 refine I1.laid (a:=s.heap.objs.size+1) (o:=.ins C s.heap.objs.size []) (t':=s.toks) (fun b u q=>Heap.get?_push_of_some _ q) (Nat.le_of_eq (Heap.size_push _ _)) ?_
 have ne:s.heap.objs.size≠s.heap.objs.size+1:=Nat.ne_of_lt (Nat.lt_succ_self _)
 refine ⟨by rw [upd_ne ne,upd_same],Nat.zero_le _,ne,e2,fun _=>none,(Heap.Ns1.of_empty e3).at fun o q=>Heap.get?_push_of_some _ q,fun _=>True.intro,fun y hy=>absurd rfl hy⟩
end
section
variable {X:Cx} {o e value:Expr} {f:Str} {pos pos' tpos:Pos} {ta tv:TE}
end
section
variable {X:Cx} {pins:List (Addr×Obj)} {σ:St} {H:Hp} {s:Shared} {A:Around} {E:Value->Shared->Prop} {Q:Value->Shared->Prop} {c:Value} {b:Bool}
end
end L2
namespace L2
open PySem PySem.Spec PyProof.Rows
structure Room (k:Nat) (A:Around):Prop where
 hd:A.handled=none
 dp:A.depth+3 * k+5 < recursionLimit
 un:A.units+16 * k+200 < cLine
theorem Room.mono {j k:Nat} {A:Around} (r:Room k A) (h:j<=k):Room j A:=⟨r.hd,by have:=r.dp;omega,by have:=r.un;omega⟩
theorem Room.deeper {k:Nat} {A:Around} (r:Room (k+1) A) (env:Env):Room k (A.deeper env):=
 ⟨r.hd,by have:=r.dp;show A.depth+1+3 * k+5 < _;omega,by have:=r.un;show A.units+3+16 * k+200 < _;omega⟩
theorem Room.in1 {k:Nat} {A:Around} (r:Room (k+1) A):Room k A.in1:=
 ⟨r.hd,by have:=r.dp;show A.depth+3 * k+5 < _;omega,by have:=r.un;show A.units+1+16 * k+200 < _;omega⟩
theorem Room.depth {k:Nat} {A:Around} (r:Room k A):A.depth < recursionLimit:=by have:=r.dp;omega
theorem Room.units {k:Nat} {A:Around} (r:Room k A):A.units+64 < cLine:=by have:=r.un;omega
def tNil:TA:=fun _ H Q=>Q [] H
def tCons (ta:TE) (tr:TA):TA:=fun σ H Q=>ta σ H fun x H1=>tr σ H1 fun xs H2=>Q (x :: xs) H2
section
variable {X:Cx} {e:Expr} {es:List Expr} {te:TE} {t:TA} {pos:Pos}
theorem pa_nil:PA X [] tNil:=fun _ _ _ _ H Q I h=>Calls.spliced_nil ⟨[],H,I,.nil,h⟩
theorem pa_cons (ha:PE X e te) (hr:PA X es t) (hs:starEach (e :: es) X.env=(false,eval e X.env) :: starEach es X.env:=by rfl):PA X (e :: es) (tCons te t):=by
 intro pos pins s σ H Q I h
 rw [hs]
 show wpAny _ _ (spliced ((false,eval e X.env) :: backTo pos (starEach es X.env))) _ _ s
 refine Calls.spliced_cons (thn (ha pins s σ H _ I h) fun u s1 ⟨x,H1,I1,r1,q1⟩=>?_)
 exact thn (hr pos pins s1 σ H1 _ I1 q1) fun us s2 ⟨xs,H2,I2,r2,q2⟩=>⟨x :: xs,H2,I2,.cons r1 r2,q2⟩
def tTup (t:TA):TE:=fun σ H Q=>t σ H fun xs H1=>xs.length<=sizeLine/\∀ p,H1 p=none->Q (.ref p) (upd H1 p (.tup xs))
def tLst (t:TA):TE:=fun σ H Q=>t σ H fun xs H1=>xs.length<=sizeLine/\∀ p,H1 p=none->Q (.ref p) (upd H1 p (.lst xs))
theorem pe_tup {x1} (h:PA X es t):PE X (.Tuple es x1 pos) (tTup t):=by
 intro pins s σ H Q I hq
 refine wpAny_Tuple_spliced (thn (h pos pins s σ H _ I hq) fun us s1 ⟨xs,H1,I1,r,z,q⟩=>⟨by rw [<-r.length];exact z,?_⟩)
 have hf:H1 s1.heap.objs.size=none:=I1.hok.fresh (Nat.le_refl _)
 refine ⟨.ref s1.heap.objs.size,upd H1 s1.heap.objs.size (.tup xs),I1.laid (t':=s1.toks) (fun b u e=>Heap.get?_push_of_some _ e) (Nat.le_refl _) ?_,rfl,q _ hf⟩
 exact ⟨z,us,r,⟨_,Heap.get?_push_size _ rfl,rfl,_,rfl⟩⟩
theorem pe_lst (h:PA X es t):PE X (.List es pos) (tLst t):=by
 intro pins s σ H Q I hq
 refine wpAny_List_spliced (thn (h pos pins s σ H _ I hq) fun us s1 ⟨xs,H1,I1,r,z,q⟩=>⟨by rw [<-r.length];exact z,?_⟩)
 have hf:H1 s1.heap.objs.size=none:=I1.hok.fresh (Nat.le_refl _)
 refine ⟨.ref s1.heap.objs.size,upd H1 s1.heap.objs.size (.lst xs),I1.laid (t':=s1.toks) (fun b u e=>Heap.get?_push_of_some _ e) (Nat.le_refl _) ?_,rfl,q _ hf⟩
 exact ⟨z,us,0,r,Heap.get?_push_size _ rfl⟩
end
abbrev Sp:=List V->Hp->VK->XK->Prop
abbrev CXT:=List Env->Hp->Shared->XK->Value->Shared->Prop
structure Env0 (P:Program) (w:World) (K:PySem.W.Frag) (mg:Str->Option Value) (base:Heap) (A:Around) (outer:List Env) (s:Shared) (H:Hp):Prop where
 frames:A.frames=some outer
 mod:Mod K mg base
 bs:∀ b o,base.get? b=some o->s.heap.get? b=some o/\H b=none
 bsz:base.objs.size<=s.heap.objs.size
 funs:s.heap.FunFrames base outer
 frf:∀ b∈frs outer,H b=none
 hok:HOk P w H s.heap
 bare:AllBare s.gens
def CE (outer:List Env) (P:Program) (w:World) (H:Hp) (s:Shared) (Q:VK) (u:Value) (s':Shared):Prop:=
 ∃ v H',s'.os=s.os/\AllBare s'.gens/\Un (frs outer) [] H H' s.heap s'.heap/\HOk P w H' s'.heap/\RelV v u/\Q v H'
def CR (CX:CXT) (outer:List Env) (P:Program) (w:World) (H:Hp) (s:Shared) (Q:VK) (E:XK) (r:Result) (s':Shared):Prop:=
 match r with
 | .ok (.ret u)=>CE outer P w H s Q u s'
 | .ok _=>False
 | .error e=>CX outer H s E e s'
structure FnOk (P:Program) (w:World) (K:PySem.W.Frag) (mg:Str->Option Value) (base:Heap) (CX:CXT) (k:Nat) (f:Addr) (fd:FuncData) (ps:List Str) (sp:Sp):Prop where
 len:∀ vs H Q E,sp vs H Q E->vs.length=ps.length
 run:∀ (A:Around) (outer:List Env) (s:Shared) (H:Hp) (args:Args) (us:List Value) (vs:List V) (Q:VK) (E:XK),Room k A->Env0 P w K mg base A outer s H->BindsTo s fd args (ps.zip us)->Vals vs us->sp vs H Q E →
  codeAny (model P w) A (.call (.ref f) args) (CR CX outer P w H s Q E) s
theorem FnOk.mono {P:Program} {w:World} {K:PySem.W.Frag} {mg:Str->Option Value} {base:Heap} {CX:CXT} {j k:Nat} {f:Addr} {fd:FuncData} {ps:List Str} {sp:Sp} (F:FnOk P w K mg base CX j f fd ps sp) (h:j<=k) :
  FnOk P w K mg base CX k f fd ps sp:=⟨F.len,fun A outer s H args us vs Q E hr=>F.run A outer s H args us vs Q E (hr.mono h)⟩
theorem FnOk.imp {P:Program} {w:World} {K:PySem.W.Frag} {mg:Str->Option Value} {base:Heap} {CX:CXT} {k:Nat} {f:Addr} {fd:FuncData} {ps:List Str} {sp sp':Sp} (F:FnOk P w K mg base CX k f fd ps sp)
  (h:∀ vs H Q E,sp' vs H Q E->sp vs H Q E):FnOk P w K mg base CX k f fd ps sp':=
 ⟨fun vs H Q E q=>F.len vs H Q E (h _ _ _ _ q),fun A outer s H args us vs Q E hr he hb hv hs=>F.run A outer s H args us vs Q E hr he hb hv (h _ _ _ _ hs)⟩
theorem Env0.in1 {P:Program} {w:World} {K:PySem.W.Frag} {mg:Str->Option Value} {base:Heap} {A:Around} {outer:List Env} {s:Shared} {H:Hp} (e:Env0 P w K mg base A outer s H) :
  Env0 P w K mg base A.in1 outer s H:=⟨e.frames,e.mod,e.bs,e.bsz,e.funs,e.frf,e.hok,e.bare⟩
section
variable {X:Cx} {pins:List (Addr×Obj)} {σ:St} {H:Hp} {s s':Shared}
theorem Inv.env0 (I:Inv X pins σ H s):Env0 X.prog X.w X.K X.mg X.base X.A X.stack s H:=
 ⟨I.ok.frames,I.ok.mod,I.bs,Nat.le_trans I.ok.bsz I.sz,I.stack,I.stkFree,I.hok,I.bare⟩
theorem Inv.after {Q:VK} {u:Value} (I:Inv X pins σ H s) (h:CE X.stack X.prog X.w H s Q u s'):EP X pins σ Q u s':=by
 obtain ⟨v,H',os,bare,un,hok,r,q⟩:=h
 obtain ⟨hh,g,d,t,os'⟩:=s'
 obtain rfl:os'=s.os:=os
 exact ⟨v,H',I.call (h':=hh) (g':=g) (d':=d) (t':=t) (ch:=[]) un hok bare (fun b z=>absurd z (by simp)),r,q⟩
end
def tCall (sp:Sp) (dvs:List V) (E:XK) (t:TA):TE:=fun σ H Q=>t σ H fun vs H1=>sp (vs++dvs) H1 Q E
def Binds (K:PySem.W.Frag) (fd:FuncData) (ps:List Str) (ds:List Value):Prop:=
 ∀ (s:Shared) (us:List Value),K.In s.heap->(us++ds).length=ps.length->BindsTo s fd ⟨us,[]⟩ (ps.zip (us++ds))
theorem Binds.all {K:PySem.W.Frag} {fd:FuncData} {ps:List Str} (h:∀ us:List Value,us.length=ps.length->bindArgs fd ⟨us,[]⟩=pure (ps.zip us)):Binds K fd ps []:=fun s us _ hl=>by
 rw [List.append_nil] at hl ⊢
 exact .of_eq (h us hl)
def Passes (CX:CXT) (X:Cx) (E:XK):Prop:=∀ (pins:List (Addr×Obj)) (σ:St) (H:Hp) (s:Shared) (e:Value) (s':Shared),Inv X pins σ H s->CX X.stack H s E e s'->X.xe e s'
section
variable {X:Cx} {CX:CXT} {k:Nat} {f C:Addr} {fd:FuncData} {ps:List Str} {sp:Sp} {dvs:List V} {ds:List Value} {E:XK} {x m:Str} {p pos apos:Pos} {e o:Expr} {es:List Expr} {ta:TE} {t:TA}
theorem run_fn {pins:List (Addr×Obj)} {σ:St} {H:Hp} {s:Shared} {Q:VK} {us:List Value} {vs:List V} (F:FnOk X.prog X.w X.K X.mg X.base CX k f fd ps sp) (hr:Room k X.A) (hb:Binds X.K fd ps ds) (hd:Vals dvs ds) (hx:Passes CX X E)
  (I:Inv X pins σ H s) (r:Vals vs us) (h:sp (vs++dvs) H Q E):wpAny (model X.prog X.w) X.A (call (.ref f) us) (EP X pins σ Q) X.xe s:=by
 have r2:Vals (vs++dvs) (us++ds):=r.append hd
 have hl:(us++ds).length=ps.length:=by rw [<-r2.length];exact F.len _ _ _ _ h
 refine wpAny_call (codeAny_mono (F.run X.A X.stack s H ⟨us,[]⟩ (us++ds) (vs++dvs) Q E hr I.env0 (hb s us I.kIn hl) r2 h) fun r s' hq=>?_)
 cases r with
 | error e=>exact hx pins σ H s e s' I hq
 | ok fl=>
  cases fl with
  | ret u=>exact I.after hq
  | next=>exact False.elim hq
  | brk=>exact False.elim hq
  | cont=>exact False.elim hq
theorem pe_call (F:FnOk X.prog X.w X.K X.mg X.base CX k f fd ps sp) (hr:Room k X.A) (hg:Gl X x) (hm:X.mg x=some (.ref f)) (hk:PySem.W.keepIn X.K (.ref f)=true) (hb:Binds X.K fd ps ds) (hd:Vals dvs ds) (hx:Passes CX X E)
  (ha:PA X (e :: es) t) (hdb:(x == ("__debug__" : Str))=false:=by decide) (he:starEach (e :: es) X.env=(false,eval e X.env) :: starEach es X.env:=by rfl) (hpl:(backTo pos (starEach es X.env)).any (·.1)=false:=by rfl) :
  PE X (.Call (.Name x p) (e :: es) [] pos) (tCall sp dvs E t):=by
 intro pins s σ H Q I h
 refine wpAny_Call_Name_kw (ld_glob I hg hm ?_ hdb)
 refine PySem.W.callWith_K (h₀:=X.base) I.ok.mod.kin hk (thn (ha pos pins s σ H _ I h) fun us s1 ⟨vs,H1,I1,r,q⟩=>⟨I1.kIn,?_⟩) he hpl
 exact run_fn F hr hb hd hx I1 r q
end
section
variable {X:Cx} {CX:CXT} {k:Nat} {f C:Addr} {fd:FuncData} {ps ks:List Str} {sp:Sp} {E:XK} {x m:Str} {p pos apos kpos:Pos} {e o:Expr} {es:List Expr} {kws:List Keyword} {te ta:TE} {t tk:TA} {nm:Option Str}
variable {g:List Value->List Value->List Value} {gV:List V->List V->List V}
end
structure FnScope (N P:List Str) (sc:Scope):Prop where
 kind:sc.kind = .function
 co:sc.isCoroutine=false
 gen:sc.isGenerator=false
 nd:N.Nodup
 pre:N.take P.length=P
 par:∀ x∈P,sc.names.lookup x=some .local\/sc.names.lookup x=some .cell
 nofree:∀ y∈sc.names,y.2≠.free
theorem bindL_out {kindOf:Str->Option NameKind} {x:Str}:∀ {binds:List (Str×Value)} {m:Str->Option Value},(∀ v,(x,v) ∉ binds)->bindL kindOf binds m x=m x
 | [],_,_=>rfl
 | (n,v) :: r,m,h=>by
  unfold bindL
  rw [bindL_out fun w hw=>h w (List.mem_cons_of_mem _ hw)]
  split
  ·have:x≠n:=by rintro rfl;exact h v List.mem_cons_self
   simp [this]
  ·rfl
theorem bindC_out {kindOf:Str->Option NameKind} {x:Str}:∀ {binds:List (Str×Value)} {m:Str->Option Value},(∀ v,(x,v) ∉ binds)->bindC kindOf binds m x=m x
 | [],_,_=>rfl
 | (n,v) :: r,m,h=>by
  unfold bindC
  rw [bindC_out fun w hw=>h w (List.mem_cons_of_mem _ hw)]
  split
  ·rfl
  ·have:x≠n:=by rintro rfl;exact h v List.mem_cons_self
   simp [this]
theorem bindL_get {kindOf:Str->Option NameKind} {x:Str} {v:Value}:∀ {P:List Str} {vs:List Value} {i:Nat} {m:Str->Option Value},P.Nodup->P[i]? = some x->vs[i]? = some v->kindOf x=some .local →
  bindL kindOf (P.zip vs) m x=some v
 | [],_,_,_,_,h,_,_=>by simp at h
 | _ :: _,[],_,_,_,_,h,_=>by simp at h
 | p :: P,w :: vs,0,m,nd,h1,h2,hk=>by
  simp at h1 h2;subst h1;subst h2
  show bindL kindOf ((p,w) :: P.zip vs) m p=_
  unfold bindL
  rw [bindL_out fun v hv=>(List.nodup_cons.mp nd).1 (List.of_mem_zip hv).1,if_pos hk]
  simp
 | p :: P,w :: vs,i+1,m,nd,h1,h2,hk=>by
  show bindL kindOf ((p,w) :: P.zip vs) m x=_
  unfold bindL
  exact bindL_get (i:=i) (List.nodup_cons.mp nd).2 (by simpa using h1) (by simpa using h2) hk
theorem bindC_get {kindOf:Str->Option NameKind} {x:Str} {v:Value}:∀ {P:List Str} {vs:List Value} {i:Nat} {m:Str->Option Value},P.Nodup->P[i]? = some x->vs[i]? = some v->kindOf x≠some .local →
  bindC kindOf (P.zip vs) m x=some v
 | [],_,_,_,_,h,_,_=>by simp at h
 | _ :: _,[],_,_,_,_,h,_=>by simp at h
 | p :: P,w :: vs,0,m,nd,h1,h2,hk=>by
  simp at h1 h2;subst h1;subst h2
  show bindC kindOf ((p,w) :: P.zip vs) m p=_
  unfold bindC
  rw [bindC_out fun v hv=>(List.nodup_cons.mp nd).1 (List.of_mem_zip hv).1,if_neg hk]
  simp
 | p :: P,w :: vs,i+1,m,nd,h1,h2,hk=>by
  show bindC kindOf ((p,w) :: P.zip vs) m x=_
  unfold bindC
  exact bindC_get (i:=i) (List.nodup_cons.mp nd).2 (by simpa using h1) (by simpa using h2) hk
def start (N:List Str) (vs:List V):St:=vs.map some++List.replicate (N.length - vs.length) none
def cxOf (CX:CXT) (P:Program) (w:World) (K:PySem.W.Frag) (mg:Str->Option Value) (base:Heap) (N:List Str) (qual:Str) (scope:Scope) (f:Addr) (cd:Value) (A:Around) (outer:List Env) (s:Shared) (H:Hp) (E:XK):Cx where
 prog:=P
 w:=w
 K:=K
 mg:=mg
 base:=base
 A:=A.deeper (envOfC qual scope s.heap.objs.size f cd)
 N:=N
 s₀:=s
 H₀:=H
 env:=envOfC qual scope s.heap.objs.size f cd
 outer:=outer
 stack:=envOfC qual scope s.heap.objs.size f cd :: outer
 ex:=[]
 calm:=true
 fn:=fun _=>true
 pn:=[]
 xe:=fun e s'=>wpAny (model P w) (A.deeper (envOfC qual scope s.heap.objs.size f cd)) (leaving (envOfC qual scope s.heap.objs.size f cd) e) (fun _ s''=>CX outer H s E e s'') (fun e' s''=>CX outer H s E e' s'') s'
theorem cell_has {sc:Scope} {n:Nat} {x:Str} (h:sc.names.lookup x=some .cell):∃ c,(cellsFrom n sc.names []).lookup x=some c:=by
 have q:=PySem.W.cellsFrom_some sc.names n [] (.inl h)
 exact Option.isSome_iff_exists.mp q
theorem inv_start {CX:CXT} {P:Program} {w:World} {K:PySem.W.Frag} {mg:Str->Option Value} {base:Heap} {N ps:List Str} {qual:Str} {scope:Scope} {f:Addr} {cd:Value} {A:Around} {outer:List Env} {s s1:Shared} {H:Hp} {E:XK} {us:List Value} {vs:List V}
  (S:FnScope N ps scope) (hd:A.handled=none) (e0:Env0 P w K mg base A outer s H) (hl:vs.length=ps.length) (r:Vals vs us)
  (x:InCallC s s.heap.objs.size (bindL (envOfC qual scope s.heap.objs.size f cd).kindOf (ps.zip us) fun _=>none) (cellsFrom (s.heap.objs.size+1) scope.names []) (bindC (envOfC qual scope s.heap.objs.size f cd).kindOf (ps.zip us) fun _=>none) s1) :
  Inv (cxOf CX P w K mg base N qual scope f cd A outer s H E) [] (start N vs) H s1:=by
 have hpl:ps.length<=N.length:=by have:=congrArg List.length S.pre;rw [List.length_take] at this;omega
 obtain ⟨h1,tk,rfl,hk⟩:=x.done
 have noA:∀ b:Addr,b ∉ (cxOf CX P w K mg base N qual scope f cd A outer s H E).ex:=fun b z=>absurd (show b∈([]:List Addr) from z) (by simp)
 refine ⟨⟨e0.mod,S.kind,rfl,rfl,Nat.le_refl _,fun y z c h1 h2=>?_,fun y hy=>?_,fun y c _ h=>?_,fun _=>hd,Around.frames_deeper e0.frames,.inr ⟨rfl,rfl⟩,fun b z=>absurd z (noA b),e0.bs,e0.bsz,fun b _ _=>noA b,fun b z=>absurd z (noA b),e0.funs,e0.frf⟩,
  rfl,e0.bare,Un.kept hk,⟨_,x.toInCall.ns,fun i y v h1 h2 h3=>?_⟩,fun y c h=>⟨_,x.cell y c h⟩,e0.hok.fresh (Nat.le_refl _),fun y c h=>?_,fun p hp=>absurd (show p∈([]:List (Addr×Obj)) from hp) (by simp),e0.hok.kept hk,?_⟩
 ·exact name_of_addr x.apart (PySem.mem_of_lookup h1) (PySem.mem_of_lookup h2)
 ·have hy:scope.names.lookup y=some .cell\/scope.names.lookup y=some .free:=hy
  rcases hy with hy | hy
  ·exact cell_has hy
  ·exact absurd rfl (S.nofree _ (PySem.mem_of_lookup hy))
 ·exact Nat.le_of_lt (x.above y c (PySem.mem_of_lookup h))
 ·have hi:i < vs.length:=by
   unfold start at h2
   by_cases hi:i < vs.length
   ·exact hi
   ·rw [List.getElem?_append_right (by simpa using hi)] at h2
    rw [List.getElem?_replicate] at h2
    split at h2<;>cases h2
  have ha:vs[i]? = some v:=by
   unfold start at h2
   rw [List.getElem?_append_left (by simpa using hi),List.getElem?_map] at h2
   cases e:vs[i]? with
   | none=>rw [e] at h2;cases h2
   | some a=>rw [e] at h2;cases h2;rfl
  obtain ⟨u,hu,rv⟩:=r.get ha
  have hp:ps[i]? = some y:=by
   rw [<-S.pre,List.getElem?_take_of_lt (by omega)];exact h1
  have ndP:ps.Nodup:=by rw [<-S.pre];exact S.nd.sublist (List.take_sublist _ _)
  refine ⟨u,rv,?_⟩
  rcases S.par y (List.mem_of_getElem? hp) with k | k
  ·exact .inl ⟨k,bindL_get ndP hp hu k⟩
  ·obtain ⟨c,e⟩:=cell_has (n:=s.heap.objs.size+1) k
   refine .inr ⟨.inl k,c,e,?_⟩
   have q:=x.cell y c e
   rw [bindC_get ndP hp hu (by show scope.names.lookup y≠_;rw [k];decide)] at q
   exact q
 ·exact e0.hok.fresh (Nat.le_of_lt (x.above y c (PySem.mem_of_lookup h)))
 ·unfold start
  show _=N.length
  rw [List.length_append,List.length_map,List.length_replicate]
  omega
theorem fn_of {CX:CXT} {P:Program} {w:World} {K:PySem.W.Frag} {mg:Str->Option Value} {base:Heap} {k:Nat} {f:Addr} {name qual:Str} {params:Arguments} {body:List Stmt} {scope:Scope} {dV kV doc pm cdv ct oc:Value} {an od:Option Addr}
  {osl:Array (Option Value)} {N ps:List Str} {sp:Sp} (lk:K.lookup f=some ⟨oc,od,.func (PySem.W.fnOf name qual params body scope dV kV doc pm an cdv ct),osl⟩) (hcd:PySem.W.codeIn K cdv qual=true) (S:FnScope N ps scope)
  (len:∀ vs H Q E,sp vs H Q E->vs.length=ps.length)
  (hbody:∀ (A:Around) (outer:List Env) (s:Shared) (H:Hp) (vs:List V) (Q:VK) (E:XK),Room k (A.deeper (envOfC qual scope s.heap.objs.size f cdv))->sp vs H Q E →
   ∃ t,PSs (cxOf CX P w K mg base N qual scope f cdv A outer s H E) body t/\t { nx:=fun _ H'=>Q .non H',rt:=Q } (start N vs) H) :
  FnOk P w K mg base CX (k+1) f (PySem.W.fnOf name qual params body scope dV kV doc pm an cdv ct) ps sp:=by
 refine ⟨len,fun A outer s H args us vs Q E hr e0 hb r hsp=>?_⟩
 have hl:=len _ _ _ _ hsp
 have KX:K.In s.heap:=e0.mod.kin.keeps fun b o e=>(e0.bs b o e).1
 have lim:s.heap.NoLimit:=e0.mod.nolimit.keeps fun b o e=>(e0.bs b o e).1
 have hkind:∀ y∈ps.zip us,scope.names.lookup y.1=some .local\/(scope.names.lookup y.1=some .cell/\((cellsFrom (s.heap.objs.size+1) scope.names []).lookup y.1).isSome=true):=fun ⟨n,v⟩ hy=>by
  rcases S.par n (List.of_mem_zip hy).1 with q | q
  ·exact .inl q
  ·exact .inr ⟨q,PySem.W.cellsFrom_some _ _ _ (.inl q)⟩
 refine codeAny_call_function hr.depth (KX _ _ lk) rfl S.co S.gen rfl (PySem.W.codeRec_of KX hcd) (hb _ _ _ _ ?_)
 refine wpAny_newFunctionEnv_cells S.kind hkind fun env he s1 x=>?_
 subst he
 refine ⟨lim.keeps x.toInCall.keep,codeAny_func ?_⟩
 obtain ⟨t,ht,hq⟩:=hbody A outer s H vs Q E (hr.deeper _) hsp
 have I:Inv (cxOf CX P w K mg base N qual scope f cdv A outer s H E) [] (start N vs) H s1:=inv_start S hr.hd e0 hl r x
 refine wpAny_mono (ht [] s1 (start N vs) H _ I hq) (fun fl s' hs=>?_) fun e s' hs=>hs
 have fin:∀ {σ':St} {H':Hp} {v:V} {u:Value},Inv (cxOf CX P w K mg base N qual scope f cdv A outer s H E) [] σ' H' s'->RelV v u->Q v H'->CE outer P w H s Q u s':=
  fun {σ' H' v u} J rv q=>⟨v,H',J.os,J.bare,J.base,J.hok,rv,q⟩
 cases fl with
 | ret u=>
  obtain ⟨v,σ',H',J,rv,q⟩:=hs
  exact fin J rv q
 | next=>
  obtain ⟨σ',H',J,q⟩:=hs
  exact fin (v:=V.non) (u:=Value.none) J rfl q
 | brk=>
  obtain ⟨_,_,_,q⟩:=hs
  exact False.elim q
 | cont=>
  obtain ⟨_,_,_,q⟩:=hs
  exact False.elim q
end L2
namespace L2
open PySem PySem.Spec PyProof.Rows
section
variable {X:Cx} {x:Str} {p pos:Pos} {e:Expr} {es:List Expr} {t:TA} {id T:String} {r:List V->Hp->VK->Prop}
def tCB (r:List V->Hp->VK->Prop) (t:TA):TE:=fun σ H Q=>t σ H fun vs H1=>r vs H1 Q
theorem pe_callB (hc:CallR X (.builtin id) r) (hg:Gl X x) (hm:X.mg x=none) (hv:bootBuiltins x=some (.builtin id)) (ha:PA X (e :: es) t) (hn:x≠"__name__" := by decide) (hdb:(x == ("__debug__" : Str))=false:=by decide)
  (he:starEach (e :: es) X.env=(false,eval e X.env) :: starEach es X.env:=by rfl) (hpl:(backTo pos (starEach es X.env)).any (·.1)=false:=by rfl):PE X (.Call (.Name x p) (e :: es) [] pos) (tCB r t):=by
 intro pins s σ H Q I h
 refine wpAny_Call_Name_kw (ld_blt I hg hm hv ?_ hn hdb)
 exact PyProof.Rows.callWith_builtin1 (thn (ha pos pins s σ H _ I h) fun us s1 ⟨vs,H1,I1,r1,q1⟩=>hc pins s1 σ H1 vs us Q I1 r1 q1) he hpl
theorem pe_callTy (hc:CallR X (.type T) r) (hg:Gl X x) (hm:X.mg x=none) (hv:bootBuiltins x=some (.type T)) (ha:PA X (e :: es) t) (hn:x≠"__name__" := by decide) (hdb:(x == ("__debug__" : Str))=false:=by decide)
  (he:starEach (e :: es) X.env=(false,eval e X.env) :: starEach es X.env:=by rfl) (hpl:(backTo pos (starEach es X.env)).any (·.1)=false:=by rfl):PE X (.Call (.Name x p) (e :: es) [] pos) (tCB r t):=by
 intro pins s σ H Q I h
 refine wpAny_Call_Name_kw (ld_blt I hg hm hv ?_ hn hdb)
 exact PyProof.Rows.callWith_type1 (thn (ha pos pins s σ H _ I h) fun us s1 ⟨vs,H1,I1,r1,q1⟩=>hc pins s1 σ H1 vs us Q I1 r1 q1) he hpl
end
end L2
namespace HT
open PySem PyProof.Rows
section
open PySem.SeqAt
open PySem.AutoSeq1 (wpAny_loadPart')
open PySem.MeetsSeq PySem.MeetsSeq2 PySem.MeetsSeq3
end
section
variable {prog:Program} {w:World} {A:Around} {E:Value->Shared->Prop} {s:Shared}
def sIx (n d:Nat):Option Int->Nat
 | none=>d
 | some v=>if v < 0 then (v+(n:Int)).toNat else min v.toNat n
end
end HT
namespace L2
open PySem PySem.Spec PyProof.Rows
abbrev TO:=St->Hp->(Option Int->Hp->Prop)->Prop
def PO (X:Cx) (e:Option Expr) (t:TO):Prop:=
 ∀ (pins:List (Addr×Obj)) (s:Shared) (σ:St) (H:Hp) (Q:Option Int->Hp->Prop),Inv X pins σ H s->t σ H Q →
  wpAny (model X.prog X.w) X.A (evalPart e X.env) (fun u s'=>∃ o H',Inv X pins σ H' s'/\IsPart u o/\Q o H') X.xe s
section
variable {X:Cx} {e:Expr} {te:TE} {lo hi:Option Expr} {tl th:TO} {pos p2:Pos}
def SlR (X:Cx) (r:V->Option Int->Option Int->Hp->VK->Prop):Prop:=
 ∀ (pins:List (Addr×Obj)) (s:Shared) (σ:St) (H:Hp) (x:V) (v vl vu:Value) (lo hi:Option Int) (sl:Addr) (Q:VK),Inv X pins σ H s->RelV x v->s.heap.IsSliceOf sl vl vu .none->IsPart vl lo->IsPart vu hi->r x lo hi H Q →
  ∃ T id,typeLookup (.type T) "__getitem__" = pure (some (.builtin id))/\s.TypeIs v T/\wpAny (model X.prog X.w) X.A (getItem v (.ref sl)) (EP X pins σ Q) X.xe s
theorem SlR.or {r r':V->Option Int->Option Int->Hp->VK->Prop} (h:SlR X r) (h':SlR X r'):SlR X (fun x lo hi H Q=>r x lo hi H Q\/r' x lo hi H Q):=by
 intro pins s σ H x v vl vu lo hi sl Q I rx hs pl pu q
 rcases q with q | q
 ·exact h pins s σ H x v vl vu lo hi sl Q I rx hs pl pu q
 ·exact h' pins s σ H x v vl vu lo hi sl Q I rx hs pl pu q
def tSl (r:V->Option Int->Option Int->Hp->VK->Prop) (te:TE) (tl th:TO):TE:=fun σ H Q=>te σ H fun x H1=>tl σ H1 fun l H2=>th σ H2 fun u H3=>r x l u H3 Q
theorem pe_slice {r:V->Option Int->Option Int->Hp->VK->Prop} (hr:SlR X r) (he:PE X e te) (hl:PO X lo tl) (hu:PO X hi th):PE X (.Subscript e (.Slice lo hi none p2) pos) (tSl r te tl th):=by
 intro pins s σ H Q I h
 refine Subscript_ (thn (he pins s σ H _ I h) fun v s1 ⟨x,H1,I1,r1,q1⟩=>?_)
 refine wpAny_Slice (thn (hl pins s1 σ H1 _ I1 q1) fun vl s2 ⟨l,H2,I2,pl,q2⟩=>thn (hu pins s2 σ H2 _ I2 q2) fun vu s3 ⟨u,H3,I3,pu,q3⟩=>?_)
 rw [evalPart_none]
 refine wpAny_pure ?_
 have I4:Inv X pins σ H3 { s3 with heap:=s3.heap.push { cls:=.type "slice",data:=.fields #[vl,vu,.none] } }:=I3.kept (t':=s3.toks) fun b ob q=>Heap.get?_push_of_some _ q
 obtain ⟨T,id,hT,ht,hg⟩:=hr pins { s3 with heap:=s3.heap.push { cls:=.type "slice",data:=.fields #[vl,vu,.none] } } σ H3 x v vl vu l u s3.heap.objs.size Q I4 r1 (Heap.IsSliceOf.new ..) pl pu q3
 show wpAny (model X.prog X.w) X.A (subscriptTail e (.Slice lo hi none p2) v (.ref s3.heap.objs.size)) (EP X pins σ Q) X.xe { s3 with heap:=s3.heap.push { cls:=.type "slice",data:=.fields #[vl,vu,.none] } }
 exact tail_any (ops:=[.ref s3.heap.objs.size,v]) ht hT hg (by with_unfolding_all rfl)
def cutV (xs:List V) (lo hi:Option Int):List V:=(xs.drop (HT.sIx xs.length 0 lo)).take (HT.sIx xs.length xs.length hi - HT.sIx xs.length 0 lo)
theorem cutV_length (xs:List V) (lo hi:Option Int):(cutV xs lo hi).length<=xs.length:=by
 unfold cutV
 rw [List.length_take,List.length_drop]
 omega
end
end L2
namespace L2
open PySem PySem.Spec PyProof.Rows
def ixN (n:Nat) (i:Int):Option Nat:=if 0<=i then (if i < n then some i.toNat else none) else if -(n:Int)<=i then some (i+n).toNat else none
def atI {α:Type} (xs:List α) (i:Int):Option α:=(ixN xs.length i).bind fun j=>xs[j]?
theorem ixN_seq {n:Nat} {i:Int} {j:Nat} (h:ixN n i=some j):seqIndex? i n=some j/\j < n/\-(n:Int)<=i/\i < n:=by
 unfold ixN at h
 by_cases h0:0<=i
 ·rw [if_pos h0] at h
  by_cases h1:i < n
  ·rw [if_pos h1] at h
   have e:i.toNat=j:=Option.some.inj h
   exact ⟨by rw [seqIndex_of h0 h1,e],by omega,by omega,h1⟩
  ·rw [if_neg h1] at h;cases h
 ·rw [if_neg h0] at h
  by_cases h1 : -(n:Int)<=i
  ·rw [if_pos h1] at h
   have e:(i+n).toNat=j:=Option.some.inj h
   exact ⟨by rw [seqIndex_neg (by omega) h1,e],by omega,h1,by omega⟩
  ·rw [if_neg h1] at h;cases h
theorem atI_get {α:Type} {xs:List α} {i:Int} {v:α} (h:atI xs i=some v):∃ j,seqIndex? i xs.length=some j/\xs[j]? = some v/\j < xs.length/\-(xs.length:Int)<=i/\i < xs.length:=by
 unfold atI at h
 cases e:ixN xs.length i with
 | none=>rw [e] at h;cases h
 | some j=>
  rw [e] at h
  obtain ⟨h1,h2,h3,h4⟩:=ixN_seq e
  exact ⟨j,h1,h,h2,h3,h4⟩
theorem atI_nat {α:Type} {xs:List α} {j:Nat} {v:α} (h:xs[j]? = some v):atI xs (j:Int)=some v:=by
 have hj:j < xs.length:=(List.getElem?_eq_some_iff.mp h).1
 have e:ixN xs.length (j:Int)=some j:=by
  unfold ixN
  rw [if_pos (by omega),if_pos (by omega)];simp
 unfold atI;rw [e];exact h
def PlainIx (b:Expr):Prop:=∀ o i,subscripted b false o i=operate [o,i] (getItem o i)
def IxR (X:Cx) (r:R2):Prop:=
 ∀ (value slice:Expr) (pins:List (Addr×Obj)) (s:Shared) (σ:St) (H:Hp) (x y:V) (v u:Value) (Q:VK),Inv X pins σ H s->RelV x v->RelV y u->r x y H Q →
  subscripted slice false v u=operate [v,u] (getItem v u)->wpAny (model X.prog X.w) X.A (subscriptTail value slice v u) (EP X pins σ Q) X.xe s
section
variable {X:Cx} {a b:Expr} {ta tb:TE} {pos:Pos}
theorem IxR.or {r r':R2} (h:IxR X r) (h':IxR X r'):IxR X (fun x y H Q=>r x y H Q\/r' x y H Q):=by
 intro value slice pins s σ H x y v u Q I rx ry q hs
 rcases q with q | q
 ·exact h value slice pins s σ H x y v u Q I rx ry q hs
 ·exact h' value slice pins s σ H x y v u Q I rx ry q hs
theorem pe_ix {r:R2} (hr:IxR X r) (ha:PE X a ta) (hb:PE X b tb) (hs:PlainIx b):PE X (.Subscript a b pos) (tOp r ta tb):=by
 intro pins s σ H Q I h
 exact Subscript_ (binT ha hb I h fun v u s2 x y H2 I2 rx ry q=>hr a b pins s2 σ H2 x y v u Q I2 rx ry q (hs _ _))
def rIxL (K:PySem.W.Frag):R2:=fun x y H Q=>∃ p xs i v,x = .ref p/\y = .int i/\SqL K H p xs/\atI xs i=some v/\Q v H
def rIxT (K:PySem.W.Frag):R2:=fun x y H Q=>∃ p xs i v,x = .ref p/\y = .int i/\SqT K H p xs/\atI xs i=some v/\Q v H
def rIxS:R2:=fun x y H Q=>∃ z i c,x = .str z/\y = .int i/\z.length<=sizeLine/\atI z.cps.toList i=some c/\Q (.str ⟨#[c]⟩) H
theorem ix_list:IxR X (rIxL X.K):=by
 intro value slice pins s σ H x y v u Q I rx ry h hs
 obtain ⟨p,xs,i,z,rfl,rfl,hq,he,q⟩:=h
 cases rx
 obtain ⟨t,rfl⟩:=ry
 obtain ⟨its,r,pl,hz⟩:=I.list hq
 obtain ⟨j,h1,h2,h3,h4,h5⟩:=atI_get he
 obtain ⟨w,ew,rw'⟩:=r.get h2
 have hl:=r.length
 have hn:=line63
 have fin:EP X pins σ Q w s:=⟨z,H,I,rw',q⟩
 by_cases h0:0<=i
 ·have hj:i.toNat=j:=by
   rw [seqIndex_of h0 h5] at h1
   exact Option.some.inj h1
  exact item_listR pl.isList h0 (by omega) (by rw [hj];simpa using ew) fin hs
 ·have hj:(i+(its.toArray.size:Int)).toNat=j:=by
   rw [seqIndex_neg (by omega) h4] at h1
   rw [List.size_toArray,<-hl]
   exact Option.some.inj h1
  exact subscriptTail_builtinR (x:=w) pl.isList.typeIs slot_list_getitem.lookup
   (wpAny_getItem_list_neg (Q:=fun r s'=>r=w/\EP X pins σ Q r s') pl.isList (by omega) (by rw [List.size_toArray]<;>omega) (by omega) (by rw [hj];simpa using ew) ⟨rfl,fin⟩) hs
theorem ix_tup:IxR X (rIxT X.K):=by
 intro value slice pins s σ H x y v u Q I rx ry h hs
 obtain ⟨p,xs,i,z,rfl,rfl,hq,he,q⟩:=h
 cases rx
 obtain ⟨t,rfl⟩:=ry
 obtain ⟨its,r,pl,hz⟩:=I.tuple hq
 obtain ⟨j,h1,h2,h3,h4,h5⟩:=atI_get he
 obtain ⟨w,ew,rw'⟩:=r.get h2
 have hl:=r.length
 have hn:=line63
 have fin:EP X pins σ Q w s:=⟨z,H,I,rw',q⟩
 exact subscriptTail_builtinR (x:=w) pl.typeIs slot_tuple_getitem.lookup
  (getItem_tuple (j:=j) (Q:=fun r s'=>r=w/\EP X pins σ Q r s') pl (by omega) (by omega) (by rw [List.size_toArray,<-hl];exact h1) (by simpa using ew) ⟨rfl,fin⟩) hs
theorem ix_str:IxR X rIxS:=by
 intro value slice pins s σ H x y v u Q I rx ry h hs
 obtain ⟨z,i,c,rfl,rfl,hz,he,q⟩:=h
 obtain ⟨t,rfl⟩:=rx
 obtain ⟨t',rfl⟩:=ry
 obtain ⟨j,h1,h2,h3,h4,h5⟩:=atI_get he
 have hl:z.cps.toList.length=z.length:=by simp [Str.length]
 rw [hl] at h1 h4 h5
 have hn:=line63
 exact tail_any (typeIs_str s z t) slot_str_getitem.lookup (getItem_str (c:=c) (by
  have e1:decide (i < -(2 ^ 63:Int))=false:=decide_eq_false (by omega)
  have e2:decide (i ≥ 2 ^ 63)=false:=decide_eq_false (by omega)
  rw [e1,e2,Bool.or_false]) (by rw [h1];simpa using h2) ⟨.str ⟨#[c]⟩,H,I.tok _,⟨_,rfl⟩,q⟩) hs
def rIx (K:PySem.W.Frag):R2:=fun x y H Q=>rIxL K x y H Q\/rIxT K x y H Q\/rIxS x y H Q
theorem ix_seq:IxR X (rIx X.K):=ix_list.or (ix_tup.or ix_str)
theorem mapSeq_set (its:List Value) (n j:Nat) (u:Value):Obj.mapSeq (·.setIfInBounds j u) { cls:=.type "list",data:=.seq its.toArray n }={ cls:=.type "list",data:=.seq (its.set j u).toArray n }:=by
 simp [Obj.mapSeq]
theorem Inv.lst {pins:List (Addr×Obj)} {σ:St} {H:Hp} {s:Shared} {p:Addr} {xs:List V} (I:Inv X pins σ H s) (h:H p=some (.lst xs)) :
  ∃ (its:List Value) (n:Nat),Vals xs its/\s.heap.get? p=some { cls:=.type "list",data:=.seq its.toArray n }/\xs.length<=sizeLine:=by
 obtain ⟨z,its,n,r,e⟩:=I.hok p _ h
 exact ⟨its,n,r,e,z⟩
theorem Inv.lstUpd {pins:List (Addr×Obj)} {σ:St} {H:Hp} {s:Shared} {p:Addr} {xs ys:List V} {its its':List Value} {n n':Nat} {f:Obj->Obj} (I:Inv X pins σ H s) (h:H p=some (.lst xs))
  (ho:s.heap.get? p=some { cls:=.type "list",data:=.seq its.toArray n }) (hf:f { cls:=.type "list",data:=.seq its.toArray n }={ cls:=.type "list",data:=.seq its'.toArray n' }) (r:Vals ys its') (hz:ys.length<=sizeLine) (t:Nat) :
  Inv X pins σ (upd H p (.lst ys)) { s with heap:=s.heap.update p f,toks:=t }:=by
 have e:(s.heap.update p f).get? p=some { cls:=.type "list",data:=.seq its'.toArray n' }:=by
  rw [Heap.get?_update_self f ho (by rw [hf]<;>rfl),hf]
 refine I.write (x:=p) (e:=p) (by rw [h];trivial) (.inl rfl) (fun b u hb q=>(Heap.get?_update_other _ _ (Ne.symm hb)).trans q) ⟨_,e⟩ ?_
 exact ⟨hz,its',n',r,e⟩
def rSetL:V->V->V->Hp->(Hp->Prop)->Prop:=fun o i v H Q=>∃ p xs k j,o = .ref p/\i = .int k/\H p=some (.lst xs)/\ixN xs.length k=some j/\Q (upd H p (.lst (xs.set j v)))
theorem set_list:PSet X rSetL:=by
 intro pins s σ H o i v ov iv u Q I ro ri rv h
 obtain ⟨p,xs,k,j,rfl,rfl,hp,hj,q⟩:=h
 cases ro
 obtain ⟨t,rfl⟩:=ri
 obtain ⟨its,n,r,ho,hz⟩:=I.lst hp
 obtain ⟨h1,h2,h3,h4⟩:=ixN_seq hj
 have hl:=r.length
 have hn:=line63
 have I':Inv X pins σ (upd H p (.lst (xs.set j v))) { s with heap:=s.heap.update p (Obj.mapSeq (·.setIfInBounds j u)) }:=
  I.lstUpd hp ho (mapSeq_set its n j u) (r.set rv j) (by rw [List.length_set];exact hz) s.toks
 by_cases h0:0<=k
 ·have hk:k.toNat=j:=by
   rw [seqIndex_of h0 h4] at h1
   exact Option.some.inj h1
  exact PySem.W.ki_setAt ho h0 (by omega) (by rw [List.size_toArray,<-hl];exact h4) (by rw [hk];exact ⟨_,I',q⟩)
 ·have hk:(k+(its.toArray.size:Int)).toNat=j:=by
   rw [seqIndex_neg (by omega) h3] at h1
   rw [List.size_toArray,<-hl]
   exact Option.some.inj h1
  exact PySem.W.ki_setBack ho (by omega) (by rw [List.size_toArray,<-hl];exact h3) (by omega) (by rw [hk];exact ⟨_,I',q⟩)
theorem slice_bounds (lo hi:Option Int) (n:Nat):(sliceBounds lo hi none n).1=((HT.sIx n 0 lo:Nat):Int)/\(sliceBounds lo hi none n).2.1=((HT.sIx n n hi:Nat):Int)/\(sliceBounds lo hi none n).2.2=1:=by
 refine ⟨?_,?_,rfl⟩
 ·cases lo with
  | none=>simp [sliceBounds,HT.sIx]
  | some i=>
   simp only [sliceBounds,HT.sIx,Option.getD_none,show (1:Int) > 0 by decide,if_true]
   by_cases h:i < 0
   ·simp only [h,if_true]<;>omega
   ·simp only [h,if_false]<;>omega
 ·cases hi with
  | none=>simp [sliceBounds,HT.sIx]
  | some i=>
   simp only [sliceBounds,HT.sIx,Option.getD_none,show (1:Int) > 0 by decide,if_true]
   by_cases h:i < 0
   ·simp only [h,if_true]<;>omega
   ·simp only [h,if_false]<;>omega
theorem slicePick_cut (its:List Value) (lo hi:Option Int):slicePick its.toArray lo hi none=((its.drop (HT.sIx its.length 0 lo)).take (HT.sIx its.length its.length hi - HT.sIx its.length 0 lo)).toArray:=by
 obtain ⟨h1,h2,h3⟩:=slice_bounds lo hi its.toArray.size
 unfold slicePick
 rw [h1,h2,h3]
 simp only [sliceRange_one,pick_run,List.size_toArray]<;>rfl
def rSlL (K:PySem.W.Frag):V->Option Int->Option Int->Hp->VK->Prop:=fun x lo hi H Q=>∃ a xs,x = .ref a/\SqL K H a xs/\∀ p,H p=none->Q (.ref p) (upd H p (.lst (cutV xs lo hi)))
theorem sl_list:SlR X (rSlL X.K):=by
 intro pins s σ H x v vl vu lo hi sl Q I rx hs pl pu h
 obtain ⟨a,xs,rfl,hx,q⟩:=h
 cases rx
 obtain ⟨its,r,ht,hz⟩:=I.list hx
 have hlen:=r.length
 refine ⟨"list",_,slot_list_getitem.lookup,ht.isList.typeIs,?_⟩
 refine wpAny_getItem_list_slice ht.isList hs pl pu .none (by simp) ?_ (by rw [List.size_toArray]<;>omega)
 rw [slicePick_cut,<-hlen]
 refine ⟨.ref s.heap.objs.size,_,I.laid (t':=s.toks) (o:=.lst (cutV xs lo hi)) (fun b ob q=>Heap.get?_push_of_some _ q) (Nat.le_refl _) ?_,rfl,q _ (I.hok.fresh (Nat.le_refl _))⟩
 exact ⟨Nat.le_trans (cutV_length xs lo hi) hz,_,0,(r.drop (HT.sIx xs.length 0 lo)).take (HT.sIx xs.length xs.length hi - HT.sIx xs.length 0 lo),Heap.get?_push_size _ rfl⟩
theorem call_len_seq:CallR X (.builtin "len") (fun xs H Q=>∃ p ys,xs=[.ref p]/\(SqL X.K H p ys\/SqT X.K H p ys)/\Q (.int ys.length) H):=by
 intro pins s σ H xs us Q I r h
 obtain ⟨p,ys,rfl,hq,q⟩:=h
 obtain ⟨u,rfl,rx⟩:=vals1 r
 cases rx
 have hn:=line63
 rcases hq with hq | hq
 ·obtain ⟨its,r',pl,hz⟩:=I.list hq
  have hlen:=r'.length
  exact Calls.call_len_list pl.isList (by simp only [List.size_toArray]<;>omega) ⟨.int ys.length,H,I.tok _,⟨s.toks+1,by rw [List.size_toArray,hlen]⟩,q⟩
 ·obtain ⟨its,r',pl,hz⟩:=I.tuple hq
  have hlen:=r'.length
  exact len_tuple pl (by simp only [List.size_toArray]<;>omega) ⟨.int ys.length,H,I.tok _,⟨s.toks+1,by rw [List.size_toArray,hlen]⟩,q⟩
theorem call_len_str:CallR X (.builtin "len") (fun xs H Q=>∃ z,xs=[.str z]/\z.length<=sizeLine/\Q (.int z.length) H):=by
 intro pins s σ H xs us Q I r h
 obtain ⟨z,rfl,hz,q⟩:=h
 obtain ⟨u,rfl,t,rfl⟩:=vals1 r
 have hn:=line63
 exact len_str (by omega) ⟨.int z.length,H,I.tok _,⟨_,rfl⟩,q⟩
theorem CallR.or {f:Value} {r r':List V->Hp->VK->Prop} (h:CallR X f r) (h':CallR X f r'):CallR X f (fun xs H Q=>r xs H Q\/r' xs H Q):=by
 intro pins s σ H xs us Q I rs q
 rcases q with q | q
 ·exact h pins s σ H xs us Q I rs q
 ·exact h' pins s σ H xs us Q I rs q
theorem call_list_of:CallR X (.type "list") (fun xs H Q=>∃ p ys,xs=[.ref p]/\(SqL X.K H p ys\/SqT X.K H p ys)/\∀ l,H l=none->Q (.ref l) (upd H l (.lst ys))):=by
 intro pins s σ H xs us Q I r h
 obtain ⟨p,ys,rfl,hq,q⟩:=h
 obtain ⟨u,rfl,rx⟩:=vals1 r
 cases rx
 have fin:∀ (its:List Value),Vals ys its->ys.length<=sizeLine->∀ (h':Heap) (c':Nat),(∀ b o',s.heap.get? b=some o'->h'.get? b=some o') →
   h'.get? s.heap.objs.size=some { cls:=.type "list",dict:=none,data:=.seq its.toArray c',slots:=#[] }->EP X pins σ Q (.ref s.heap.objs.size) { s with heap:=h' }:=fun its r' hz h' c' kp e=>
  ⟨.ref s.heap.objs.size,_,I.laid (t':=s.toks) kp (Nat.le_refl _) (show ObjOk X.prog X.w _ h' _ (.lst ys) from ⟨hz,its,c',r',e⟩),rfl,q _ (I.hok.fresh (Nat.le_refl _))⟩
 rcases hq with hq | hq
 ·obtain ⟨its,r',pl,hz⟩:=I.list hq
  have hlen:=r'.length
  obtain ⟨o,ho,hc,n,hd⟩:=pl.isList
  exact call_list_seq p (.inl rfl) ho hc hd (fun h' c' kp e=>fin its r' hz h' c' kp e) (by simp only [List.size_toArray]<;>omega)
 ·obtain ⟨its,r',pl,hz⟩:=I.tuple hq
  have hlen:=r'.length
  obtain ⟨o,ho,hc,n,hd⟩:=pl
  exact call_list_seq p (.inr rfl) ho hc hd (fun h' c' kp e=>fin its r' hz h' c' kp e) (by simp only [List.size_toArray]<;>omega)
def tyV (K:PySem.W.Frag) (T:String) (x:V) (H:Hp):Prop:=match x with
 | .str _=>T = "str"
 | .int _=>T = "int"
 | .ref p=>(T = "list"/\∃ xs,SqL K H p xs)\/(T = "tuple"/\∃ o,K.lookup p=some o/\o.cls = .type "tuple"/\o.dict=none) ∨
   (T = "dict"/\((∃ kvs,H p=some (.dK kvs))\/∃ kvs,H p=some (.dT kvs)))\/(T = "set"/\∃ S n,H p=some (.set S n))
 | _=>False
theorem tyV_is {pins:List (Addr×Obj)} {σ:St} {H:Hp} {s:Shared} {T:String} {x:V} {v:Value} (I:Inv X pins σ H s) (r:RelV x v) (ty:tyV X.K T x H) :
  s.TypeIs v T/\∀ a,v = .ref a->∃ ob,s.heap.get? a=some ob/\ob.dict=none:=by
 cases x with
 | str z=>
  obtain ⟨t,rfl⟩:=r
  cases (show T = "str" from ty)
  exact ⟨typeIs_str s z t,fun _ e=>nomatch e⟩
 | int i=>
  obtain ⟨t,rfl⟩:=r
  cases (show T = "int" from ty)
  exact ⟨typeIs_int s i t,fun _ e=>nomatch e⟩
 | ref p=>
  cases r
  rcases ty with ⟨rfl,xs,hq⟩ | ⟨rfl,o,hk,hc,hd⟩ | ⟨rfl,hk⟩ | ⟨rfl,S,n,hk⟩
  ·obtain ⟨its,_,pl,_⟩:=I.list hq
   refine ⟨pl.isList.typeIs,fun a e=>?_⟩
   cases e
   obtain ⟨o,n,e,c,hd,_⟩:=pl
   exact ⟨o,e,hd⟩
  ·refine ⟨⟨o,I.kIn p o hk,hc⟩,fun a e=>?_⟩
   cases e
   exact ⟨o,I.kIn _ o hk,hd⟩
  ·have z:∃ o,s.heap.get? p=some o/\o.ExactDict:=by
    rcases hk with ⟨kvs,hk⟩ | ⟨kvs,hk⟩
    ·obtain ⟨_,_,_,_,o,_,_,e,ex,_⟩:=I.hok p _ hk
     exact ⟨o,e,ex⟩
    ·obtain ⟨_,_,_,_,o,_,_,e,ex,_⟩:=I.hok p _ hk
     exact ⟨o,e,ex⟩
   obtain ⟨o,e,ex⟩:=z
   refine ⟨⟨o,e,ex.1⟩,fun a e2=>?_⟩
   cases e2
   exact ⟨o,e,ex.2.1⟩
  ·obtain ⟨o,_,_,_,e,ex,_⟩:=I.hok p _ hk
   refine ⟨⟨o,e,ex.1⟩,fun a e2=>?_⟩
   cases e2
   exact ⟨o,e,ex.2.1⟩
 | _=>exact False.elim ty
variable {o e:Expr} {es:List Expr} {to:TE} {t:TA} {name:Str} {apos cpos:Pos} {T id:String} {r:V->List V->Hp->VK->Prop}
/- xs.append(e),list.index on a module's tuple .. are MtR facts of 06m -/
end
end L2
namespace L2
open PySem PySem.Spec PyProof.Rows
def MtM (X:Cx) (id:String) (r:V->List V->Hp->VK->Prop):Prop:=
 ∀ (pins:List (Addr×Obj)) (s:Shared) (σ:St) (H:Hp) (x:V) (xs:List V) (v:Value) (us:List Value) (Q:VK),Inv X pins σ H s->RelV x v->Vals xs us->r x xs H Q →
  wpAny (model X.prog X.w) X.A (call (.builtin id) (v :: us)) (EP X pins σ Q) X.xe s
theorem Vals.one:∀ {x:V} {us:List Value},Vals [x] us->∃ u,us=[u]/\RelV x u
 | _,_,.cons r .nil=>⟨_,rfl,r⟩
theorem Vals.two:∀ {x y:V} {us:List Value},Vals [x,y] us->∃ u v,us=[u,v]/\RelV x u/\RelV y v
 | _,_,_,.cons r (.cons q .nil)=>⟨_,_,rfl,r,q⟩
theorem Vals.zero:∀ {us:List Value},Vals [] us->us=[]
 | _,.nil=>rfl
theorem Vals.dropLast {xs:List V} {us:List Value} (h:Vals xs us):Vals xs.dropLast us.dropLast:=by
 induction h with
 | nil=>exact .nil
 | cons r t ih=>
  cases t with
  | nil=>exact .nil
  | cons q t'=>exact .cons r ih
theorem Vals.eraseIdx:∀ {xs:List V} {us:List Value} (i:Nat),Vals xs us->Vals (xs.eraseIdx i) (us.eraseIdx i)
 | _,_,_,.nil=>.nil
 | _,_,0,.cons _ t=>t
 | _,_,i+1,.cons r t=>.cons r (Vals.eraseIdx i t)
theorem Vals.reverse {xs:List V} {us:List Value} (h:Vals xs us):Vals xs.reverse us.reverse:=by
 induction h with
 | nil=>exact .nil
 | cons r t ih=>rw [List.reverse_cons,List.reverse_cons];exact Vals.append ih (.cons r .nil)
theorem Vals.rep {xs:List V} {us:List Value} (h:Vals xs us):∀ k:Nat,Vals (List.replicate k xs).flatten (List.replicate k us).flatten
 | 0=>.nil
 | k+1=>by
  rw [List.replicate_succ,List.replicate_succ,List.flatten_cons,List.flatten_cons]
  exact Vals.append h (Vals.rep h k)
theorem erase_last {α:Type} (l:List α):l.eraseIdx (l.length - 1)=l.dropLast:=by
 induction l with
 | nil=>rfl
 | cons a r ih=>
  cases r with
  | nil=>rfl
  | cons b r=>
   have e:(a :: b :: r).length - 1=((b :: r).length - 1)+1:=by
    have h1:(a :: b :: r).length=r.length+2:=rfl
    have h2:(b :: r).length=r.length+1:=rfl
    omega
   rw [e,List.eraseIdx_cons_succ,ih]
   all_goals rfl
theorem foldl_rep (its:List Value):∀ (k:Nat) (acc:List Value),
  List.foldl (fun x1 x2=>x1++x2) acc.toArray (List.replicate k its.toArray)=(acc++(List.replicate k its).flatten).toArray
 | 0,acc=>by simp
 | k+1,acc=>by
  have e:acc.toArray++its.toArray=(acc++its).toArray:=by simp
  have e2:(acc++its)++(List.replicate k its).flatten=acc++(List.replicate (k+1) its).flatten:=by
   rw [List.replicate_succ,List.flatten_cons,List.append_assoc]
  rw [<-e2,<-foldl_rep its k (acc++its),<-e,List.replicate_succ,List.foldl_cons]
section
variable {X:Cx} {pins:List (Addr×Obj)} {σ:St} {H:Hp} {s:Shared} {l b:Addr} {xs ys zs:List V}
theorem Inv.lset {its its':List Value} {n:Nat} {f:Array Value->Array Value} {t':Nat} (I:Inv X pins σ H s) (hH:H l=some (.lst xs))
  (e:s.heap.get? l=some { cls:=.type "list",data:=.seq its.toArray n }) (hf:f its.toArray=its'.toArray) (hv:Vals ys its') (hz:ys.length<=sizeLine) :
  Inv X pins σ (upd H l (.lst ys)) { s with heap:=s.heap.update l (Obj.mapSeq f),toks:=t' }:=by
 have q:=PySem.IsL.update e f
 rw [hf] at q
 refine I.write (x:=l) (e:=l) (by rw [hH];exact trivial) (.inl rfl) (fun b' u hb hu=>(Heap.get?_update_other s.heap (Obj.mapSeq f) (Ne.symm hb)).trans hu) ⟨_,q⟩ ?_
 exact ⟨hz,its',_,hv,q⟩
theorem Inv.lnew {its:List Value} {t':Nat} (I:Inv X pins σ H s) (hv:Vals ys its) (hz:ys.length<=sizeLine) :
  Inv X pins σ (upd H s.heap.objs.size (.lst ys)) { s with heap:=s.heap.push { cls:=.type "list",data:=.seq its.toArray },toks:=t' }:=
 I.laid (fun _ _ q=>Heap.get?_push_of_some _ q) (Nat.le_refl _) ⟨hz,its,0,hv,Heap.get?_push_size _ rfl⟩
theorem Inv.fresh (I:Inv X pins σ H s):H s.heap.objs.size=none:=I.hok.fresh (Nat.le_refl _)
theorem Inv.lstM (I:Inv X pins σ H s) (hH:H l=some (.lst xs)):xs.length<=sizeLine/\∃ (its:List Value) (n:Nat),Vals xs its/\xs.length=its.length/\s.heap.get? l=some { cls:=.type "list",data:=.seq its.toArray n }:=by
 obtain ⟨z,its,n,r,e⟩:=I.hok l _ hH
 exact ⟨z,its,n,r,r.length,e⟩
theorem notLongL {n:Nat} (h:n<=sizeLine):Builtin.List.listTooLong n=false:=by
 unfold Builtin.List.listTooLong
 exact decide_eq_false (by omega)
end
section
variable {X:Cx}
def rAppend:V->List V->Hp->VK->Prop:=fun x vs H Q=>∃ l xs y,x = .ref l/\vs=[y]/\H l=some (.lst xs)/\xs.length < sizeLine/\Q .non (upd H l (.lst (xs++[y])))
theorem mt_append:MtM X "list.append" rAppend:=by
 intro pins s σ H x vs v us Q I rx rv h
 obtain ⟨l,xs,y,rfl,rfl,hH,hz,q⟩:=h
 cases rx
 obtain ⟨u,rfl,ru⟩:=rv.one
 obtain ⟨z,its,n,r,hl,e⟩:=I.lstM hH
 refine call_meets F.slot_list_append ⟨_,e,rfl⟩ F.entry_list_append (F.args_list_append_2 _ _) (PySem.list_append l its.toArray n u (by rw [List.size_toArray];omega)) ⟨e,?_⟩
 refine ⟨.non,_,I.lset (its':=its++[u]) hH e (by simp) (r.append (.cons ru .nil)) ?_,rfl,q⟩
 rw [List.length_append,List.length_singleton]
 omega
def rPop:V->List V->Hp->VK->Prop:=fun x vs H Q=>∃ l xs y,x = .ref l/\vs=[]/\H l=some (.lst xs)/\xs[xs.length - 1]? = some y/\Q y (upd H l (.lst xs.dropLast))
theorem mt_pop:MtM X "list.pop" rPop:=by
 intro pins s σ H x vs v us Q I rx rv h
 obtain ⟨l,xs,y,rfl,rfl,hH,hy,q⟩:=h
 cases rx
 have hus:=rv.zero
 subst hus
 obtain ⟨z,its,n,r,hl,e⟩:=I.lstM hH
 obtain ⟨u,hu,ru⟩:=r.get hy
 have hy':its.toArray[its.toArray.size - 1]? = some u:=by
  show its.toArray[its.length - 1]? = some u
  rw [<-Array.getElem?_toList,<-hl]
  exact hu
 refine call_meets F.slot_list_pop ⟨_,e,rfl⟩ F.entry_list_pop (F.args_list_pop_1 _) (MeetsSeq.list_pop_last l its.toArray n u hy' (by rw [List.size_toArray];omega)) ⟨e,?_⟩
 refine ⟨y,_,I.lset (its':=its.dropLast) hH e ?_ r.dropLast ?_,ru,q⟩
 ·show its.toArray.eraseIdxIfInBounds (its.toArray.size - 1)=its.dropLast.toArray
  rw [List.size_toArray,List.eraseIdxIfInBounds_toArray,erase_last]
 ·rw [List.length_dropLast]
  omega
def rCat:R2:=fun x y H Q=>∃ l b xs zs,x = .ref l/\y = .ref b/\H l=some (.lst xs)/\H b=some (.lst zs)/\xs.length+zs.length<=sizeLine/\∀ p,H p=none->Q (.ref p) (upd H p (.lst (xs++zs)))
theorem op_cat:OpR X (binaryOp .Add) rCat:=by
 intro pins s σ H x y v u Q I rx ry h
 obtain ⟨l,b,xs,zs,rfl,rfl,hH,hB,hz,q⟩:=h
 cases rx
 cases ry
 obtain ⟨z,its,n,r,hl,e⟩:=I.lstM hH
 obtain ⟨z2,its2,n2,r2,hl2,e2⟩:=I.lstM hB
 refine PySem.P.add_list e e2 ?_ (by rw [List.size_toArray,List.size_toArray];omega)
 have ea:its.toArray++its2.toArray=(its++its2).toArray:=by simp
 rw [ea]
 exact ⟨.ref _,_,I.lnew (t':=s.toks) (r.append r2) (by rw [List.length_append];omega),rfl,q _ I.fresh⟩
def rRep:R2:=fun x y H Q=>∃ l k xs,x = .ref l/\y = .int k/\H l=some (.lst xs)/\-(2 ^ 63)<=k/\k < 2 ^ 63/\xs.length * k.toNat<=sizeLine ∧
 ∀ p,H p=none->Q (.ref p) (upd H p (.lst (List.replicate k.toNat xs).flatten))
theorem len_rep {α:Type} (xs:List α) (k:Nat):(List.replicate k xs).flatten.length=k * xs.length:=by
 induction k with
 | zero=>simp
 | succ k ih=>rw [List.replicate_succ,List.flatten_cons,List.length_append,ih,Nat.succ_mul,Nat.add_comm]
theorem op_rep:OpR X (binaryOp .Mult) rRep:=by
 intro pins s σ H x y v u Q I rx ry h
 obtain ⟨l,k,xs,rfl,rfl,hH,h1,h2,hz,q⟩:=h
 cases rx
 obtain ⟨t,rfl⟩:=ry
 obtain ⟨z,its,n,r,hl,e⟩:=I.lstM hH
 have hlen:its.toArray.size * k.toNat<=sizeLine:=by rw [List.size_toArray,<-hl];exact hz
 have hcap:¬ its.toArray.size * k.toNat > (2 ^ 63 - 1) / 8:=by
  have:(sizeLine:Nat)<=(2 ^ 63 - 1) / 8:=by decide
  omega
 have hfit:¬ (!Builtin.List.listFitsIndex k)=true:=by
  rw [fitsIndex_both h1 h2]
  exact Bool.false_ne_true
 have hlong:¬ Builtin.List.listTooLong (its.toArray.size * k.toNat)=true:=by
  rw [notLongL hlen]
  exact Bool.false_ne_true
 have hnew:List.foldl (fun x1 x2=>x1++x2) #[] (List.replicate (if its.toArray.isEmpty=true then 0 else k.toNat) its.toArray)=(List.replicate k.toNat its).flatten.toArray:=by
  have f0:∀ m:Nat,List.foldl (fun x1 x2=>x1++x2) #[] (List.replicate m its.toArray)=(List.replicate m its).flatten.toArray:=fun m=>by
   have:=foldl_rep its m []
   rw [List.nil_append] at this
   exact this
  rw [f0]
  cases its with
  | nil=>simp
  | cons a r'=>rw [if_neg (by simp)]
 refine wpAny_binaryOp_repeat_ref (T:= "list") (U:= "int") (by decide) ⟨_,e,rfl⟩ (fun s'=>typeIs_int s' k t) noFill_list_mul F.fills_int_mul F.slot_int_rmul repeat_list F.slot_int_index.lookup
  (call_meets F.slot_int_rmul (typeIs_int s k t) F.entry_int_rmul (F.args_int_rmul_2 _ _) (int___rmul___int_list k t l its.toArray n)
   ⟨e,rfl,⟨_,e,rfl⟩,call_meets F.slot_list_mul ⟨_,e,rfl⟩ F.entry_list_mul (F.args_list_mul_2 _ _) (AutoListH.list___mul___list_int_3 l its.toArray n k t hfit hcap hlong) ⟨e,?_⟩⟩)
 rw [hnew]
 exact ⟨.ref _,_,I.lnew (t':=s.toks) (r.rep k.toNat) (by rw [len_rep,Nat.mul_comm];exact hz),rfl,q _ I.fresh⟩
end
section
variable {prog:Program} {w:World} {A:Around} {E:Value->Shared->Prop} {s:Shared}
set_option maxRecDepth 100000 in
end
section
variable {X:Cx}
end
end L2
namespace Att
open PySem PySem.W PySem.Calls PyProof.Rows
theorem ints_of_wellAll {P:Params} {h:Heap}:∀ (ns:List Int) (vs:List Value),WellAll P h vs (ns.map WData.int)->IntsAre vs ns:=by
 intro ns
 induction ns with
 | nil=>
  intro vs w
  rw [List.map_nil] at w
  cases w
  exact .nil
 | cons n ns ih=>
  intro vs w
  rw [List.map_cons] at w
  cases w with
  | cons a b=>
   cases a
   exact .cons _ _ (ih _ b)
theorem script_of {l:OpenLaw} {n:Nat} (hn:l.most=some n) {P:Params} {h:Heap} {args:List WData} {vals:List Value}
  (hpre:l.row.toRowW.claim.pre args=true) (hwl:WellAll P h vals args) :
  ∃ a vs ns,vals=[Value.ref a]/\args=[WData.list (ns.map WData.int)]/\h.get? a=some { cls:=.type "list",data:=.seq vs.toArray }/\IntsAre vs ns/\ns.length<=n:=by
 have hsh:WShape.hasAll [] args [.list .int]=true:=(pre_splitW hpre).1
 have hc:l.pre.holds [] { args:=args }=true:=(pre_splitW hpre).2
 obtain ⟨d,r,rfl,h1,h2⟩:=hasAllW_cons hsh
 obtain rfl:=hasAllW_nil h2
 obtain ⟨xs,rfl,h3⟩:=hasW_list h1
 obtain ⟨ns,rfl⟩:=items_int h3
 have hlen:ns.length<=n:=by
  unfold OpenLaw.pre at hc
  have h4:(WTm.not (.lt (.lit (.int (n:Int))) (.len (.arg 0)))).holds [] { args:=[.list (ns.map .int)] }=true:=by
   have h4:=(holds_andW hc).1
   rw [hn] at h4
   exact h4
  have h5:=condW_of h4 (w_not (w_lt w_lit (w_len_list (w_arg rfl))))
  rw [List.length_map] at h5
  refine Nat.le_of_not_lt fun q=>?_
  have q':(n:Int) < ((ns.length:Nat):Int):=by omega
  first
   | (rw [decide_eq_true q'] at h5;exact absurd h5 (by decide))
   | (simp at h5;omega)
 cases hwl with
 | cons w1 w2=>
  cases w2
  cases w1 with
  | list ho hall=>exact ⟨_,_,ns,rfl,rfl,ho,ints_of_wellAll ns _ hall,hlen⟩
theorem post_true (l:OpenLaw) (args:List WData):l.row.toRowW.claim.post args (.bool true) args=true:=
 postW_of (r:=l.row.toRowW) (X:=(true == true))
  (show WShape.has [] (.bool true) .bool=true by first | rfl | decide | simp [WShape.has,WShape.arms,WShape.armsAll])
  (show (WTm.eq .res (.lit (.bool true))).value [] { args:=args,res:=some (.bool true),after:=args }=some (.bool (true == true)) from w_eq_bool (w_res rfl) w_lit) rfl
theorem attach_call {l:OpenLaw} {n:Nat} {q:Program} {loose:List Str} {XP:(Str->Option Value)->Heap->Prop} {YP:World->Heap->Prop} {d:DefRec}
  (hn:l.most=some n) (hdf:d.params.defaults=[])
  (call:∀ (w:World) (s₀ s₁:Shared) (mg mb:Str->Option Value) (fa:Addr) (o:Obj) (pm cd doc:Value) (a:Addr) (vs:List Value) (ns:List Int),
   Ground q loose [] XP w s₀ mg mb s₁.heap->YP w s₁.heap →
   s₁.heap.get? fa=some o->o.data = .func (docDef d.name d.params d.body d.scope pm cd doc)->s₁.heap.CodeRec cd d.name->mg d.name=some (.ref fa) →
   s₁.heap.get? a=some { cls:=.type "list",data:=.seq vs.toArray }->IntsAre vs ns->ns.length<=n->s₁.gens = #[] →
   codeAny (model l.prog w) callerA (.call (.ref fa) ⟨[.ref a],[]⟩) (fun r s'=>r = .ok (.ret (.bool true))/\OldK s₁.heap s'.heap/\s'.os=s₁.os/\AllBare s'.gens) s₁) :
  WalkO q loose XP YP l.row.toRowW d [] (fun f vs=>PySem.call f vs):=by
 intro w s₀ s₁ mg mb G Y fa o pm cd doc dV kV ho hd hcd hD hmg hg args vals as hpre hlay hrd hwl hlo
 obtain rfl:dV = .none:=Dflts.none hD hdf
 obtain rfl:kV = .none:=Dflts.noKw hD
 obtain ⟨a,vs,ns,rfl,rfl,hobj,hints,hlen⟩:=script_of hn hpre hwl
 refine enter_call (codeAny_mono (call w s₀ s₁ mg mb fa o pm cd doc a vs ns G Y ho (fd_plain hd) hcd hmg hobj hints hlen hg) fun r s' hq=>?_)
 obtain ⟨rfl,h2,h3,h4⟩:=hq
 exact ⟨.inl ⟨.bool true,.bool true,[],rfl,fun _=>rfl,.bool true,post_true l _,fun _=>⟨List.Pairwise.nil,fun _ hm=>(nomatch hm)⟩⟩,h2,h3,h4⟩
section
variable {prog:Program} {w:World} {A:Around} {E:Value->Shared->Prop} {s:Shared} {K:Frag}
end
end Att
namespace L2
open PySem PySem.Spec PyProof.Rows
theorem vals_ints:∀ {vs:List Value} {ns:List Int},IntsAre vs ns->Vals (ns.map V.int) vs
 | _,_,.nil=>.nil
 | _,_,.cons n t h=>.cons ⟨t,rfl⟩ (vals_ints h)
def Only (H:Hp):Prop:=∀ b,H b=none\/∃ o xs,H b=some (.frz o (.lst xs))
theorem law_call {P:Program} {w:World} {K:PySem.W.Frag} {mg mb:Str->Option Value} {CX:CXT} {k:Nat} {fa a:Addr} {fd:FuncData} {x:Str} {sp:Sp} {s₁:Shared} {vs:List Value} {ns:List Int}
  (KX:K.In s₁.heap) (hns:s₁.heap.Ns mainGlobals mg) (hb:s₁.heap.Ns builtinsNs mb) (hbb:∀ x:Str,x≠"__name__"->mb x=bootBuiltins x) (hlim:s₁.heap.NoLimit) (hg:s₁.gens = #[])
  (ha:s₁.heap.get? a=some { cls:=.type "list",data:=.seq vs.toArray }) (hi:IntsAre vs ns) (hl:ns.length<=sizeLine) (hr:Room k callerA)
  (F:∀ base:Heap,K.In base->base.Ns mainGlobals mg->FnOk P w K mg base CX k fa fd [x] sp) (hbind:∀ (s:Shared) (u:Value),BindsTo s fd ⟨[u],[]⟩ [(x,u)])
  (hsp:∀ H:Hp,Only H->SqL K H a (ns.map V.int)->sp [.ref a] H (fun v _=>v = .bl true) fun _ _ _=>False)
  (hCX:∀ H e s',CX [] H s₁ (fun _ _ _=>False) e s'->False) :
  codeAny (model P w) callerA (.call (.ref fa) ⟨[.ref a],[]⟩) (fun r s'=>r = .ok (.ret (.bool true))/\OldK s₁.heap s'.heap/\s'.os=s₁.os/\AllBare s'.gens) s₁:=by
 have rv:=vals_ints hi
 have lenV:=hi.length
 have core:∀ H:Hp,Only H->SqL K H a (ns.map V.int)->HOk P w H s₁.heap->(∀ b,H b≠none->b=a)->(H a≠none->K.lookup a=none) →
   codeAny (model P w) callerA (.call (.ref fa) ⟨[.ref a],[]⟩) (fun r s'=>r = .ok (.ret (.bool true))/\OldK s₁.heap s'.heap/\s'.os=s₁.os/\AllBare s'.gens) s₁:=by
  intro H hO hS hok hA hK
  have base_of:∀ {b:Addr} {o:Obj},s₁.heap.get? b=some o->H b=none->(hidT s₁.heap H).get? b=some o:=fun e n=>hidT_get e n
  have noA:∀ {b:Addr} {o:Obj} {es:Array DictEntry} {ep:Nat},s₁.heap.get? b=some o->o.data = .dict es ep->H b=none:=fun {b o es ep} e d=>by
   cases q:H b with
   | none=>rfl
   | some u=>
    have e':b=a:=hA b (by rw [q];simp)
    subst e'
    rw [ha] at e;cases e
    have d':Data.seq vs.toArray _=Data.dict es ep:=d
    cases d'
  have nsK:∀ {b:Addr} {m:Str->Option Value},s₁.heap.Ns b m->(hidT s₁.heap H).Ns b m:=fun {b m} ⟨o,es,ep,e,d,r⟩=>⟨o,es,ep,base_of e (noA e d),d,r⟩
  have hKb:K.In (hidT s₁.heap H):=fun b o e=>base_of (KX b o e) (by
   cases q:H b with
   | none=>rfl
   | some u=>
    have e':b=a:=hA b (by rw [q];simp)
    subst e'
    rw [hK (by rw [q];simp)] at e;cases e)
  have hM:Mod K mg (hidT s₁.heap H):=⟨hKb,nsK hns,⟨mb,nsK hb,hbb⟩,let ⟨mc,h1,h2⟩:=hlim;⟨mc,nsK h1,h2⟩⟩
  have e0:Env0 P w K mg (hidT s₁.heap H) callerA [] s₁ H:=⟨rfl,hM,fun b o e=>of_hidT e,Nat.le_of_eq (hidT_size _ _),trivial,fun b hb=>absurd (show b∈([]:List Addr) from hb) (by simp),hok,.of_eq hg⟩
  refine codeAny_mono ((F _ hKb (nsK hns)).run callerA [] s₁ H ⟨[.ref a],[]⟩ [.ref a] [.ref a] _ _ hr e0 (hbind s₁ (.ref a)) (.cons rfl .nil) (hsp H hO hS)) fun r s' h=>?_
  cases r with
  | error e=>exact (hCX H e s' h).elim
  | ok fl=>
   cases fl with
   | next=>exact False.elim h
   | brk=>exact False.elim h
   | cont=>exact False.elim h
   | ret u=>
    obtain ⟨v,H',os,bare,un,hok',r',q⟩:=h
    have q':v = .bl true:=q
    subst q'
    obtain rfl:u=Value.bool true:=r'
    refine ⟨rfl,OldK.of_keep fun b o e=>?_,os,bare⟩
    cases q:H b with
    | none=>exact un.keep b o e q (by intro z;exact absurd (show b∈([]:List Addr) from z) (by simp)) (by simp)
    | some u=>
     rcases hO b with z | ⟨ob,xs,z⟩
     ·rw [q] at z;cases z
     ·have z2:=un.frzs b ob _ z
      obtain ⟨e1,_⟩:=hok b _ z
      obtain ⟨e2,_⟩:=hok' b _ z2
      rw [e] at e1;cases e1
      exact e2
 cases hk:K.lookup a with
 | some o=>
  have e:=KX a o hk
  rw [ha] at e
  cases e
  refine core (fun _=>none) (fun _=>.inl rfl) (.inr ⟨_,vs.toArray,_,hk,rfl,rfl,rfl,by rw [List.size_toArray,lenV];exact hl,by simpa using rv⟩) (fun b u z=>by have z':(none:Option HO)=some u:=z;cases z') (fun b z=>absurd rfl z) fun z=>absurd rfl z
 | none=>
  refine core (fun b=>if b=a then some (.frz { cls:=.type "list",data:=.seq vs.toArray } (.lst (ns.map V.int))) else none) (fun b=>?_) (.inl (.inr ⟨{ cls:=.type "list",data:=.seq vs.toArray },if_pos rfl⟩)) (fun b u z=>?_) (fun b z=>?_) fun _=>hk
  ·by_cases hb:b=a
   ·exact .inr ⟨_,_,if_pos hb⟩
   ·exact .inl (if_neg hb)
  ·by_cases hb:b=a
   ·have z':=(if_pos hb).symm.trans z
    cases z'
    subst hb
    exact ⟨ha,by rw [List.length_map];exact hl,vs,_,rv,ha⟩
   ·have z':=(if_neg hb).symm.trans z
    cases z'
  ·by_cases hb:b=a
   ·exact hb
   ·exact absurd (if_neg hb) z
end L2
namespace L2
open PySem PySem.Spec PyProof.Rows
abbrev KOf {K:PySem.W.Frag} {h:Heap} (_:K.In h):PySem.W.Frag:=K
theorem walk_of {l:PySem.W.OpenLaw} {n k:Nat} {q:Program} {loose:List Str} {XP:(Str->Option Value)->Heap->Prop} {YP:World->Heap->Prop} {d:DefRec} {K:Params->PySem.W.Frag} {CX:World->CXT} {sp:World->Sp} {x:Str}
  (hn:l.most=some n) (hn2:n<=sizeLine) (hdf:d.params.defaults=[]) (hr:Room k callerA)
  (hY:∀ (w:World) (h:Heap),YP w h->(K w.params).In h)
  (F:∀ (w:World) (mg:Str->Option Value) (fa:Addr) (h:Heap),(K w.params).In h->h.Ns mainGlobals mg->mg d.name=some (.ref fa) →
   ∃ fd:FuncData,(∀ (s:Shared) (u:Value),BindsTo s fd ⟨[u],[]⟩ [(x,u)]) ∧
    ∀ base:Heap,(K w.params).In base->base.Ns mainGlobals mg->FnOk l.prog w (K w.params) mg base (CX w) k fa fd [x] (sp w))
  (hsp:∀ (w:World) (H:Hp) (a:Addr) (ns:List Int),ns.length<=n->Only H->SqL (K w.params) H a (ns.map V.int)->sp w [.ref a] H (fun v _=>v = .bl true) fun _ _ _=>False)
  (hCX:∀ (w:World) (H:Hp) (s:Shared) (e:Value) (s':Shared),CX w [] H s (fun _ _ _=>False) e s'->False) :
  PySem.W.WalkO q loose XP YP l.row.toRowW d [] (fun f vs=>PySem.call f vs):=by
 refine Att.attach_call hn hdf fun w s₀ s₁ mg mb fa o pm cd doc a vs ns G Y ho hd hcd hmg hobj hints hlen hg=>?_
 have KX:=hY w _ Y
 obtain ⟨fd,hb,hF⟩:=F w mg fa _ KX G.T.g hmg
 exact law_call KX G.T.g G.T.b G.T.builtins G.T.nolimit hg hobj hints (Nat.le_trans hlen hn2) hr hF hb (fun H hO hS=>hsp w H a ns hlen hO hS) fun H e s'=>hCX w H s₁ e s'
end L2
/- THE LAST THEOREM (shape;LID,My.* are yours):
   My.Adr: a structure of the addresses that your layer names (classes,functions);My.Txt K t: a structure (Prop) of the equations over K;
   My.txt_mk:{K} {implicit addresses ..} (e1:nsIn K mainGlobals "law" = some (some (.ref f))) (e2:K.lookup f=some ⟨oc,od,.func (fnOf "law" "law" params body scope dV kV doc pm an cdv ct),sl⟩) (e3:codeIn K cdv "law" = true) .. : ∃ t,My.Txt K t
set_option maxRecDepth 100000 in
set_option maxHeartbeats 0 in
theorem PySem.Challenge.cw_LID_holds : PySem.Challenge.rw_LID.Holds := by
 w_on;o_law;k_head;(case hw=>w_witness2)
 k_fill
 refine L2.walk_of (l:=PySem.Challenge.rw_LID) (n:=63) (k:=40) (x:= "script") (CX:=fun w=>..) (sp:=fun _=>My.sp_law) rfl (by decide) rfl ⟨rfl,by decide,by decide⟩ (fun w h Y=>PySem.W.kIn_of Y) ?F ?S ?C
 case F=>
  intro w mg fa h KX G hmg
  have T:∃ t,My.Txt (L2.KOf KX) t:=by
   dsimp only [L2.KOf]                          -- K must stand as «<heap const> w.params» for k_is
   refine' My.txt_mk ?e1 ?e2 ?e3 ..
   (case e1=>PySem.W.k_is)                    -- in the order: a name -> its address -> its object -> its parts
   (case e2=>PySem.W.k_is)
   ..
  obtain ⟨t,T⟩:=T
  have e0:=hmg.symm.trans (PySem.W.mg_of KX G T.law)
  cases e0                                       -- fa is the law's own address
  exact ⟨_,fun s u=>.of_eq rfl,fun base kb nb=>My.law_fn T kb nb⟩     -- if «.of_eq rfl» comes too early: refine' ⟨_,?b,fun base kb nb=>My.law_fn T kb nb⟩;exact fun s u=>.of_eq rfl
 case S=>exact fun w H a ns hl hO hS=>..
 case C=>exact ..
(the tactic k_is has no namespace: write k_is) -/
namespace L2
open PySem PySem.Spec PyProof.Rows
def defArgs (s:Stmt):Arguments:=match s with
 | .FunctionDef _ a _ _ _ _ _ _ _ _=>a
 | _=>{ posonlyargs:=[],args:=[],vararg:=none,kwonlyargs:=[],kw_defaults:=[],kwarg:=none,defaults:=[] }
def defBody (s:Stmt):List Stmt:=match s with
 | .FunctionDef _ _ b _ _ _ _ _ _ _=>b
 | _=>[]
def defScope (s:Stmt):Scope:=match s with
 | .FunctionDef _ _ _ _ _ _ sc _ _ _=>sc
 | _=>{ kind:=.function,names:=[],isGenerator:=false,isCoroutine:=false }
abbrev CX0:CXT:=fun _ _ _ _ _ _=>False
abbrev E0:XK:=fun _ _ _=>False
theorem pass0 {X:Cx}:Passes CX0 X E0:=fun _ _ _ _ _ _ _ h=>h.elim
structure Fun (K:PySem.W.Frag) (x qual:Str) (st:Stmt) (f:Addr) (fd:FuncData):Prop where
 ex:∃ (oc:Value) (od:Option Addr) (kV doc pm:Value) (an:Option Addr) (cdv ct:Value) (osl:Array (Option Value)),
  fd=PySem.W.fnOf x qual (defArgs st) (defBody st) (defScope st) .none kV doc pm an cdv ct/\K.lookup f=some ⟨oc,od,.func fd,osl⟩/\PySem.W.codeIn K cdv qual=true
 kp:PySem.W.keepIn K (.ref f)=true
section
variable {P:Program} {w:World} {K:PySem.W.Frag} {mg:Str->Option Value} {base:Heap}
theorem Fun.ok {x qual:Str} {st:Stmt} {f:Addr} {fd:FuncData} {N ps:List Str} {k:Nat} {sp:Sp} (F:Fun K x qual st f fd) (S:FnScope N ps (defScope st)) (len:∀ vs H Q E,sp vs H Q E->vs.length=ps.length)
  (hbody:∀ (cdv:Value) (A:Around) (outer:List Env) (s:Shared) (H:Hp) (vs:List V) (Q:VK) (E:XK),Room k (A.deeper (envOfC qual (defScope st) s.heap.objs.size f cdv))->sp vs H Q E →
   ∃ t,PSs (cxOf CX0 P w K mg base N qual (defScope st) f cdv A outer s H E).nox (defBody st) t/\t { nx:=fun _ H'=>Q .non H',rt:=Q } (start N vs) H):FnOk P w K mg base CX0 (k+1) f fd ps sp:=by
 obtain ⟨oc,od,kV,doc,pm,an,cdv,ct,osl,rfl,lk,hcd⟩:=F.ex
 refine fn_of lk hcd S len fun A outer s H vs Q E hr hsp=>?_
 obtain ⟨t,h,q⟩:=hbody cdv A outer s H vs Q E hr hsp
 exact ⟨t,h.nox,q⟩
theorem Fun.binds {x qual:Str} {st:Stmt} {f:Addr} {fd:FuncData} {ps:List Str} (F:Fun K x qual st f fd)
  (h:∀ (kV doc pm:Value) (an:Option Addr) (cdv ct:Value) (us:List Value),us.length=ps.length->bindArgs (PySem.W.fnOf x qual (defArgs st) (defBody st) (defScope st) .none kV doc pm an cdv ct) ⟨us,[]⟩=pure (ps.zip us)):Binds K fd ps []:=by
 obtain ⟨oc,od,kV,doc,pm,an,cdv,ct,osl,rfl,lk,hcd⟩:=F.ex
 exact .all (h kV doc pm an cdv ct)
theorem fun_mk {x qual:Str} {st:Stmt} {f:Addr} {oc:Value} {od an:Option Addr} {osl:Array (Option Value)} {kV doc pm cdv ct:Value} (l:K.lookup f=some ⟨oc,od,.func (PySem.W.fnOf x qual (defArgs st) (defBody st) (defScope st) .none kV doc pm an cdv ct),osl⟩)
  (c:PySem.W.codeIn K cdv qual=true) (k:PySem.W.keepIn K (.ref f)=true):Fun K x qual st f (PySem.W.fnOf x qual (defArgs st) (defBody st) (defScope st) .none kV doc pm an cdv ct):=⟨⟨oc,od,kV,doc,pm,an,cdv,ct,osl,rfl,l,c⟩,k⟩
end
section
variable {X:Cx}
theorem pv (i:Nat) {x:Str} {pos:Pos} (hN:X.N[i]? = some x:=by rfl) (hv:Vis X.env.scope x:=by first | exact Or.inl rfl | exact Or.inr (Or.inl rfl) | exact Or.inr (Or.inr rfl)) (hd:(x == ("__debug__" : Str))=false:=by decide)
  (hcd:(x == ("__classdict__" : Str))=false:=by decide):PE X (.Name x pos) (tVar i):=pe_var hN hv hd hcd
end
theorem ite2 {c A B:Prop} [Decidable c] (h1:c->A) (h2:¬ c->B):if c then A else B:=by
 by_cases h:c
 ·rw [if_pos h]
  exact h1 h
 ·rw [if_neg h]
  exact h2 h
def Same (H H':Hp):Prop:=∀ b o,H b=some o->H' b=some o
theorem Same.refl (H:Hp):Same H H:=fun _ _ h=>h
theorem Same.trans {H H1 H2:Hp} (a:Same H H1) (b:Same H1 H2):Same H H2:=fun c o h=>b c o (a c o h)
theorem Same.free {H H':Hp} (e:Same H H') {l:Addr} (h:H' l=Option.none):H l=Option.none:=by
 cases q:H l with
 | none=>rfl
 | some o=>
  rw [e l o q] at h
  cases h
theorem Same.seq {K:PySem.W.Frag} {H H':Hp} {a:Addr} {xs:List V} (e:Same H H') (h:SqL K H a xs):SqL K H' a xs:=by
 rcases h with (h | ⟨o,h⟩) | h
 ·exact .inl (.inl (e _ _ h))
 ·exact .inl (.inr ⟨o,e _ _ h⟩)
 ·exact .inr h
end L2
section
namespace L2
open PySem
section
variable {prog:Program} {w:World} {A:Around} {R:Result->Shared->Prop} {s:Shared}
theorem compLoop_any {elt target iter:Expr} {ifs:List Expr} {scope:Scope} {pos:Pos} {it acc:Value} {env:Env} (I:Nat->Shared->Prop)
  (turn:∀ n s,I n s->wpAny (model prog w) A (pyNext it) (fun r s₁=>match r with
   | none=>R (.ok .next) s₁
   | some v=>wpAny (model prog w) A (letOwnedTupleGo target it v) (fun _ s₁'=>wpAny (model prog w) A (assign target env v) (fun _ s₂=>
     wpAny (model prog w) A (forIn ifs true fun c r=>if r=true then do let ok <-isTrue c env (eval c env);pure (ForInStep.yield ok) else pure (ForInStep.yield r)) (fun ok s₃=>
      if ok=true then wpAny (model prog w) A (eval elt env) (fun x s₄=>
       wpAny (model prog w) A (call (.builtin "list.append") [acc,x]) (fun _ s₅=>∃ m,m < n/\I m s₅) (fun _ _=>False) s₄) (fun _ _=>False) s₃
      else ∃ m,m < n/\I m s₃) (fun _ _=>False) s₂) (fun _ _=>False) s₁') (fun _ _=>False) s₁) (fun _ _=>False) s)
  (n:Nat) (h:I n s) :
  codeAny (model prog w) A (.compLoop (.ListComp elt [⟨target,iter,ifs,0⟩] scope pos) 0 it acc env) R s:=by
 refine codeAny_loop rfl I (fun n s hI=>?_) n h
 show wpAny _ A ((compTurn (.ListComp elt [⟨target,iter,ifs,0⟩] scope pos) 0 it acc env).onRaise (fun x=>do noteFrame x env;theTreesLotGoes x)) _ _ s
 refine wpAny_noted ?_
 rw [compTurn_list]
 refine wpAny_bind (wpAny_standAt (wpAny_bind (wpAny_mono (turn n s hI) (fun r s₁ h₁=>?_) fun _ _ h'=>h'.elim)))
 cases r with
 | none=>exact wpAny_pure h₁
 | some v=>
  refine wpAny_bind (wpAny_mono h₁ (fun _ s₁' h₁'=>?_) fun _ _ h'=>h'.elim)
  refine wpAny_bind (wpAny_mono h₁' (fun _ s₂ h₂=>wpAny_bind (wpAny_mono h₂ (fun ok s₃ h₃=>?_) fun _ _ h'=>h'.elim)) fun _ _ h'=>h'.elim)
  cases ok with
  | false=>exact wpAny_pure ⟨rfl,h₃⟩
  | true=>
   exact wpAny_bind (wpAny_bind (wpAny_mono h₃ (fun x s₄ h₄=>wpAny_bind (wpAny_mono h₄ (fun _ s₅ h₅=>wpAny_pure (wpAny_pure ⟨rfl,h₅⟩)) fun _ _ h'=>h'.elim)) fun _ _ h'=>h'.elim))
end
theorem closure_from {env:Env}:∀ (names:List (Str×NameKind)) (acc:List (Str×Addr)),(∀ y∈names,y.2 = .free->∃ c,env.cells.lookup y.1=some c)->(∀ x c,acc.lookup x=some c->env.cells.lookup x=some c) →
  ∃ cl:List (Str×Addr),(forIn names acc fun (x:Str×NameKind) (r:List (Str×Addr))=>(match x with | (name,kind)=>if (kind == NameKind.free)=true then do let a <-cellOf env name;pure (ForInStep.yield ((name,a) :: r)) else pure (ForInStep.yield r):Sem (ForInStep (List (Str×Addr)))))=pure cl ∧
   (∀ x c,cl.lookup x=some c->env.cells.lookup x=some c)/\(∀ y∈names,y.2 = .free->∃ c,cl.lookup y.1=some c)/\∀ x c,acc.lookup x=some c->∃ c',cl.lookup x=some c'
 | [],acc,_,h=>⟨acc,rfl,h,(fun y z=>by cases z),fun _ c e=>⟨c,e⟩⟩
 | (name,kind) :: r,acc,hf,h=>by
  by_cases hk:kind = .free
  ·subst hk
   obtain ⟨c,hc⟩:=hf (name,.free) List.mem_cons_self rfl
   have h2:∀ x d,((name,c) :: acc).lookup x=some d->env.cells.lookup x=some d:=fun x d e=>by
    rw [List.lookup_cons] at e
    cases hx:x == name with
    | true=>rw [hx] at e;cases e;rw [eq_of_beq hx];exact hc
    | false=>rw [hx] at e;exact h x d e
   obtain ⟨cl,e,h3,h4,h5⟩:=closure_from r ((name,c) :: acc) (fun y hy=>hf y (List.mem_cons_of_mem _ hy)) h2
   refine ⟨cl,?_,h3,fun y hy hyf=>?_,fun x d hx=>?_⟩
   ·rw [List.forIn_cons]
    simp only [beq_self_eq_true,if_true,cellOf,hc,pure_bind]
    exact e
   ·rcases List.mem_cons.mp hy with rfl | hy
    ·exact h5 name c (by simp [List.lookup_cons])
    ·exact h4 y hy hyf
   ·cases hxn:x == name with
    | true=>exact h5 x c (by rw [List.lookup_cons,hxn])
    | false=>exact h5 x d (by rw [List.lookup_cons,hxn];exact hx)
  ·obtain ⟨cl,e,h3,h4,h5⟩:=closure_from r acc (fun y hy=>hf y (List.mem_cons_of_mem _ hy)) h
   have hb:(kind == NameKind.free)=false:=by simpa using hk
   refine ⟨cl,?_,h3,fun y hy hyf=>?_,h5⟩
   ·rw [List.forIn_cons]
    simp only [hb,Bool.false_eq_true,if_false,pure_bind]
    exact e
   ·rcases List.mem_cons.mp hy with rfl | hy
    ·exact absurd hyf hk
    ·exact h4 y hy hyf
theorem closure_ok {env:Env} {scope:Scope} (hf:∀ y∈scope.names,y.2 = .free->∃ c,env.cells.lookup y.1=some c) :
  ∃ cl,closureFor scope env=pure cl/\(∀ x c,cl.lookup x=some c->env.cells.lookup x=some c)/\∀ y∈scope.names,y.2 = .free->∃ c,cl.lookup y.1=some c:=by
 obtain ⟨cl,e,h1,h2,_⟩:=closure_from (env:=env) scope.names [] hf (fun x c e=>by simp at e)
 refine ⟨cl,?_,h1,h2⟩
 unfold closureFor
 exact (congrArg (· >>= pure) e).trans (pure_bind _ _)
end L2
end
section
namespace L2
open PySem PySem.Spec PyProof.Rows
abbrev Cx.block (X:Cx) (scope:Scope) (cl:List (Str×Addr)) (C:Addr) (N:List Str) (s:Shared) (H:Hp) (fp:List Addr):Cx:=
 { X with N:=N,s₀:=s,H₀:=H,env:=compEnvC scope cl C X.env,outer:=X.stack,ex:=fp,fn:=fun _=>false,pn:=[],xe:=fun _ _=>False }
def compOk (osc:Scope) (oN:List Str) (sc:Scope) (N:List Str) (js:List Nat):Bool:=
 sc.names.all (fun y=>y.2 != .cell) && (sc.names.all (fun y=>y.2 != .local || sc.names.lookup y.1 == some .local) && (decide (js.length<=N.length) &&
  (sc.names.all (fun y=>y.2 != .free || (osc.names.lookup y.1 == some .cell || osc.names.lookup y.1 == some .free)) &&
   (List.range js.length).all (fun i=>match N[N.length - js.length+i]?,oN[js.getD i 0]? with | some x,some y=>x == y && sc.names.lookup x == some .free | _,_=>false))))
structure CompSc (osc:Scope) (oN:List Str) (sc:Scope) (N:List Str) (js:List Nat):Prop where
 nocell:∀ y∈sc.names,y.2≠.cell
 names:∀ y∈sc.names,y.2 = .local->sc.names.lookup y.1=some .local
 len:js.length<=N.length
 tk:∀ y∈sc.names,y.2 = .free->osc.names.lookup y.1=some .cell\/osc.names.lookup y.1=some .free
 fr:∀ (i j:Nat),js[i]? = some j->∃ x,N[N.length - js.length+i]? = some x/\oN[j]? = some x/\sc.names.lookup x=some .free
theorem compOk_sc {osc:Scope} {oN:List Str} {sc:Scope} {N:List Str} {js:List Nat} (h:compOk osc oN sc N js=true):CompSc osc oN sc N js:=by
 unfold compOk at h
 simp only [Bool.and_eq_true] at h
 obtain ⟨h1,h2,h3,h4,h5⟩:=h
 refine ⟨fun y hy=>?_,fun y hy hl=>?_,of_decide_eq_true h3,fun y hy hf=>?_,fun i j hj=>?_⟩
 ·have:=List.all_eq_true.mp h1 y hy
  simpa using this
 ·have:=List.all_eq_true.mp h2 y hy
  rw [hl] at this
  simpa using this
 ·have:=List.all_eq_true.mp h4 y hy
  rw [hf] at this
  simpa using this
 ·have hi:i < js.length:=(List.getElem?_eq_some_iff.mp hj).1
  have:=List.all_eq_true.mp h5 i (List.mem_range.mpr hi)
  have e:js.getD i 0=j:=by rw [List.getD_eq_getElem?_getD,hj];rfl
  rw [e] at this
  split at this
  ·rename_i x y e1 e2
   simp only [Bool.and_eq_true,beq_iff_eq] at this
   obtain ⟨rfl,h⟩:=this
   exact ⟨x,e1,e2,h⟩
  ·cases this
def blk (n:Nat) (js:List Nat) (σ:St):St:=List.replicate n none++js.map fun j=>(σ[j]?).join
theorem blk_get {n:Nat} {js:List Nat} {σ:St} {i:Nat} {v:V} (h:(blk n js σ)[i]? = some (some v)):∃ k j,i=n+k/\js[k]? = some j/\σ[j]? = some (some v):=by
 unfold blk at h
 by_cases hi:i < n
 ·rw [List.getElem?_append_left (by simpa using hi),List.getElem?_replicate] at h
  split at h<;>cases h
 ·rw [List.getElem?_append_right (by simpa using hi),List.length_replicate,List.getElem?_map] at h
  cases e:js[i - n]? with
  | none=>rw [e] at h;cases h
  | some j=>
   rw [e] at h
   refine ⟨i - n,j,by omega,e,?_⟩
   have h':(σ[j]?).join=some v:=by simpa using h
   cases q:σ[j]? with
   | none=>rw [q] at h';cases h'
   | some o=>
    rw [q] at h'
    have:o=some v:=h'
    rw [this]
theorem relabel_lookup {env:Env}:∀ {names:List (Str×NameKind)} {x:Str} {k:NameKind},
  (names.map fun (n,k)=>if (k == NameKind.free && env.scope.kind == .function && env.kindOf n == some .cell) then (n,NameKind.cell) else (n,k)).lookup x=some k->k = .cell\/k = .free->(∀ y∈names,y.2≠.cell)->(x,NameKind.free)∈names
 | [],_,_,h,_,_=>by simp at h
 | (n,k1) :: r,x,k,h,hk,hc=>by
  have ih:=@relabel_lookup env r x k
  have hc':∀ y∈r,y.2≠.cell:=fun y hy=>hc y (List.mem_cons_of_mem _ hy)
  have h1:k1≠.cell:=hc (n,k1) List.mem_cons_self
  have h:List.lookup x ((if (k1 == NameKind.free && env.scope.kind == .function && env.kindOf n == some .cell)=true then (n,NameKind.cell) else (n,k1)) :: _)=some k:=h
  by_cases c:(k1 == NameKind.free && env.scope.kind == .function && env.kindOf n == some .cell)=true
  ·rw [if_pos c,List.lookup_cons] at h
   cases hx:x == n with
   | true=>
    have e:k1 = .free:=by simp only [Bool.and_eq_true,beq_iff_eq] at c;exact c.1.1
    rw [eq_of_beq hx,e]
    exact List.mem_cons_self
   | false=>rw [hx] at h;exact List.mem_cons_of_mem _ (ih h hk hc')
  ·rw [if_neg c,List.lookup_cons] at h
   cases hx:x == n with
   | true=>
    rw [hx] at h
    have e:k1=k:=Option.some.inj h
    have e2:k1 = .free:=by
     rcases hk with z | z
     ·exact absurd (e.trans z) h1
     ·exact e.trans z
    rw [eq_of_beq hx,e2]
    exact List.mem_cons_self
   | false=>rw [hx] at h;exact List.mem_cons_of_mem _ (ih h hk hc')
theorem relabel_free {env:Env}:∀ {names:List (Str×NameKind)} {x:Str},names.lookup x=some .free →
  (names.map fun (n,k)=>if (k == NameKind.free && env.scope.kind == .function && env.kindOf n == some .cell) then (n,NameKind.cell) else (n,k)).lookup x=some .cell ∨
  (names.map fun (n,k)=>if (k == NameKind.free && env.scope.kind == .function && env.kindOf n == some .cell) then (n,NameKind.cell) else (n,k)).lookup x=some .free
 | [],_,h=>by simp at h
 | (n,k1) :: r,x,h=>by
  have ih:=@relabel_free env r x
  show List.lookup x ((if (k1 == NameKind.free && env.scope.kind == .function && env.kindOf n == some .cell)=true then (n,NameKind.cell) else (n,k1)) :: _)=_\/List.lookup x ((if (k1 == NameKind.free && env.scope.kind == .function && env.kindOf n == some .cell)=true then (n,NameKind.cell) else (n,k1)) :: _)=_
  rw [List.lookup_cons] at h
  by_cases c:(k1 == NameKind.free && env.scope.kind == .function && env.kindOf n == some .cell)=true
  ·rw [if_pos c,List.lookup_cons]
   cases hx:x == n with
   | true=>exact .inl rfl
   | false=>rw [hx] at h;exact ih h
  ·rw [if_neg c,List.lookup_cons]
   cases hx:x == n with
   | true=>rw [hx] at h;exact .inr h
   | false=>rw [hx] at h;exact ih h
def PF (X:Cx) (ifs:List Expr) (t:TT):Prop:=
 ∀ (pins:List (Addr×Obj)) (s:Shared) (σ:St) (H:Hp) (Q:Bool->Hp->Prop),Inv X pins σ H s->t σ H Q →
  wpAny (model X.prog X.w) X.A (forIn ifs true fun c r=>if r=true then do let ok <-isTrue c X.env (eval c X.env);pure (ForInStep.yield ok) else pure (ForInStep.yield r)) (TP X pins σ Q) X.xe s
def tYes:TT:=fun _ H Q=>Q true H
theorem pf_nil {X:Cx}:PF X [] tYes:=fun _ _ _ H _ I h=>wpAny_tests_nil ⟨H,I,h⟩
theorem pf_one {X:Cx} {c:Expr} {t:TT} (h:PT X c t):PF X [c] t:=fun pins s σ H Q I hw=>wpAny_tests_one (h pins s σ H Q I hw)
def tComp (n:Nat) (js:List Nat) (wi:TI) (g:TG) (tt:TT) (te:TE):TE:=fun σ H Q=>wi σ H fun J H1=>∀ D,H1 D=none->∃ W:Nat->Nat->St->Hp->List V->Prop,
 (∃ m,W 0 m (blk n js σ) (upd H1 D (.lst [])) [])/\∀ i m τ H2 ys,W i m τ H2 ys->H2 D=some (.lst ys) ∧
  ((J.stop i H2/\Q (.ref D) H2)\/(J.go i H2/\ys.length < sizeLine/\∃ N:St->Hp->List V->Prop,(∀ τ' H' ys',N τ' H' ys'->∃ m',m' < m/\W (i+1) m' τ' H' ys')/\∀ x H3,J.yld i H2 x H3->g x τ H3 fun τ4 H4=>tt τ4 H4 fun b H5=>
   if b=true then te τ4 H5 fun y H6=>H6 D=some (.lst ys)/\N τ4 (upd H6 D (.lst (ys++[y]))) (ys++[y])
   else N τ4 H5 ys))
section
variable {X:Cx}
theorem block_inv {pins:List (Addr×Obj)} {σ:St} {H:Hp} {s:Shared} {h₁:Heap} {tk:Nat} {scope:Scope} {N:List Str} {js:List Nat} {cl:List (Str×Addr)} {fp:List Addr}
  (I:Inv X pins σ H s) (hk:scope.kind = .function) (hN:N.Nodup) (S:CompSc X.env.scope X.N scope N js) (hcl:∀ x c,cl.lookup x=some c->X.env.cells.lookup x=some c) (hcl2:∀ y∈scope.names,y.2 = .free->∃ c,cl.lookup y.1=some c)
  (hf:∀ b∈fp,b < s.heap.objs.size/\b≠X.env.locals/\b ∉ X.fs/\(b∈X.ex\/X.s₀.heap.objs.size<=b)/\(∀ x c,X.env.cells.lookup x=some c->c≠b))
  (hns:h₁.Ns s.heap.objs.size fun _=>none) (old:∀ b o,s.heap.get? b=some o->h₁.get? b=some o) :
  Inv (X.block scope cl s.heap.objs.size N s H fp) [] (blk (N.length - js.length) js σ) H { s with heap:=h₁,toks:=tk }:=by
 have look:∀ x,((relabel scope X.env).names.lookup x=some .cell\/(relabel scope X.env).names.lookup x=some .free)->∃ c,cl.lookup x=some c:=fun x hx=>by
  have hm:(x,NameKind.free)∈scope.names:=by
   rcases hx with z | z
   ·exact relabel_lookup z (.inl rfl) S.nocell
   ·exact relabel_lookup z (.inr rfl) S.nocell
  exact hcl2 _ hm rfl
 refine ⟨⟨I.ok.mod,hk,I.ok.glob,I.ok.blt,Nat.le_refl _,fun x y c h1 h2=>I.ok.inj x y c (hcl x c h1) (hcl y c h2),look,fun x c h=>(by cases h),I.ok.hd,I.ok.frames,.inl rfl,fun b hb=>?_,I.bs,Nat.le_trans I.ok.bsz I.sz,fun b o e hb=>?_,fun b hb z=>?_,I.stack,I.stkFree⟩,
  rfl,I.bare,Un.kept old,⟨_,hns,fun i x v h1 h2 h3=>?_⟩,fun x c h=>?_,I.hok.fresh (Nat.le_refl _),fun x c h=>I.freeC x c (hcl x c h),fun p hp=>absurd (show p∈([]:List (Addr×Obj)) from hp) (by simp),I.hok.kept old,?_⟩
 ·exact ⟨Nat.ne_of_lt (hf b hb).1,fun x c h=>(hf b hb).2.2.2.2 x c (hcl x c h)⟩
 ·rcases (hf b hb).2.2.2.1 with z | z
  ·exact I.ok.noex b o e z
  ·exact absurd (Nat.lt_of_lt_of_le (Heap.lt_size e) (Nat.le_trans I.ok.bsz z)) (Nat.lt_irrefl _)
 ·rcases List.mem_cons.mp (I.stkSub b z) with q | q
  ·exact (hf b hb).2.1 q
  ·exact (hf b hb).2.2.1 q
 ·obtain ⟨k,j,rfl,hj,hσ⟩:=blk_get h2
  obtain ⟨x',e1,e2,e3⟩:=S.fr k j hj
  rw [e1] at h1
  have ex:x'=x:=Option.some.inj h1
  subst ex
  have ok:=S.tk _ (PySem.mem_of_lookup e3) rfl
  obtain ⟨m,_,hl⟩:=I.loc
  obtain ⟨u,r,l⟩:=hl j x' v e2 hσ (.inr ok)
  refine ⟨u,r,?_⟩
  rcases l with ⟨hk',_⟩ | ⟨_,c,hc,hcell⟩
  ·have hk2:X.env.scope.names.lookup x'=some .local:=hk'
   rcases ok with z | z<;>(rw [hk2] at z;cases z)
  ·obtain ⟨c',hc'⟩:=hcl2 _ (PySem.mem_of_lookup e3) rfl
   have:c'=c:=Option.some.inj ((hcl _ _ hc').symm.trans hc)
   subst this
   obtain ⟨o,ho,hd⟩:=hcell
   exact .inr ⟨relabel_free e3,c',hc',⟨o,old _ _ ho,hd⟩⟩
 ·obtain ⟨v,o,ho,hd⟩:=I.cell x c (hcl x c h)
  exact ⟨v,o,old _ _ ho,hd⟩
 ·show (blk (N.length - js.length) js σ).length=N.length
  unfold blk
  rw [List.length_append,List.length_replicate,List.length_map]
  have:=S.len
  omega
theorem comp_block {pins:List (Addr×Obj)} {σ:St} {H:Hp} {s:Shared} {elt target iter:Expr} {ifs:List Expr} {scope:Scope} {pos:Pos} {N:List Str} {js:List Nat} {cl:List (Str×Addr)} {J:It} {fp:List Addr} {it:Addr} {tn:Nat->Heap->Prop}
  {g:TG} {tt:TT} {te:TE} {E:Value->Shared->Prop} {RR:Value->Addr->Result->Shared->Prop} {Q:VK}
  (hc:X.calm=true) (I:Inv X pins σ H s) (T:Turn X.prog X.w X.K target J fp it tn) (st:tn 0 s.heap) (hf:∀ b∈fp,FpOk X pins H b)
  (hk:scope.kind = .function) (hN:N.Nodup) (S:CompSc X.env.scope X.N scope N js) (hcl:∀ x c,cl.lookup x=some c->X.env.cells.lookup x=some c) (hcl2:∀ y∈scope.names,y.2 = .free->∃ c,cl.lookup y.1=some c)
  (hg:∀ cl C s H fp,PG (X.block scope cl C N s H fp) target g) (ht:∀ cl C s H fp,PF (X.block scope cl C N s H fp) ifs tt) (he:∀ cl C s H fp,PE (X.block scope cl C N s H fp) elt te)
  (h:∀ D,H D=none->∃ W:Nat->Nat->St->Hp->List V->Prop,(∃ m,W 0 m (blk (N.length - js.length) js σ) (upd H D (.lst [])) [])/\∀ i m τ H2 ys,W i m τ H2 ys->H2 D=some (.lst ys) ∧
   ((J.stop i H2/\Q (.ref D) H2)\/(J.go i H2/\ys.length < sizeLine/\∃ N:St->Hp->List V->Prop,(∀ τ' H' ys',N τ' H' ys'->∃ m',m' < m/\W (i+1) m' τ' H' ys')/\∀ x H3,J.yld i H2 x H3->g x τ H3 fun τ4 H4=>tt τ4 H4 fun b H5=>
    if b=true then te τ4 H5 fun y H6=>H6 D=some (.lst ys)/\N τ4 (upd H6 D (.lst (ys++[y]))) (ys++[y])
    else N τ4 H5 ys)))
  (hend:∀ D C H' s',(∃ m,s'.heap.Ns C m)->FpOk X pins H' C->Inv X pins σ H' s'->Q (.ref D) H'->RR (.ref D) C (.ok .next) s') :
  wpAny (model X.prog X.w) X.A (newList []) (fun acc s₃=>wpAny (model X.prog X.w) X.A (newFunctionEnv scope X.env.globals cl [] X.env.qual none .none (some X.env)) (fun cenv s₄=>
   codeAny (model X.prog X.w) X.A (.compStart (.ListComp elt [⟨target,iter,ifs,0⟩] scope pos) 0 (.ref it) acc { cenv with scope:=relabel scope X.env }) (RR acc cenv.locals) s₄) E s₃) E s:=by
 obtain ⟨W,⟨m0,w0⟩,turn⟩:=h s.heap.objs.size I.fresh
 refine wpAny_newObj_type (wpAny_newFunctionEnv S.nocell (by intro y hy;simp at hy) (fun h₁ hns₁ hsb₁=>?_) hk)
 have I3:Inv X pins σ (upd H s.heap.objs.size (.lst [])) { s with heap:=s.heap.push { cls:=.type "list",dict:=none,data:=.seq ([]:List Value).toArray } }:=I.lnew (its:=[]) (ys:=[]) (t':=s.toks) .nil (Nat.zero_le _)
 have hF3:∀ b∈fp,b < s.heap.objs.size:=fun b hb=>by
  obtain ⟨o,e,_⟩:=T.obj 0 s.heap st b hb
  exact Heap.lt_size e
 have st3:tn 0 (s.heap.push { cls:=.type "list",dict:=none,data:=.seq ([]:List Value).toArray }):=T.keep 0 _ _ st fun b hb o e=>Heap.get?_push_of_some _ e
 generalize hs3:({ s with heap:=s.heap.push { cls:=.type "list",dict:=none,data:=.seq ([]:List Value).toArray } }:Shared)=s3 at I3 hns₁ hsb₁ ⊢
 have e3:s3.heap=s.heap.push { cls:=.type "list",dict:=none,data:=.seq ([]:List Value).toArray }:=by rw [<-hs3]
 rw [<-e3] at st3
 have z3:s.heap.objs.size<=s3.heap.objs.size:=by rw [e3,Heap.size_push];exact Nat.le_succ _
 have old:∀ b o,s3.heap.get? b=some o->h₁.get? b=some o:=fun b o e=>hsb₁.extBut b o (Nat.ne_of_lt (Heap.lt_size e)) (Heap.get?_push_of_some _ e)
 have hf3:∀ b∈fp,b < s3.heap.objs.size/\b≠X.env.locals/\b ∉ X.fs/\(b∈X.ex\/X.s₀.heap.objs.size<=b)/\(∀ x c,X.env.cells.lookup x=some c->c≠b):=fun b hb=>
  let ⟨_,q1,q2,q3,q4,_⟩:=hf b hb
  ⟨Nat.lt_of_lt_of_le (hF3 b hb) z3,q1,q2,q3,q4⟩
 have nD:∀ b∈fp,upd H s.heap.objs.size (.lst []) b=none:=fun b hb=>by
  rw [upd_ne (Nat.ne_of_lt (hF3 b hb))]
  exact (hf b hb).1
 have I4:Inv (X.block scope cl s3.heap.objs.size N s3 (upd H s.heap.objs.size (.lst [])) fp) [] (blk (N.length - js.length) js σ) (upd H s.heap.objs.size (.lst [])) { s3 with heap:=h₁,toks:=s3.toks+([]:List (Str×Value)).length }:=
  block_inv I3 hk hN S hcl hcl2 hf3 hns₁ old
 have st4:tn 0 h₁:=T.keep 0 _ _ st3 fun b hb o e=>old b o e
 have hg':=hg cl s3.heap.objs.size s3 (upd H s.heap.objs.size (.lst [])) fp
 have ht':=ht cl s3.heap.objs.size s3 (upd H s.heap.objs.size (.lst [])) fp
 have he':=he cl s3.heap.objs.size s3 (upd H s.heap.objs.size (.lst [])) fp
 have stat:∀ {H':Hp},(∀ b∈fp,H' b=none)->∀ b∈fp,FpOk (X.block scope cl s3.heap.objs.size N s3 (upd H s.heap.objs.size (.lst [])) fp) [] H' b:=fun hn b hb=>
  ⟨hn b hb,(I4.ok.exf b hb).1,I4.ok.exfs b hb,.inl hb,(I4.ok.exf b hb).2,fun p hp=>absurd (show p∈([]:List (Addr×Obj)) from hp) (by simp)⟩
 have loop:codeAny (model X.prog X.w) X.A (.compLoop (.ListComp elt [⟨target,iter,ifs,0⟩] scope pos) 0 (.ref it) (.ref s.heap.objs.size) (compEnvC scope cl s3.heap.objs.size X.env)) (RR (.ref s.heap.objs.size) s3.heap.objs.size) { s3 with heap:=h₁,toks:=s3.toks+([]:List (Str×Value)).length }:=by
  refine compLoop_any (fun n s'=>∃ i τ H' ys,Inv (X.block scope cl s3.heap.objs.size N s3 (upd H s.heap.objs.size (.lst [])) fp) [] τ H' s'/\tn i s'.heap/\(∀ b∈fp,H' b=none)/\W i n τ H' ys) ?_ m0 ⟨0,_,_,[],I4,st4,nD,w0⟩
  rintro n s5 ⟨i,τ,H5,ys,I5,st5,fr5,w5⟩
  obtain ⟨hD,hw⟩:=turn i n τ H5 ys w5
  rcases hw with ⟨stop,qn⟩ | ⟨go,hz,M,hM,step⟩
  ·refine thn (T.done (X.block scope cl s3.heap.objs.size N s3 (upd H s.heap.objs.size (.lst [])) fp) rfl rfl rfl hc i [] s5 τ H5 (fun _ _=>False) I5 (stat fr5) st5 stop) fun r s6 ⟨hr,I6⟩=>?_
   subst hr
   refine hend _ _ H5 s6 (let ⟨m,hn,_⟩:=I6.loc;⟨m,hn⟩) (I3.fpOk (Nat.le_refl _) I6.free) ?_ qn
   exact I3.call' (ch:=fp) I6.os I6.base I6.hok I6.bare fun b hb=>⟨(hf b hb).2.2.2.1,(hf b hb).2.1,(hf b hb).2.2.2.2.1,(hf b hb).2.2.2.2.2⟩
  ·refine thn (T.item (X.block scope cl s3.heap.objs.size N s3 (upd H s.heap.objs.size (.lst [])) fp) rfl rfl rfl hc i [] s5 τ H5 (fun _ _=>False) I5 (stat fr5) st5 go) fun r s6 ⟨u,hr,h6⟩=>?_
   subst hr
   refine thn h6 fun _ s7 ⟨x,H7,I7,r7,y7,st7,fr7⟩=>?_
   have I7':=I7.pinned (stat fr7) (T.obj _ _ st7)
   refine thn (hg' _ s7 τ H7 x u _ I7' r7 (step x H7 y7)) fun _ s8 ⟨τ8,H8,I8,q8⟩=>?_
   refine thn (ht' _ s8 τ8 H8 _ I8 q8) fun b s9 ⟨H9,I9,q9⟩=>?_
   have again:∀ {τ':St} {H':Hp} {s':Shared} {ys':List V},Inv (X.block scope cl s3.heap.objs.size N s3 (upd H s.heap.objs.size (.lst [])) fp) ([]++pinsAt fp s7.heap) τ' H' s'->M τ' H' ys' →
     ∃ m,m < n/\∃ i τ H' ys,Inv (X.block scope cl s3.heap.objs.size N s3 (upd H s.heap.objs.size (.lst [])) fp) [] τ H' s'/\tn i s'.heap/\(∀ b∈fp,H' b=none)/\W i m τ H' ys:=fun {τ' H' s' ys'} I' hm'=>by
    obtain ⟨m',hm,w'⟩:=hM _ _ _ hm'
    refine ⟨m',hm,i+1,τ',H',ys',I'.unpinned,T.keep _ _ _ st7 fun b hb o e=>(I'.pin (b,o) (List.mem_append_right _ (List.mem_append_right _ (mem_pinsAt hb e)))).1,fun b hb=>?_,w'⟩
    obtain ⟨o,e,d⟩:=T.obj _ _ st7 b hb
    exact (I'.pin (b,o) (List.mem_append_right _ (List.mem_append_right _ (mem_pinsAt hb e)))).2.1
   cases b with
   | false=>exact again I9 q9
   | true=>
    refine thn (he' _ s9 τ8 H9 _ I9 q9) fun y s10 ⟨v10,H10,I10,r10,hD10,q10⟩=>?_
    refine thn (mt_append (X:=X.block scope cl s3.heap.objs.size N s3 (upd H s.heap.objs.size (.lst [])) fp) _ s10 τ8 H10 (.ref s.heap.objs.size) [v10] (.ref s.heap.objs.size) [y] (fun _ H'=>M τ8 H' (ys++[v10])) I10 rfl (.cons r10 .nil) ⟨_,ys,v10,rfl,rfl,hD10,hz,q10⟩) fun _ s11 ⟨_,H11,I11,_,q11⟩=>?_
    exact again I11 q11
 exact codeAny_compStart_list loop (T.self X.A 0 _ _ _ st4 loop)
variable {elt target iter:Expr} {ifs:List Expr} {scope:Scope} {pos spos:Pos} {wi:TI} {g:TG} {tt:TT} {te:TE}
theorem pe_comp (N:List Str) (js:List Nat) (hok:compOk X.env.scope X.N scope N js=true) (hN:N.Nodup) (hc:X.calm=true) (hi:PI X target iter wi)
  (hg:∀ cl C s H fp,PG (X.block scope cl C N s H fp) target g) (ht:∀ cl C s H fp,PF (X.block scope cl C N s H fp) ifs tt) (he:∀ cl C s H fp,PE (X.block scope cl C N s H fp) elt te)
  (hk:scope.kind = .function:=by rfl) (hs:∀ x,foldedSetIterable iter X.env x=pure x:=by intro _;rfl) :
  PE X (.ListComp elt [⟨target,iter,ifs,0⟩] scope pos) (tComp (N.length - js.length) js wi g tt te):=by
 intro pins s σ H Q I h
 have S:=compOk_sc hok
 obtain ⟨cl,hclos,hcl,hcl2⟩:=closure_ok (env:=X.env) (scope:=scope) fun y hy hf=>I.ok.has _ (S.tk y hy hf)
 rw [eval_ListComp]
 refine wpAny_comprehension_free (use:=none) rfl hs hclos hk S.names (thn (hi pins s σ H _ I h) fun v s1 h1=>thn h1 fun itv s2 h2=>?_)
 obtain ⟨it,fp,tn,J,H2,e,I2,T,st2,f2,hw⟩:=h2
 subst e
 refine comp_block (RR:=fun acc C=>compPost (model X.prog X.w) X.A X.xe none (EP X pins σ Q) acc C) (Q:=Q) hc I2 T st2 f2 hk hN S hcl hcl2 hg ht he hw ?_
 rintro D C H' s' ⟨m,hn⟩ ⟨c0,c1,c2,c3,c4,c5⟩ I' q
 exact ⟨m,hn,fun h' hs'=>⟨.ref D,H',I'.turned (t':=s'.toks) (fun b o hb e=>(hs'.2 b hb).trans e) c0 c1 c3 c4 c5,rfl,q⟩⟩
end
structure ItOk (J:It) (xs:List V) (ok:Hp->Prop):Prop where
 stop:∀ H,ok H->J.stop xs.length H
 go:∀ i H,ok H->i < xs.length->J.go i H
 yld:∀ i H x H',ok H->i < xs.length->J.yld i H x H'->H'=H/\xs[i]? = some x
theorem it_list (K:PySem.W.Frag) (a:Addr) (xs:List V):ItOk (Itl K a) xs fun H=>SqL K H a xs:=
 ⟨fun H h=>⟨xs,h,Nat.le_refl _⟩,fun i H h hi=>⟨xs,xs[i],h,by simp [hi]⟩,fun i H x H' h hi y=>⟨y.1,y.2 xs h⟩⟩
theorem it_tup (K:PySem.W.Frag) (a:Addr) (xs:List V):ItOk (Itt K a) xs fun H=>SqT K H a xs:=
 ⟨fun H h=>⟨xs,h,Nat.le_refl _⟩,fun i H h hi=>⟨xs,xs[i],h,by simp [hi]⟩,fun i H x H' h hi y=>⟨y.1,y.2 xs h⟩⟩
theorem it_range (lo:Int) (n:Nat):ItOk (Itr lo n) ((List.range n).map fun i=>V.int (lo+(i:Nat))) fun _=>True:=
 ⟨fun H _=>by show n<=_;simp,fun i H _ hi=>(by show i < n;simpa using hi),fun i H x H' _ hi y=>⟨y.1,by
  have hi':i < n:=by simpa using hi
  obtain ⟨_,rfl⟩:=y
  simp [hi']⟩⟩
theorem comp_by {J:It} {D:Addr} {xs:List V} {ok:Hp->Prop} {g:TG} {tt:TT} {te:TE} {Q:Hp->Prop} {τ:St} {H:Hp} (IO:ItOk J xs ok) (Pv:Nat->St->Hp->List V->Prop) (hz:xs.length<=sizeLine) (h0:Pv 0 τ H [])
  (hl:∀ i τ H ys,i<=xs.length->Pv i τ H ys->ok H/\H D=some (.lst ys)/\ys.length<=i)
  (hs:∀ i x τ H ys,i < xs.length->xs[i]? = some x->Pv i τ H ys->g x τ H fun τ4 H4=>tt τ4 H4 fun b H5=>
   if b=true then te τ4 H5 fun y H6=>H6 D=some (.lst ys)/\Pv (i+1) τ4 (upd H6 D (.lst (ys++[y]))) (ys++[y]) else Pv (i+1) τ4 H5 ys)
  (hd:∀ τ H ys,Pv xs.length τ H ys->Q H) :
  ∃ W:Nat->Nat->St->Hp->List V->Prop,(∃ m,W 0 m τ H [])/\∀ i m τ H2 ys,W i m τ H2 ys->H2 D=some (.lst ys) ∧
   ((J.stop i H2/\Q H2)\/(J.go i H2/\ys.length < sizeLine/\∃ N:St->Hp->List V->Prop,(∀ τ' H' ys',N τ' H' ys'->∃ m',m' < m/\W (i+1) m' τ' H' ys')/\∀ x H3,J.yld i H2 x H3->g x τ H3 fun τ4 H4=>tt τ4 H4 fun b H5=>
    if b=true then te τ4 H5 fun y H6=>H6 D=some (.lst ys)/\N τ4 (upd H6 D (.lst (ys++[y]))) (ys++[y])
    else N τ4 H5 ys)):=by
 refine ⟨fun i m τ H ys=>m=xs.length - i/\i<=xs.length/\Pv i τ H ys,⟨xs.length,by simp,Nat.zero_le _,h0⟩,?_⟩
 rintro i m τ H ys ⟨rfl,hi,p⟩
 obtain ⟨q,hD,hy⟩:=hl i τ H ys hi p
 refine ⟨hD,?_⟩
 by_cases hlt:i < xs.length
 ·refine .inr ⟨IO.go i H q hlt,by omega,Pv (i+1),fun τ' H' ys' p'=>⟨xs.length - (i+1),by omega,rfl,hlt,p'⟩,fun x H' y=>?_⟩
  obtain ⟨e,hx⟩:=IO.yld i H x H' q hlt y
  subst e
  exact hs i x τ _ ys hlt hx p
 ·have e:i=xs.length:=by omega
  subst e
  exact .inl ⟨IO.stop H q,hd τ H ys p⟩
theorem for_by {J:It} {xs:List V} {ok:Hp->Prop} {g:TG} {tb:TS} {D:Ends} {σ:St} {H:Hp} (IO:ItOk J xs ok) (Pv:Nat->St->Hp->Prop) (h0:Pv 0 σ H) (hl:∀ i σ H,i<=xs.length->Pv i σ H->ok H)
  (hs:∀ i x σ H,i < xs.length->xs[i]? = some x->Pv i σ H->g x σ H fun σ2 H2=>tb { D with nx:=Pv (i+1),ct:=Pv (i+1),bk:=D.nx } σ2 H2) (hd:∀ σ H,Pv xs.length σ H->D.nx σ H) :
  ∃ W:Nat->Nat->St->Hp->Prop,(∃ m,W 0 m σ H)/\∀ i m σ H,W i m σ H →
   (J.stop i H/\D.nx σ H)\/(J.go i H/\∃ N:St->Hp->Prop,(∀ σ' H',N σ' H'->∃ m',m' < m/\W (i+1) m' σ' H')/\∀ x H',J.yld i H x H'->g x σ H' fun σ2 H2=>tb { D with nx:=N,ct:=N,bk:=D.nx } σ2 H2):=by
 refine ⟨fun i m σ H=>m=xs.length - i/\i<=xs.length/\Pv i σ H,⟨xs.length,by simp,Nat.zero_le _,h0⟩,?_⟩
 rintro i m σ H ⟨rfl,hi,p⟩
 have q:=hl i σ H hi p
 by_cases hlt:i < xs.length
 ·refine .inr ⟨IO.go i H q hlt,Pv (i+1),fun σ' H' p'=>⟨xs.length - (i+1),by omega,rfl,hlt,p'⟩,fun x H' y=>?_⟩
  obtain ⟨e,hx⟩:=IO.yld i H x H' q hlt y
  subst e
  exact hs i x σ _ hlt hx p
 ·have e:i=xs.length:=by omega
  subst e
  exact .inl ⟨IO.stop H q,hd σ H p⟩
end L2
end
section
namespace L2
open PySem PySem.Spec PyProof.Rows
section
variable {X:Cx}
def tyN (H:Hp):V->Option String
 | .non=>some "NoneType"
 | .bl _=>some "bool"
 | .int _=>some "int"
 | .str _=>some "str"
 | .ref a=>match H a with
  | some (.lst _)=>some "list"
  | some (.tup _)=>some "tuple"
  | some (.dK _)=>some "dict"
  | _=>none
 | _=>none
theorem call_isinst:CallR X (.builtin "isinstance") (fun xs H Q=>∃ x T Tx,xs=[x,.ty T]/\tyN H x=some Tx/\T∈["int","bool","list","tuple","str"]/\Q (.bl (Tx == T || (Tx == "bool" && T == "int"))) H):=by
 intro pins s σ H xs us Q I r h
 obtain ⟨x,T,Tx,rfl,hT,hm,q⟩:=h
 obtain ⟨u,w',rfl,r1,r2⟩:=vals2 r
 obtain rfl:w' = .type T:=r2
 have no:∀ {b:Bool},b=(Tx == T || (Tx == "bool" && T == "int"))->∀ tk,EP X pins σ Q (.bool b) { s with toks:=tk }:=fun {b} hb tk=>⟨.bl b,H,I.tok _,rfl,by rw [hb];exact q⟩
 have ye:∀ {b:Bool},b=(Tx == T || (Tx == "bool" && T == "int"))->EP X pins σ Q (.bool b) s:=fun {b} hb=>⟨.bl b,H,I,rfl,by rw [hb];exact q⟩
 simp only [List.mem_cons,List.not_mem_nil,or_false] at hm
 cases x with
 | int i=>
  obtain ⟨t,rfl⟩:=r1
  cases hT
  rcases hm with rfl | rfl | rfl | rfl | rfl
  ·exact IsiPair.int_int (ye (by decide))
  ·exact IsiPair.int_bool (no (by decide) _)
  ·exact IsiPair.int_list (no (by decide) _)
  ·exact IsiPair.int_tuple (no (by decide) _)
  ·exact IsiPair.int_str (no (by decide) _)
 | str i=>
  obtain ⟨t,rfl⟩:=r1
  cases hT
  rcases hm with rfl | rfl | rfl | rfl | rfl
  ·exact IsiPair.str_int (no (by decide) _)
  ·exact IsiPair.str_bool (no (by decide) _)
  ·exact IsiPair.str_list (no (by decide) _)
  ·exact IsiPair.str_tuple (no (by decide) _)
  ·exact IsiPair.str_str (ye (by decide))
 | bl i=>
  cases r1
  cases hT
  rcases hm with rfl | rfl | rfl | rfl | rfl
  ·exact IsiPair.bool_int (ye (by decide))
  ·exact IsiPair.bool_bool (ye (by decide))
  ·exact IsiPair.bool_list (no (by decide) _)
  ·exact IsiPair.bool_tuple (no (by decide) _)
  ·exact IsiPair.bool_str (no (by decide) _)
 | ref a=>
  cases r1
  cases hH:H a with
  | none=>simp [tyN,hH] at hT
  | some o=>
   cases o with
   | lst ys=>
    simp [tyN,hH] at hT
    subst hT
    obtain ⟨_,its,n,_,e⟩:=I.hok a _ hH
    have hx:∃ o,s.heap.get? a=some o/\o.cls = .type "list" := ⟨_,e,rfl⟩
    rcases hm with rfl | rfl | rfl | rfl | rfl
    ·exact call_isinstance (isinstance_false_list (by decide +kernel) F.isi_meta_int F.sub_list_int) ⟨hx,no (by decide) _⟩
    ·exact call_isinstance (isinstance_false_list (by decide +kernel) F.isi_meta_bool F.sub_list_bool) ⟨hx,no (by decide) _⟩
    ·exact call_isinstance (isinstance_true (Tx:= "list") F.isi_meta_list F.sub_list_list) ⟨⟨_,e,rfl⟩,ye (by decide)⟩
    ·exact call_isinstance (isinstance_false_list (by decide +kernel) F.isi_meta_tuple F.sub_list_tuple) ⟨hx,no (by decide) _⟩
    ·exact call_isinstance (isinstance_false_list (by decide +kernel) F.isi_meta_str F.sub_list_str) ⟨hx,no (by decide) _⟩
   | tup ys=>
    simp [tyN,hH] at hT
    subst hT
    obtain ⟨_,its,_,o,e,hc,_⟩:=I.hok a _ hH
    have hx:∃ o,s.heap.get? a=some o/\o.cls = .type "tuple" := ⟨_,e,hc⟩
    rcases hm with rfl | rfl | rfl | rfl | rfl
    ·exact call_isinstance (isinstance_false_tuple (by decide +kernel) F.isi_meta_int F.sub_tuple_int) ⟨hx,no (by decide) _⟩
    ·exact call_isinstance (isinstance_false_tuple (by decide +kernel) F.isi_meta_bool F.sub_tuple_bool) ⟨hx,no (by decide) _⟩
    ·exact call_isinstance (isinstance_false_tuple (by decide +kernel) F.isi_meta_list F.sub_tuple_list) ⟨hx,no (by decide) _⟩
    ·exact call_isinstance (isinstance_true (Tx:= "tuple") F.isi_meta_tuple F.sub_tuple_tuple) ⟨⟨_,e,hc⟩,ye (by decide)⟩
    ·exact call_isinstance (isinstance_false_tuple (by decide +kernel) F.isi_meta_str F.sub_tuple_str) ⟨hx,no (by decide) _⟩
   | dK ys=>
    simp [tyN,hH] at hT
    subst hT
    obtain ⟨_,_,vs,_,dd⟩:=I.hok a _ hH
    obtain ⟨o,es,ep,e,hc,_⟩:=dd
    have hx:∃ o,s.heap.get? a=some o/\o.cls = .type "dict" := ⟨o,e,hc.1⟩
    rcases hm with rfl | rfl | rfl | rfl | rfl
    ·exact call_isinstance (isinstance_false_dict (by decide +kernel) F.isi_meta_int F.sub_dict_int) ⟨hx,no (by decide) _⟩
    ·exact call_isinstance (isinstance_false_dict (by decide +kernel) F.isi_meta_bool F.sub_dict_bool) ⟨hx,no (by decide) _⟩
    ·exact call_isinstance (isinstance_false_dict (by decide +kernel) F.isi_meta_list F.sub_dict_list) ⟨hx,no (by decide) _⟩
    ·exact call_isinstance (isinstance_false_dict (by decide +kernel) F.isi_meta_tuple F.sub_dict_tuple) ⟨hx,no (by decide) _⟩
    ·exact call_isinstance (isinstance_false_dict (by decide +kernel) F.isi_meta_str F.sub_dict_str) ⟨hx,no (by decide) _⟩
   | _=>simp [tyN,hH] at hT
 | non=>
  cases r1
  cases hT
  rcases hm with rfl | rfl | rfl | rfl | rfl
  ·exact IsiPair.NoneType_int (no (by decide) _)
  ·exact IsiPair.NoneType_bool (no (by decide) _)
  ·exact IsiPair.NoneType_list (no (by decide) _)
  ·exact IsiPair.NoneType_tuple (no (by decide) _)
  ·exact IsiPair.NoneType_str (no (by decide) _)
 | _=>cases hT
theorem vals_strs:∀ {ws:List Str} {us:List Value},Vals (ws.map V.str) us->StrsAre us ws
 | [],us,r=>by cases r;exact .nil
 | w :: ws,us,r=>by
  cases r with
  | cons r1 r2=>
   obtain ⟨t,rfl⟩:=r1
   exact .cons w t (vals_strs r2)
theorem mt_strip:MtM X "str.strip" (fun x vs H Q=>∃ z y,x = .str z/\vs=[.str y]/\z.length<=sizeLine/\Q (.str (Txt.stripChars z y)) H):=by
 intro pins s σ H x vs v us Q I rx rv h
 obtain ⟨z,y,rfl,rfl,hz,q⟩:=h
 obtain ⟨t,rfl⟩:=rx
 obtain ⟨u,rfl,t',rfl⟩:=rv.one
 exact SC.stripChars (fun t' k=>⟨.str _,H,I.tok _,⟨_,rfl⟩,q⟩) hz
theorem sl_str:SlR X (fun x lo hi H Q=>∃ z,x = .str z/\z.length<=sizeLine/\Q (.str (Txt.slice z lo hi)) H):=by
 intro pins s σ H x v vl vu lo hi sl Q I rx hs pl pu h
 obtain ⟨z,rfl,hz,q⟩:=h
 obtain ⟨t,rfl⟩:=rx
 have fin:∀ t' k,EP X pins σ Q (.str (Txt.slice z lo hi) t') { s with toks:=k }:=fun t' k=>⟨.str _,H,I.tok _,⟨_,rfl⟩,q⟩
 refine ⟨"str",_,F.slot_str_getitem.lookup,typeIs_str _ _ _,?_⟩
 cases pl with
 | none=>
  cases pu with
  | none=>exact wpAny_getItem_str_slice (l:=none) (u:=none) (st:=none) hs rfl (post_val_or_str ⟨Nat.le_trans (Txt.slice_le z _ _) hz,fin⟩)
  | int j uj=>exact wpAny_getItem_str_slice (l:=none) (u:=some (j,uj)) (st:=none) hs rfl (post_val_or_str ⟨Nat.le_trans (Txt.slice_le z _ _) hz,fin⟩)
 | int i ui=>
  cases pu with
  | none=>exact wpAny_getItem_str_slice (l:=some (i,ui)) (u:=none) (st:=none) hs rfl (post_val_or_str ⟨Nat.le_trans (Txt.slice_le z _ _) hz,fin⟩)
  | int j uj=>exact wpAny_getItem_str_slice (l:=some (i,ui)) (u:=some (j,uj)) (st:=none) hs rfl (post_val_or_str ⟨Nat.le_trans (Txt.slice_le z _ _) hz,fin⟩)
end
end L2
end
section
namespace L2
open PySem PySem.Spec PyProof.Rows
mutual
inductive DV (H:Hp):V->PyData->Prop
 | non:DV H .non .none
 | bl (b:Bool):DV H (.bl b) (.bool b)
 | int (i:Int):DV H (.int i) (.int i)
 | str (x:Str):DV H (.str x) (.str x)
 | lst {a:Addr} {xs:List V} {ds:List PyData}:H a=some (.lst xs)->DVs H xs ds->DV H (.ref a) (.list ds)
 | tup {a:Addr} {xs:List V} {ds:List PyData}:H a=some (.tup xs)->DVs H xs ds->DV H (.ref a) (.tuple ds)
 | dic {a:Addr}:H a=some (.dK [])->DV H (.ref a) (.dict [])
inductive DVs (H:Hp):List V->List PyData->Prop
 | nil:DVs H [] []
 | cons {x:V} {d:PyData} {xs:List V} {ds:List PyData}:DV H x d->DVs H xs ds->DVs H (x :: xs) (d :: ds)
end
mutual
theorem DV.mono {H H':Hp} (k:Same H H'):∀ {v:V} {d:PyData},DV H v d->DV H' v d
 | _,_,.non=>.non
 | _,_,.bl b=>.bl b
 | _,_,.int i=>.int i
 | _,_,.str x=>.str x
 | _,_,.lst h r=>.lst (k _ _ h) (DVs.mono k r)
 | _,_,.tup h r=>.tup (k _ _ h) (DVs.mono k r)
 | _,_,.dic h=>.dic (k _ _ h)
theorem DVs.mono {H H':Hp} (k:Same H H'):∀ {vs:List V} {ds:List PyData},DVs H vs ds->DVs H' vs ds
 | _,_,.nil=>.nil
 | _,_,.cons h r=>.cons (DV.mono k h) (DVs.mono k r)
end
section
variable {X:Cx} {pins:List (Addr×Obj)} {σ:St} {H:Hp} {s:Shared}
mutual
theorem DV.reads (I:Inv X pins σ H s):∀ {v:V} {d:PyData} {u:Value},DV H v d->d.canLay0=true->RelV v u->∃ as,Reads s.heap u d as
 | _,_,_,.non,_,r=>by cases r;exact ⟨_,.none⟩
 | _,_,_,.bl b,_,r=>by cases r;exact ⟨_,.bool b⟩
 | _,_,_,.int i,_,r=>by obtain ⟨t,rfl⟩:=r;exact ⟨_,.int i t⟩
 | _,_,_,.str x,_,r=>by obtain ⟨t,rfl⟩:=r;exact ⟨_,.str x t⟩
 | _,_,_,.lst h rr,c,r=>by
  cases r
  obtain ⟨_,its,n,rv,e⟩:=I.hok _ _ h
  obtain ⟨as,q⟩:=DVs.reads I rr (by simpa [PyData.canLay0] using c) rv
  exact ⟨_,.list e rfl rfl (by simpa using q)⟩
 | _,_,_,.tup h rr,c,r=>by
  cases r
  obtain ⟨_,its,rv,o,e,hc,n,hd⟩:=I.hok _ _ h
  obtain ⟨as,q⟩:=DVs.reads I rr (by simpa [PyData.canLay0] using c) rv
  exact ⟨_,.tuple e hc hd (by simpa using q)⟩
 | _,_,_,.dic h,c,r=>by simp [PyData.canLay0] at c
theorem DVs.reads (I:Inv X pins σ H s):∀ {vs:List V} {ds:List PyData} {us:List Value},DVs H vs ds->PyData.canLayAll0 ds=true->Vals vs us->∃ as,ReadsAll s.heap us ds as
 | _,_,_,.nil,_,r=>by cases r;exact ⟨_,.nil⟩
 | _,_,_,.cons h rr,c,r=>by
  have c':=by simpa [PyData.canLayAll0] using c
  cases r with
  | cons r1 r2=>
   obtain ⟨as,q⟩:=DV.reads I h c'.1 r1
   obtain ⟨bs,p⟩:=DVs.reads I rr c'.2 r2
   exact ⟨_,.cons q p⟩
end
end
section
variable {X:Cx}
theorem op_eqD (hu:X.A.units+64 < cLine):OpR X (compareOp .Eq) (fun x y H Q=>∃ d e,DV H x d/\DV H y e/\SeqAt.shaped d=true/\SeqAt.shaped e=true/\Q (.bl (PyData.eqv d e)) H):=by
 intro pins s σ H x y v u Q I rx ry h
 obtain ⟨d,e,hd,he,sd,se,q⟩:=h
 obtain ⟨as,ra⟩:=hd.reads I (SeqAt.canLay_of_shaped sd) rx
 obtain ⟨bs,rb⟩:=he.reads I (SeqAt.canLay_of_shaped se) ry
 exact eq_dataH ra rb sd se hu ⟨.bl _,H,I,rfl,q⟩
theorem op_neD (hu:X.A.units+64 < cLine):OpR X (compareOp .NotEq) (fun x y H Q=>∃ d e,DV H x d/\DV H y e/\SeqAt.shaped d=true/\SeqAt.shaped e=true/\Q (.bl (!PyData.eqv d e)) H):=by
 intro pins s σ H x y v u Q I rx ry h
 obtain ⟨d,e,hd,he,sd,se,q⟩:=h
 obtain ⟨as,ra⟩:=hd.reads I (SeqAt.canLay_of_shaped sd) rx
 obtain ⟨bs,rb⟩:=he.reads I (SeqAt.canLay_of_shaped se) ry
 exact ne_dataH ra rb sd se hu ⟨.bl _,H,I,rfl,q⟩
end
mutual
theorem eqv_refl:∀ d:PyData,d.canLay0=true->PyData.eqv d d=true
 | .none,_=>by simp [PyData.eqv]
 | .bool b,_=>by simp [PyData.eqv]
 | .int i,_=>by simp [PyData.eqv]
 | .str x,_=>by simp [PyData.eqv]
 | .list xs,h=>by rw [PyData.eqv];exact eqvAll_refl xs (by simpa [PyData.canLay0] using h)
 | .tuple xs,h=>by rw [PyData.eqv];exact eqvAll_refl xs (by simpa [PyData.canLay0] using h)
 | .dict xs,h=>by simp [PyData.canLay0] at h
theorem eqvAll_refl:∀ ds:List PyData,PyData.canLayAll0 ds=true->PyData.eqvAll ds ds=true
 | [],_=>by simp [PyData.eqvAll]
 | d :: ds,h=>by
  have h':d.canLay0=true/\PyData.canLayAll0 ds=true:=by simpa [PyData.canLayAll0] using h
  rw [PyData.eqvAll,eqv_refl d h'.1,eqvAll_refl ds h'.2];rfl
end
theorem eqv_nil (ds:List PyData):PyData.eqv (.list ds) (.list [])=ds.isEmpty:=by
 cases ds<;>simp [PyData.eqv,PyData.eqvAll]
def sg (b:Bool):Nat:=if b then 49 else 48
def bs (w:List Bool):Str:=⟨(w.map sg).toArray⟩
theorem bs_len (w:List Bool):(bs w).length=w.length:=by show ((w.map sg).toArray).size=_;simp
theorem sg_inj {a b:Bool} (h:sg a=sg b):a=b:=by cases a<;>cases b<;>first | rfl | cases h
theorem bs_inj {v w:List Bool} (h:bs v=bs w):v=w:=by
 have h1:(v.map sg).toArray=(w.map sg).toArray:=congrArg Str.cps h
 have h2:v.map sg=w.map sg:=by simpa using congrArg Array.toList h1
 clear h h1
 induction v generalizing w with
 | nil=>cases w<;>simp_all
 | cons a v ih=>
  cases w with
  | nil=>simp at h2
  | cons b w=>
   simp only [List.map_cons,List.cons.injEq] at h2
   rw [sg_inj h2.1,ih h2.2]
theorem bs_app (v w:List Bool):bs v++bs w=bs (v++w):=by
 show (⟨(v.map sg).toArray++(w.map sg).toArray⟩ : Str)=⟨((v++w).map sg).toArray⟩
 simp
theorem bs_ok (w:List Bool):PyData.strOk (bs w)=true:=by
 unfold PyData.strOk bs
 rw [Array.all_eq_true']
 intro x hx
 have hx:x∈w.map sg:=by simpa using hx
 obtain ⟨b,_,rfl⟩:=List.mem_map.mp hx
 cases b<;>decide
theorem bs_nil:("" : Str)=bs []:=by decide +kernel
theorem bs_0:("0" : Str)=bs [false]:=by decide +kernel
theorem bs_1:("1" : Str)=bs [true]:=by decide +kernel
theorem bs_get {w:List Bool} {i:Nat} {b:Bool} (h:w[i]? = some b):(bs w).cps[i]? = some (sg b):=by
 show ((w.map sg).toArray)[i]? = _
 simp [h]
end L2
end
section
namespace L2
open PySem PySem.Spec PyProof.Rows
section
variable {X:Cx} {a b c e o:Expr} {es:List Expr} {pos:Pos}
theorem PE.of {t t':TE} (h:PE X e t) (k:∀ σ H Q,t' σ H Q->t σ H Q):PE X e t':=fun pins s σ H Q I q=>h pins s σ H Q I (k _ _ _ q)
theorem OpR.of {f:Value->Value->Sem Value} {r r':R2} (h:OpR X f r) (k:∀ x y H Q,r' x y H Q->r x y H Q):OpR X f r':=fun pins s σ H x y v u Q I rx ry q=>h pins s σ H x y v u Q I rx ry (k _ _ _ _ q)
def tV (i:Nat):TE:=fun σ H Q=>match σ[i]? with
 | some (some v)=>Q v H
 | _=>False
theorem vr (i:Nat) {x:Str} (hN:X.N[i]? = some x:=by rfl) (hv:Vis X.env.scope x:=by first | exact Or.inl rfl | exact Or.inr (Or.inl rfl) | exact Or.inr (Or.inr rfl)) (hd:(x == ("__debug__" : Str))=false:=by decide)
  (hcd:(x == ("__classdict__" : Str))=false:=by decide):PE X (.Name x pos) (tV i):=(pe_var hN hv hd hcd).of fun σ H Q q=>by
 unfold tV at q
 split at q
 ·exact ⟨_,by assumption,q⟩
 ·exact q.elim
def rN (C:Int->Int->Prop) (g:Int->Int->V):R2:=fun x y H Q=>match x,y with
 | .int i,.int j=>C i j/\Q (g i j) H
 | _,_=>False
def rN0 (g:Int->Int->V):R2:=fun x y H Q=>match x,y with
 | .int i,.int j=>Q (g i j) H
 | _,_=>False
theorem OpR.n {f:Value->Value->Sem Value} {C:Int->Int->Prop} {g:Int->Int->V} (h:OpR X f (rI C g)):OpR X f (rN C g):=h.of fun x y H Q q=>by
 unfold rN at q
 split at q
 ·exact ⟨_,_,rfl,rfl,q⟩
 ·exact q.elim
theorem OpR.n0 {f:Value->Value->Sem Value} {g:Int->Int->V} (h:OpR X f (rI0 g)):OpR X f (rN0 g):=h.of fun x y H Q q=>by
 unfold rN0 at q
 split at q
 ·exact ⟨_,_,rfl,rfl,q⟩
 ·exact q.elim
def rAddU:R2:=fun x y H Q=>match x,y with
 | .int i,.int j=>Q (.int (i+j)) H
 | .str i,.str j=>i.length+j.length<=sizeLine/\Q (.str (i++j)) H
 | .ref p,.ref q=>∃ xs zs,H p=some (.lst xs)/\H q=some (.lst zs)/\xs.length+zs.length<=sizeLine/\∀ n,H n=none->Q (.ref n) (upd H n (.lst (xs++zs)))
 | _,_=>False
theorem op_addU:OpR X (binaryOp .Add) rAddU:=(op_add.or (op_add_str.or op_cat)).of fun x y H Q q=>by
 unfold rAddU at q
 split at q
 ·exact .inl ⟨_,_,rfl,rfl,q⟩
 ·exact .inr (.inl ⟨_,_,rfl,rfl,q⟩)
 ·obtain ⟨xs,zs,h1,h2,h3,h4⟩:=q
  exact .inr (.inr ⟨_,_,xs,zs,rfl,rfl,h1,h2,h3,h4⟩)
 ·exact q.elim
def rMulU:R2:=fun x y H Q=>match x,y with
 | .int i,.int j=>CMul i j/\Q (.int (i * j)) H
 | .ref p,.int k=>∃ xs,H p=some (.lst xs)/\-(2 ^ 63)<=k/\k < 2 ^ 63/\xs.length * k.toNat<=sizeLine/\∀ n,H n=none->Q (.ref n) (upd H n (.lst (List.replicate k.toNat xs).flatten))
 | _,_=>False
theorem op_mulU:OpR X (binaryOp .Mult) rMulU:=(op_mul.or op_rep).of fun x y H Q q=>by
 unfold rMulU at q
 split at q
 ·exact .inl ⟨_,_,rfl,rfl,q⟩
 ·obtain ⟨xs,h1,h2,h3,h4,h5⟩:=q
  exact .inr ⟨_,_,xs,rfl,rfl,h1,h2,h3,h4,h5⟩
 ·exact q.elim
def rEqU:R2:=fun x y H Q=>match x,y with
 | .int i,.int j=>Q (.bl (decide (i=j))) H
 | .str i,.str j=>Q (.bl (decide (i=j))) H
 | .bl i,.bl j=>Q (.bl (decide (i=j))) H
 | .ref p,.ref q=>∃ d e,DV H (.ref p) d/\DV H (.ref q) e/\SeqAt.shaped d=true/\SeqAt.shaped e=true/\Q (.bl (PyData.eqv d e)) H
 | _,_=>False
theorem vint_dec (i j:Int):decide (V.int i=V.int j)=decide (i=j):=by simp
theorem vstr_dec (i j:Str):decide (V.str i=V.str j)=decide (i=j):=by simp
theorem vbl_dec (i j:Bool):decide (V.bl i=V.bl j)=decide (i=j):=by simp
theorem op_eqU (hu:X.A.units+64 < cLine):OpR X (compareOp .Eq) rEqU:=(op_eq.or (op_eqD hu)).of fun x y H Q q=>by
 unfold rEqU at q
 split at q
 ·exact .inl ⟨rfl,by rw [vint_dec];exact q⟩
 ·exact .inl ⟨rfl,by rw [vstr_dec];exact q⟩
 ·exact .inl ⟨rfl,by rw [vbl_dec];exact q⟩
 ·exact .inr q
 ·exact q.elim
def rNeU:R2:=fun x y H Q=>rEqU x y H fun v H'=>match v with
 | .bl k=>Q (.bl (!k)) H'
 | _=>False
theorem op_neU (hu:X.A.units+64 < cLine):OpR X (compareOp .NotEq) rNeU:=(op_ne.or (op_neD hu)).of fun x y H Q q=>by
 unfold rNeU rEqU at q
 split at q
 ·exact .inl ⟨rfl,by rw [vint_dec];exact q⟩
 ·exact .inl ⟨rfl,by rw [vstr_dec];exact q⟩
 ·exact .inl ⟨rfl,by rw [vbl_dec];exact q⟩
 ·exact .inr q
 ·exact q.elim
def getV (H:Hp) (x:V) (i:Int):Option V:=match x with
 | .ref p=>match H p with
  | some (.lst xs)=>atI xs i
  | some (.tup xs)=>atI xs i
  | some (.frz _ (.lst xs))=>atI xs i
  | _=>none
 | .str z=>if z.length<=sizeLine then (atI z.cps.toList i).map fun c=>V.str ⟨#[c]⟩ else none
 | _=>none
theorem getV_lst {H:Hp} {p:Addr} {xs:List V} {i:Int} (h:H p=some (.lst xs)):getV H (.ref p) i=atI xs i:=by simp [getV,h]
theorem getV_tup {H:Hp} {p:Addr} {xs:List V} {i:Int} (h:H p=some (.tup xs)):getV H (.ref p) i=atI xs i:=by simp [getV,h]
def rIxU:R2:=fun x y H Q=>match y with
 | .int i=>∃ v,getV H x i=some v/\Q v H
 | _=>False
theorem ixU:IxR X rIxU:=by
 intro value slice pins s σ H x y v u Q I rx ry q hs
 refine ix_seq value slice pins s σ H x y v u Q I rx ry ?_ hs
 unfold rIxU at q
 split at q
 ·obtain ⟨z,hz,q⟩:=q
  unfold getV at hz
  split at hz
  ·split at hz
   ·rename_i xs hx
    exact .inl ⟨_,xs,_,z,rfl,rfl,SqL.of hx,hz,q⟩
   ·rename_i xs hx
    exact .inr (.inl ⟨_,xs,_,z,rfl,rfl,SqT.of hx,hz,q⟩)
   ·rename_i oo xs hx
    exact .inl ⟨_,xs,_,z,rfl,rfl,.inl (.inr ⟨_,hx⟩),hz,q⟩
   ·cases hz
  ·split at hz
   ·rename_i hl
    obtain ⟨c,hc,rfl⟩:=Option.map_eq_some_iff.mp hz
    exact .inr (.inr ⟨_,_,c,rfl,rfl,hl,hc,q⟩)
   ·cases hz
  ·cases hz
 ·exact q.elim
def rSlU:V->Option Int->Option Int->Hp->VK->Prop:=fun x lo hi H Q=>match x with
 | .ref p=>∃ xs,H p=some (.lst xs)/\∀ n,H n=none->Q (.ref n) (upd H n (.lst (cutV xs lo hi)))
 | .str z=>z.length<=sizeLine/\Q (.str (Txt.slice z lo hi)) H
 | _=>False
theorem slU:SlR X rSlU:=by
 intro pins s σ H x v vl vu lo hi sl Q I rx hs pl pu q
 refine (sl_list.or sl_str) pins s σ H x v vl vu lo hi sl Q I rx hs pl pu ?_
 unfold rSlU at q
 split at q
 ·obtain ⟨xs,h,q⟩:=q
  exact .inl ⟨_,xs,rfl,SqL.of h,q⟩
 ·exact .inr ⟨_,rfl,q⟩
 ·exact q.elim
def tPartU (t:TE):TO:=fun σ H Q=>t σ H fun x H1=>match x with
 | .int i=>Q (some i) H1
 | _=>False
theorem po_someU {te:TE} (h:PE X e te):PO X (some e) (tPartU te):=by
 intro pins s σ H Q I hw
 rw [evalPart_some]
 refine thn (h pins s σ H _ I hw) fun u s1 ⟨x,H1,I1,r1,q1⟩=>?_
 dsimp only at q1
 split at q1
 ·obtain ⟨t,rfl⟩:=r1
  exact ⟨some _,H1,I1,.int _ t,q1⟩
 ·exact q1.elim
def tBU (t:TE):TT:=fun σ H Q=>t σ H fun x H1=>match x with
 | .bl c=>Q c H1
 | _=>False
theorem bu_of {Q:Bool->Hp->Prop} {x:V} {H1:Hp} (q:match x with | .bl c=>Q c H1 | _=>False):∃ c,x = .bl c/\Q c H1:=by
 split at q
 ·exact ⟨_,rfl,q⟩
 ·exact q.elim
theorem pt_cmpU {op:CmpOp} {r:R2} {ta tb:TE} (ho:OpR X (compareOp op) r) (ha:PE X a ta) (hb:PE X b tb) (hm:behindInMarks op b=false:=by first | exact nomark _ | rfl | (with_unfolding_all rfl)):PT X (.Compare a [op] [b] pos) (tBU (tOp r ta tb)):=by
 intro pins s σ H Q I h
 refine wpAny_isTrue_Compare1 (thn (ha pins s σ H _ I h) fun v s1 ⟨x,H1,I1,r1,q1⟩=>thn (hb pins s1 σ H1 _ I1 q1) fun u s2 ⟨y,H2,I2,r2,q2⟩=>
  thn (ho pins s2 σ H2 x y v u _ I2 r1 r2 q2) fun c s3 ⟨z,H3,I3,r3,q3⟩=>?_) hm
 obtain ⟨k,e,q3⟩:=bu_of q3
 subst e
 cases r3
 exact wpAny_truthy_bool ⟨H3,I3,q3⟩
theorem pe_cmpU {op:CmpOp} {r:R2} {ta tb:TE} (ho:OpR X (compareOp op) r) (ha:PE X a ta) (hb:PE X b tb) (hm:behindInMarks op b=false:=by first | exact nomark _ | rfl | (with_unfolding_all rfl)):PE X (.Compare a [op] [b] pos) (tOp r ta tb):=pe_cmpR ho ha hb hm
def tAndU (ta tb:TE):TE:=fun σ H Q=>ta σ H fun x H1=>match x with
 | .bl c=>if c=true then tb σ H1 Q else Q (.bl false) H1
 | _=>False
variable {ta tb tc:TE} {rest:List Expr}
theorem pe_andU (ha:PE X a ta) (hb:PE X (.BoolOp .And (b :: rest) pos) tb):PE X (.BoolOp .And (a :: b :: rest) pos) (tAndU ta tb):=by
 intro pins s σ H Q I h
 refine BoolOp_and (thn (ha pins s σ H _ I h) fun v s1 ⟨x,H1,I1,r1,q1⟩=>?_)
 dsimp only at q1
 split at q1
 ·rename_i c
  cases r1
  refine wpAny_truthy_bool ?_
  cases c with
  | true=>exact hb pins s1 σ H1 Q I1 q1
  | false=>exact ⟨.bl false,H1,I1,rfl,q1⟩
 ·exact q1.elim
theorem CallR.of {f:Value} {r r':List V->Hp->VK->Prop} (h:CallR X f r) (k:∀ xs H Q,r' xs H Q->r xs H Q):CallR X f r':=fun pins s σ H xs us Q I rx q=>h pins s σ H xs us Q I rx (k _ _ _ q)
theorem MtM.of {id:String} {r r':V->List V->Hp->VK->Prop} (h:MtM X id r) (k:∀ x xs H Q,r' x xs H Q->r x xs H Q):MtM X id r':=fun pins s σ H x xs v us Q I rx rs q=>h pins s σ H x xs v us Q I rx rs (k _ _ _ _ q)
def lenV (H:Hp) (x:V):Option Nat:=match x with
 | .str z=>if z.length<=sizeLine then some z.length else none
 | .ref p=>match H p with
  | some (.lst xs)=>some xs.length
  | some (.tup xs)=>some xs.length
  | some (.frz _ (.lst xs))=>some xs.length
  | _=>none
 | _=>none
def rLen:List V->Hp->VK->Prop:=fun vs H Q=>match vs with
 | [x]=>∃ k:Nat,lenV H x=some k/\Q (.int k) H
 | _=>False
theorem call_lenU:CallR X (.builtin "len") rLen:=(call_len_seq.or call_len_str).of fun xs H Q q=>by
 unfold rLen at q
 split at q
 ·obtain ⟨k,hk,q⟩:=q
  unfold lenV at hk
  split at hk
  ·split at hk
   ·rename_i hl
    cases hk
    exact .inr ⟨_,rfl,hl,q⟩
   ·cases hk
  ·split at hk
   ·cases hk;exact .inl ⟨_,_,rfl,.inl (SqL.of (by assumption)),q⟩
   ·cases hk;exact .inl ⟨_,_,rfl,.inr (SqT.of (by assumption)),q⟩
   ·cases hk;exact .inl ⟨_,_,rfl,.inl (.inl (.inr ⟨_,by assumption⟩)),q⟩
   ·cases hk
  ·cases hk
 ·exact q.elim
def rListOf:List V->Hp->VK->Prop:=fun vs H Q=>match vs with
 | [.ref p]=>∃ xs,(H p=some (.lst xs)\/H p=some (.tup xs))/\∀ l,H l=none->Q (.ref l) (upd H l (.lst xs))
 | _=>False
theorem call_listU:CallR X (.type "list") rListOf:=call_list_of.of fun xs H Q q=>by
 unfold rListOf at q
 split at q
 ·obtain ⟨ys,h,q⟩:=q
  exact ⟨_,ys,rfl,h.elim (fun z=>.inl (SqL.of z)) (fun z=>.inr (SqT.of z)),q⟩
 ·exact q.elim
def rMax:List V->Hp->VK->Prop:=fun vs H Q=>match vs with
 | [.int i,.int j]=>Q (.int (if j > i then j else i)) H
 | _=>False
theorem call_maxU (hc:X.calm=true):CallR X (.builtin "max") rMax:=(call_max2 hc).of fun xs H Q q=>by
 unfold rMax at q
 split at q
 ·exact ⟨_,_,rfl,q⟩
 ·exact q.elim
def rMin:List V->Hp->VK->Prop:=fun vs H Q=>match vs with
 | [.int i,.int j]=>Q (.int (if j < i then j else i)) H
 | _=>False
theorem call_minU (hc:X.calm=true):CallR X (.builtin "min") rMin:=(call_min2 hc).of fun xs H Q q=>by
 unfold rMin at q
 split at q
 ·exact ⟨_,_,rfl,q⟩
 ·exact q.elim
def rIsI:List V->Hp->VK->Prop:=fun vs H Q=>match vs with
 | [x,.ty T]=>∃ Tx,tyN H x=some Tx/\T∈["int","bool","list","tuple","str"]/\Q (.bl (Tx == T || (Tx == "bool" && T == "int"))) H
 | _=>False
theorem call_isU:CallR X (.builtin "isinstance") rIsI:=call_isinst.of fun xs H Q q=>by
 unfold rIsI at q
 split at q
 ·obtain ⟨Tx,h1,h2,q⟩:=q
  exact ⟨_,_,Tx,rfl,h1,h2,q⟩
 ·exact q.elim
def rApp:V->List V->Hp->VK->Prop:=fun x vs H Q=>match x,vs with
 | .ref l,[y]=>∃ xs,H l=some (.lst xs)/\xs.length < sizeLine/\Q .non (upd H l (.lst (xs++[y])))
 | _,_=>False
theorem mt_appU:MtM X "list.append" rApp:=mt_append.of fun x xs H Q q=>by
 unfold rApp at q
 split at q
 ·obtain ⟨ys,h1,h2,q⟩:=q
  exact ⟨_,ys,_,rfl,rfl,h1,h2,q⟩
 ·exact q.elim
def rStrip:V->List V->Hp->VK->Prop:=fun x vs H Q=>match x,vs with
 | .str z,[.str y]=>z.length<=sizeLine/\Q (.str (Txt.stripChars z y)) H
 | _,_=>False
theorem mt_stripU:MtM X "str.strip" rStrip:=mt_strip.of fun x xs H Q q=>by
 unfold rStrip at q
 split at q
 ·exact ⟨_,_,rfl,rfl,q⟩
 ·exact q.elim
def tyU (H:Hp) (T:String):V->Prop
 | .str _=>T = "str"
 | .int _=>T = "int"
 | .ref p=>∃ xs,T = "list"/\H p=some (.lst xs)
 | _=>False
theorem tyU_of {K:PySem.W.Frag} {H:Hp} {T:String} {x:V} (h:tyU H T x):tyV K T x H:=by
 cases x with
 | str z=>exact h
 | int z=>exact h
 | ref p=>obtain ⟨xs,h1,h2⟩:=h;exact .inl ⟨h1,xs,SqL.of h2⟩
 | _=>exact h.elim
end
theorem le_line {n:Nat} (h:n<=1000):n<=sizeLine:=Nat.le_trans h (by decide)
theorem lt_line {n:Nat} (h:n<=1000):n < sizeLine:=Nat.lt_of_le_of_lt h (by decide)
theorem Same.upd {H:Hp} {p:Addr} {o:HO} (h:H p=none):Same H (upd H p o):=fun b u e=>by rw [upd_ne (ne_of_none e h)];exact e
theorem atI_int {α:Type} {xs:List α} {i:Int} {v:α} (h0:0<=i) (h:xs[i.toNat]? = some v):atI xs i=some v:=by
 have e:i=(i.toNat:Int):=by omega
 rw [e]
 exact atI_nat h
theorem gl {H:Hp} {p:Addr} {xs:List V} {i:Int} {v:V} (h:H p=some (.lst xs)) (h0:0<=i) (hv:xs[i.toNat]? = some v):getV H (.ref p) i=some v:=by rw [getV_lst h];exact atI_int h0 hv
theorem gt {H:Hp} {p:Addr} {xs:List V} {i:Int} {v:V} (h:H p=some (.tup xs)) (h0:0<=i) (hv:xs[i.toNat]? = some v):getV H (.ref p) i=some v:=by rw [getV_tup h];exact atI_int h0 hv
theorem lenL {H:Hp} {p:Addr} {xs:List V} (h:H p=some (.lst xs)):lenV H (.ref p)=some xs.length:=by simp [lenV,h]
theorem gs {H:Hp} {w:List Bool} {i:Int} {b:Bool} (hz:w.length<=sizeLine) (h0:0<=i) (hv:w[i.toNat]? = some b):getV H (.str (bs w)) i=some (.str (bs [b])):=by
 show (if (bs w).length<=sizeLine then (atI (bs w).cps.toList i).map fun c=>V.str ⟨#[c]⟩ else none)=_
 rw [if_pos (by rw [bs_len];exact hz)]
 have:atI (bs w).cps.toList i=some (sg b):=atI_int h0 (by show ((w.map sg).toArray.toList)[i.toNat]? = _;simp [hv])
 rw [this]
 rfl
end L2
end
section
namespace L2
open PySem
end L2
end
section
namespace L2
open PySem PySem.Spec PyProof.Rows
def FnX (K:PySem.W.Frag) (mg:Str->Option Value) (x:Str) (st:Stmt) (ps:List Str):Prop:=∃ f fd,Fun K x x st f fd/\mg x=some (.ref f)/\Binds K fd ps []
def Can (P:Program) (w:World) (K:PySem.W.Frag) (mg:Str->Option Value) (base:Heap) (x:Str) (k:Nat) (ps:List Str) (sp:Sp):Prop:=
 ∃ f fd,FnOk P w K mg base CX0 k f fd ps sp/\mg x=some (.ref f)/\PySem.W.keepIn K (.ref f)=true/\Binds K fd ps []
section
variable {P:Program} {w:World} {K:PySem.W.Frag} {mg:Str->Option Value} {base:Heap}
theorem can_fn {x:Str} {st:Stmt} {N ps:List Str} {k:Nat} {sp:Sp} (D:FnX K mg x st ps) (S:FnScope N ps (defScope st)) (len:∀ vs H Q E,sp vs H Q E->vs.length=ps.length)
  (hbody:∀ (f:Addr) (cdv:Value) (A:Around) (outer:List Env) (s:Shared) (H:Hp) (vs:List V) (Q:VK) (E:XK),Room k (A.deeper (envOfC x (defScope st) s.heap.objs.size f cdv))->sp vs H Q E →
   ∃ t,PSs (cxOf CX0 P w K mg base N x (defScope st) f cdv A outer s H E).nox (defBody st) t/\t { nx:=fun _ H'=>Q .non H',rt:=Q } (start N vs) H):Can P w K mg base x (k+1) ps sp:=by
 obtain ⟨f,fd,F,hm,hb⟩:=D
 exact ⟨f,fd,F.ok S len fun cdv A outer s H vs Q E hr h=>hbody f cdv A outer s H vs Q E hr h,hm,F.kp,hb⟩
end
section
variable {X:Cx} {x:Str} {p pos apos:Pos} {e o:Expr} {es:List Expr} {t:TA} {te to ti:TE} {k:Nat} {ps:List Str} {sp:Sp}
def tCan (sp:Sp) (t:TA):TE:=fun σ H Q=>t σ H fun vs H1=>sp vs H1 Q E0
theorem PA.of {t t':TA} (h:PA X es t) (k:∀ σ H Q,t' σ H Q->t σ H Q):PA X es t':=fun pos pins s σ H Q I q=>h pos pins s σ H Q I (k _ _ _ q)
theorem pe_can (C:Can X.prog X.w X.K X.mg X.base x k ps sp) (hr:Room k X.A) (ha:PA X (e :: es) t) (hg:Gl X x:=by rfl)
  (hdb:(x == ("__debug__" : Str))=false:=by decide) (he:starEach (e :: es) X.env=(false,eval e X.env) :: starEach es X.env:=by rfl) (hpl:(backTo pos (starEach es X.env)).any (·.1)=false:=by rfl) :
  PE X (.Call (.Name x p) (e :: es) [] pos) (tCan sp t):=by
 obtain ⟨f,fd,F,hm,hk,hb⟩:=C
 have h:=pe_call (pos:=pos) (p:=p) F hr hg hm hk hb .nil pass0 ha hdb he hpl
 intro pins s σ H Q I q
 refine thn (h pins s σ H Q I ?_) fun _ _ z=>z
 have ee:tCall sp [] E0 t=tCan sp t:=by funext σ H Q;unfold tCall tCan;simp only [List.append_nil]
 rw [ee]
 exact q
theorem pe_len (hm:X.mg "len" = none) (ha:PA X (e :: es) t) (hg:Gl X "len" := by rfl) (he:starEach (e :: es) X.env=(false,eval e X.env) :: starEach es X.env:=by rfl) (hpl:(backTo pos (starEach es X.env)).any (·.1)=false:=by rfl) :
  PE X (.Call (.Name "len" p) (e :: es) [] pos) (tCB rLen t):=pe_callB call_lenU hg hm PySem.boot_len ha (he:=he) (hpl:=hpl)
theorem pe_isinst (hm:X.mg "isinstance" = none) (ha:PA X (e :: es) t) (hg:Gl X "isinstance" := by rfl) (he:starEach (e :: es) X.env=(false,eval e X.env) :: starEach es X.env:=by rfl) (hpl:(backTo pos (starEach es X.env)).any (·.1)=false:=by rfl) :
  PE X (.Call (.Name "isinstance" p) (e :: es) [] pos) (tCB rIsI t):=pe_callB call_isU hg hm PyProof.Rows.boot_isinstance ha (he:=he) (hpl:=hpl)
theorem pe_max (hc:X.calm=true) (hm:X.mg "max" = none) (ha:PA X (e :: es) t) (hg:Gl X "max" := by rfl) (he:starEach (e :: es) X.env=(false,eval e X.env) :: starEach es X.env:=by rfl) (hpl:(backTo pos (starEach es X.env)).any (·.1)=false:=by rfl) :
  PE X (.Call (.Name "max" p) (e :: es) [] pos) (tCB rMax t):=pe_callB (call_maxU hc) hg hm PyProof.Rows.boot_max ha (he:=he) (hpl:=hpl)
theorem pe_min (hc:X.calm=true) (hm:X.mg "min" = none) (ha:PA X (e :: es) t) (hg:Gl X "min" := by rfl) (he:starEach (e :: es) X.env=(false,eval e X.env) :: starEach es X.env:=by rfl) (hpl:(backTo pos (starEach es X.env)).any (·.1)=false:=by rfl) :
  PE X (.Call (.Name "min" p) (e :: es) [] pos) (tCB rMin t):=pe_callB (call_minU hc) hg hm PyProof.Rows.boot_min ha (he:=he) (hpl:=hpl)
theorem pe_listf (hm:X.mg "list" = none) (ha:PA X (e :: es) t) (hg:Gl X "list" := by rfl) (he:starEach (e :: es) X.env=(false,eval e X.env) :: starEach es X.env:=by rfl) (hpl:(backTo pos (starEach es X.env)).any (·.1)=false:=by rfl) :
  PE X (.Call (.Name "list" p) (e :: es) [] pos) (tCB rListOf t):=pe_callTy call_listU hg hm PyProof.Rows.boot_list ha (he:=he) (hpl:=hpl)
theorem pe_ty {T:String} (hb:bootBuiltins x=some (.type T)) (hm:X.mg x=none) (hg:Gl X x:=by rfl) (hn:x≠"__name__" := by decide) (hd:(x == ("__debug__" : Str))=false:=by decide):PE X (.Name x pos) (tC (.ty T)):=pe_bltn hg hm hb rfl hn hd
def tMt (T:String) (r:V->List V->Hp->VK->Prop) (to:TE) (t:TA):TE:=fun σ H Q=>to σ H fun x H1=>tyU H1 T x/\t σ H1 fun xs H2=>r x xs H2 Q
theorem pe_mt {T id:String} {name:Str} {cpos:Pos} {r:V->List V->Hp->VK->Prop} (pa:PlainAttrs T) (slot:Slot T name id) (hty:typeOf (.builtin id)=pure (.type "method_descriptor")) (hm:MtM X id r) (ho:PE X o to) (ha:PA X (e :: es) t)
  (hbase:attributeBase o name X.env (eval o X.env)=eval o X.env:=by rfl)
  (hfew:((backTo cpos (starEach (e :: es) X.env)).all (fun x=>!x.1) && (backToKw cpos (keywordEach [] X.env)).all (fun x=>x.1.isSome)
   && decide ((e :: es).length+([]:List Keyword).length+(if ([]:List Keyword).isEmpty then 0 else 1) < 30))=true:=by rfl)
  (hline:(apos.endLine == cpos.line)=true:=by rfl) (hs:starEach (e :: es) X.env=(false,eval e X.env) :: starEach es X.env:=by rfl) (hplain:(backTo cpos (starEach es X.env)).any (·.1)=false:=by rfl) :
  PE X (.Call (.Attribute o name apos) (e :: es) [] cpos) (tMt T r to t):=by
 intro pins s σ H Q I h
 refine wpAny_Call_method_late hbase hfew hline rfl (thn (ho pins s σ H _ I h) fun v s1 ⟨x,H1,I1,r1,ty,q1⟩=>?_)
 obtain ⟨h1,h2⟩:=tyV_is I1 r1 (tyU_of ty)
 refine ⟨T,id,pa,slot,hty,h1,h2,?_⟩
 have hA:=ha cpos pins s1 σ H1 _ I1 q1
 rw [hs] at hA ⊢
 refine Calls.callWith_builtin (by show (false || (backTo cpos (starEach es X.env)).any (·.1))=false;rw [hplain]<;>rfl) (Calls.evalArgs_plain ?_)
 exact thn hA fun us s2 ⟨vs,H2,I2,r2,q2⟩=>hm pins s2 σ H2 x vs v us Q I2 r1 r2 q2
theorem pe_mt0 {T id:String} {name:Str} {cpos:Pos} {r:V->List V->Hp->VK->Prop} (pa:PlainAttrs T) (slot:Slot T name id) (hty:typeOf (.builtin id)=pure (.type "method_descriptor")) (hm:MtM X id r) (ho:PE X o to)
  (hbase:attributeBase o name X.env (eval o X.env)=eval o X.env:=by rfl) (hline:(apos.endLine == cpos.line)=true:=by rfl):PE X (.Call (.Attribute o name apos) [] [] cpos) (tMt T r to tNil):=by
 intro pins s σ H Q I h
 refine wpAny_Call_method0_late hbase hline (thn (ho pins s σ H _ I h) fun v s1 ⟨x,H1,I1,r1,ty,q1⟩=>?_)
 obtain ⟨h1,h2⟩:=tyV_is I1 r1 (tyU_of ty)
 exact ⟨T,id,pa,slot,hty,h1,h2,Calls.callWith_builtin rfl (PySem.evalArgs_none (hm pins s1 σ H1 x [] v [] Q I1 r1 .nil q1))⟩
def rSetU:V->V->V->Hp->(Hp->Prop)->Prop:=fun o i v H Q=>match o,i with
 | .ref p,.int k=>∃ xs j,H p=some (.lst xs)/\ixN xs.length k=some j/\Q (upd H p (.lst (xs.set j v)))
 | _,_=>False
theorem setU:PSet X rSetU:=by
 intro pins s σ H o i v ov iv u Q I ro ri rv q
 refine set_list pins s σ H o i v ov iv u Q I ro ri rv ?_
 unfold rSetU at q
 split at q
 ·obtain ⟨xs,j,h1,h2,q⟩:=q
  exact ⟨_,xs,_,j,rfl,rfl,h1,h2,q⟩
 ·exact q.elim
def gTupU (K:PySem.W.Frag) (n:Nat) (t:TGs):TG:=fun v σ H Q=>match v with
 | .ref a=>∃ xs,H a=some (.tup xs)/\xs.length=n/\t xs σ H Q
 | _=>False
def gConsU (t:TG) (u:TGs):TGs:=fun vs σ H Q=>match vs with
 | v :: r=>t v σ H fun σ' H'=>u r σ' H' Q
 | []=>False
theorem pgs_consU {es:List Expr} {t:TG} {u:TGs} (h1:PG X e t) (h2:PGs X es u)
  (hs:(assignEach (e :: es) X.env).map (·.2)=assign e X.env :: (assignEach es X.env).map (·.2):=by rfl):PGs X (e :: es) (gConsU t u):=by
 intro pins s σ H vs us Q I r hw
 refine pgs_cons h1 h2 hs pins s σ H vs us Q I r ?_
 unfold gConsU at hw
 split at hw
 ·exact ⟨_,_,rfl,hw⟩
 ·exact hw.elim
variable {tg:Expr}
def iLst (K:PySem.W.Frag) (tl:TE):TI:=fun σ H R=>tl σ H fun x H1=>match x with
 | .ref a=>(∃ xs,SqL K H1 a xs)/\R (Itl K a) H1
 | _=>False
theorem pi_lst {l:Expr} {tl:TE} (hl:PE X l tl):PI X tg l (iLst X.K tl):=by
 intro pins s σ H R I h
 refine thn (hl pins s σ H _ I h) fun v s1 ⟨x,H1,I1,r1,q1⟩=>?_
 dsimp only at q1
 split at q1
 ·rename_i a
  obtain ⟨⟨xs,hq⟩,q⟩:=q1
  cases r1
  obtain ⟨its,rv,p,hz⟩:=I1.list hq
  refine wpAny_pyIter_list p.isList ?_
  refine ⟨s1.heap.objs.size,[s1.heap.objs.size],_,_,H1,rfl,I1.kept (t':=s1.toks) fun b o e=>Heap.get?_push_of_some _ e,turn_list a _,⟨_,Heap.get?_push_size _ rfl,rfl,rfl⟩,fun b hb=>?_,q⟩
  have e:b=s1.heap.objs.size:=by simpa using hb
  subst e
  exact I1.fpOk (Nat.le_refl _) (I1.hok.fresh (Nat.le_refl _))
 ·exact q1.elim
def iR1 (ta:TA):TI:=fun σ H R=>ta σ H fun vs H1=>match vs with
 | [.int j]=>-(2 ^ 62)<=j/\j < 2 ^ 62/\R (Itr 0 j.toNat) H1
 | _=>False
theorem PI.of {iter:Expr} {w w':TI} (h:PI X tg iter w) (k:∀ σ H R,w' σ H R->w σ H R):PI X tg iter w':=fun pins s σ H R I q=>h pins s σ H R I (k _ _ _ q)
theorem pi_r1 {a:Expr} {ta:TA} (hm:X.mg "range" = none) (ha:PA X [a] ta) (hg:Gl X "range" := by rfl) (hs:starEach [a] X.env=[(false,eval a X.env)]:=by rfl):PI X tg (.Call (.Name "range" p) [a] [] pos) (iR1 ta):=by
 intro pins s σ H R I h
 refine Call_ (ld_blt I hg hm boot_range (PyProof.Rows.callWith_type1 (thn (ha pos pins s σ H _ I h) fun us s1 ⟨vs,H1,I1,r1,q1⟩=>?_) hs rfl))
 dsimp only at q1
 split at q1
 ·obtain ⟨q1,q2,q⟩:=q1
  obtain ⟨u,rfl,t,rfl⟩:=vals1 r1
  exact call_range_1 (range_it I1 (by omega) (by omega) q1 q2 (by simpa using q))
 ·exact q1.elim
end
end L2
end
section
namespace L2
open PySem PySem.Spec PyProof.Rows
def visB (sc:Scope) (x:Str):Bool:=(match sc.names.lookup x with
 | some .local=>true
 | some .cell=>true
 | some .free=>true
 | _=>false) && (!(x == ("__debug__" : Str)) && !(x == ("__classdict__" : Str)))
theorem vis_of {sc:Scope} {x:Str} (h:visB sc x=true):Vis sc x/\(x == ("__debug__" : Str))=false/\(x == ("__classdict__" : Str))=false:=by
 unfold visB at h
 simp only [Bool.and_eq_true,Bool.not_eq_true'] at h
 obtain ⟨h1,h2,h3⟩:=h
 refine ⟨?_,h2,h3⟩
 split at h1
 ·exact .inl (by assumption)
 ·exact .inr (.inl (by assumption))
 ·exact .inr (.inr (by assumption))
 ·cases h1
def locB (sc:Scope) (x:Str):Bool:=match sc.names.lookup x with
 | some .local=>true
 | some .cell=>true
 | _=>false
theorem loc_of {sc:Scope} {x:Str} (h:locB sc x=true):Loc sc x:=by
 unfold locB at h
 split at h
 ·exact .inl (by assumption)
 ·exact .inr (by assumption)
 ·cases h
section
variable {X:Cx} {x:Str} {pos:Pos}
theorem vk (i:Nat) (hN:X.N[i]? = some x:=by rfl) (hv:visB X.env.scope x=true:=by kernel_rfl):PE X (.Name x pos) (tV i):=
 vr i hN (vis_of hv).1 (vis_of hv).2.1 (vis_of hv).2.2
theorem gk (i:Nat) (hN:X.N.Nodup) (hi:X.N[i]? = some x:=by rfl) (hx:locB X.env.scope x=true:=by kernel_rfl) (hf:(X.fn x || X.env.scope.names.lookup x == some .local)=true:=by kernel_rfl):PG X (.Name x pos) (gName i):=
 pg_name hN hi (loc_of hx) (by
  rw [Bool.or_eq_true] at hf
  exact hf.elim .inl fun z=>.inr (eq_of_beq z))
theorem vn (x:Str) (i:Nat) (hN:X.N[i]? = some x:=by with_unfolding_all rfl) (hv:visB X.env.scope x=true:=by kernel_rfl):PE X (.Name x pos) (tV i):=vk i hN hv
theorem gn (x:Str) (i:Nat) (hN:X.N.Nodup) (hi:X.N[i]? = some x:=by with_unfolding_all rfl) (hx:locB X.env.scope x=true:=by kernel_rfl) (hf:(X.fn x || X.env.scope.names.lookup x == some .local)=true:=by kernel_rfl):PG X (.Name x pos) (gName i):=gk i hN hi hx hf
def gB (X:Cx) (x:Str):Bool:=X.env.scope.names.lookup x == some .globalImplicit
theorem gl_of (h:gB X x=true):Gl X x:=eq_of_beq h
variable {p apos:Pos} {e o:Expr} {es:List Expr} {t:TA} {te to ti:TE} {k:Nat} {ps:List Str} {sp:Sp} {tg:Expr}
theorem fn_can (x:Str) {P':Program} {w':World} {K':PySem.W.Frag} {mg':Str->Option Value} {base':Heap} (C:Can P' w' K' mg' base' x k ps sp) (hX:X.prog=P'/\X.w=w'/\X.K=K'/\X.mg=mg'/\X.base=base') (hr:Room k X.A) (ha:PA X (e :: es) t) (hg:gB X x=true:=by kernel_rfl)
  (hdb:(x == ("__debug__" : Str))=false:=by kernel_rfl) (he:starEach (e :: es) X.env=(false,eval e X.env) :: starEach es X.env:=by kernel_rfl) (hpl:(backTo pos (starEach es X.env)).any (·.1)=false:=by kernel_rfl) :
  PE X (.Call (.Name x p) (e :: es) [] pos) (tCan sp t):=by
 obtain ⟨rfl,rfl,rfl,rfl,rfl⟩:=hX
 exact pe_can C hr ha (gl_of hg) hdb he hpl
theorem fn_len {mg':Str->Option Value} (hm:mg' "len" = none) (hX:X.mg=mg') (ha:PA X (e :: es) t) (hg:gB X "len" = true:=by kernel_rfl) (he:starEach (e :: es) X.env=(false,eval e X.env) :: starEach es X.env:=by kernel_rfl) (hpl:(backTo pos (starEach es X.env)).any (·.1)=false:=by kernel_rfl) :
  PE X (.Call (.Name "len" p) (e :: es) [] pos) (tCB rLen t):=pe_len (by rw [hX];exact hm) ha (gl_of hg) he hpl
theorem fn_isinst {mg':Str->Option Value} (hm:mg' "isinstance" = none) (hX:X.mg=mg') (ha:PA X (e :: es) t) (hg:gB X "isinstance" = true:=by kernel_rfl) (he:starEach (e :: es) X.env=(false,eval e X.env) :: starEach es X.env:=by kernel_rfl) (hpl:(backTo pos (starEach es X.env)).any (·.1)=false:=by kernel_rfl) :
  PE X (.Call (.Name "isinstance" p) (e :: es) [] pos) (tCB rIsI t):=pe_isinst (by rw [hX];exact hm) ha (gl_of hg) he hpl
theorem fn_max {mg':Str->Option Value} (hm:mg' "max" = none) (hX:X.mg=mg') (ha:PA X (e :: es) t) (hc:X.calm=true:=by kernel_rfl) (hg:gB X "max" = true:=by kernel_rfl) (he:starEach (e :: es) X.env=(false,eval e X.env) :: starEach es X.env:=by kernel_rfl) (hpl:(backTo pos (starEach es X.env)).any (·.1)=false:=by kernel_rfl) :
  PE X (.Call (.Name "max" p) (e :: es) [] pos) (tCB rMax t):=pe_max hc (by rw [hX];exact hm) ha (gl_of hg) he hpl
theorem fn_min {mg':Str->Option Value} (hm:mg' "min" = none) (hX:X.mg=mg') (ha:PA X (e :: es) t) (hc:X.calm=true:=by kernel_rfl) (hg:gB X "min" = true:=by kernel_rfl) (he:starEach (e :: es) X.env=(false,eval e X.env) :: starEach es X.env:=by kernel_rfl) (hpl:(backTo pos (starEach es X.env)).any (·.1)=false:=by kernel_rfl) :
  PE X (.Call (.Name "min" p) (e :: es) [] pos) (tCB rMin t):=pe_min hc (by rw [hX];exact hm) ha (gl_of hg) he hpl
theorem fn_list {mg':Str->Option Value} (hm:mg' "list" = none) (hX:X.mg=mg') (ha:PA X (e :: es) t) (hg:gB X "list" = true:=by kernel_rfl) (he:starEach (e :: es) X.env=(false,eval e X.env) :: starEach es X.env:=by kernel_rfl) (hpl:(backTo pos (starEach es X.env)).any (·.1)=false:=by kernel_rfl) :
  PE X (.Call (.Name "list" p) (e :: es) [] pos) (tCB rListOf t):=pe_listf (by rw [hX];exact hm) ha (gl_of hg) he hpl
theorem ty_bool {mg':Str->Option Value} (hm:mg' "bool" = none) (hX:X.mg=mg') (hg:gB X "bool" = true:=by kernel_rfl):PE X (.Name "bool" pos) (tC (.ty "bool")):=pe_ty PyProof.Rows.boot_bool (by rw [hX];exact hm) (gl_of hg)
theorem ty_list {mg':Str->Option Value} (hm:mg' "list" = none) (hX:X.mg=mg') (hg:gB X "list" = true:=by kernel_rfl):PE X (.Name "list" pos) (tC (.ty "list")):=pe_ty PyProof.Rows.boot_list (by rw [hX];exact hm) (gl_of hg)
theorem it_r1 {a:Expr} {ta:TA} {mg':Str->Option Value} (hm:mg' "range" = none) (hX:X.mg=mg') (ha:PA X [a] ta) (hg:gB X "range" = true:=by kernel_rfl) (hs:starEach [a] X.env=[(false,eval a X.env)]:=by kernel_rfl):PI X tg (.Call (.Name "range" p) [a] [] pos) (iR1 ta):=pi_r1 (by rw [hX];exact hm) ha (gl_of hg) hs
theorem ix_at {a b:Expr} {ta tb:TE} (ha:PE X a ta) (hb:PE X b tb) (hs:∀ o i,subscripted b false o i=operate [o,i] (getItem o i):=by intro _ _;kernel_rfl):PE X (.Subscript a b pos) (tOp rIxU ta tb):=pe_ix ixU ha hb hs
theorem a_cons {e:Expr} {es:List Expr} {te:TE} {t:TA} (ha:PE X e te) (hr:PA X es t) (hs:starEach (e :: es) X.env=(false,eval e X.env) :: starEach es X.env:=by kernel_rfl):PA X (e :: es) (tCons te t):=pa_cons ha hr hs
theorem t_cmp {op:CmpOp} {r:R2} {a b:Expr} {ta tb:TE} (ho:OpR X (compareOp op) r) (ha:PE X a ta) (hb:PE X b tb) (hm:behindInMarks op b=false:=by kernel_rfl):PT X (.Compare a [op] [b] pos) (tBU (tOp r ta tb)):=pt_cmpU ho ha hb hm
theorem e_cmp {op:CmpOp} {r:R2} {a b:Expr} {ta tb:TE} (ho:OpR X (compareOp op) r) (ha:PE X a ta) (hb:PE X b tb) (hm:behindInMarks op b=false:=by kernel_rfl):PE X (.Compare a [op] [b] pos) (tOp r ta tb):=pe_cmpU ho ha hb hm
theorem s_asg {tg e:Expr} {te:TE} {g:TG} (he:PE X e te) (hg:PG X tg g) (hs:swapsWithSole [tg] e pos.line X.env=pure false:=by kernel_rfl) (hw:swappedStores [tg] e X.env=pure none:=by kernel_rfl)
  (h1:(assignEach [tg] X.env).map (·.2)=[assign tg X.env]:=by kernel_rfl):PS X (.Assign [tg] e pos) (tAsg te g):=ps_asg he hg hs hw h1
theorem s_expr {e:Expr} {te:TE} (he:PE X e te) (hs:swapsWith e none pos.line X.env=pure false:=by kernel_rfl):PS X (.Expr e pos) (tDrop te):=ps_expr he hs
theorem s_for {iter:Expr} {body:List Stmt} {wi:TI} {g:TG} {tb:TS} (hi:PI X tg iter wi) (hg:PG X tg g) (hb:PSs X body tb) (hp:PassesOwn (model X.prog X.w) X.A X.env X.xe:=by exact PassesOwn.never) (hc:X.calm=true:=by kernel_rfl)
  (hs:∀ x,foldedSetIterable iter X.env x=pure x:=by intro _;kernel_rfl):PS X (.For tg iter body [] pos) (tFor wi g tb):=ps_for hp hc hi hg hb hs
theorem s_while {c:Expr} {body:List Stmt} {tc:TT} {tb:TS} (hc:PT X c tc) (hb:PSs X body tb) (hp:PassesOwn (model X.prog X.w) X.A X.env X.xe:=by exact PassesOwn.never):PS X (.While c body [] pos) (tWhile tc tb):=ps_while hp hc hb
theorem gs_cons {es:List Expr} {t:TG} {u:TGs} (h1:PG X e t) (h2:PGs X es u)
  (hs:(assignEach (e :: es) X.env).map (·.2)=assign e X.env :: (assignEach es X.env).map (·.2):=by kernel_rfl):PGs X (e :: es) (gConsU t u):=pgs_consU h1 h2 hs
theorem m_append {cpos:Pos} (ho:PE X o to) (ha:PA X (e :: es) t)
  (hbase:attributeBase o "append" X.env (eval o X.env)=eval o X.env:=by kernel_rfl)
  (hfew:((backTo cpos (starEach (e :: es) X.env)).all (fun x=>!x.1) && (backToKw cpos (keywordEach [] X.env)).all (fun x=>x.1.isSome)
   && decide ((e :: es).length+([]:List Keyword).length+(if ([]:List Keyword).isEmpty then 0 else 1) < 30))=true:=by kernel_rfl)
  (hline:(apos.endLine == cpos.line)=true:=by kernel_rfl) (hs:starEach (e :: es) X.env=(false,eval e X.env) :: starEach es X.env:=by kernel_rfl) (hplain:(backTo cpos (starEach es X.env)).any (·.1)=false:=by kernel_rfl) :
  PE X (.Call (.Attribute o "append" apos) (e :: es) [] cpos) (tMt "list" rApp to t):=pe_mt PySem.F.plainAttrs_list PySem.F.slot_list_append PySem.F.type_list_append mt_appU ho ha hbase hfew hline hs hplain
theorem m_strip {cpos:Pos} (ho:PE X o to) (ha:PA X (e :: es) t)
  (hbase:attributeBase o "strip" X.env (eval o X.env)=eval o X.env:=by kernel_rfl)
  (hfew:((backTo cpos (starEach (e :: es) X.env)).all (fun x=>!x.1) && (backToKw cpos (keywordEach [] X.env)).all (fun x=>x.1.isSome)
   && decide ((e :: es).length+([]:List Keyword).length+(if ([]:List Keyword).isEmpty then 0 else 1) < 30))=true:=by kernel_rfl)
  (hline:(apos.endLine == cpos.line)=true:=by kernel_rfl) (hs:starEach (e :: es) X.env=(false,eval e X.env) :: starEach es X.env:=by kernel_rfl) (hplain:(backTo cpos (starEach es X.env)).any (·.1)=false:=by kernel_rfl) :
  PE X (.Call (.Attribute o "strip" apos) (e :: es) [] cpos) (tMt "str" rStrip to t):=pe_mt PySem.F.plainAttrs_str PySem.F.slot_str_strip PySem.F.type_str_strip mt_stripU ho ha hbase hfew hline hs hplain
theorem c_comp (N:List Str) (js:List Nat) {elt target iter:Expr} {ifs:List Expr} {scope:Scope} {wi:TI} {g:TG} {tt:TT} {te:TE} (hN:N.Nodup) (hi:PI X target iter wi)
  (hg:∀ cl C s H fp,PG (X.block scope cl C N s H fp) target g) (ht:∀ cl C s H fp,PF (X.block scope cl C N s H fp) ifs tt) (he:∀ cl C s H fp,PE (X.block scope cl C N s H fp) elt te)
  (hok:compOk X.env.scope X.N scope N js=true:=by kernel_rfl) (hc:X.calm=true:=by kernel_rfl) (hk:scope.kind = .function:=by kernel_rfl) (hs:∀ x,foldedSetIterable iter X.env x=pure x:=by intro _;kernel_rfl) :
  PE X (.ListComp elt [⟨target,iter,ifs,0⟩] scope pos) (tComp (N.length - js.length) js wi g tt te):=pe_comp N js hok hN hc hi hg ht he hk hs
end
theorem iteP {c A B:Prop} [Decidable c] (hc:c) (h:A):if c then A else B:=by rw [if_pos hc];exact h
end L2
end
section
namespace L2
open PySem PySem.Spec PyProof.Rows
def Off (F:Addr->Prop) (H H':Hp):Prop:=∀ b o,H b=some o->¬ F b->H' b=some o
structure Deck (F:Addr->Prop) (H:Hp) (a:Addr):Prop where
 ex:∃ (p:Addr) (qs:List Addr) (n:Int),H a=some (.lst [.ref p,.int n])/\H p=some (.lst (qs.map V.ref))/\0 < qs.length/\qs.length<=63/\(∀ q∈qs,∃ c f m,H q=some (.lst [.int c,.int f,.int m]))/\∀ b,F b↔b=a\/b=p\/b∈qs
theorem Off.refl {F:Addr->Prop} {H:Hp}:Off F H H:=fun _ _ e _=>e
theorem Off.trans {F:Addr->Prop} {H H1 H2:Hp} (h:Off F H H1) (k:Off F H1 H2):Off F H H2:=fun b o e n=>k b o (h b o e n) n
theorem Same.off {F:Addr->Prop} {H H1:Hp} (h:Same H H1):Off F H H1:=fun b o e _=>h b o e
theorem Deck.same {F:Addr->Prop} {H H1:Hp} {a:Addr} (h:Deck F H a) (k:Same H H1):Deck F H1 a:=by
 obtain ⟨p,qs,n,h1,h2,h3,h4,h5,h6⟩:=h.ex
 exact ⟨p,qs,n,k _ _ h1,k _ _ h2,h3,h4,fun q hq=>let ⟨c,f,m,e⟩:=h5 q hq;⟨c,f,m,k _ _ e⟩,h6⟩
theorem Deck.there {F:Addr->Prop} {H:Hp} {a b:Addr} (h:Deck F H a) (hb:F b):∃ o,H b=some o:=by
 obtain ⟨p,qs,n,h1,h2,h3,h4,h5,h6⟩:=h.ex
 rcases (h6 b).mp hb with rfl | rfl | z
 ·exact ⟨_,h1⟩
 ·exact ⟨_,h2⟩
 ·obtain ⟨c,f,m,e⟩:=h5 b z
  exact ⟨_,e⟩
theorem Deck.new {F:Addr->Prop} {H:Hp} {a b:Addr} (h:Deck F H a) (hb:H b=none):¬ F b:=fun z=>by
 obtain ⟨o,e⟩:=h.there z
 rw [hb] at e
 cases e
end L2
namespace L2
open PySem PySem.Spec PyProof.Rows
section
variable {H:Hp}
theorem DV.lst_inv {v:V} {ds:List PyData} (h:DV H v (.list ds)):∃ a xs,v = .ref a/\H a=some (.lst xs)/\DVs H xs ds:=by
 cases h with
 | lst h r=>exact ⟨_,_,rfl,h,r⟩
theorem DV.tup_inv {v:V} {ds:List PyData} (h:DV H v (.tuple ds)):∃ a xs,v = .ref a/\H a=some (.tup xs)/\DVs H xs ds:=by
 cases h with
 | tup h r=>exact ⟨_,_,rfl,h,r⟩
theorem DV.int_inv {v:V} {i:Int} (h:DV H v (.int i)):v = .int i:=by cases h;rfl
theorem DV.str_inv {v:V} {x:Str} (h:DV H v (.str x)):v = .str x:=by cases h;rfl
theorem DVs.length:∀ {xs:List V} {ds:List PyData},DVs H xs ds->xs.length=ds.length
 | _,_,.nil=>rfl
 | _,_,.cons _ r=>by rw [List.length_cons,List.length_cons,DVs.length r]
theorem DVs.get:∀ {xs:List V} {ds:List PyData} {i:Nat} {d:PyData},DVs H xs ds->ds[i]? = some d->∃ x,xs[i]? = some x/\DV H x d
 | _,_,_,_,.nil,h=>by simp at h
 | _,_,0,_,.cons h _,e=>by
  simp at e
  subst e
  exact ⟨_,rfl,h⟩
 | _,_,i+1,d,.cons _ r,e=>by
  obtain ⟨x,h1,h2⟩:=DVs.get (i:=i) (d:=d) r (by simpa using e)
  exact ⟨x,by simpa using h1,h2⟩
theorem DVs.app:∀ {xs ys:List V} {ds es:List PyData},DVs H xs ds->DVs H ys es->DVs H (xs++ys) (ds++es)
 | _,_,_,_,.nil,s=>s
 | _,_,_,_,.cons h r,s=>.cons h (DVs.app r s)
theorem DVs.ints:∀ (ns:List Int),DVs H (ns.map V.int) (ns.map PyData.int)
 | []=>.nil
 | n :: r=>.cons (.int n) (DVs.ints r)
theorem DVs.strs:∀ (ws:List Str),DVs H (ws.map V.str) (ws.map PyData.str)
 | []=>.nil
 | n :: r=>.cons (.str n) (DVs.strs r)
end
end L2
end
section
namespace Om
abbrev Rows:=List (List (List Bool×Nat))
def step (rows:Rows) (s l:Nat):List Bool×Nat:=(rows.getD s []).getD l ([],0)
end Om
end
section
namespace L2
open PySem PySem.Spec PyProof.Rows
def rowD (r:List Bool×Nat):PyData:=.tuple [.str (bs r.1),.int (r.2:Nat)]
def stateD (st:List (List Bool×Nat)):PyData:=.list (st.map rowD)
def codeD (k n:Nat) (rows:Om.Rows):PyData:=.tuple [.int (k:Nat),.int (n:Nat),.list (rows.map stateD)]
end L2
namespace L2
open PySem PySem.Spec PyProof.Rows
theorem comp_map1 {J:It} {D:Addr} {xs:List V} {ok:Hp->Prop} {te:TE} {Q:Hp->Prop} {v0:Option V} {fr:St} {H:Hp} (IO:ItOk J xs ok) (f:V->V) (hz:xs.length<=sizeLine) (hok:∀ o,ok (upd H D o))
  (hs:∀ (i:Nat) (x:V) (ys:List V),xs[i]? = some x->∀ C:VK,C (f x) (upd H D (.lst ys))->te (some x :: fr) (upd H D (.lst ys)) C)
  (hd:Q (upd H D (.lst (xs.map f)))) :
  ∃ W:Nat->Nat->St->Hp->List V->Prop,(∃ m,W 0 m (v0 :: fr) (upd H D (.lst [])) [])/\∀ i m τ H2 ys,W i m τ H2 ys->H2 D=some (.lst ys) ∧
   ((J.stop i H2/\Q H2)\/(J.go i H2/\ys.length < sizeLine/\∃ N:St->Hp->List V->Prop,(∀ τ' H' ys',N τ' H' ys'->∃ m',m' < m/\W (i+1) m' τ' H' ys')/\∀ x H3,J.yld i H2 x H3->gName 0 x τ H3 fun τ4 H4=>tYes τ4 H4 fun b H5=>
    if b=true then te τ4 H5 fun y H6=>H6 D=some (.lst ys)/\N τ4 (upd H6 D (.lst (ys++[y]))) (ys++[y])
    else N τ4 H5 ys)):=by
 refine comp_by IO (fun i τ H2 ys=>(∃ v,τ=v :: fr)/\H2=upd H D (.lst ys)/\ys=(xs.take i).map f/\i<=xs.length) hz ⟨⟨v0,rfl⟩,rfl,rfl,Nat.zero_le _⟩ ?_ ?_ ?_
 ·rintro i τ H2 ys hi ⟨_,rfl,rfl,_⟩
  exact ⟨hok _,upd_same,by simp [List.length_take];omega⟩
 ·rintro i x τ H2 ys hi hx ⟨⟨v,rfl⟩,rfl,rfl,_⟩
  refine hs i x _ hx _ ⟨upd_same,⟨_,rfl⟩,upd_upd,?_,hi⟩
  rw [List.take_add_one,hx,List.map_append]
  rfl
 ·rintro τ H2 ys ⟨_,rfl,rfl,_⟩
  rw [List.take_length]
  exact hd
theorem SqL.upd {K:PySem.W.Frag} {H:Hp} {a D:Addr} {xs:List V} {o:HO} (h:H a=some (.lst xs)) (hD:H D=none):SqL K (upd H D o) a xs:=SqL.of (Same.upd hD _ _ h)
end L2
end
section
namespace L2
open PySem PySem.Spec PyProof.Rows
section
variable {prog:Program} {w:World} {A:Around} {E:Value->Shared->Prop}
theorem draw_list {it l:Addr} {items:Array Value} (hne:l≠it):∀ (n i:Nat) (s:Shared) (Q:List Value->Shared->Prop),s.heap.IsListIter it l i->s.heap.IsList l items->i+n<=items.size →
  (∀ h',h'.IsListIter it l (i+n)->Heap.SameBut it s.heap h'->Q ((items.toList.drop i).take n) { s with heap:=h' })->wpAny (model prog w) A (draw (.ref it) n) Q E s
 | 0,i,s,Q,hit,_,_,hQ=>by
  show wpAny _ _ (pure []) Q E s
  exact wpAny_pure (by simpa using hQ s.heap hit (Heap.SameBut.refl ..))
 | n+1,i,s,Q,hit,ht,hle,hQ=>by
  have hlt:i < items.size:=by omega
  show wpAny _ _ (pyNext (.ref it) >>= _) Q E s
  refine wpAny_bind (wpAny_pyNext_list_item hit ht (x:=items[i]) (by simp [hlt]) fun h₁ hit₁ hs₁=>?_)
  refine wpAny_bind (wpAny_holding (draw_list hne n (i+1) _ _ hit₁ (ht.extBut hs₁.extBut hne) (by omega) fun h₂ hit₂ hs₂=>wpAny_pure ?_))
  have hd:items.toList.drop i=items[i] :: items.toList.drop (i+1):=by simp [List.drop_eq_getElem_cons,hlt]
  have:=hQ h₂ (by rw [show i+(n+1)=i+1+n by omega];exact hit₂) (hs₁.trans hs₂)
  rw [hd,List.take_succ_cons] at this
  exact this
theorem unpackItems_list {s:Shared} {t:Addr} {items:Array Value} {Q:List Value->Shared->Prop} (hh:A.handled=none) (ht:s.heap.IsList t items)
  (hQ:∀ h',Heap.ExtBut s.heap.objs.size s.heap h'->Q items.toList { s with heap:=h' }):wpAny (model prog w) A (unpackItems (.ref t) items.size none) Q E s:=by
 have hlt:t≠s.heap.objs.size:=by obtain ⟨o,ho,_⟩:=ht;exact Nat.ne_of_lt (Heap.lt_size ho)
 unfold unpackItems
 refine wpAny_bind ?_
 ·unfold notIterableAtAll
  refine wpAny_bind (wpAny_specialOf ht.typeIs slot_list_iter.lookup ?_)
  refine wpAny_pure ?_
  simp only [Bool.false_eq_true,if_false]
  refine wpAny_bind (wpAny_holding (wpAny_pyIter_list ht ?_))
  refine wpAny_bind (wpAny_holding (draw_list hlt items.size 0 _ _ ⟨_,Heap.get?_push_size _ rfl,rfl,rfl⟩ (ht.push _) (by omega) fun h₁ hit₁ hs₁=>?_))
  have hall:List.take items.size (List.drop 0 items.toList)=items.toList:=by
   rw [List.drop_zero];exact List.take_of_length_le (by simp)
  rw [hall]
  rw [if_neg (by simp)]
  have ht₁:h₁.IsList t items:=(ht.push _).extBut hs₁.extBut hlt
  refine wpAny_bind (wpAny_holding (wpAny_pyNext_list_end hh hit₁ ht₁ (by simp) fun h₂ he₂=>?_))
  simp only [Option.isSome_none,Bool.false_eq_true,if_false]
  refine wpAny_pure (hQ h₂ fun b o hb e=>he₂ b o hb (hs₁.extBut b o hb (Heap.get?_push_of_some _ e)))
theorem assign_Tuple_list {s:Shared} {env:Env} {elts:List Expr} {x1} {pos:Pos} {t:Addr} {items:Array Value} {Q:Unit->Shared->Prop} (hh:A.handled=none) (ht:s.heap.IsList t items)
  (hn:(assignEach elts env).length=items.size) (hstar:(assignEach elts env).findIdx? (·.1)=none)
  (h:∀ h',Heap.ExtBut s.heap.objs.size s.heap h'->wpAny (model prog w) A (assignInOrder ((assignEach elts env).map (·.2)) items.toList) Q E { s with heap:=h' }) :
  wpAny (model prog w) A (assign (.Tuple elts x1 pos) env (.ref t)) Q E s:=by
 rw [assign_Tuple]
 refine wpAny_bind (wpAny_standAt ?_)
 unfold unpack
 rw [hn,hstar]
 exact wpAny_bind (wpAny_holding (unpackItems_list hh ht h))
end
section
variable {X:Cx} {pos:Pos}
def gTupL (K:PySem.W.Frag) (n:Nat) (t:TGs):TG:=fun v σ H Q=>match v with
 | .ref a=>∃ xs,(H a=some (.tup xs)\/H a=some (.lst xs))/\xs.length=n/\t xs σ H Q
 | _=>False
theorem g_tupL {es:List Expr} {k:Nat} {t:TGs} (h:PGs X es t) (hc:X.calm=true:=by kernel_rfl)
  (hst:(assignEach es X.env).findIdx? (·.1)=none:=by kernel_rfl):PG X (.Tuple es k pos) (gTupL X.K (assignEach es X.env).length t):=by
 intro pins s σ H v u Q I r hw
 unfold gTupL at hw
 split at hw
 ·obtain ⟨xs,h1 | h1,h2,hw⟩:=hw
  ·exact pg_tup hc h rfl hst pins s σ H _ u Q I r ⟨_,xs,rfl,SqT.of h1,h2,hw⟩
  ·cases r
   obtain ⟨its,rv,p,hz⟩:=I.list (SqL.of h1)
   refine assign_Tuple_list (I.ok.hd hc) p.isList (by simp [<-rv.length,h2]) hst fun h' hx=>?_
   have I1:Inv X pins σ H { s with heap:=h' }:=I.kept (t':=s.toks) fun b o e=>hx b o (Nat.ne_of_lt (Heap.lt_size e)) e
   exact h pins _ σ H xs _ Q I1 (by simpa using rv) hw
 ·exact hw.elim
theorem op_isB:OpR X (compareOp .Is) (fun x y H Q=>match x,y with
  | .bl a,.bl b=>Q (.bl (a == b)) H
  | _,_=>False):=by
 intro pins s σ H x y v u Q I rx ry h
 split at h
 ·cases rx
  cases ry
  exact is_bool ⟨.bl _,H,I,rfl,h⟩
 ·exact h.elim
end
section
variable {X:Cx}
def tTru (t:TE):TT:=fun σ H Q=>t σ H fun x H1=>match x with
 | .bl c=>Q c H1
 | .ref p=>∃ xs,H1 p=some (.lst xs)/\Q (!xs.isEmpty) H1
 | _=>False
theorem t_tru {e:Expr} {t:TE} (h:PE X e t) (he:∀ whole,isTrue e X.env whole=(do let v <-whole;standAt e.pos;holding [v] (truthy v)):=by intro _;kernel_rfl):PT X e (tTru t):=by
 intro pins s σ H Q I hw
 refine isTrue_plain (thn (h pins s σ H _ I hw) fun v s1 ⟨x,H1,I1,r1,q1⟩=>?_) (he _)
 refine tru_ok pins s1 σ H1 x v Q I1 r1 ?_
 dsimp only at q1
 split at q1
 ·exact ⟨_,rfl,q1⟩
 ·obtain ⟨xs,h1,q⟩:=q1
  exact ⟨_,.inl ⟨xs,SqL.of h1,rfl⟩,q⟩
 ·exact q1.elim
end
section
variable {X:Cx}
def rNeg:V->Hp->VK->Prop:=fun x H Q=>match x with
 | .int i=>Q (.int (-i)) H
 | _=>False
theorem e_neg {a:Expr} {ta:TE} {pos:Pos} (ha:PE X a ta):PE X (.UnaryOp .USub a pos) (tUn rNeg ta):=by
 refine pe_un (fun pins s σ H x v Q I rx q=>?_) ha
 unfold rNeg at q
 split at q
 ·exact un_neg pins s σ H _ v Q I rx ⟨_,rfl,q⟩
 ·exact q.elim
end
section
variable {H:Hp}
theorem code_inv {cv:V} {k n:Nat} {rows:Om.Rows} (h:DV H cv (codeD k n rows)):∃ a b ss,cv = .ref a/\H a=some (.tup [.int k,.int n,.ref b])/\H b=some (.lst ss)/\DVs H ss (rows.map stateD):=by
 obtain ⟨a,xs,rfl,ha,hx⟩:=h.tup_inv
 cases hx with
 | cons h1 hx=>
  cases hx with
  | cons h2 hx=>
   cases hx with
   | cons h3 hx=>
    cases hx
    obtain rfl:=h1.int_inv
    obtain rfl:=h2.int_inv
    obtain ⟨b,ss,rfl,hb,hs⟩:=h3.lst_inv
    exact ⟨a,b,ss,rfl,ha,hb,hs⟩
theorem state_at {ss:List V} {rows:Om.Rows} (h:DVs H ss (rows.map stateD)) {s:Nat} {st:List (List Bool×Nat)} (hs:rows[s]? = some st):∃ q rs,ss[s]? = some (.ref q)/\H q=some (.lst rs)/\DVs H rs (st.map rowD):=by
 obtain ⟨x,hx,d⟩:=h.get (i:=s) (d:=stateD st) (by rw [List.getElem?_map,hs];rfl)
 obtain ⟨q,rs,rfl,hq,hr⟩:=d.lst_inv
 exact ⟨q,rs,hx,hq,hr⟩
theorem row_at {rs:List V} {st:List (List Bool×Nat)} (h:DVs H rs (st.map rowD)) {l:Nat} {r:List Bool×Nat} (hl:st[l]? = some r):∃ p,rs[l]? = some (.ref p)/\H p=some (.tup [.str (bs r.1),.int (r.2:Nat)]):=by
 obtain ⟨x,hx,d⟩:=h.get (i:=l) (d:=rowD r) (by rw [List.getElem?_map,hl];rfl)
 obtain ⟨p,xs,rfl,hp,hd⟩:=d.tup_inv
 cases hd with
 | cons h1 hd=>
  cases hd with
  | cons h2 hd=>
   cases hd
   obtain rfl:=h1.str_inv
   obtain rfl:=h2.int_inv
   exact ⟨p,hx,hp⟩
end
end L2
namespace Om
def words (rows:Rows):Nat->List Nat->List (List Bool)
 | _,[]=>[]
 | s,l :: r=>(step rows s l).1 :: words rows (step rows s l).2 r
end Om
end
section
namespace L2
open PySem PySem.Spec PyProof.Rows
section
variable {X:Cx} {x:Str} {p pos:Pos} {e:Expr} {es:List Expr} {t:TA}
def rLenS (K:PySem.W.Frag):List V->Hp->VK->Prop:=fun vs H Q=>match vs with
 | [.ref a]=>∃ ys,SqL K H a ys/\Q (.int (ys.length:Nat)) H
 | _=>False
theorem fn_lenS {mg':Str->Option Value} (hm:mg' "len" = none) (hX:X.mg=mg') (ha:PA X (e :: es) t) (hg:gB X "len" = true:=by kernel_rfl) (he:starEach (e :: es) X.env=(false,eval e X.env) :: starEach es X.env:=by kernel_rfl) (hpl:(backTo pos (starEach es X.env)).any (·.1)=false:=by kernel_rfl) :
  PE X (.Call (.Name "len" p) (e :: es) [] pos) (tCB (rLenS X.K) t):=pe_callB (call_len_seq.of fun xs H Q q=>by
   unfold rLenS at q
   split at q
   ·obtain ⟨ys,h,q⟩:=q
    exact ⟨_,ys,rfl,.inl h,q⟩
   ·exact q.elim) (gl_of hg) (by rw [hX];exact hm) PySem.boot_len ha (he:=he) (hpl:=hpl)
def rIxS' (K:PySem.W.Frag):R2:=fun x y H Q=>match x,y with
 | .ref a,.int i=>∃ ys v,SqL K H a ys/\atI ys i=some v/\Q v H
 | _,_=>False
theorem ix_atS {a b:Expr} {ta tb:TE} (ha:PE X a ta) (hb:PE X b tb) (hs:∀ o i,subscripted b false o i=operate [o,i] (getItem o i):=by intro _ _;kernel_rfl):PE X (.Subscript a b pos) (tOp (rIxS' X.K) ta tb):=
 pe_ix (fun value slice pins s σ H x y v u Q I rx ry q hs=>ix_list value slice pins s σ H x y v u Q I rx ry (by
  unfold rIxS' at q
  split at q
  ·obtain ⟨ys,z,h1,h2,q⟩:=q
   exact ⟨_,ys,_,z,rfl,rfl,h1,h2,q⟩
  ·exact q.elim) hs) ha hb hs
end
theorem SqL.same {K:PySem.W.Frag} {H H':Hp} {a:Addr} {xs:List V} (h:SqL K H a xs) (s:Same H H'):SqL K H' a xs:=s.seq h
theorem Deck.own {F:Addr->Prop} {H:Hp} {a p:Addr} {o:HO} (h:Deck F H a) (hp:¬ F p):Deck F (upd H p o) a:=by
 obtain ⟨q,qs,n,h1,h2,h3,h4,h5,h6⟩:=h.ex
 refine ⟨q,qs,n,?_,?_,h3,h4,fun x hx=>?_,h6⟩
 ·rw [upd_ne (fun z=>hp ((h6 p).mpr (.inl z.symm)))];exact h1
 ·rw [upd_ne (fun z=>hp ((h6 p).mpr (.inr (.inl z.symm))))];exact h2
 ·obtain ⟨c,f,m,e⟩:=h5 x hx
  have np:x≠p:=fun z=>hp ((h6 p).mpr (.inr (.inr (by rw [<-z];exact hx))))
  exact ⟨c,f,m,by rw [upd_ne np];exact e⟩
end L2
end
section
namespace L2
open PySem PySem.Spec PyProof.Rows
theorem seq_by {t u:TS} {D:Ends} {σ:St} {H:Hp} (M:St->Hp->Prop) (fin:∀ σ' H',M σ' H'->u D σ' H') (h:(∀ σ' H',M σ' H'->u D σ' H')->t { D with nx:=u D } σ H):tSeq t u D σ H:=h fin
def WS (ws:List (List Bool)):HO:=.lst (ws.map fun w=>V.str (bs w))
theorem ws_len {ws:List (List Bool)}:(ws.map fun w=>V.str (bs w)).length=ws.length:=by simp
theorem lay_all:∀ {ds:List PyData},(∀ d∈ds,d.canLay0=true)->PyData.canLayAll0 ds=true
 | [],_=>rfl
 | d :: ds,h=>by rw [PyData.canLayAll0,h d List.mem_cons_self,lay_all fun x hx=>h x (List.mem_cons_of_mem _ hx)];rfl
theorem depth_all {k:Nat}:∀ {ds:List PyData},(∀ d∈ds,d.depth<=k)->PyData.depthAll ds<=k
 | [],_=>Nat.zero_le _
 | d :: ds,h=>by
  rw [PyData.depthAll]
  exact Nat.max_le.mpr ⟨h d List.mem_cons_self,depth_all fun x hx=>h x (List.mem_cons_of_mem _ hx)⟩
theorem shaped_list {k:Nat} {ds:List PyData} (h1:∀ d∈ds,d.canLay0=true) (h2:∀ d∈ds,d.depth<=k) (hk:k < 64):SeqAt.shaped (.list ds)=true:=by
 unfold SeqAt.shaped
 rw [Bool.and_eq_true]
 refine ⟨by rw [PyData.canLay0];exact lay_all h1,decide_eq_true ?_⟩
 have:=depth_all h2
 rw [PyData.depth]
 omega
end L2
namespace L2
open PySem PySem.Spec PyProof.Rows
end L2
end
section
namespace L2
open PySem PySem.Spec PyProof.Rows
structure Sub (F:Addr->Prop) (st:Addr) (G H:Hp):Prop where
 s:Same G H
 n:G st=none
 f:∀ b,F b->G b=none
theorem ne_F {F:Addr->Prop} {b p:Addr} (hb:F b) (hp:¬ F p):b≠p:=fun z=>hp (by rw [<-z];exact hb)
section
variable {F:Addr->Prop} {st p:Addr} {G H H':Hp} {o:HO}
theorem Sub.off (h:Sub F st G H) (k:Off F H H'):Sub F st G H':=⟨fun b u e=>k b u (h.s b u e) (fun z=>by rw [h.f b z] at e;cases e),h.n,h.f⟩
theorem Sub.more (h:Sub F st G H) (hp:H p=none):Sub F st G (upd H p o):=⟨h.s.trans (Same.upd hp),h.n,h.f⟩
theorem Sub.write (h:Sub F st G H):Sub F st G (upd H st o):=⟨fun b u e=>by rw [upd_ne (ne_of_none e h.n)];exact h.s b u e,h.n,h.f⟩
theorem Sub.new (h:Sub F st G H) (hp:H p=none) (hst:st≠p) (hF:¬ F p):Sub F st (upd G p o) (upd H p o):=by
 refine ⟨fun b u e=>?_,by rw [upd_ne hst];exact h.n,fun b hb=>by rw [upd_ne (ne_F hb hF)];exact h.f b hb⟩
 by_cases hb:b=p
 ·subst hb
  rw [upd_same] at e ⊢
  exact e
 ·rw [upd_ne hb] at e ⊢
  exact h.s b u e
theorem Sub.free (h:Sub F st G H) (hp:H p=none):G p=none:=h.s.free hp
theorem Off.free (h:Off F H H') {a:Addr} (d:Deck F H' a) (hp:H' p=none):H p=none:=by
 cases e:H p with
 | none=>rfl
 | some u=>
  by_cases hf:F p
  ·obtain ⟨o',e'⟩:=d.there hf
   rw [hp] at e';cases e'
  ·rw [h _ _ e hf] at hp;cases hp
end
end L2
end
section
namespace L2
open PySem PySem.Spec PyProof.Rows
theorem DVs.of_get {H:Hp}:∀ {xs:List V} {ds:List PyData},xs.length=ds.length->(∀ (i:Nat) (d:PyData),ds[i]? = some d->∃ x,xs[i]? = some x/\DV H x d)->DVs H xs ds
 | [],[],_,_=>.nil
 | [],_ :: _,h,_=>by simp at h
 | _ :: _,[],h,_=>by simp at h
 | x :: xs,d :: ds,h,k=>by
  obtain ⟨x',e,hd⟩:=k 0 d rfl
  have:x=x':=Option.some.inj e
  subst this
  exact .cons hd (DVs.of_get (by simpa using h) fun i d' h'=>by
   obtain ⟨y,e1,e2⟩:=k (i+1) d' (by simpa using h')
   exact ⟨y,by simpa using e1,e2⟩)
def gTupN (n:Nat) (t:TGs):TG:=fun v σ H Q=>match v with
 | .ref a=>∃ xs,(H a=some (.tup xs)\/H a=some (.lst xs))/\xs.length=n/\t xs σ H Q
 | _=>False
theorem g_tupN {X:Cx} {pos:Pos} {es:List Expr} {k:Nat} {t:TGs} (h:PGs X es t) (hc:X.calm=true:=by kernel_rfl)
  (hst:(assignEach es X.env).findIdx? (·.1)=none:=by kernel_rfl) (hn:(assignEach es X.env).length=es.length:=by kernel_rfl):PG X (.Tuple es k pos) (gTupN es.length t):=by
 intro pins s σ H v u Q I r hw
 exact g_tupL h hc hst pins s σ H v u Q I r (by
  unfold gTupN at hw
  unfold gTupL
  split at hw
  ·exact hn ▸ hw
  ·exact hw.elim)
end L2
namespace Om
section
variable {ord:List Nat} {rows:Rows} {k n:Nat}
end
end Om
end
section
namespace L2
open PySem PySem.Spec PyProof.Rows
def tupD (w:List Bool) (s:Nat):PyData:=.tuple [.str (bs w),.int (s:Nat)]
theorem tupD_lay (w:List Bool) (s:Nat):(tupD w s).canLay0=true:=by
 unfold tupD
 rw [PyData.canLay0]
 refine lay_all fun d hd=>?_
 rcases List.mem_cons.mp hd with rfl | hd
 ·exact bs_ok w
 ·rw [List.mem_singleton.mp hd];rfl
theorem Deck.not_tup {F:Addr->Prop} {H:Hp} {a b:Addr} {xs:List V} (h:Deck F H a) (hb:H b=some (.tup xs)):¬ F b:=fun z=>by
 obtain ⟨p,qs,n,h1,h2,h3,h4,h5,h6⟩:=h.ex
 rcases (h6 b).mp z with rfl | rfl | z
 ·rw [h1] at hb;cases hb
 ·rw [h2] at hb;cases hb
 ·obtain ⟨c,f,m,e⟩:=h5 b z
  rw [e] at hb;cases hb
end L2
end
section
namespace L2
open PySem PySem.Spec PyProof.Rows
section
variable {X:Cx} {pins:List (Addr×Obj)} {σ:List (Option V)} {H:Hp} {s:Shared} {h':Heap}
theorem Inv.turnedL {t':Nat} {ch:List Addr} (I:Inv X pins σ H s) (hch:∀ b∈ch,FpOk X pins H b) (k:∀ b o,b ∉ ch->s.heap.get? b=some o->h'.get? b=some o):Inv X pins σ H { s with heap:=h',toks:=t' }:=by
 have nit:∀ b u,H b=some u->b ∉ ch:=fun b u e z=>by rw [(hch b z).1] at e;cases e
 refine I.step (g':=s.gens) (d':=s.drawn) (ch:=ch) (fun b hb=>?_) (fun b o _ _ hc e _=>k b o hc e) (fun b o _ _ hc e _=>⟨o.slots,k b o hc e⟩) (fun _ _ _ _ n=>n)
  (fun b o hc e=>⟨o,k b o hc e⟩) (fun _ _ e=>e) (fun _ _ _ e=>e) (fun b ps e=>⟨#[],by rw [e];simp⟩) (fun m hm=>?_) (fun b u e=>?_) I.bare
 ·obtain ⟨_,q1,_,q3,q4,q5⟩:=hch b hb
  exact ⟨q3,q1,q4,q5⟩
 ·obtain ⟨o,es,ep,ho,r⟩:=hm
  exact ⟨o,es,ep,k _ o (fun z=>(hch _ z).2.1 rfl) ho,r⟩
 ·refine (I.hok b u e).stay (fun c v hc q=>k c v ?_ q) (fun _ q=>q) fun _ _ q=>q
  rcases hc with z | z
  ·rw [z];exact nit b u e
  ·exact nit c _ z
theorem Inv.turnLaid {t':Nat} {ch:List Addr} {a:Addr} {o':HO} (I:Inv X pins σ H s) (hch:∀ b∈ch,FpOk X pins H b) (k:∀ b o,b ∉ ch->s.heap.get? b=some o->h'.get? b=some o)
  (hp:s.heap.objs.size<=a) (new:ObjOk X.prog X.w (upd H a o') h' a o'):Inv X pins σ (upd H a o') { s with heap:=h',toks:=t' }:=by
 have nit:∀ b u,H b=some u->b ∉ ch:=fun b u e z=>by rw [(hch b z).1] at e;cases e
 have ha:H a=none:=I.hok.fresh hp
 have na:∀ b o,s.heap.get? b=some o->b≠a:=fun b o e z=>absurd (Nat.lt_of_lt_of_le (Heap.lt_size e) hp) (by rw [z];exact Nat.lt_irrefl _)
 refine I.step (g':=s.gens) (d':=s.drawn) (ch:=ch) (fun b hb=>?_) (fun b o _ _ hc e _=>k b o hc e) (fun b o _ _ hc e _=>⟨o.slots,k b o hc e⟩) (fun b o _ e n=>by rw [upd_ne (na b o e)];exact n)
  (fun b o hc e=>⟨o,k b o hc e⟩) (fun b xs e=>by rw [upd_ne (ne_of_none e ha)];exact e) (fun b o u e=>by rw [upd_ne (ne_of_none e ha)];exact e) (fun b ps e=>⟨#[],by rw [upd_ne (ne_of_none e ha),e];simp⟩) (fun m hm=>?_) (fun b u e=>?_) I.bare
 ·obtain ⟨_,q1,_,q3,q4,q5⟩:=hch b hb
  exact ⟨q3,q1,q4,q5⟩
 ·obtain ⟨o,es,ep,ho,r⟩:=hm
  exact ⟨o,es,ep,k _ o (fun z=>(hch _ z).2.1 rfl) ho,r⟩
 ·by_cases hb:b=a
  ·subst hb
   rw [upd_same] at e
   cases e
   exact new
  ·rw [upd_ne hb] at e
   refine (I.hok b u e).stay (fun c v hc q=>k c v ?_ q) (fun c q=>by rw [upd_ne (ne_of_none q ha)];exact q) fun c xs q=>by rw [upd_ne (ne_of_none q ha)];exact q
   rcases hc with z | z
   ·rw [z];exact nit b u e
   ·exact nit c _ z
end
def Ite (K:PySem.W.Frag) (a:Addr):It:=
 ⟨fun i H=>∃ xs x,SqL K H a xs/\xs[i]? = some x,fun i H x H'=>∃ t y,(∀ xs,SqL K H a xs->xs[i]? = some y)/\H t=none/\x = .ref t/\H'=upd H t (.tup [.int (i:Nat),y]),fun i H=>∃ xs,SqL K H a xs/\xs.length<=i⟩
theorem turn_enum {P:Program} {w:World} {K:PySem.W.Frag} {es:List Expr} {k:Nat} {pos:Pos} (a it e:Addr) (hne:e≠it):Turn P w K (.Tuple es k pos) (Ite K a) [e,it] e (fun i h=>(∃ old,IsEnum h e it (i:Nat) old)/\h.IsListIter it a i) where
 mem:=by simp
 obj:=fun i h st b hb=>by
  obtain ⟨⟨old,he⟩,o,ho,c,d⟩:=st
  have hb':b=e\/b=it:=by simpa using hb
  rcases hb' with rfl | rfl
  ·exact ⟨_,he,fun v z=>by cases z⟩
  ·exact ⟨o,ho,fun v z=>by rw [d] at z;cases z⟩
 keep:=fun i h h' st k=>⟨let ⟨old,he⟩:=st.1;⟨old,k e (by simp) _ he⟩,st.2.at fun o e=>k it (by simp) o e⟩
 item:=by
  intro X hP hw hK hc i pins s σ H E I hf st hg
  subst hP hw hK
  obtain ⟨xs,x,hq,hx⟩:=hg
  obtain ⟨its,rv,p,hz⟩:=I.list hq
  obtain ⟨u,hu,ru⟩:=rv.get hx
  obtain ⟨⟨old,he⟩,hit⟩:=st
  have helt:e < s.heap.objs.size:=Heap.lt_size he
  have hilt:it < s.heap.objs.size:=by obtain ⟨_,x,_⟩:=hit;exact Heap.lt_size x
  have fT:=I.fresh
  refine wpAny_pyNext_enum_item he hit p.isList (x:=u) (by simpa using hu) hne fun h' ho hit' hT hsz hk=>⟨_,rfl,?_⟩
  refine wpAny_letOwnedTupleGo_enum ho fun h2 he2 hs2=>?_
  have hs2:Heap.SameBut e h' h2:=hs2
  have up:∀ b o,b ∉ [e,it]->s.heap.get? b=some o->h2.get? b=some o:=fun b o hb ee=>by
   have h1:b≠e:=fun z=>hb (by simp [z])
   have h2':b≠it:=fun z=>hb (by simp [z])
   exact (hs2.2 b h1).trans (hk b o h1 h2' ee)
  have hT2:h2.get? s.heap.objs.size=some { cls:=.type "tuple",data:=.seq #[.int (i:Nat) s.toks,u] }:=(hs2.2 _ (Nat.ne_of_gt helt)).trans hT
  refine ⟨.ref s.heap.objs.size,upd H s.heap.objs.size (.tup [.int (i:Nat),x]),?_,rfl,⟨_,x,fun ys hy=>by rw [I.list_inj hy hq];exact hx,fT,rfl,rfl⟩,⟨⟨_,by simpa using he2⟩,hit'.at fun o y=>(hs2.2 it hne.symm).trans y⟩,fun b hb=>?_⟩
  ·exact I.turnLaid (t':=s.toks+1) hf up (Nat.le_refl _) ⟨Nat.le_of_ble_eq_true rfl,[.int (i:Nat) s.toks,u],.cons ⟨_,rfl⟩ (.cons ru .nil),⟨_,hT2,rfl,0,rfl⟩⟩
  ·have hb':b=e\/b=it:=by simpa using hb
   rcases hb' with rfl | rfl
   ·rw [upd_ne (Nat.ne_of_lt helt)];exact (hf _ hb).1
   ·rw [upd_ne (Nat.ne_of_lt hilt)];exact (hf _ hb).1
 done:=by
  intro X hP hw hK hc i pins s σ H E I hf st hg
  subst hP hw hK
  obtain ⟨xs,hq,hx⟩:=hg
  obtain ⟨its,rv,p,hz⟩:=I.list hq
  have hl:=rv.length
  obtain ⟨⟨old,he⟩,hit⟩:=st
  exact wpAny_pyNext_enum_end (I.ok.hd hc) he hit p.isList (by simp;omega) fun h' eb=>⟨rfl,I.turnedL (t':=s.toks) hf fun b o hb e'=>eb b o (fun z=>hb (by simp [z])) e'⟩
 self:=fun _ _ _ _ _ st h=>let ⟨_,he⟩:=st.1;wpAny_pyIter_enum he h
section
variable {X:Cx} {p pos tpos:Pos} {a b:Expr} {es:List Expr} {tk:Nat}
def iEnum (K:PySem.W.Frag) (ta:TA):TI:=fun σ H R=>ta σ H fun vs H1=>match vs with
 | [.ref l]=>(∃ xs,SqL K H1 l xs)/\R (Ite K l) H1
 | _=>False
theorem it_enum {ta:TA} {mg':Str->Option Value} (hm:mg' "enumerate" = none) (hX:X.mg=mg') (ha:PA X [a] ta) (hg:gB X "enumerate" = true:=by kernel_rfl) (hs:starEach [a] X.env=[(false,eval a X.env)]:=by kernel_rfl) :
  PI X (.Tuple es tk tpos) (.Call (.Name "enumerate" p) [a] [] pos) (iEnum X.K ta):=by
 intro pins s σ H R I h
 refine Call_ (ld_blt I (gl_of hg) (by rw [hX];exact hm) boot_enumerate (PyProof.Rows.callWith_type1 (thn (ha pos pins s σ H _ I h) fun us s1 ⟨vs,H1,I1,r1,q1⟩=>?_) hs rfl))
 dsimp only at q1
 split at q1
 ·rename_i l
  obtain ⟨⟨xs,hq⟩,q⟩:=q1
  obtain ⟨u,rfl,r⟩:=vals1 r1
  cases r
  obtain ⟨its,rv,pl,hz⟩:=I1.list hq
  refine call_enumerate_list pl.isList fun h' hE hI hsz hk=>wpAny_pyIter_enum hE ?_
  refine ⟨s1.heap.objs.size+1,[s1.heap.objs.size+1,s1.heap.objs.size],_,_,H1,rfl,I1.kept (t':=s1.toks) hk,turn_enum l s1.heap.objs.size (s1.heap.objs.size+1) (Nat.succ_ne_self _),⟨⟨_,hE⟩,hI⟩,fun c hc=>?_,q⟩
  have hb':c=s1.heap.objs.size+1\/c=s1.heap.objs.size:=by simpa using hc
  have hle:s1.heap.objs.size<=c:=by rcases hb' with rfl | rfl<;>first | exact Nat.le_refl _ | exact Nat.le_add_right _ _
  exact I1.fpOk hle (I1.hok.fresh hle)
 ·exact q1.elim
structure ItPr (J:It) (n:Nat) (row:Nat->List V) (ok:Hp->Prop):Prop where
 stop:∀ H,ok H->J.stop n H
 go:∀ i H,ok H->i < n->J.go i H
 yld:∀ i H x H',ok H->i < n->J.yld i H x H'->∃ t,H t=none/\x = .ref t/\H'=upd H t (.tup (row i))
theorem for_pr {J:It} {n:Nat} {row:Nat->List V} {ok:Hp->Prop} {g:TG} {tb:TS} {D:Ends} {σ:St} {H:Hp} (IO:ItPr J n row ok) (Pv:Nat->St->Hp->Prop) (h0:Pv 0 σ H) (hl:∀ i σ H,i<=n->Pv i σ H->ok H)
  (hs:∀ i t σ H,i < n->Pv i σ H->H t=none->g (.ref t) σ (upd H t (.tup (row i))) fun σ2 H2=>tb { D with nx:=Pv (i+1),ct:=Pv (i+1),bk:=D.nx } σ2 H2) (hd:∀ σ H,Pv n σ H->D.nx σ H) :
  ∃ W:Nat->Nat->St->Hp->Prop,(∃ m,W 0 m σ H)/\∀ i m σ H,W i m σ H →
   (J.stop i H/\D.nx σ H)\/(J.go i H/\∃ N:St->Hp->Prop,(∀ σ' H',N σ' H'->∃ m',m' < m/\W (i+1) m' σ' H')/\∀ x H',J.yld i H x H'->g x σ H' fun σ2 H2=>tb { D with nx:=N,ct:=N,bk:=D.nx } σ2 H2):=by
 refine ⟨fun i m σ H=>m=n - i/\i<=n/\Pv i σ H,⟨n,by simp,Nat.zero_le _,h0⟩,?_⟩
 rintro i m σ H ⟨rfl,hi,p⟩
 have q:=hl i σ H hi p
 by_cases hlt:i < n
 ·refine .inr ⟨IO.go i H q hlt,Pv (i+1),fun σ' H' p'=>⟨n - (i+1),by omega,rfl,hlt,p'⟩,fun x H' y=>?_⟩
  obtain ⟨t,ht,rfl,rfl⟩:=IO.yld i H x H' q hlt y
  exact hs i t σ _ hlt p ht
 ·have e:i=n:=by omega
  subst e
  exact .inl ⟨IO.stop H q,hd σ H p⟩
theorem it_enumP (K:PySem.W.Frag) (a:Addr) (xs:List V):ItPr (Ite K a) xs.length (fun i=>[.int (i:Nat),xs.getD i .non]) fun H=>H a=some (.lst xs):=
 ⟨fun H h=>⟨xs,SqL.of h,Nat.le_refl _⟩,fun i H h hi=>⟨xs,xs[i],SqL.of h,by simp [hi]⟩,fun i H x H' h hi y=>by
  obtain ⟨t,y',hq,ht,e1,e2⟩:=y
  have hy:=hq xs (SqL.of h)
  have e3:xs.getD i .non=y':=by rw [List.getD_eq_getElem?_getD,hy];rfl
  exact ⟨t,ht,e1,by rw [e2,e3]⟩⟩
end
end L2
end
section
namespace L2
open PySem PySem.Spec PyProof.Rows
section
variable {X:Cx} {a b c d e o:Expr} {es:List Expr} {pos apos:Pos} {ta tb tc td te to:TE}
def tChainT (r r':R2) (ta tb tc:TE):TT:=fun σ H Q=>ta σ H fun x H1=>tb σ H1 fun y H2=>r x y H2 fun z H3=>match z with
 | .bl k=>if k=true then tc σ H3 fun w' H4=>r' y w' H4 fun z' H5=>match z' with
   | .bl k'=>Q k' H5
   | _=>False
  else Q false H3
 | _=>False
def rIsU:R2:=fun x y H Q=>match y with
 | .non=>Q (.bl (decide (x = .non))) H
 | .bl b=>match x with
  | .bl a=>Q (.bl (a == b)) H
  | _=>False
 | _=>False
theorem op_isU:OpR X (compareOp .Is) rIsU:=(op_isN.or op_isB).of fun x y H Q q=>by
 unfold rIsU at q
 split at q
 ·exact .inl ⟨rfl,q⟩
 ·split at q
  ·exact .inr q
  ·exact q.elim
 ·exact q.elim
def rIsNotU:R2:=fun x y H Q=>match y with
 | .non=>Q (.bl (!decide (x = .non))) H
 | _=>False
theorem op_isNotU:OpR X (compareOp .IsNot) rIsNotU:=op_notN.of fun x y H Q q=>by
 unfold rIsNotU at q
 split at q
 ·exact ⟨rfl,q⟩
 ·exact q.elim
end
section
variable {H H' G:Hp} {a p:Addr} {o:HO}
theorem Same.own (h:Same G H) (hG:G p=none):Same G (L2.upd H p o):=fun b u e=>by rw [upd_ne (ne_of_none e hG)];exact h b u e
end
end L2
end
section
namespace L2
open PySem PySem.Spec PyProof.Rows
section
variable {G H0 H H':Hp} {a p:Addr} {o:HO}
end
end L2
end
section
namespace L2
open PySem PySem.Spec PyProof.Rows
def pairD (x:Nat×Nat):PyData:=.tuple [.int (x.1:Nat),.int (x.2:Nat)]
theorem pairD_lay (x:Nat×Nat):(pairD x).canLay0=true:=rfl
theorem pairD_depth (x:Nat×Nat):(pairD x).depth<=1:=by
 rw [pairD,PyData.depth]
 have:=depth_all (k:=0) (ds:=[.int (x.1:Nat),.int (x.2:Nat)]) (fun d hd=>by
  rcases List.mem_cons.mp hd with rfl | hd
  ·exact Nat.le_refl _
  ·rw [List.mem_singleton.mp hd];exact Nat.le_refl _)
 omega
theorem pairD_shaped (x:Nat×Nat):SeqAt.shaped (pairD x)=true:=by
 unfold SeqAt.shaped
 rw [Bool.and_eq_true]
 exact ⟨pairD_lay x,decide_eq_true (by have:=pairD_depth x;omega)⟩
theorem DVs.take {H:Hp}:∀ {xs:List V} {ds:List PyData} (n:Nat),DVs H xs ds->DVs H (xs.take n) (ds.take n)
 | _,_,0,_=>.nil
 | _,_,_+1,.nil=>.nil
 | _,_,n+1,.cons h r=>.cons h (DVs.take n r)
section
variable {G H0 H:Hp} {L p:Addr} {vs:List V} {o:HO}
end
end L2
end
section
namespace L2
open PySem PySem.Spec PyProof.Rows
theorem DVs.imp {H H':Hp}:∀ {xs:List V} {ds:List PyData},(∀ x d,d∈ds->DV H x d->DV H' x d)->DVs H xs ds->DVs H' xs ds
 | _,_,_,.nil=>.nil
 | _,_,f,.cons h r=>.cons (f _ _ List.mem_cons_self h) (DVs.imp (fun x d hd=>f x d (List.mem_cons_of_mem _ hd)) r)
section
variable {H H':Hp} {a l:Addr}
end
section
variable {G H H2 H3:Hp} {a T U L p:Addr} {xs ys:List Int} {vs:List V} {ps:List (Nat×Nat)} {m:Nat} {o:HO}
end
end L2
end
section
namespace Om
end Om
namespace L2
open PySem PySem.Spec PyProof.Rows
end L2
end
section
namespace L2
open PySem PySem.Spec PyProof.Rows
theorem rowD_lay (r:List Bool×Nat):(rowD r).canLay0=true:=tupD_lay r.1 r.2
theorem rowD_depth (r:List Bool×Nat):(rowD r).depth<=1:=by
 rw [rowD,PyData.depth]
 have:=depth_all (k:=0) (ds:=[.str (bs r.1),.int (r.2:Nat)]) (fun d hd=>by
  rcases List.mem_cons.mp hd with rfl | hd
  ·exact Nat.le_refl _
  ·rw [List.mem_singleton.mp hd];exact Nat.le_refl _)
 omega
section
variable {G H0 H:Hp} {p:Addr}
end
section
variable {G H H':Hp} {a T U p:Addr} {xs ys:List Int} {m:Nat} {o:HO}
end
end L2
end
section
namespace L2
open PySem
def DefIn (K:PySem.W.Frag) (x:Str) (st:Stmt):Prop:=∃ (f:Addr) (oc:Value) (od an:Option Addr) (osl:Array (Option Value)) (kV dc pm cd ct:Value),PySem.W.nsIn K mainGlobals x=some (some (.ref f)) ∧
 K.lookup f=some ⟨oc,od,.func (PySem.W.fnOf x x (defArgs st) (defBody st) (defScope st) .none kV dc pm an cd ct),osl⟩/\PySem.W.codeIn K cd x=true/\PySem.W.keepIn K (.ref f)=true
theorem DefIn.mk {K:PySem.W.Frag} {x:Str} {st:Stmt} {f:Addr} {oc:Value} {od an:Option Addr} {osl:Array (Option Value)} {kV dc pm cd ct:Value} (a:PySem.W.nsIn K mainGlobals x=some (some (.ref f)))
  (l:K.lookup f=some ⟨oc,od,.func (PySem.W.fnOf x x (defArgs st) (defBody st) (defScope st) .none kV dc pm an cd ct),osl⟩) (c:PySem.W.codeIn K cd x=true) (k:PySem.W.keepIn K (.ref f)=true):DefIn K x st:=⟨f,oc,od,an,osl,kV,dc,pm,cd,ct,a,l,c,k⟩
theorem DefIn.fnX {K:PySem.W.Frag} {h:Heap} {mg:Str->Option Value} {x:Str} {st:Stmt} {ps:List Str} (D:DefIn K x st) (X:K.In h) (G:h.Ns mainGlobals mg)
  (hb:∀ (kV doc pm:Value) (an:Option Addr) (cdv ct:Value) (us:List Value),us.length=ps.length->bindArgs (PySem.W.fnOf x x (defArgs st) (defBody st) (defScope st) .none kV doc pm an cdv ct) ⟨us,[]⟩=pure (ps.zip us)):FnX K mg x st ps:=by
 obtain ⟨f,oc,od,an,osl,kV,dc,pm,cd,ct,h1,h2,h3,h4⟩:=D
 have F:=fun_mk (st:=st) h2 h3 h4
 exact ⟨f,_,F,PySem.W.mg_of X G h1,F.binds hb⟩
end L2
end
section
namespace L2
open PySem PySem.Spec PyProof.Rows
def strI (i:Int):Str:=Str.ofString (toString i)
section
variable {X:Cx} {p pos:Pos} {e:Expr} {es:List Expr} {t:TA}
def rStrOf:List V->Hp->VK->Prop:=fun vs H Q=>match vs with
 | [.int i]=>i.natAbs.log2 < 1920/\Q (.str (strI i)) H
 | _=>False
theorem vals_intsA:∀ {ns:List Int} {us:List Value},Vals (ns.map V.int) us->IntsAre us ns
 | [],us,r=>by cases r;exact .nil
 | n :: ns,us,r=>by
  cases r with
  | cons r1 r2=>
   obtain ⟨t,rfl⟩:=r1
   exact .cons n t (vals_intsA r2)
theorem ints_vals:∀ {us:List Value} {ns:List Int},IntsAre us ns->Vals (ns.map V.int) us
 | _,_,.nil=>.nil
 | _,_,.cons n t r=>.cons ⟨t,rfl⟩ (ints_vals r)
def rSorted:List V->Hp->VK->Prop:=fun vs H Q=>match vs with
 | [.ref p]=>∃ ns:List Int,H p=some (.lst (ns.map V.int))/\ns.length < 64/\∀ (l:Addr) (ns':List Int),H l=none->ns'.Perm ns->ns'.Pairwise (·<=·)->Q (.ref l) (upd H l (.lst (ns'.map V.int)))
 | _=>False
theorem call_sortedU:CallR X (.builtin "sorted") rSorted:=by
 intro pins s σ H xs us Q I r h
 unfold rSorted at h
 split at h
 ·rename_i p
  obtain ⟨ns,hH,hl,q⟩:=h
  obtain ⟨u,rfl,r1⟩:=vals1 r
  cases r1
  obtain ⟨z,its,n,rv,e⟩:=I.hok p _ hH
  have hI:=vals_intsA rv
  have hlen:its.length=ns.length:=by have:=rv.length;simpa using this.symm
  refine sorted_ints (vs:=its) ⟨_,e,rfl,_,rfl⟩ hI (by omega) fun out ns' a1 a2 a3=>?_
  obtain ⟨ep,he⟩:=sortedAll_at s.heap its out
  have hz:(ns'.map V.int).length<=sizeLine:=by rw [List.length_map,a2.length_eq];exact le_line (by omega)
  refine ⟨.ref (s.heap.objs.size+1),upd H (s.heap.objs.size+1) (.lst (ns'.map V.int)),I.laid (t':=s.toks) (fun b u hb=>sortedAll_old hb) (Nat.le_succ _) ⟨hz,out.toList,ep,ints_vals a1,?_⟩,rfl,q _ _ (I.hok.fresh (Nat.le_succ _)) a2 a3⟩
  exact he
 ·exact h.elim
end
end L2
end
section
namespace L2
open PySem PySem.Spec PyProof.Rows
end L2
end
section
namespace Om
structure Taps (most:Int) (ts:List Int):Prop where
 ne:1<=ts.length
 few:ts.length<=6
 up:ts.Pairwise (· < ·)
 lo:∀ t∈ts,1<=t
 hi:∀ t∈ts,t<=most
end Om
namespace L2
open PySem PySem.Spec PyProof.Rows
section
variable {F:Addr->Prop} {H0 H H':Hp} {a p:Addr} {ob:HO}
end
end L2
end
section
namespace L2
open PySem PySem.Spec PyProof.Rows
end L2
end
section
namespace Om
def bt (x:List Int) (i:Nat):Bool:=decide (x.getD i 0=1)
def par (ts:List Int) (f:Nat->Bool) (i:Nat):Bool:=ts.foldr (fun t acc=>xor (decide (0<=(i:Int) - t) && f ((i:Int) - t).toNat) acc) false
def put (x P:List Int):List Int:=(List.range x.length).map fun i=>(x.getD i 0+(if ((i:Nat):Int)∈P then 1 else 0)) % 2
section
variable {most:Int} {ts bits:List Int}
end
end Om
end
section
namespace Om
section
variable {most:Int} {ts bits:List Int}
theorem xor_or {a b:Bool} (h:¬ (a=true/\b=true)):xor a b=(a || b):=by cases a<;>cases b<;>simp_all
theorem rp (tk:Taps most ts) (c:Nat) (i:Nat):xor (decide (i=c)) (decide ((i:Int) - (c:Int)∈ts))=(decide (i=c) || decide ((i:Int) - (c:Int)∈ts)):=xor_or fun ⟨h1,h2⟩=>by
 have h1:=of_decide_eq_true h1
 have:=tk.lo _ (of_decide_eq_true h2)
 omega
end
end Om
namespace L2
open PySem PySem.Spec PyProof.Rows
theorem comp_pr {J:It} {D:Addr} {n:Nat} {row:Nat->List V} {ok:Hp->Prop} {g:TG} {tt:TT} {te:TE} {Q:Hp->Prop} {τ:St} {H:Hp} (IO:ItPr J n row ok) (Pv:Nat->St->Hp->List V->Prop) (hz:n<=sizeLine) (h0:Pv 0 τ H [])
  (hl:∀ i τ H ys,i<=n->Pv i τ H ys->ok H/\H D=some (.lst ys)/\ys.length<=i)
  (hs:∀ i t τ H ys,i < n->Pv i τ H ys->H t=none->g (.ref t) τ (upd H t (.tup (row i))) fun τ4 H4=>tt τ4 H4 fun b H5=>
   if b=true then te τ4 H5 fun y H6=>H6 D=some (.lst ys)/\Pv (i+1) τ4 (upd H6 D (.lst (ys++[y]))) (ys++[y]) else Pv (i+1) τ4 H5 ys)
  (hd:∀ τ H ys,Pv n τ H ys->Q H) :
  ∃ W:Nat->Nat->St->Hp->List V->Prop,(∃ m,W 0 m τ H [])/\∀ i m τ H2 ys,W i m τ H2 ys->H2 D=some (.lst ys) ∧
   ((J.stop i H2/\Q H2)\/(J.go i H2/\ys.length < sizeLine/\∃ N:St->Hp->List V->Prop,(∀ τ' H' ys',N τ' H' ys'->∃ m',m' < m/\W (i+1) m' τ' H' ys')/\∀ x H3,J.yld i H2 x H3->g x τ H3 fun τ4 H4=>tt τ4 H4 fun b H5=>
    if b=true then te τ4 H5 fun y H6=>H6 D=some (.lst ys)/\N τ4 (upd H6 D (.lst (ys++[y]))) (ys++[y])
    else N τ4 H5 ys)):=by
 refine ⟨fun i m τ H ys=>m=n - i/\i<=n/\Pv i τ H ys,⟨n,by simp,Nat.zero_le _,h0⟩,?_⟩
 rintro i m τ H ys ⟨rfl,hi,p⟩
 obtain ⟨q,hD,hy⟩:=hl i τ H ys hi p
 refine ⟨hD,?_⟩
 by_cases hlt:i < n
 ·refine .inr ⟨IO.go i H q hlt,by omega,Pv (i+1),fun τ' H' ys' p'=>⟨n - (i+1),by omega,rfl,hlt,p'⟩,fun x H' y=>?_⟩
  obtain ⟨t,ht,rfl,rfl⟩:=IO.yld i H x H' q hlt y
  exact hs i t τ _ ys hlt p ht
 ·have e:i=n:=by omega
  subst e
  exact .inl ⟨IO.stop H q,hd τ H ys p⟩
end L2
end
section
namespace L2
open PySem PySem.Spec PyProof.Rows
section
variable {κ:Type} [DecidableEq κ]
def valV (kvs:List (κ×V)) (k:κ):Option V:=(kvs.find? fun kv=>decide (kv.1=k)).map (·.2)
def putK (kvs:List (κ×V)) (k:κ) (v:V):List (κ×V):=
 if (kvs.any fun kv=>decide (kv.1=k))=true then kvs.map (fun kv=>if kv.1=k then (kv.1,v) else kv) else kvs++[(k,v)]
def dropK (kvs:List (κ×V)) (k:κ):List (κ×V):=kvs.filter fun kv=>decide (kv.1≠k)
theorem valV_pos {p:κ×V} {r:List (κ×V)} {k:κ} (e:p.1=k):valV (p :: r) k=some p.2:=by simp [valV,List.find?_cons,e]
theorem valV_neg {p:κ×V} {r:List (κ×V)} {k:κ} (e:¬ p.1=k):valV (p :: r) k=valV r k:=by simp [valV,List.find?_cons,e]
theorem valV_any (k:κ):∀ kvs:List (κ×V),(kvs.any fun kv=>decide (kv.1=k))=(valV kvs k).isSome
 | []=>rfl
 | p :: r=>by
  rw [List.any_cons]
  by_cases e:p.1=k
  ·simp only [valV_pos e,decide_eq_true e,Bool.true_or,Option.isSome_some]
  ·rw [valV_neg e,decide_eq_false e,Bool.false_or];exact valV_any k r
theorem valV_map (k j:κ) (y:V):∀ kvs:List (κ×V),valV (kvs.map fun kv=>if kv.1=k then (kv.1,y) else kv) j=(valV kvs j).map fun x=>if j=k then y else x
 | []=>rfl
 | p :: r=>by
  have ih:=valV_map k j y r
  rw [List.map_cons]
  by_cases h:p.1=k
  ·rw [if_pos h]
   by_cases e:p.1=j
   ·rw [valV_pos (p:=(p.1,y)) e,valV_pos e,Option.map_some,if_pos (e.symm.trans h)]
   ·rw [valV_neg (p:=(p.1,y)) e,valV_neg e,ih]
  ·rw [if_neg h]
   by_cases e:p.1=j
   ·rw [valV_pos (p:=p) e,valV_pos e,Option.map_some,if_neg (fun z=>h (e.trans z))]
   ·rw [valV_neg (p:=p) e,valV_neg e,ih]
theorem valV_snoc (k j:κ) (y:V):∀ kvs:List (κ×V),valV kvs k=none->valV (kvs++[(k,y)]) j=if j=k then some y else valV kvs j
 | [],_=>by
  by_cases e:k=j
  ·rw [if_pos e.symm];exact valV_pos (p:=(k,y)) e
  ·rw [if_neg (fun z=>e z.symm)];exact valV_neg (p:=(k,y)) e
 | p :: r,hn=>by
  rw [List.cons_append]
  have hk:¬ p.1=k:=fun z=>by rw [valV_pos z] at hn;cases hn
  rw [valV_neg hk] at hn
  have ih:=valV_snoc k j y r hn
  by_cases e:p.1=j
  ·rw [valV_pos e,valV_pos e,if_neg (fun z=>hk (e.trans z))]
  ·rw [valV_neg e,valV_neg e,ih]
theorem valV_put (kvs:List (κ×V)) (k j:κ) (y:V):valV (putK kvs k y) j=if j=k then some y else valV kvs j:=by
 unfold putK
 by_cases a:(kvs.any fun kv=>decide (kv.1=k))=true
 ·rw [if_pos a,valV_map]
  rw [valV_any] at a
  by_cases e:j=k
  ·obtain ⟨x,hx⟩:=Option.isSome_iff_exists.mp a
   rw [if_pos e,e,hx,Option.map_some,if_pos rfl]
  ·rw [if_neg e]
   cases valV kvs j with
   | none=>rfl
   | some x=>rw [Option.map_some,if_neg e]
 ·rw [if_neg a]
  refine valV_snoc k j y kvs ?_
  rw [valV_any] at a
  cases q:valV kvs k with
  | none=>rfl
  | some x=>rw [q] at a;exact (a rfl).elim
theorem length_putK (kvs:List (κ×V)) (k:κ) (v:V):(putK kvs k v).length<=kvs.length+1:=by
 unfold putK
 split
 ·rw [List.length_map];omega
 ·rw [List.length_append,List.length_cons,List.length_nil];omega
theorem putK_new {kvs:List (κ×V)} {k:κ} (v:V) (h:valV kvs k=none):putK kvs k v=kvs++[(k,v)]:=by
 unfold putK
 rw [valV_any,h]
 exact if_neg (by decide)
theorem RelO.isSome_eq {o:Option V} {u:Option Value} (r:RelO o u):o.isSome=u.isSome:=by
 cases o with
 | none=>cases u with
  | none=>rfl
  | some _=>exact (show False from r).elim
 | some _=>cases u with
  | none=>exact (show False from r).elim
  | some _=>rfl
theorem RelO.getD {o:Option V} {u:Option Value} {d:V} {d':Value} (r:RelO o u) (rd:RelV d d'):RelV (o.getD d) (u.getD d'):=by
 cases o with
 | none=>cases u with
  | none=>exact rd
  | some _=>exact (show False from r).elim
 | some _=>cases u with
  | none=>exact (show False from r).elim
  | some _=>exact r
theorem KV.val {kvs:List (κ×V)} {vs:List (κ×Value)} (r:KV kvs vs) (k:κ):RelO (valV kvs k) (valueAt vs k):=by
 unfold KV at r
 induction r with
 | nil=>exact True.intro
 | @cons p q ps qs h t ih=>
  obtain ⟨h1,h2⟩:=h
  by_cases e:p.1=k
  ·have e':q.1=k:=h1.symm.trans e
   have b:valueAt (q :: qs) k=some q.2:=by simp [valueAt,List.find?_cons,e']
   rw [valV_pos e,b];exact h2
  ·have e':¬ q.1=k:=fun z=>e (h1.trans z)
   have b:valueAt (q :: qs) k=valueAt qs k:=by simp [valueAt,List.find?_cons,e']
   rw [valV_neg e,b];exact ih
theorem KV.any {kvs:List (κ×V)} {vs:List (κ×Value)} (r:KV kvs vs) (k:κ):(kvs.any fun kv=>decide (kv.1=k))=vs.any fun kv=>decide (kv.1=k):=by
 unfold KV at r
 induction r with
 | nil=>rfl
 | cons h t ih=>rw [List.any_cons,List.any_cons,ih,h.1]
theorem KV.repl {kvs:List (κ×V)} {vs:List (κ×Value)} (r:KV kvs vs) (k:κ) {y:V} {u:Value} (ry:RelV y u) :
  KV (kvs.map fun kv=>if kv.1=k then (kv.1,y) else kv) (vs.map fun kv=>if kv.1=k then (kv.1,u) else kv):=by
 unfold KV at r ⊢
 induction r with
 | nil=>exact .nil
 | @cons p q ps qs h t ih=>
  rw [List.map_cons,List.map_cons]
  refine .cons ?_ ih
  obtain ⟨h1,h2⟩:=h
  by_cases e:p.1=k
  ·rw [if_pos e,if_pos (h1.symm.trans e)];exact ⟨h1,ry⟩
  ·rw [if_neg e,if_neg (fun z=>e (h1.trans z))];exact ⟨h1,h2⟩
theorem KV.put {kvs:List (κ×V)} {vs:List (κ×Value)} (r:KV kvs vs) (k:κ) {y:V} {u:Value} (ry:RelV y u):KV (putK kvs k y) (stored vs k u):=by
 unfold putK stored
 rw [r.any k]
 by_cases e:(vs.any fun kv=>decide (kv.1=k))=true
 ·rw [if_pos e,if_pos e];exact r.repl k ry
 ·rw [if_neg e,if_neg e];exact Paired.snoc r ⟨rfl,ry⟩
theorem KV.drop {kvs:List (κ×V)} {vs:List (κ×Value)} (r:KV kvs vs) (k:κ):KV (dropK kvs k) (without vs k):=by
 unfold KV at r ⊢
 unfold dropK without
 induction r with
 | nil=>exact .nil
 | @cons p q ps qs h t ih=>
  obtain ⟨h1,h2⟩:=h
  rw [List.filter_cons,List.filter_cons]
  by_cases e:p.1=k
  ·have a:¬ decide (p.1≠k)=true:=by simp [e]
   have b:¬ decide (q.1≠k)=true:=by simp [h1.symm.trans e]
   rw [if_neg a,if_neg b];exact ih
  ·have e':¬ q.1=k:=fun z=>e (h1.trans z)
   have a:decide (p.1≠k)=true:=by simp [e]
   have b:decide (q.1≠k)=true:=by simp [e']
   rw [if_pos a,if_pos b];exact .cons ⟨h1,h2⟩ ih
theorem KV.keys {kvs:List (κ×V)} {vs:List (κ×Value)} (r:KV kvs vs):kvs.map (·.1)=vs.map (·.1):=by
 unfold KV at r
 induction r with
 | nil=>rfl
 | cons h t ih=>rw [List.map_cons,List.map_cons,ih,h.1]
theorem KV.length {kvs:List (κ×V)} {vs:List (κ×Value)} (r:KV kvs vs):kvs.length=vs.length:=Paired.length r
end
theorem kV_is {P:Program} {w:World} {k:Key} {u:Value} (r:RelV (kV k) u):(mixKind P w).is k u=true:=by
 cases k with
 | inl i=>obtain ⟨t,e⟩:=(show ∃ t,u=Value.int i t from r);subst e;exact mixKind_int P w i t
 | inr x=>obtain ⟨t,e⟩:=(show ∃ t,u=Value.str x t from r);subst e;exact mixKind_str P w x t
theorem items_are {P:Program} {w:World}:∀ {ks:List Key} {us:List Value},Vals (ks.map kV) us->ItemsAre (mixKind P w) ks us
 | [],_,r=>by rw [List.map_nil] at r;cases r;exact .nil
 | k :: ks,_,r=>by
  rw [List.map_cons] at r
  cases r with
  | cons h t=>exact .cons (kV_is h) (items_are t)
abbrev KT (H:Hp):List (List Key×V)->List (List Key×Addr×Value)->Prop:=Paired fun p q=>p.1=q.1/\H q.2.1=some (.tup (p.1.map kV))/\RelV p.2 q.2.2
theorem KT.val {H:Hp} {kvs:List (List Key×V)} {xs:List (List Key×Addr×Value)} (r:KT H kvs xs) (k:List Key):RelO (valV kvs k) ((atKey xs k).map (·.2)):=by
 induction r with
 | nil=>exact True.intro
 | @cons p q ps qs h t ih=>
  obtain ⟨h1,_,h2⟩:=h
  by_cases e:p.1=k
  ·have e':q.1=k:=h1.symm.trans e
   have b:atKey (q :: qs) k=some q.2:=by simp [atKey,List.find?_cons,e']
   rw [valV_pos e,b];exact h2
  ·have e':¬ q.1=k:=fun z=>e (h1.trans z)
   have b:atKey (q :: qs) k=atKey qs k:=by simp [atKey,List.find?_cons,e']
   rw [valV_neg e,b];exact ih
theorem KT.repl {H:Hp} {kvs:List (List Key×V)} {xs:List (List Key×Addr×Value)} (r:KT H kvs xs) (k:List Key) {y:V} {u:Value} (ry:RelV y u) :
  KT H (kvs.map fun kv=>if kv.1=k then (kv.1,y) else kv) (xs.map (putAt k u)):=by
 induction r with
 | nil=>exact .nil
 | @cons p q ps qs h t ih=>
  rw [List.map_cons,List.map_cons]
  refine .cons ?_ ih
  obtain ⟨h1,h2,h3⟩:=h
  unfold putAt
  by_cases e:p.1=k
  ·rw [if_pos e,if_pos (h1.symm.trans e)];exact ⟨h1,h2,ry⟩
  ·rw [if_neg e,if_neg (fun z=>e (h1.trans z))];exact ⟨h1,h2,h3⟩
theorem KT.put {H:Hp} {kvs:List (List Key×V)} {xs:List (List Key×Addr×Value)} (r:KT H kvs xs) (k:List Key) {b:Addr} {y:V} {u:Value} (hb:H b=some (.tup (k.map kV))) (ry:RelV y u) :
  KT H (putK kvs k y) (storedH xs k b u):=by
 have e:(kvs.any fun kv=>decide (kv.1=k))=(atKey xs k).isSome:=by
  rw [valV_any,(r.val k).isSome_eq,Option.isSome_map]
 unfold putK storedH
 rw [e]
 by_cases q:(atKey xs k).isSome=true
 ·rw [if_pos q,if_pos q];exact r.repl k ry
 ·rw [if_neg q,if_neg q];exact Paired.snoc r ⟨rfl,hb,ry⟩
theorem KT.keeps {H H':Hp} {kvs:List (List Key×V)} {xs:List (List Key×Addr×Value)} (r:KT H kvs xs) (ht:∀ b ys,H b=some (.tup ys)->H' b=some (.tup ys)):KT H' kvs xs:=
 Paired.mapP r fun _ _ z=>⟨z.1,ht _ _ z.2.1,z.2.2⟩
section
variable {P:Program} {w:World} {H:Hp} {h:Heap} {a:Addr}
theorem rd_of {u:HO} (ok:HOk P w H h) (e:Rd H a u):ObjOk P w H h a u:=e.ok ok
theorem dk_rd {kvs:List (Key×V)} (ok:HOk P w H h) (e:Rd H a (.dK kvs)):kvs.length<=sizeLine/\(a == sysModules)=false/\∃ vs,KV kvs vs/\h.DictOf (mixKind P w) a vs:=
 show ObjOk P w H h a (.dK kvs) from rd_of ok e
theorem dk_of {kvs:List (Key×V)} (ok:HOk P w H h) (e:H a=some (.dK kvs)):kvs.length<=sizeLine/\(a == sysModules)=false/\∃ vs,KV kvs vs/\h.DictOf (mixKind P w) a vs:=dk_rd ok (.inl e)
theorem key_of {ks:List Key} (ok:HOk P w H h) (e:H a=some (.tup (ks.map kV))):(tupleKind (mixKind P w)).is h ks a:=by
 obtain ⟨_,its,r,o,h1,h2,n,h3⟩:=(show ObjOk P w H h a (.tup (ks.map kV)) from ok a _ e)
 exact ⟨o,its.toArray,n,h1,h2,h3,by simpa using items_are r⟩
theorem dt_rd {kvs:List (List Key×V)} (ok:HOk P w H h) (e:Rd H a (.dT kvs)):kvs.length<=sizeLine/\(a == sysModules)=false ∧
  ∃ xs,KT H kvs xs/\h.DictOfH (tupleKind (mixKind P w)) a xs:=by
 obtain ⟨z,y,xs,r,o,es,ep,h1,h2,h3,h4,h5⟩:=(show ObjOk P w H h a (.dT kvs) from rd_of ok e)
 refine ⟨z,y,xs,r,o,es,ep,h1,h2,h3,h4,fun x hx=>?_,h5⟩
 have all:∀ {l:List (List Key×V)} {m:List (List Key×Addr×Value)},KT H l m->∀ x∈m,(tupleKind (mixKind P w)).is h x.1 x.2.1:=by
  intro l m q
  induction q with
  | nil=>intro x hx;exact nomatch hx
  | @cons p q ps qs hq t ih=>
   intro x hx
   rcases List.mem_cons.mp hx with e | hx
   ·subst e
    exact key_of ok (by rw [<-hq.1];exact hq.2.1)
   ·exact ih x hx
 exact all r x hx
theorem dt_of {kvs:List (List Key×V)} (ok:HOk P w H h) (e:H a=some (.dT kvs)):kvs.length<=sizeLine/\(a == sysModules)=false ∧
  ∃ xs,KT H kvs xs/\h.DictOfH (tupleKind (mixKind P w)) a xs:=dt_rd ok (.inl e)
end
def DGet (H:Hp) (a:Addr) (y:V) (r:Option V):Prop:=
 (∃ kvs k,Rd H a (.dK kvs)/\y=kV k/\r=valV kvs k)\/∃ kvs k b,Rd H a (.dT kvs)/\y = .ref b/\H b=some (.tup (k.map kV))/\r=valV kvs k
def DPut (H:Hp) (a:Addr) (y v:V) (H':Hp):Prop:=
 (∃ kvs k,H a=some (.dK kvs)/\y=kV k/\kvs.length < sizeLine/\H'=upd H a (.dK (putK kvs k v))) ∨
 ∃ kvs k b,H a=some (.dT kvs)/\y = .ref b/\H b=some (.tup (k.map kV))/\kvs.length < sizeLine/\H'=upd H a (.dT (putK kvs k v))
theorem DGet.k {H:Hp} {a:Addr} {kvs:List (Key×V)} {k:Key} (e:H a=some (.dK kvs)):DGet H a (kV k) (valV kvs k):=.inl ⟨kvs,k,.inl e,rfl,rfl⟩
theorem DGet.t {H:Hp} {a b:Addr} {kvs:List (List Key×V)} {k:List Key} (e:H a=some (.dT kvs)) (eb:H b=some (.tup (k.map kV))):DGet H a (.ref b) (valV kvs k):=.inr ⟨kvs,k,b,.inl e,rfl,eb,rfl⟩
theorem DPut.k {H:Hp} {a:Addr} {kvs:List (Key×V)} {k:Key} {v:V} (e:H a=some (.dK kvs)) (hl:kvs.length < sizeLine):DPut H a (kV k) v (upd H a (.dK (putK kvs k v))):=.inl ⟨kvs,k,e,rfl,hl,rfl⟩
theorem DPut.t {H:Hp} {a b:Addr} {kvs:List (List Key×V)} {k:List Key} {v:V} (e:H a=some (.dT kvs)) (eb:H b=some (.tup (k.map kV))) (hl:kvs.length < sizeLine) :
  DPut H a (.ref b) v (upd H a (.dT (putK kvs k v))):=.inr ⟨kvs,k,b,e,rfl,eb,hl,rfl⟩
section
variable {X:Cx} {pins:List (Addr×Obj)} {σ:St} {H:Hp} {s:Shared} {a:Addr} {y v:V} {u r:Value} {o:Option V} {A:Around} {E:Value->Shared->Prop}
theorem Inv.big (I:Inv X pins σ H s):sysModules < s.heap.objs.size:=by
 have h:mainGlobals < s.heap.objs.size:=(I.mod.glob.keeps I.bk).lt
 exact Nat.lt_trans (by decide) h
theorem d_getItem {Q:Value->Shared->Prop} (hu:A.units+1 < cLine) (I:Inv X pins σ H s) (g:DGet H a y (some v)) (ry:RelV y u) (h:∀ w' s',Inv X pins σ H s'->RelV v w'->Q w' s') :
  wpAny (model X.prog X.w) A (getItem (.ref a) u) Q E s:=by
 rcases g with ⟨kvs,k,e,ey,l⟩ | ⟨kvs,k,b,e,ey,eb,l⟩
 ·subst ey
  obtain ⟨z,hd,vs,rel,dd⟩:=dk_rd I.hok e
  obtain ⟨w',hw,rw'⟩:=RelO.some_of (v:=v) (o:=valueAt vs k) (by rw [l];exact rel.val k)
  exact wpAny_getItem_of (kV_is ry) dd.mapOf hw (h w' _ (I.tok _) rw')
 ·subst ey
  cases (show u=Value.ref b from ry)
  obtain ⟨z,hd,xs,rel,dd⟩:=dt_rd I.hok e
  obtain ⟨w',hw,rw'⟩:=RelO.some_of (v:=v) (o:=(atKey xs k).map (·.2)) (by rw [l];exact rel.val k)
  obtain ⟨p,hp,hp2⟩:=Option.map_eq_some_iff.mp hw
  refine wpAny_getItem_heap (tupleKind_room_in1 hu) (key_of I.hok eb) dd hp ?_
  rw [hp2]
  exact h w' _ (I.tok _) rw'
theorem d_in {Q:Value->Shared->Prop} (hu:A.units+1 < cLine) (I:Inv X pins σ H s) (g:DGet H a y o) (ry:RelV y u) (h:∀ s',Inv X pins σ H s'->Q (.bool o.isSome) s') :
  wpAny (model X.prog X.w) A (compareOp .In u (.ref a)) Q E s:=by
 rcases g with ⟨kvs,k,e,ey,l⟩ | ⟨kvs,k,b,e,ey,eb,l⟩
 ·subst ey
  obtain ⟨z,hd,vs,rel,dd⟩:=dk_rd I.hok e
  refine wpAny_in_of (kV_is ry) hd dd.mapOf ?_
  rw [<-(rel.val k).isSome_eq,<-l]
  exact h _ (I.tok _)
 ·subst ey
  cases (show u=Value.ref b from ry)
  obtain ⟨z,hd,xs,rel,dd⟩:=dt_rd I.hok e
  refine wpAny_in_heap (tupleKind_room_in1 hu) (key_of I.hok eb) hd dd ?_
  have q:=(rel.val k).isSome_eq
  rw [Option.isSome_map] at q
  rw [<-q,<-l]
  exact h _ (I.tok _)
theorem d_notIn {Q:Value->Shared->Prop} (hu:A.units+1 < cLine) (I:Inv X pins σ H s) (g:DGet H a y o) (ry:RelV y u) (h:∀ s',Inv X pins σ H s'->Q (.bool (!o.isSome)) s') :
  wpAny (model X.prog X.w) A (compareOp .NotIn u (.ref a)) Q E s:=by
 rcases g with ⟨kvs,k,e,ey,l⟩ | ⟨kvs,k,b,e,ey,eb,l⟩
 ·subst ey
  obtain ⟨z,hd,vs,rel,dd⟩:=dk_rd I.hok e
  refine wpAny_notIn_of (kV_is ry) hd dd.mapOf ?_
  rw [<-(rel.val k).isSome_eq,<-l]
  exact h _ (I.tok _)
 ·subst ey
  cases (show u=Value.ref b from ry)
  obtain ⟨z,hd,xs,rel,dd⟩:=dt_rd I.hok e
  refine wpAny_notIn_heap (tupleKind_room_in1 hu) (key_of I.hok eb) hd dd ?_
  have q:=(rel.val k).isSome_eq
  rw [Option.isSome_map] at q
  rw [<-q,<-l]
  exact h _ (I.tok _)
theorem d_write {h':Heap} {t':Nat} {ob:HO} (I:Inv X pins σ H s) (mu:Mut (H a)) (hs:Heap.SameBut a s.heap h') (he:∃ q,h'.get? a=some q) (new:ObjOk X.prog X.w (upd H a ob) h' a ob) :
  Inv X pins σ (upd H a ob) { s with heap:=h',toks:=t' }:=
 I.write (x:=a) (e:=a) mu (.inl rfl) (fun b q hb z=>(hs.2 b hb).trans z) he new
theorem dk_new {P:Program} {w:World} {H':Hp} {h':Heap} {kvs:List (Key×V)} {vs:List (Key×Value)} (z:kvs.length<=sizeLine) (hd:(a == sysModules)=false) (rel:KV kvs vs) (dd:h'.DictOf (mixKind P w) a vs) :
  ObjOk P w H' h' a (.dK kvs):=⟨z,hd,vs,rel,dd⟩
theorem d_setItem {H':Hp} {Q:Unit->Shared->Prop} (hu:A.units+1 < cLine) (I:Inv X pins σ H s) (g:DPut H a y v H') (ry:RelV y u) (rv:RelV v r) (h:∀ s',Inv X pins σ H' s'->Q () s') :
  wpAny (model X.prog X.w) A (setItem (.ref a) u r) Q E s:=by
 rcases g with ⟨kvs,k,e,ey,l,eH⟩ | ⟨kvs,k,b,e,ey,eb,l,eH⟩
 ·subst ey eH
  obtain ⟨z,hd,vs,rel,dd⟩:=dk_of I.hok e
  have hz:vs.length<=sizeLine:=by rw [<-rel.length];exact z
  have hl:(putK kvs k v).length<=sizeLine:=by have:=length_putK kvs k v;omega
  refine wpAny_setItem_pairs (hsz:=hz) (kV_is ry) dd fun h' dd' hs=>h _ ?_
  have he:∃ q,h'.get? a=some q:=let ⟨q,_,_,hq,_⟩:=dd';⟨q,hq⟩
  exact d_write I (by rw [e];exact True.intro) hs he (dk_new hl hd (rel.put k rv) dd')
 ·subst ey eH
  cases (show u=Value.ref b from ry)
  obtain ⟨z,hd,xs,rel,dd⟩:=dt_of I.hok e
  have hz:xs.length<=sizeLine:=by rw [<-Paired.length rel];exact z
  have hl:(putK kvs k v).length<=sizeLine:=by have:=length_putK kvs k v;omega
  refine wpAny_setItem_heap (hsz:=hz) (tupleKind_room_in1 hu) (key_of I.hok eb) dd fun h' dd' hs=>h _ ?_
  obtain ⟨q,es,ep,hq,h2,h3,h4,_,h5⟩:=dd'
  refine d_write I (by rw [e];exact True.intro) hs ⟨q,hq⟩ ⟨hl,hd,_,(rel.put k eb rv).keeps fun c ys ec=>?_,q,es,ep,hq,h2,h3,h4,h5⟩
  rw [upd_ne (ne_of ec e (fun z=>nomatch z))]
  exact ec
end
section
variable {X:Cx} {pins:List (Addr×Obj)} {σ:St} {H:Hp} {s:Shared} {a:Addr} {kvs:List (Key×V)} {k:Key} {u:Value} {A:Around} {E:Value->Shared->Prop}
theorem d_truth {Q:Bool->Shared->Prop} (I:Inv X pins σ H s) (e:Rd H a (.dK kvs)) (h:∀ s',Inv X pins σ H s'->Q (!kvs.isEmpty) s'):wpAny (model X.prog X.w) A (truthy (.ref a)) Q E s:=by
 obtain ⟨z,hd,vs,rel,dd⟩:=dk_rd I.hok e
 refine wpAny_truthy_dict hd dd (by rw [<-rel.length];rw [sizeLine_eq] at z;omega) ?_
 have q:kvs.isEmpty=vs.isEmpty:=by cases rel<;>rfl
 rw [<-q]
 exact h _ (I.tok _)
end
theorem dict_typeIs {X:Cx} {pins:List (Addr×Obj)} {σ:St} {H:Hp} {s:Shared} {a:Addr} {y:V} {o:Option V} (I:Inv X pins σ H s) (g:DGet H a y o):s.TypeIs (.ref a) "dict" := by
 rcases g with ⟨kvs,k,e,_,_⟩ | ⟨kvs,k,b,e,_,_,_⟩
 ·obtain ⟨_,_,vs,_,dd⟩:=dk_rd I.hok e
  exact dd.typeIs
 ·obtain ⟨_,_,xs,_,dd⟩:=dt_rd I.hok e
  exact dd.typeIs
section
variable {X:Cx} {o i e value:Expr} {pos pos' tpos:Pos} {td ty tv:TE}
end
theorem dk_empty {P:Program} {w:World} {H:Hp} (h:Heap) (hb:sysModules < h.objs.size):ObjOk P w H (h.push { cls:=.type "dict",data:=.dict #[] }) h.objs.size (.dK []):=
 ⟨Nat.zero_le _,beq_eq_false_iff_ne.mpr (Ne.symm (Nat.ne_of_lt hb)),[],.nil,Heap.DictOf.new h⟩
theorem dt_empty {P:Program} {w:World} {H:Hp} (h:Heap) (hb:sysModules < h.objs.size):ObjOk P w H (h.push { cls:=.type "dict",data:=.dict #[] }) h.objs.size (.dT []):=
 ⟨Nat.zero_le _,beq_eq_false_iff_ne.mpr (Ne.symm (Nat.ne_of_lt hb)),[],.nil,_,#[],0,Heap.get?_push_size _ rfl,⟨rfl,rfl,rfl⟩,rfl,rfl,List.nodup_nil⟩
def tDNewK:TE:=fun _ H Q=>∀ p,H p=none->Q (.ref p) (upd H p (.dK []))
def tDNewT:TE:=fun _ H Q=>∀ p,H p=none->Q (.ref p) (upd H p (.dT []))
section
variable {X:Cx} {pos:Pos}
theorem pe_dnewK:PE X (.Dict [] [] pos) tDNewK:=fun pins s σ H Q I h=>
 wpAny_Dict_empty ⟨.ref s.heap.objs.size,_,I.laid (a:=s.heap.objs.size) (o:=.dK []) (t':=s.toks) (fun _ _ q=>Heap.get?_push_of_some _ q) (Nat.le_refl _) (dk_empty s.heap I.big),rfl,h _ (I.hok.fresh (Nat.le_refl _))⟩
theorem pe_dnewT:PE X (.Dict [] [] pos) tDNewT:=fun pins s σ H Q I h=>
 wpAny_Dict_empty ⟨.ref s.heap.objs.size,_,I.laid (a:=s.heap.objs.size) (o:=.dT []) (t':=s.toks) (fun _ _ q=>Heap.get?_push_of_some _ q) (Nat.le_refl _) (dt_empty s.heap I.big),rfl,h _ (I.hok.fresh (Nat.le_refl _))⟩
end
def tPairs:List (TE×TE)->St->Hp->(List (V×V)->Hp->Prop)->Prop
 | [],_,H,Q=>Q [] H
 | (tk,tv) :: r,σ,H,Q=>tk σ H fun x H1=>tv σ H1 fun y H2=>tPairs r σ H2 fun ps H3=>Q ((x,y) :: ps) H3
abbrev VV:List (V×V)->List (Value×Value)->Prop:=Paired fun p q=>RelV p.1 q.1/\RelV p.2 q.2
def PPs (X:Cx) (pos:Pos) (keys:List (Option Expr)) (values:List Expr) (trs:List (TE×TE)):Prop:=
 ∀ (pins:List (Addr×Obj)) (s:Shared) (σ:St) (H:Hp) (Q:List (V×V)->Hp->Prop),Inv X pins σ H s->tPairs trs σ H Q →
  wpAny (model X.prog X.w) X.A (evalPairs (pairTrees keys values X.env pos)) (fun vs s'=>∃ ps H',Inv X pins σ H' s'/\VV ps vs/\Q ps H') X.xe s
theorem pps_nil {X:Cx} {pos:Pos}:PPs X pos [] [] []:=fun pins s σ H Q I h=>pairTrees_nil_walk ⟨[],H,I,.nil,h⟩
theorem pps_cons {X:Cx} {pos:Pos} {k v:Expr} {ks:List (Option Expr)} {vs:List Expr} {tk tv:TE} {trs:List (TE×TE)} (hk:PE X k tk) (hv:PE X v tv) (hr:PPs X pos ks vs trs) :
  PPs X pos (some k :: ks) (v :: vs) ((tk,tv) :: trs):=fun pins s σ H Q I h=>
 pairTrees_cons_walk (thn (hk pins s σ H _ I h) fun u s1 ⟨x,H1,I1,rx,q1⟩=>thn (hv pins s1 σ H1 _ I1 q1) fun w2 s2 ⟨y,H2,I2,ry,q2⟩=>
  thn (hr pins s2 σ H2 _ I2 q2) fun ws s3 ⟨ps,H3,I3,rel,q3⟩=>⟨(x,y) :: ps,H3,I3,.cons ⟨rx,ry⟩ rel,q3⟩)
def mergeK (kvs more:List (Key×V)):List (Key×V):=more.foldl (fun acc kv=>putK acc kv.1 kv.2) kvs
theorem KV.merge:∀ {more:List (Key×V)} {rs:List (Key×Value)} {kvs:List (Key×V)} {vs:List (Key×Value)},KV more rs->KV kvs vs->KV (mergeK kvs more) (merged vs rs):=by
 intro more rs kvs vs r
 unfold KV at r
 induction r generalizing kvs vs with
 | nil=>intro q;exact q
 | @cons p q ps qs h t ih=>
  intro r0
  have e:KV (putK kvs p.1 p.2) (stored vs q.1 q.2):=by
   have:=r0.put p.1 h.2
   rw [<-h.1];exact this
  exact ih e
theorem length_mergeK:∀ (more kvs:List (Key×V)),(mergeK kvs more).length<=kvs.length+more.length
 | [],kvs=>by show kvs.length<=kvs.length+0;omega
 | p :: r,kvs=>by
  have h1:=length_mergeK r (putK kvs p.1 p.2)
  have h2:=length_putK kvs p.1 p.2
  show (mergeK (putK kvs p.1 p.2) r).length<=_
  rw [List.length_cons];omega
theorem carries_of {P:Program} {w:World}:∀ {kvs:List (Key×V)} {ws:List (Value×Value)},VV (kvs.map fun kv=>(kV kv.1,kv.2)) ws->∃ rs,Carries (mixKind P w) ws rs/\KV kvs rs
 | [],_,r=>by rw [List.map_nil] at r;cases r;exact ⟨[],True.intro,.nil⟩
 | p :: kvs,_,r=>by
  rw [List.map_cons] at r
  cases r with
  | @cons a b as bs h t=>
   obtain ⟨rs,c,q⟩:=carries_of (P:=P) (w:=w) t
   obtain ⟨b1,b2⟩:=b
   exact ⟨(p.1,b2) :: rs,⟨kV_is h.1,rfl,c⟩,.cons ⟨rfl,h.2⟩ q⟩
def tDisp (trs:List (TE×TE)):TE:=fun σ H Q=>∀ p,H p=none->tPairs trs σ (upd H p (.dK [])) fun ps H2=>H2 p=some (.dK [])/\∃ kvs:List (Key×V),ps=kvs.map (fun kv=>(kV kv.1,kv.2))/\kvs.length<=15/\Q (.ref p) (upd H2 p (.dK (mergeK [] kvs)))
theorem pe_disp {X:Cx} {pos:Pos} {keys:List (Option Expr)} {values:List Expr} {trs:List (TE×TE)} (h:PPs X pos keys values trs) (hall:keys.all (·.isSome)=true) (hl:keys.length=values.length) (h0:keys≠[])
  (h15:keys.length<=15):PE X (.Dict keys values pos) (tDisp trs):=by
 intro pins s σ H Q I q
 have hn:=I.hok.fresh (Nat.le_refl s.heap.objs.size)
 have I1:=I.laid (a:=s.heap.objs.size) (o:=.dK []) (h':=s.heap.push { cls:=.type "dict",data:=.dict #[] }) (t':=s.toks) (fun _ _ q=>Heap.get?_push_of_some _ q) (Nat.le_refl _) (dk_empty s.heap I.big)
 refine wpAny_Dict_walk (knd:=mixKind X.prog X.w) hall hl h0 h15 (thn (h pins _ σ _ _ I1 (q _ hn)) fun ws s2 ⟨ps,H2,I2,rel,e,kvs,ep,lk,q2⟩=>?_)
 subst ep
 obtain ⟨rs,c,rk⟩:=carries_of (P:=X.prog) (w:=X.w) rel
 obtain ⟨z,hd,vs0,r0,dd⟩:=dk_of I2.hok e
 cases r0
 refine ⟨rs,c,dd,fun h' dd' hs=>⟨.ref s.heap.objs.size,_,?_,rfl,q2⟩⟩
 have hz:(mergeK [] kvs).length<=sizeLine:=by
  have h1:=length_mergeK kvs []
  rw [List.length_nil] at h1
  rw [sizeLine_eq];omega
 have he:∃ q,h'.get? s.heap.objs.size=some q:=let ⟨q,_,_,hq,_⟩:=dd';⟨q,hq⟩
 exact d_write I2 (by rw [e];exact True.intro) hs he (dk_new hz hd (rk.merge .nil) dd')
structure M2 (X:Cx) (o:Expr) (m:Str) (apos:Pos) (e f:Expr) (cpos:Pos):Prop where
 base:attributeBase o m X.env (eval o X.env)=eval o X.env
 few:((backTo cpos (starEach [e,f] X.env)).all (fun x=>!x.1) && (backToKw cpos (keywordEach [] X.env)).all (fun x=>x.1.isSome)
  && decide (([e,f]:List Expr).length+([]:List Keyword).length+(if ([]:List Keyword).isEmpty then 0 else 1) < 30))=true
 line:(apos.endLine == cpos.line)=true
 trees:backTo cpos (starEach [e,f] X.env)=[(false,eval e X.env),(false,eval f X.env)]
def IsD (H:Hp) (a:Addr):Prop:=(∃ kvs,Rd H a (.dK kvs))\/∃ kvs,Rd H a (.dT kvs)
theorem isD_at {X:Cx} {pins:List (Addr×Obj)} {σ:St} {H:Hp} {s:Shared} {a:Addr} (I:Inv X pins σ H s) (d:IsD H a) :
  s.TypeIs (.ref a) "dict"/\(∀ b,Value.ref a = .ref b->∃ ob,s.heap.get? b=some ob/\ob.dict=none)/\(a == sysModules)=false:=by
 rcases d with ⟨kvs,e⟩ | ⟨kvs,e⟩
 ·obtain ⟨_,hd,vs,_,dd⟩:=dk_rd I.hok e
  refine ⟨dd.typeIs,fun b q=>?_,hd⟩
  cases q
  obtain ⟨ob,_,_,h1,h2,_⟩:=dd
  exact ⟨ob,h1,h2.2.1⟩
 ·obtain ⟨_,hd,xs,_,dd⟩:=dt_rd I.hok e
  refine ⟨dd.typeIs,fun b q=>?_,hd⟩
  cases q
  obtain ⟨ob,_,_,h1,h2,_⟩:=dd
  exact ⟨ob,h1,h2.2.1⟩
section
variable {X:Cx} {pins:List (Addr×Obj)} {σ:St} {H:Hp} {s:Shared} {a:Addr} {y d:V} {u r:Value} {o:Option V} {A:Around} {E:Value->Shared->Prop}
theorem d_get2 {Q:Value->Shared->Prop} (hu:A.units+1 < cLine) (I:Inv X pins σ H s) (g:DGet H a y o) (ry:RelV y u) (rd:RelV d r) (h:∀ w' s',Inv X pins σ H s'->RelV (o.getD d) w'->Q w' s') :
  wpAny (model X.prog X.w) A (call (.builtin "dict.get") [.ref a,u,r]) Q E s:=by
 rcases g with ⟨kvs,k,e,ey,l⟩ | ⟨kvs,k,b,e,ey,eb,l⟩
 ·subst ey
  obtain ⟨z,hd,vs,rel,dd⟩:=dk_rd I.hok e
  refine call_meetsIn PySem.F.slot_dict_get dd.typeIs PySem.F.entry_dict_get (PySem.F.args_dict_get_3 _ _ _) (meets_dict_get_default (mixKind X.prog X.w) a (kV_is ry) hd r) ⟨_,dd.mapOf,h _ _ (I.tok _) ?_⟩
  rw [l]
  exact (rel.val k).getD rd
 ·subst ey
  cases (show u=Value.ref b from ry)
  obtain ⟨z,hd,xs,rel,dd⟩:=dt_rd I.hok e
  refine call_meetsIn PySem.F.slot_dict_get dd.typeIs PySem.F.entry_dict_get (PySem.F.args_dict_get_3 _ _ _) (meetsH_dict_get_default (tupleKind (mixKind X.prog X.w)) a b hd r) ⟨tupleKind_room_in1 hu,k,xs,key_of I.hok eb,dd,h _ _ (I.tok _) ?_⟩
  rw [l]
  exact (rel.val k).getD rd
end
def tDGet2 (td ty tx:TE):TE:=fun σ H Q=>td σ H fun x H1=>∃ a,x = .ref a/\IsD H1 a/\ty σ H1 fun y H2=>tx σ H2 fun z H3=>∃ o,DGet H3 a y o/\Q (o.getD z) H3
section
variable {X:Cx} {o e f:Expr} {apos cpos:Pos} {td ty tx:TE}
theorem pe_dget2 (hu:X.A.units+1 < cLine) (ho:PE X o td) (he:PE X e ty) (hf:PE X f tx) (m:M2 X o "get" apos e f cpos):PE X (.Call (.Attribute o "get" apos) [e,f] [] cpos) (tDGet2 td ty tx):=by
 intro pins s σ H Q I h
 refine wpAny_Call_method m.base m.few m.line PySem.F.plainAttrs_dict PySem.F.slot_dict_get PySem.F.type_dict_get (thn (ho pins s σ H _ I h) fun u s1 ⟨x,H1,I1,rx,a,ex,d,q1⟩=>?_)
 subst ex
 obtain rfl:u=Value.ref a:=rx
 obtain ⟨t1,t2,_⟩:=isD_at I1 d
 refine ⟨t1,t2,?_⟩
 rw [m.trees]
 refine Calls.callWith_builtin rfl (Calls.evalArgs_plain (Calls.spliced_cons (thn (he pins s1 σ H1 _ I1 q1) fun iv s2 ⟨y,H2,I2,ry,q2⟩=>
  Calls.spliced_cons (thn (hf pins s2 σ H2 _ I2 q2) fun fv s3 ⟨z,H3,I3,rz,ov,g,q3⟩=>Calls.spliced_nil ?_))))
 exact d_get2 hu I3 g ry rz fun w' s4 I4 rw'=>⟨_,H3,I4,rw',q3⟩
end
section
variable {X:Cx} {pins:List (Addr×Obj)} {σ:St} {H:Hp} {s:Shared} {a:Addr} {kvs:List (Key×V)} {A:Around} {E:Value->Shared->Prop}
end
section
variable {X:Cx} {pins:List (Addr×Obj)} {σ:St} {H:Hp} {s:Shared} {a:Addr} {y:V} {u:Value} {A:Around} {E:Value->Shared->Prop}
end
end L2
end
section
namespace L2
open PySem PySem.Spec PyProof.Rows
def tyD:PyData->String
 | .none=>"NoneType"
 | .bool _=>"bool"
 | .int _=>"int"
 | .str _=>"str"
 | .list _=>"list"
 | .tuple _=>"tuple"
 | .dict _=>"dict"
theorem DV.ty {H:Hp} {v:V} {d:PyData} (h:DV H v d):tyN H v=some (tyD d):=by
 cases h with
 | non=>rfl
 | bl b=>rfl
 | int i=>rfl
 | str x=>rfl
 | lst e _=>simp [tyN,e,tyD]
 | tup e _=>simp [tyN,e,tyD]
 | dic e=>simp [tyN,e,tyD]
mutual
def smallD:PyData->Bool
 | .str z=>decide (z.length<=1000)
 | .list xs=>decide (xs.length<=1000) && smallAllD xs
 | .tuple xs=>decide (xs.length<=1000) && smallAllD xs
 | _=>true
def smallAllD:List PyData->Bool
 | []=>true
 | d :: ds=>smallD d && smallAllD ds
end
def leafV:V->Prop
 | .non | .bl _ | .int _ | .str _=>True
 | _=>False
mutual
inductive Tw (H:Hp):Nat->V->V->Prop
 | leaf {n:Nat} {x:V}:leafV x->Tw H n x x
 | dic {n:Nat} {a:Addr}:H a=some (.dK [])->Tw H n (.ref a) (.ref a)
 | lst {n:Nat} {a b:Addr} {xs ys:List V}:H a=some (.lst xs)->H b=some (.lst ys)->Tws H n xs ys->Tw H (n+1) (.ref a) (.ref b)
 | tup {n:Nat} {a b:Addr} {xs ys:List V}:H a=some (.tup xs)->H b=some (.tup ys)->Tws H n xs ys->Tw H (n+1) (.ref a) (.ref b)
inductive Tws (H:Hp):Nat->List V->List V->Prop
 | nil {n:Nat}:Tws H n [] []
 | cons {n:Nat} {x y:V} {xs ys:List V}:Tw H n x y->Tws H n xs ys->Tws H n (x :: xs) (y :: ys)
end
mutual
theorem Tw.mono {H H':Hp} (k:Same H H'):∀ {n:Nat} {x y:V},Tw H n x y->Tw H' n x y
 | _,_,_,.leaf h=>.leaf h
 | _,_,_,.dic h=>.dic (k _ _ h)
 | _,_,_,.lst h h' r=>.lst (k _ _ h) (k _ _ h') (Tws.mono k r)
 | _,_,_,.tup h h' r=>.tup (k _ _ h) (k _ _ h') (Tws.mono k r)
theorem Tws.mono {H H':Hp} (k:Same H H'):∀ {n:Nat} {xs ys:List V},Tws H n xs ys->Tws H' n xs ys
 | _,_,_,.nil=>.nil
 | _,_,_,.cons h r=>.cons (Tw.mono k h) (Tws.mono k r)
end
theorem Tws.length {H:Hp}:∀ {n:Nat} {xs ys:List V},Tws H n xs ys->xs.length=ys.length
 | _,_,_,.nil=>rfl
 | _,_,_,.cons _ r=>by rw [List.length_cons,List.length_cons,r.length]
theorem Tws.app {H:Hp}:∀ {n:Nat} {xs ys xs' ys':List V},Tws H n xs ys->Tws H n xs' ys'->Tws H n (xs++xs') (ys++ys')
 | _,_,_,_,_,.nil,k=>k
 | _,_,_,_,_,.cons h r,k=>.cons h (Tws.app r k)
theorem Tws.get {H:Hp}:∀ {n:Nat} {xs ys:List V} {j:Nat} {x y:V},Tws H n xs ys->xs[j]? = some x->ys[j]? = some y->Tw H n x y
 | _,_,_,0,_,_,.cons h _,e,e'=>by simp at e e';subst e;subst e';exact h
 | _,_,_,j+1,_,_,.cons _ r,e,e'=>Tws.get r (by simpa using e) (by simpa using e')
section
variable {X:Cx} {pins:List (Addr×Obj)} {σ:St} {H:Hp} {s:Shared} {A:Around}
end
section
variable {X:Cx}
end
end L2
end
section
namespace L2
open PySem PySem.Spec PyProof.Rows
namespace Om
def whole:PyData->Bool
 | .int _=>true
 | _=>false
end Om
end L2
end
section
namespace L2
open PySem PySem.Spec PyProof.Rows
section
variable {X:Cx} {p pos:Pos} {e:Expr} {es:List Expr} {t:TA}
end
def fits:Nat->PyData->Bool
 | 0,_=>false
 | n+1,.list ds=>ds.all (fits n)
 | n+1,.tuple ds=>ds.all (fits n)
 | _+1,_=>true
end L2
end
section
namespace L2
open PySem PySem.Spec PyProof.Rows
section
variable {prog:Program} {w:World} {A:Around} {E:Value->Shared->Prop} {s:Shared}
theorem keyIter {d:Addr} {ep:Nat} {od:Obj} {es:Array DictEntry} {Q:Value->Shared->Prop} (hd:(d == sysModules)=false) (hT:s.TypeIs (.ref d) "dict") (ho:s.heap.get? d=some od) (hdat:od.data = .dict es ep)
  (hQ:Q (.ref s.heap.objs.size) { s with heap:=s.heap.push { cls:=.type "dict_keyiterator",data:=.fields #[.ref d,.int 0 0,.int es.size 0,.int ep 0] } }):wpAny (model prog w) A (pyIter (.ref d)) Q E s:=by
 refine wpAny_pyIter_slot hT F.slot_dict_iter (wpAny_call_entry F.slot_dict_iter hT F.entry_dict_iter ?_ (F.args_dict_iter_1 _))
 unfold Builtin.«dict.__iter__» Builtin.Dict.dictSlotNone
 refine wpAny_bind (wpAny_bind (wpAny_notOrdered_dict hT ?_))
 refine wpAny_pure ?_
 show wpAny _ _ (Builtin.Dict.showsAll d >>= _) _ _ s
 unfold Builtin.Dict.showsAll
 rw [if_neg (by rw [hd];exact Bool.false_ne_true)]
 refine wpAny_bind (wpAny_pure (wpAny_bind (wpAny_dictEntries ho hdat (wpAny_bind (wpAny_dictEpoch ho hdat ?_)))))
 refine wpAny_bind (wpAny_newObj_type (wpAny_pure ⟨_,rfl,"dict_keyiterator",_,⟨_,Heap.get?_push_size _ rfl,rfl⟩,F.slot_dict_keyiterator_next.lookup,?_⟩))
 simpa [rawInt] using hQ
theorem keyNext {it d:Addr} {i ep:Nat} {od:Obj} {es:Array DictEntry} {e:DictEntry} {Q:Option Value->Shared->Prop} (hit:s.heap.IsKeyIter it d i es.size ep) (hod:s.heap.get? d=some od) (hdd:od.data = .dict es ep) (he:es[i]? = some e)
  (hQ:∀ h',h'.IsKeyIter it d (i+1) es.size ep->Heap.SameBut it s.heap h'->Q (some e.key) { s with heap:=h' }):wpAny (model prog w) A (pyNext (.ref it)) Q E s:=by
 obtain ⟨o,ho,hc,hd⟩:=id hit
 unfold pyNext
 refine wpAny_bind (wpAny_attempt (wpAny_callSpecial?_slot (name:=Str.ofString "__next__") hit.typeIs F.slot_dict_keyiterator_next
  (wpAny_call_entry F.slot_dict_keyiterator_next hit.typeIs F.entry_dict_keyiterator_next ?_ (F.args_dict_keyiterator_next_1 _))))
 refine wpAny_bind (wpAny_pure (wpAny_bind (wpAny_bind ?_)))
 first | refine wpAny_bind (wpAny_typeNameOfWhole_keyiter hit.typeIs (wpAny_pure ?_)) | refine wpAny_bind (wpAny_typeNameOf_keyiter hit.typeIs (wpAny_pure ?_))
 refine wpAny_bind (wpAny_fieldsOf ho hd ?_)
 simp only [show Builtin.Dict_items.ownsTuple "dict_keyiterator" = false from by decide,Bool.false_eq_true,if_false]
 show wpAny _ _ (if (Value.ref d == Value.none)=true then _ else _) _ _ s
 rw [if_neg (show ¬ ((Value.ref d == Value.none)=true) from Bool.false_ne_true)]
 refine wpAny_bind (wpAny_pure (wpAny_bind (wpAny_dictEntries hod hdd ?_)))
 rw [if_neg (by simp)]
 refine wpAny_bind (wpAny_pure (wpAny_bind (wpAny_dictEpoch hod hdd ?_)))
 rw [if_neg (by simp)]
 refine wpAny_pure ?_
 simp only [show ¬ ((i:Int) < 0) from by omega,if_false,Int.toNat_natCast,he]
 refine wpAny_bind ?_
 first | refine wpAny_bind (wpAny_typeNameOfWhole_keyiter hit.typeIs (wpAny_pure ?_)) | refine wpAny_bind (wpAny_typeNameOf_keyiter hit.typeIs (wpAny_pure ?_))
 refine wpAny_bind (wpAny_isOneOf_keyiter hit.typeIs ?_)
 show wpAny _ _ (setField (.ref it) 1 (rawInt ((i:Int)+1)) >>= _) _ _ s
 refine wpAny_bind (wpAny_setField ho hd (by simp) ?_)
 have hit':(s.heap.update it (Obj.mapFields (·.setIfInBounds 1 (rawInt ((i:Int)+1))))).IsKeyIter it d (i+1) es.size ep:=
  ⟨_,Heap.get?_update_self _ ho (Obj.isFreed_of_fields (Obj.data_mapFields hd _)),(Obj.cls_mapFields ..).trans hc,by rw [Obj.data_mapFields hd];simp [rawInt]⟩
 refine wpAny_bind (wpAny_holding ?_)
 refine wpAny_bind (wpAny_isOneOf_keyiter (s:={ s with heap:=s.heap.update it (Obj.mapFields (·.setIfInBounds 1 (rawInt ((i:Int)+1)))) }) hit'.typeIs ?_)
 show wpAny _ _ (pure e.key) _ _ _
 exact wpAny_pure (wpAny_pure ⟨_,rfl,wpAny_pure (hQ _ hit' (Heap.SameBut.update ..))⟩)
theorem keyEnd {it d:Addr} {i ep:Nat} {od:Obj} {es:Array DictEntry} {Q:Option Value->Shared->Prop} (hh:A.handled=none) (hit:s.heap.IsKeyIter it d i es.size ep) (hod:s.heap.get? d=some od) (hdd:od.data = .dict es ep) (hge:es.size<=i)
  (hQ:∀ h',Heap.ExtBut it s.heap h'->Q none { s with heap:=h' }):wpAny (model prog w) A (pyNext (.ref it)) Q E s:=by
 obtain ⟨o,ho,hc,hd⟩:=id hit
 unfold pyNext
 refine wpAny_bind (wpAny_attempt (wpAny_callSpecial?_slot (name:=Str.ofString "__next__") hit.typeIs F.slot_dict_keyiterator_next
  (wpAny_call_entry F.slot_dict_keyiterator_next hit.typeIs F.entry_dict_keyiterator_next ?_ (F.args_dict_keyiterator_next_1 _))))
 refine wpAny_bind (wpAny_pure (wpAny_bind (wpAny_bind ?_)))
 first | refine wpAny_bind (wpAny_typeNameOfWhole_keyiter hit.typeIs (wpAny_pure ?_)) | refine wpAny_bind (wpAny_typeNameOf_keyiter hit.typeIs (wpAny_pure ?_))
 refine wpAny_bind (wpAny_fieldsOf ho hd ?_)
 simp only [show Builtin.Dict_items.ownsTuple "dict_keyiterator" = false from by decide,Bool.false_eq_true,if_false]
 show wpAny _ _ (if (Value.ref d == Value.none)=true then _ else _) _ _ s
 rw [if_neg (show ¬ ((Value.ref d == Value.none)=true) from Bool.false_ne_true)]
 refine wpAny_bind (wpAny_pure (wpAny_bind (wpAny_dictEntries hod hdd ?_)))
 rw [if_neg (by simp)]
 refine wpAny_bind (wpAny_pure (wpAny_bind (wpAny_dictEpoch hod hdd ?_)))
 rw [if_neg (by simp)]
 refine wpAny_pure ?_
 simp only [show ¬ ((i:Int) < 0) from by omega,if_false,Int.toNat_natCast,Array.getElem?_eq_none hge]
 refine wpAny_bind ?_
 first | refine wpAny_bind (wpAny_typeNameOfWhole_keyiter hit.typeIs (wpAny_pure ?_)) | refine wpAny_bind (wpAny_typeNameOf_keyiter hit.typeIs (wpAny_pure ?_))
 show wpAny _ _ (setField (.ref it) 0 .none >>= _) _ _ s
 refine wpAny_bind (wpAny_setField ho hd (by simp) ?_)
 show wpAny _ _ (newExc (.type "StopIteration") [] >>= _) _ _ _
 refine wpAny_bind ?_
 simp only [newExc,newTuple]
 refine wpAny_bind (wpAny_newObj_type ?_ (by size_fits))
 refine wpAny_bind (m:=firstArgMember _ _) (wpAny_of_eq (a:=Value.none) (by first | rfl | (simp only [firstArgMember];rfl)) ?_)
 refine wpAny_newObj_type ?_ (by size_fits)
 simp only [raiseNew]
 refine wpAny_bind (wpAny_handled ?_)
 rw [show A.in1.handled=none from hh]
 refine wpAny_bind (wpAny_pure (wpAny_throw ?_))
 refine wpAny_bind (wpAny_isInstance (T:= "StopIteration") (b:=true) ⟨_,Heap.get?_push_size _ rfl,rfl⟩ isSubtype_stop ?_)
 exact wpAny_pure (hQ _ (((Heap.SameBut.update ..).extBut.push _).push _))
end
end L2
end
section
namespace L2
open PySem PySem.Spec PyProof.Rows
section
variable {X:Cx} {pins:List (Addr×Obj)} {σ:St} {H:Hp} {s:Shared} {a:Addr} {u:HO} {o:Obj}
theorem Inv.freeze (I:Inv X pins σ H s) (e:H a=some u) (mu:Mut (some u)) (ho:s.heap.get? a=some o):Inv X pins σ (upd H a (.frz o u)) s:=by
 have nown:∀ c y,H c=some (.own y)->c≠a:=fun c y r z=>by subst z;rw [r] at e;cases e;exact mu
 have ntup:∀ c xs,H c=some (.tup xs)->c≠a:=fun c xs r z=>by subst z;rw [r] at e;cases e;exact mu
 exact I.write (t':=s.toks) (h':=s.heap) (x:=a) (e:=a) (by rw [e];exact mu) (.inl rfl) (fun _ _ _ q=>q) ⟨o,ho⟩
  ⟨ho,(I.hok a u e).stay (fun _ _ _ q=>q) (fun b q=>by rw [upd_ne (nown b a q)];exact q) fun b xs q=>by rw [upd_ne (ntup b xs q)];exact q⟩
theorem Inv.frozen (I:Inv X pins σ H s) (e:H a=some (.frz o u)):s.heap.get? a=some o:=(I.hok a _ e).1
theorem Inv.obj (I:Inv X pins σ H s) (e:H a=some u):∃ o,s.heap.get? a=some o:=by
 have l:=(I.hok a u e).lt
 cases u with
 | lst xs=>obtain ⟨_,_,_,_,q⟩:=I.hok a _ e;exact ⟨_,q⟩
 | dK kvs=>obtain ⟨_,_,_,_,o,_,_,q,_⟩:=I.hok a _ e;exact ⟨_,q⟩
 | dT kvs=>obtain ⟨_,_,_,_,o,_,_,q,_⟩:=I.hok a _ e;exact ⟨_,q⟩
 | tup xs=>obtain ⟨_,_,_,o,q,_⟩:=I.hok a _ e;exact ⟨_,q⟩
 | set S n=>obtain ⟨o,_,_,_,q,_⟩:=I.hok a _ e;exact ⟨_,q⟩
 | ins C dx fs=>obtain ⟨_,_,_,q,_⟩:=I.hok a _ e;exact ⟨_,q⟩
 | own y=>obtain ⟨_,q⟩:=I.hok a _ e;exact ⟨_,q⟩
 | xd fs=>obtain ⟨_,⟨_,_,_,q,_⟩,_⟩:=I.hok a _ e;exact ⟨_,q⟩
 | rng lo hi=>obtain ⟨_,_,_,q⟩:=I.hok a _ e;exact ⟨_,q⟩
 | frz ob u=>obtain ⟨q,_⟩:=I.hok a _ e;exact ⟨_,q⟩
 | tbl ps=>exact ⟨_,I.hok a _ e⟩
 | met f y=>exact ⟨_,I.hok a _ e⟩
 | ext φ=>obtain ⟨_,q,_⟩:=I.hok a _ e;exact q
end
section
variable {X:Cx} {e:Expr} {te:TE} {pos:Pos}
def tRetF (te:TE):TS:=fun D σ H=>te σ H fun x H1=>match x with
 | .ref a=>(∃ u,H1 a=some u/\Mut (some u)/\∀ o,D.rt (.ref a) (upd H1 a (.frz o u)))\/D.rt (.ref a) H1
 | x=>D.rt x H1
theorem s_retF (he:PE X e te):PS X (.Return (some e) pos) (tRetF te):=by
 intro pins s σ H D I h
 refine wpAny_Return_some (thn (he pins s σ H _ I h) fun v s1 ⟨x,H1,I1,r1,q1⟩=>?_)
 cases x with
 | ref a=>
  rcases q1 with ⟨u,e,mu,q⟩ | q
  ·obtain ⟨o,ho⟩:=I1.obj e
   exact ⟨.ref a,σ,_,I1.freeze e mu ho,r1,q o⟩
  ·exact ⟨.ref a,σ,H1,I1,r1,q⟩
 | _=>exact ⟨_,σ,H1,I1,r1,q1⟩
end
abbrev KeysAt (H:Hp):List (List Key×V)->List Addr->Prop:=Paired fun p b=>H b=some (.tup (p.1.map kV))
def Itk (a:Addr) (o:Obj) (xs:List V):It:=
 ⟨fun i H=>i < xs.length/\∃ u,H a=some (.frz o u),fun i H x H'=>H'=H/\xs[i]? = some x,fun i H=>xs.length<=i/\∃ u,H a=some (.frz o u)⟩
theorem it_keys (a:Addr) (o:Obj) (xs:List V):ItOk (Itk a o xs) xs fun H=>∃ u,H a=some (.frz o u):=
 ⟨fun _ h=>⟨Nat.le_refl _,h⟩,fun _ _ h hi=>⟨hi,h⟩,fun _ _ _ _ _ _ y=>y⟩
theorem turn_keys {P:Program} {w:World} {K:PySem.W.Frag} {tg:Expr} {a it:Addr} {o:Obj} {es:Array DictEntry} {ep:Nat} {xs:List V} (hd:o.data = .dict es ep) (rel:Vals xs (es.toList.map (·.key))) :
  Turn P w K tg (Itk a o xs) [it] it (fun i h=>h.IsKeyIter it a i es.size ep) where
 mem:=by simp
 obj:=fun i h st b hb=>by
  have e:b=it:=by simpa using hb
  subst e
  obtain ⟨o,e,c,d⟩:=st
  exact ⟨o,e,fun v z=>by rw [d] at z;cases z⟩
 keep:=fun i h h' st k=>st.at fun o e=>k it (by simp) o e
 item:=by
  intro X hP hw hK hc i pins s σ H E I hf st hg
  subst hP hw hK
  obtain ⟨hi,u,hu⟩:=hg
  have hx:xs[i]? = some xs[i]:=by simp [hi]
  obtain ⟨v,hv,rv⟩:=rel.get hx
  obtain ⟨e,he,ev⟩ : ∃ e,es[i]? = some e/\e.key=v:=by
   rw [List.getElem?_map] at hv
   obtain ⟨e,h1,h2⟩:=Option.map_eq_some_iff.mp hv
   exact ⟨e,by simpa using h1,h2⟩
  obtain ⟨f0,f1,f2,f3,f4,f5⟩:=hf it (by simp)
  refine keyNext st (I.frozen hu) hd he fun h' st' sb=>?_
  have I1:Inv X pins σ H { s with heap:=h' }:=I.turned (t':=s.toks) (fun b o hb e=>(sb.2 b hb).trans e) f0 f1 f3 f4 f5
  refine ⟨e.key,rfl,letGo_keyiter st' ⟨xs[i],H,I1,by rw [ev];exact rv,⟨rfl,hx⟩,st',fun b hb=>(hf b hb).1⟩⟩
 done:=by
  intro X hP hw hK hc i pins s σ H E I hf st hg
  subst hP hw hK
  obtain ⟨hi,u,hu⟩:=hg
  have hl:es.size<=i:=by
   have:=rel.length
   simp at this
   omega
  obtain ⟨f0,f1,f2,f3,f4,f5⟩:=hf it (by simp)
  exact keyEnd (I.ok.hd hc) st (I.frozen hu) hd hl fun h' eb=>⟨rfl,I.turned (t':=s.toks) (fun b o hb e=>eb b o hb e) f0 f1 f3 f4 f5⟩
 self:=fun _ _ _ _ _ st h=>wpAny_pyIter_keyiter st h
section
variable {X:Cx} {tg:Expr}
def iLstD (K:PySem.W.Frag) (tl:TE):TI:=fun σ H R=>tl σ H fun x H1=>match x with
 | .ref a=>((∃ xs,SqL K H1 a xs)/\R (Itl K a) H1)\/(∃ o kvs,H1 a=some (.frz o (.dT kvs))/\∀ bs,KeysAt H1 kvs bs->R (Itk a o (bs.map V.ref)) H1) ∨
   ∃ o kvs,H1 a=some (.frz o (.dK kvs))/\R (Itk a o (kvs.map fun p=>kV p.1)) H1
 | _=>False
theorem keys_tup {H:Hp} {kvs:List (List Key×V)} {xs:List (List Key×Addr×Value)} (r:KT H kvs xs):KeysAt H kvs (xs.map (·.2.1)):=by
 induction r with
 | nil=>exact .nil
 | cons h _ ih=>exact .cons h.2.1 ih
theorem keys_mix {P:Program} {w:World} {kvs:List (Key×V)}:∀ {es:List DictEntry} {vs:List (Key×Value)},KV kvs vs->Pairs (mixKind P w) es vs->Vals (kvs.map fun p=>kV p.1) (es.map (·.key)):=by
 intro es vs r q
 unfold KV at r
 induction r generalizing es with
 | nil=>cases q;exact .nil
 | @cons p v ps vs' h t ih=>
  cases q with
  | cons h1 h2 h3=>
   refine .cons ?_ (ih h3)
   dsimp only
   rw [h.1]
   rcases keyIs_shape h1 with ⟨i,t,e1,e2⟩ | ⟨x,t,e1,e2⟩
   ·rw [e1,e2];exact ⟨t,rfl⟩
   ·rw [e1,e2];exact ⟨t,rfl⟩
end
end L2
end
section
namespace L2
open PySem PySem.Spec PyProof.Rows
section
variable {X:Cx} {pos:Pos}
def rDGet:R2:=fun x y H Q=>∃ a v,x = .ref a/\DGet H a y (some v)/\Q v H
def rDIn:R2:=fun y x H Q=>∃ a o,x = .ref a/\DGet H a y o/\Q (.bl o.isSome) H
def rDNotIn:R2:=fun y x H Q=>∃ a o,x = .ref a/\DGet H a y o/\Q (.bl (!o.isSome)) H
def rDPut:V->V->V->Hp->(Hp->Prop)->Prop:=fun o i v H Q=>∃ a H',o = .ref a/\DPut H a i v H'/\Q H'
theorem ix_dict (hu:X.A.units+64 < cLine):IxR X rDGet:=by
 intro value slice pins s σ H x y v u Q I rx ry ⟨a,z,ex,g,q⟩ hs
 subst ex
 obtain rfl:v=Value.ref a:=rx
 have hT:=dict_typeIs I g
 unfold subscriptTail
 refine wpAny_bind ?_
 rw [getitemInPython_of_ne hT.not_modules]
 refine wpAny_bind (wpAny_specialOf hT PySem.F.slot_dict_getitem.lookup ?_)
 have fin:wpAny (model X.prog X.w) X.A (subscripted slice false (.ref a) u) (fun r s₃=>wpAny (model X.prog X.w) X.A (letTemporaryGo value (.ref a) r >>= fun _=>pure r) (EP X pins σ Q) X.xe s₃) X.xe s:=by
  rw [hs]
  exact wpAny_operating (d_getItem (by omega) I g ry fun w' s3 I3 rw'=>wpAny_bind (wpAny_letTemporaryGo (wpAny_pure ⟨z,H,I3,rw',q⟩)))
 first
  | exact wpAny_pure (wpAny_bind fin)
  | exact wpAny_bind (wpAny_pure (wpAny_bind fin))
  | exact wpAny_bind fin
theorem op_inDict (hu:X.A.units+64 < cLine):OpR X (compareOp .In) rDIn:=by
 intro pins s σ H y x u v Q I ry rx ⟨a,o,ex,g,q⟩
 subst ex
 obtain rfl:v=Value.ref a:=rx
 exact d_in (by omega) I g ry fun s3 I3=>⟨.bl o.isSome,H,I3,rfl,q⟩
theorem op_notInDict (hu:X.A.units+64 < cLine):OpR X (compareOp .NotIn) rDNotIn:=by
 intro pins s σ H y x u v Q I ry rx ⟨a,o,ex,g,q⟩
 subst ex
 obtain rfl:v=Value.ref a:=rx
 exact d_notIn (by omega) I g ry fun s3 I3=>⟨.bl (!o.isSome),H,I3,rfl,q⟩
theorem set_dict (hu:X.A.units+64 < cLine):PSet X rDPut:=by
 intro pins s σ H o i v ov iv u Q I ro ri rv ⟨a,H',eo,g,q⟩
 subst eo
 obtain rfl:ov=Value.ref a:=ro
 exact d_setItem (by omega) I g ri rv fun s4 I4=>⟨H',I4,q⟩
def rIxD:R2:=fun x y H Q=>rIxU x y H Q\/rDGet x y H Q
def rSetD:V->V->V->Hp->(Hp->Prop)->Prop:=fun o i v H Q=>rSetU o i v H Q\/rDPut o i v H Q
theorem ix_atD {a b:Expr} {ta tb:TE} (hu:X.A.units+64 < cLine) (ha:PE X a ta) (hb:PE X b tb) (hs:∀ o i,subscripted b false o i=operate [o,i] (getItem o i):=by intro _ _;kernel_rfl):PE X (.Subscript a b pos) (tOp rIxD ta tb):=
 pe_ix (ixU.or (ix_dict hu)) ha hb hs
theorem g_subD {o i:Expr} {to ti:TE} (hu:X.A.units+64 < cLine) (ho:PE X o to) (hi:PE X i ti) (ha:∀ v,assign (.Subscript o i pos) X.env v=(do
   let ov <-holding [v] (eval o X.env)
   let iv <-holding [v,ov] (eval i X.env)
   standAt pos
   holding [v,ov,iv] (setItem ov iv v)
   release [v,ov,iv] []):=by intro _;kernel_rfl):PG X (.Subscript o i pos) (gSub to ti rSetD):=
 pg_sub ho hi (fun pins s σ H o i v ov iv u Q I ro ri rv q=>by
  rcases q with q | q
  ·exact setU pins s σ H o i v ov iv u Q I ro ri rv q
  ·exact set_dict hu pins s σ H o i v ov iv u Q I ro ri rv q) ha
end
section
variable {prog:Program} {w:World} {A:Around} {E:Value->Shared->Prop} {s:Shared}
theorem truthy_entries {d:Addr} {o:Obj} {es:Array DictEntry} {ep:Nat} {Q:Bool->Shared->Prop} (hd:(d == sysModules)=false) (hT:s.TypeIs (.ref d) "dict") (ho:s.heap.get? d=some o) (hdat:o.data = .dict es ep) (hfit:(es.size:Int) < 2 ^ 63)
  (h:Q (decide (es.size≠0)) { s with toks:=s.toks+1+1 }):wpAny (model prog w) A (truthy (.ref d)) Q E s:=by
 have hne:((es.size:Int) != 0)=decide (es.size≠0):=by
  by_cases z:es.size=0
  ·simp [z]
  ·simp [z]
 have len1:MeetsIn prog w (Builtin.«dict.__len__» ⟨[.ref d],[]⟩) (fun _ R s=>s.heap.get? d=some o/\R (.ok (.ret (.int es.size s.toks))) { s with toks:=s.toks+1 }):=
  .of_wp fun A R s ⟨ho,h⟩=>by
   show wpAny _ _ (dictSize d >>= _) _ _ s
   unfold dictSize
   refine wpAny_bind (wpAny_bind (wpAny_dictEntries ho hdat (wpAny_pure ?_)))
   show wpAny _ _ (Builtin.Dict.pendingCount d >>= _) _ _ s
   refine wpAny_bind (wpAny_pendingCount_other hd ?_)
   refine wpAny_ret_mkInt ?_
   rw [Nat.add_zero];exact h
 have key:wpAny (model prog w) A (runValue (.builtin "len" ⟨[.ref d],[]⟩)) (fun r s'=>r = .int es.size (s.toks+1)/\Q (decide (es.size≠0)) s') E s:=by
  refine wpAny_runValue (codeAny_builtin entry_len ?_)
  rw [Around.under_plainId plain_len _]
  unfold Builtin.«len»
  refine wpAny_bind (m:=oneArg "len" _) (wpAny_pure ?_)
  refine wpAny_bind (m:=callSpecial? (.ref d) (Str.ofString "__len__")) (wpAny_callSpecial?_slot (name:=Str.ofString "__len__") hT F.slot_dict_len
   (call_meetsIn F.slot_dict_len hT F.entry_dict_len (F.args_dict_len_1 _) len1 ⟨ho,?_⟩))
  show wpAny _ _ _ _ _ { s with toks:=s.toks+1 }
  refine wpAny_bind (wpAny_holding (wpAny_pure ?_))
  refine wpAny_bind (wpAny_letGo ?_)
  show wpAny _ _ (if ((es.size:Nat):Int) < 0 then _ else _) _ _ _
  rw [if_neg (by omega)]
  show wpAny _ _ (if ((es.size:Nat):Int) ≥ 2 ^ 63 then _ else _) _ _ _
  rw [if_neg (by omega)]
  exact wpAny_bind (wpAny_mkInt (wpAny_pure ⟨rfl,h⟩))
 unfold truthy
 first
  | refine wpAny_bind (wpAny_callSpecial?_none (name:=Str.ofString "__bool__") hT noBool_dict ?_)
  | refine wpAny_bind (wpAny_pure (wpAny_bind (wpAny_callSpecial?_none (name:=Str.ofString "__bool__") hT noBool_dict ?_)))
 first
  | refine wpAny_bind (wpAny_specialOf (name:=Str.ofString "__len__") hT F.slot_dict_len.lookup ?_)
  | refine wpAny_bind (wpAny_pure (wpAny_bind (wpAny_specialOf (name:=Str.ofString "__len__") hT F.slot_dict_len.lookup ?_)))
 first
  | exact wpAny_bind (wpAny_mono key (fun r s' h'=>by obtain ⟨rfl,hq⟩:=h';exact wpAny_pure (hne ▸ hq)) fun _ _ e=>e)
  | exact wpAny_bind (wpAny_pure (wpAny_bind (wpAny_mono key (fun r s' h'=>by obtain ⟨rfl,hq⟩:=h';exact wpAny_pure (hne ▸ hq)) fun _ _ e=>e)))
end
section
variable {X:Cx} {pins:List (Addr×Obj)} {σ:St} {H:Hp} {s:Shared} {a:Addr} {A:Around} {E:Value->Shared->Prop}
theorem d_truthT {kvs:List (List Key×V)} {Q:Bool->Shared->Prop} (I:Inv X pins σ H s) (e:Rd H a (.dT kvs)) (h:∀ s',Inv X pins σ H s'->Q (!kvs.isEmpty) s'):wpAny (model X.prog X.w) A (truthy (.ref a)) Q E s:=by
 obtain ⟨z,hd,xs,rel,dd⟩:=dt_rd I.hok e
 have hT:s.TypeIs (.ref a) "dict" := dd.typeIs
 obtain ⟨o,es,ep,h1,h2,h3,h4,_⟩:=dd
 have hl:es.size=kvs.length:=by
  have:=congrArg List.length h4
  simp at this
  rw [this,Paired.length rel]
 refine truthy_entries hd hT h1 h3 (by rw [hl];rw [sizeLine_eq] at z;omega) ?_
 have q:decide (es.size≠0)=!kvs.isEmpty:=by rw [hl];cases kvs<;>simp
 rw [q]
 exact h _ ((I.tok _).tok _)
end
section
variable {X:Cx} {pos:Pos}
def rTruD (_K:PySem.W.Frag) (x:V) (H:Hp) (Q:Bool->Hp->Prop):Prop:=match x with
 | .bl c=>Q c H
 | .ref p=>(∃ xs,H p=some (.lst xs)/\Q (!xs.isEmpty) H)\/(∃ kvs,Rd H p (.dK kvs)/\Q (!kvs.isEmpty) H)\/∃ kvs,Rd H p (.dT kvs)/\Q (!kvs.isEmpty) H
 | _=>False
def tTruD (K:PySem.W.Frag) (t:TE):TT:=fun σ H Q=>t σ H fun x H1=>rTruD K x H1 Q
theorem truD {pins:List (Addr×Obj)} {s:Shared} {σ:St} {H:Hp} {x:V} {v:Value} {Q:Bool->Hp->Prop} (I:Inv X pins σ H s) (rx:RelV x v) (q:rTruD X.K x H Q) :
  wpAny (model X.prog X.w) X.A (truthy v) (fun b s'=>∃ H',Inv X pins σ H' s'/\Q b H') X.xe s:=by
 unfold rTruD at q
 split at q
 ·exact tru_ok pins s σ H _ v Q I rx ⟨_,rfl,q⟩
 ·rcases q with ⟨xs,h1,q⟩ | ⟨kvs,h1,q⟩ | ⟨kvs,h1,q⟩
  ·exact tru_ok pins s σ H _ v Q I rx ⟨_,.inl ⟨xs,SqL.of h1,rfl⟩,q⟩
  ·obtain rfl:=(show v=Value.ref _ from rx)
   exact d_truth I h1 fun s' I'=>⟨H,I',q⟩
  ·obtain rfl:=(show v=Value.ref _ from rx)
   exact d_truthT I h1 fun s' I'=>⟨H,I',q⟩
 ·exact q.elim
theorem t_truD {e:Expr} {t:TE} (h:PE X e t) (he:∀ whole,isTrue e X.env whole=(do let v <-whole;standAt e.pos;holding [v] (truthy v)):=by intro _;kernel_rfl):PT X e (tTruD X.K t):=by
 intro pins s σ H Q I hw
 exact isTrue_plain (thn (h pins s σ H _ I hw) fun v s1 ⟨x,H1,I1,r1,q1⟩=>truD I1 r1 q1) (he _)
end
section
variable {X:Cx} {o e:Expr} {es:List Expr} {to:TE} {t:TA} {apos:Pos}
def tMtV (K:PySem.W.Frag) (T:String) (r:V->List V->Hp->VK->Prop) (to:TE) (t:TA):TE:=fun σ H Q=>to σ H fun x H1=>tyV K T x H1/\t σ H1 fun xs H2=>r x xs H2 Q
end
end L2
end
section
namespace L2
open PySem PySem.Spec PyProof.Rows
section
variable {X:Cx} {p pos:Pos} {a b e:Expr} {es:List Expr} {t:TA}
end
end L2
namespace Om
end Om
end
section
namespace Om
abbrev Stp:=(Nat×Nat)×(Nat×Nat)
def St (rows:Rows) (x y:Nat) (s:Stp):Prop:=
 s.1.1 < (rows.getD x []).length/\s.1.2 < (rows.getD y []).length/\(step rows x s.1.1).1=(step rows y s.1.2).1/\s.2=((step rows x s.1.1).2,(step rows y s.1.2).2)
inductive Pth (rows:Rows):Nat->List Nat->List Bool->Nat->Prop
 | nil {s:Nat}:s < rows.length->Pth rows 0 [] [] s
 | snoc {m:Nat} {t:List Nat} {w:List Bool} {p i:Nat}:Pth rows m t w p->i < (rows.getD p []).length->Pth rows (m+1) (t++[i]) (w++(step rows p i).1) (step rows p i).2
section
variable {k n:Nat} {rows:Rows}
def Clash (rows:Rows) (b m:Nat) (x y:Nat):Prop:=∃ t t' w,Pth rows m t w x/\Pth rows m t' w y/\t.getD b 0≠t'.getD b 0
end
end Om
end
section
namespace L2
open PySem PySem.Spec PyProof.Rows
def kk (p:Nat×Nat):List Key:=[.inl ((p.1:Nat):Int),.inl ((p.2:Nat):Int)]
section
variable {ks:List (Nat×Nat)} {kvs:List (List Key×V)} {p:Nat×Nat} {v:V}
end
structure Gd (G H0 H:Hp) (D:Addr) (kvs:List (List Key×V)):Prop where
 s:Same G H
 s0:Same H0 G
 gD:G D=none
 hD:H D=some (.dT kvs)
section
variable {G H0 H:Hp} {D p:Addr} {kvs:List (List Key×V)} {o:HO}
theorem Gd.start (h:H0 D=none):Gd H0 H0 (upd H0 D (.dT [])) D []:=⟨Same.upd h,Same.refl _,h,upd_same⟩
theorem Gd.all (g:Gd G H0 H D kvs):Same H0 H:=g.s0.trans g.s
theorem Gd.put (g:Gd G H0 H D kvs) (h:H p=none):Gd (upd G p o) H0 (upd H p o) D kvs:=by
 have pD:D≠p:=ne_of_none g.hD h
 refine ⟨fun x u e=>?_,g.s0.trans (Same.upd (g.s.free h)),by rw [upd_ne pD];exact g.gD,by rw [upd_ne pD];exact g.hD⟩
 by_cases hx:x=p
 ·subst hx;rw [upd_same] at e ⊢;exact e
 ·rw [upd_ne hx] at e ⊢;exact g.s _ _ e
theorem Gd.up (g:Gd G H0 H D kvs) (h:H p=none):Same G (upd G p o):=Same.upd (g.s.free h)
theorem Gd.set {kvs':List (List Key×V)} (g:Gd G H0 H D kvs):Gd G H0 (upd H D (.dT kvs')) D kvs':=by
 refine ⟨fun x u e=>?_,g.s0,g.gD,upd_same⟩
 have:x≠D:=ne_of_none e g.gD
 rw [upd_ne this];exact g.s _ _ e
theorem Gd.frz {ob:Obj} (g:Gd G H0 H D kvs):Same G (upd H D (.frz ob (.dT kvs))):=fun x u e=>by
 have:x≠D:=ne_of_none e g.gD
 rw [upd_ne this];exact g.s _ _ e
theorem Gd.free (g:Gd G H0 H D kvs):H0 D=none:=g.s0.free g.gD
theorem Gd.call {H':Hp} (g:Gd G H0 H D kvs) (s:Same H H'):∃ G',Gd G' H0 H' D kvs/\Same G G'/\∀ x,x≠D->G' x=H' x:=by
 refine ⟨fun x=>if x=D then none else H' x,⟨fun x u e=>?_,fun x u e=>?_,if_pos rfl,s _ _ g.hD⟩,fun x u e=>?_,fun x hx=>if_neg hx⟩
 ·by_cases hx:x=D
  ·rw [if_pos hx] at e;cases e
  ·rw [if_neg hx] at e;exact e
 ·have hx:x≠D:=ne_of_none (g.s0 _ _ e) g.gD
  show (if x=D then none else H' x)=some u
  rw [if_neg hx];exact s _ _ (g.all _ _ e)
 ·have hx:x≠D:=ne_of_none e g.gD
  show (if x=D then none else H' x)=some u
  rw [if_neg hx];exact s _ _ (g.s _ _ e)
end
end L2
end
section
namespace L2
open PySem PySem.Spec PyProof.Rows
section
variable {X:Cx} {a:Expr} {p pos:Pos} {ta:TA}
def tRng1 (ta:TA):TE:=fun σ H Q=>ta σ H fun vs H1=>match vs with
 | [.int j]=>0<=j/\j < 2 ^ 24/\∀ q,H1 q=none->Q (.ref q) (upd H1 q (.rng 0 j))
 | _=>False
def rListR:List V->Hp->VK->Prop:=fun vs H Q=>match vs with
 | [.ref p]=>(∃ j:Nat,H p=some (.rng 0 j)/\j<=2 ^ 24/\∀ l,H l=none->Q (.ref l) (upd H l (.lst ((List.range j).map fun i=>V.int (i:Nat)))))\/rListOf vs H Q
 | _=>False
theorem vals_of:∀ {xs:List V} {us:List Value},xs.length=us.length->(∀ (i:Nat) (x:V) (u:Value),xs[i]? = some x->us[i]? = some u->RelV x u)->Vals xs us
 | [],[],_,_=>.nil
 | [],_ :: _,h,_=>by simp at h
 | _ :: _,[],h,_=>by simp at h
 | x :: xs,u :: us,h,r=>.cons (r 0 x u rfl rfl) (vals_of (by simpa using h) fun i y v h1 h2=>r (i+1) y v (by simpa using h1) (by simpa using h2))
theorem items_vals {acc:Array Value} {n:Nat} (h:ItemsOf (fun i v=>∃ t,v = .int (0+(i:Nat) * 1) t) acc n):Vals ((List.range n).map fun i=>V.int (i:Nat)) acc.toList:=by
 refine vals_of (by simp [h.1]) fun i x u hx hu=>?_
 have hu':acc[i]? = some u:=by simpa using hu
 obtain ⟨t,rfl⟩:=h.2 i u hu'
 rw [List.getElem?_map] at hx
 obtain ⟨j,h1,rfl⟩:=Option.map_eq_some_iff.mp hx
 have hj:j=i:=by
  have hlt:i < n:=by
   have:=List.getElem?_eq_some_iff.mp h1
   obtain ⟨hl,_⟩:=this
   simpa using hl
  rw [List.getElem?_range hlt] at h1
  exact (Option.some.inj h1).symm
 subst hj
 exact ⟨t,by simp⟩
theorem call_listR (hc:X.calm=true):CallR X (.type "list") rListR:=by
 intro pins s σ H xs us Q I r h
 unfold rListR at h
 split at h
 ·rcases h with ⟨j,hp,hj,q⟩ | h
  ·obtain ⟨u,rfl,rx⟩:=vals1 r
   cases rx
   obtain ⟨t,u,v,e⟩:=I.hok _ _ hp
   refine call_list_range (I.ok.hd hc) e (small_one (by omega) (by omega) (by omega) (by omega)) (n:=j) (by rw [rangeSize_one];split<;>omega) hj fun h' tk acc' c' kp e' it=>?_
   have hv:=items_vals it
   have hl:((List.range j).map fun i=>V.int (i:Nat)).length<=sizeLine:=by rw [List.length_map,List.length_range,sizeLine_eq];omega
   exact ⟨.ref s.heap.objs.size,_,I.laid (t':=tk) kp (Nat.le_refl _) (show ObjOk X.prog X.w _ h' _ (.lst _) from ⟨hl,acc'.toList,c',hv,by simpa using e'⟩),rfl,q _ (I.hok.fresh (Nat.le_refl _))⟩
  ·exact call_listU pins s σ H _ us Q I r h
 ·exact h.elim
end
end L2
end
section
namespace L2
open PySem PySem.Spec PyProof.Rows
structure Lt (H H':Hp):Prop where
 l:∀ a xs,H a=some (.lst xs)->H' a=some (.lst xs)
 t:∀ a xs,H a=some (.tup xs)->H' a=some (.tup xs)
 d:∀ a,H a=some (.dK [])->H' a=some (.dK [])
mutual
theorem DV.lt {H H':Hp} (k:Lt H H'):∀ {v:V} {d:PyData},DV H v d->DV H' v d
 | _,_,.non=>.non
 | _,_,.bl b=>.bl b
 | _,_,.int i=>.int i
 | _,_,.str x=>.str x
 | _,_,.lst h r=>.lst (k.l _ _ h) (DVs.lt k r)
 | _,_,.tup h r=>.tup (k.t _ _ h) (DVs.lt k r)
 | _,_,.dic h=>.dic (k.d _ h)
theorem DVs.lt {H H':Hp} (k:Lt H H'):∀ {vs:List V} {ds:List PyData},DVs H vs ds->DVs H' vs ds
 | _,_,.nil=>.nil
 | _,_,.cons h r=>.cons (DV.lt k h) (DVs.lt k r)
end
theorem Lt.but {H G:Hp} {D:Addr} {kvs:List (List Key×V)} (hD:H D=some (.dT kvs)) (h:∀ x,x≠D->G x=H x):Lt H G:=
 ⟨fun a xs e=>by rw [h a (ne_of e hD (fun z=>nomatch z))];exact e,fun a xs e=>by rw [h a (ne_of e hD (fun z=>nomatch z))];exact e,fun a e=>by rw [h a (ne_of e hD (fun z=>nomatch z))];exact e⟩
end L2
end
section
namespace Om
abbrev Rw:=List Nat×List Bool×Nat
def ext (rows:Rows) (r:Rw):List Rw:=(List.range (rows.getD r.2.2 []).length).map fun l=>(r.1++[l],r.2.1++(step rows r.2.2 l).1,(step rows r.2.2 l).2)
section
variable {k n:Nat} {rows:Rows}
end
end Om
namespace L2
open PySem PySem.Spec PyProof.Rows
end L2
end
section
namespace L2
open PySem PySem.Spec PyProof.Rows
section
variable {prog:Program} {w:World} {A:Around} {E:Value->Shared->Prop} {s:Shared}
theorem walksKeys (hh:A.handled=none) (I d:Addr) (hne:d≠I) {od:Obj} {es:Array DictEntry} {ep:Nat} (hdat:od.data = .dict es ep) :
  Walks prog w A I [I,d] [I] es.size (fun i v=>∃ e,es[i]? = some e/\v=e.key) (fun i h=>h.IsKeyIter I d i es.size ep/\h.get? d=some od) where
 sub:=fun b hb=>by simp at hb;simp [hb]
 frame:=fun _ _ _ st hk=>⟨st.1.at fun o e=>hk I (by simp) o e,hk d (by simp) _ st.2⟩
 item:=fun i s Q E hi st hQ=>by
  have he:es[i]? = some es[i]:=by simp [hi]
  refine keyNext st.1 st.2 hdat he fun h' hit' hs'=>?_
  exact hQ _ h' s.toks ⟨_,he,rfl⟩ ⟨hit',hs'.extBut d _ hne st.2⟩ fun b o hb e=>hs'.extBut b o (fun h=>hb (by simp [h])) e
 done:=fun s Q E st hQ=>keyEnd hh st.1 st.2 hdat (Nat.le_refl _) fun h' he'=>hQ h' s.toks fun b o hb e=>he' b o (fun h=>hb (by simp [h])) e
 self:=fun _ _ _ _ st hQ=>wpAny_pyIter_keyiter st.1 hQ
theorem hint_dict {d:Addr} {Q:Bool->Shared->Prop} (hT:s.TypeIs (.ref d) "dict") (h:Q false s):wpAny (model prog w) A (Builtin.List.listLengthHint (.ref d)) Q E s:=by
 unfold Builtin.List.listLengthHint
 refine wpAny_bind (wpAny_specialOf hT F.slot_dict_len.lookup ?_)
 generalize hid:("dict.__len__" : String)=id0
 wp_delta
 rw [show splitId id0=some ("dict","__len__") from by subst hid;decide +kernel]
 subst hid
 refine wpAny_bind (wpAny_isInstance (T:= "dict") (b:=true) hT (by rw [isSubtype_type];kernel_rfl) ?_)
 refine wpAny_ite_split (fun hab=>absurd hab (by decide)) (fun _=>?_)
 refine wpAny_ite_split (fun _=>?_) (fun hab=>absurd (by decide +kernel) hab)
 refine wpAny_bind (wpAny_typeOf (T:= "dict") hT ?_)
 exact wpAny_pure h
theorem extend_dict {R:Result->Shared->Prop} {d:Addr} {od:Obj} {es:Array DictEntry} {ep:Nat} (hh:A.handled=none) (hd:(d == sysModules)=false) (hT:s.TypeIs (.ref d) "dict") (ho:s.heap.get? d=some od) (hdat:od.data = .dict es ep) (hlen:es.size<=sizeLine) (S:Addr) (res:Value) (c₀:Nat) (hS:s.heap.get? S=some { cls:=.type "list",data:=.seq #[] c₀ })
  (hR:∀ h' tk acc' c',(∀ b o,b≠S->s.heap.get? b=some o->h'.get? b=some o)->h'.get? S=some { cls:=.type "list",dict:=none,data:=.seq acc' c',slots:=#[] } →
   ItemsOf (fun i v=>∃ e,es[i]? = some e/\v=e.key) acc' es.size->R (.ok (.ret res)) { s with heap:=h',toks:=tk }) :
  wpAny (model prog w) A.in1 (Builtin.List.listExtendWith (.ref S) (.ref d) res)
   (fun fin s'=>match fin with | .done f=>R (.ok f) s' | .again c'=>c'.quiet=true/\codeAny (model prog w) A c' R s') (fun e s'=>R (.error e) s') s:=by
 have hSr:S≠d:=fun e=>by rw [e,ho] at hS;cases hS;cases hdat
 have hSlt:S < s.heap.objs.size:=Heap.lt_size hS
 have hSI:S≠s.heap.objs.size:=Nat.ne_of_lt hSlt
 have hdI:d≠s.heap.objs.size:=Nat.ne_of_lt (Heap.lt_size ho)
 have hSf:S ∉ [s.heap.objs.size,d]:=fun hm=>by simp at hm;rcases hm with h | h;exact hSI h;exact hSr h
 have W:=(walksKeys (prog:=prog) (w:=w) (A:=A.in1) hh s.heap.objs.size d hdI hdat).toS
 unfold Builtin.List.listExtendWith
 refine wpAny_bind (wpAny_typeOf (T:= "dict") hT ?_)
 have h1:Builtin.List.listSameRef (.ref S) (.ref d)=false:=by simp [Builtin.List.listSameRef,hSr]
 have h2:(Value.type "dict" == Value.type "list")=false:=by decide
 have h3:(Value.type "dict" == Value.type "tuple")=false:=by decide
 simp only [h1,h2,h3,Bool.or_false,Bool.false_eq_true,if_false]
 refine wpAny_bind (keyIter hd hT ho hdat ?_)
 have hT1:(⟨s.heap.push { cls:=.type "dict_keyiterator",data:=.fields #[.ref d,.int 0 0,.int es.size 0,.int ep 0] },s.gens,s.drawn,s.toks,s.os⟩ : Shared).TypeIs (.ref d) "dict" := by
  obtain ⟨o,e1,e2⟩:=hT
  exact ⟨o,Heap.get?_push_of_some _ e1,e2⟩
 refine wpAny_bind (wpAny_holding (hint_dict hT1 ?_))
 have hit₁:(s.heap.push { cls:=.type "dict_keyiterator",data:=.fields #[.ref d,.int 0 0,.int es.size 0,.int ep 0] }).IsKeyIter s.heap.objs.size d 0 es.size ep:=⟨_,Heap.get?_push_size _ rfl,rfl,rfl⟩
 have hS₁:=Heap.get?_push_of_some { cls:=.type "dict_keyiterator",data:=.fields #[.ref d,.int 0 0,.int es.size 0,.int ep 0] } hS
 have hd₁:=Heap.get?_push_of_some { cls:=.type "dict_keyiterator",data:=.fields #[.ref d,.int 0 0,.int es.size 0,.int ep 0] } ho
 have key:∀ (h:Heap) (c₁ tk:Nat),h.IsKeyIter s.heap.objs.size d 0 es.size ep->h.get? d=some od->(∀ b o,b≠S->s.heap.get? b=some o->h.get? b=some o) →
   h.get? S=some { cls:=.type "list",data:=.seq #[] c₁ }->codeAny (model prog w) A (.builtin "list.extend.loop" ⟨[.ref S,.ref s.heap.objs.size,res],[]⟩) R { s with heap:=h,toks:=tk }:=by
  intro h c₁ tk hit hdd hk hS₁
  refine codeAny_extend_loopS W hlen S hSf res es.size 0 _ #[] c₁ rfl (Nat.zero_le _) ⟨hit,hdd⟩ hS₁ (ItemsOf.nil _) fun s' acc' c' hm hS' hacc=>?_
  rw [Moved.eq_with hm]
  refine hR s'.heap s'.toks acc' c' (fun b o hb e=>hm.heap b o (fun hmem=>?_) (hk b o hb e)) hS' hacc
  rcases List.mem_cons.mp hmem with e' | hmem
  ·exact hb e'
  ·exact absurd (Heap.lt_size e) (by rw [List.mem_singleton.mp hmem];exact Nat.lt_irrefl _)
 refine wpAny_ite_split (fun _=>?_) (fun _=>wpAny_pure ⟨plainId_quiet F.plain_extend_loop _,key _ c₀ _ hit₁ hd₁ (fun b o _ e=>Heap.get?_push_of_some _ e) hS₁⟩)
 refine wpAny_bind (wpAny_rule ?_)
 refine wpAny_bind ?_
 show wpAny _ _ (updateSeq S (·.push .none) >>= fun _=>updateSeq S (·.pop)) _ _ _
 refine wpAny_bind (wpAny_updateSeq hS₁ rfl ?_)
 have hS₂:=Heap.get?_update_self (Obj.mapSeq (·.push Value.none)) hS₁ rfl
 refine wpAny_updateSeq (hz:=by seq_fits) hS₂ rfl ?_
 have hS₃:=Heap.get?_update_self (Obj.mapSeq (·.pop)) hS₂ rfl
 refine wpAny_pure ⟨plainId_quiet F.plain_extend_loop _,key _ _ _ ?_ ?_ (fun b o hb e=>?_) hS₃⟩
 ·exact hit₁.at fun o e=>(Heap.get?_update_other _ _ hSI).trans ((Heap.get?_update_other _ _ hSI).trans e)
 ·exact (Heap.get?_update_other _ _ hSr).trans ((Heap.get?_update_other _ _ hSr).trans hd₁)
 ·exact (Heap.get?_update_other _ _ (Ne.symm hb)).trans ((Heap.get?_update_other _ _ (Ne.symm hb)).trans (Heap.get?_push_of_some _ e))
theorem call_list_dict {Q:Value->Shared->Prop} {d:Addr} {od:Obj} {es:Array DictEntry} {ep:Nat} (hh:A.handled=none) (hd:(d == sysModules)=false) (hT:s.TypeIs (.ref d) "dict") (ho:s.heap.get? d=some od) (hdat:od.data = .dict es ep) (hlen:es.size<=sizeLine)
  (hQ:∀ h' tk acc' c',(∀ b o,s.heap.get? b=some o->h'.get? b=some o) →
   h'.get? s.heap.objs.size=some { cls:=.type "list",dict:=none,data:=.seq acc' c',slots:=#[] }->ItemsOf (fun i v=>∃ e,es[i]? = some e/\v=e.key) acc' es.size->Q (.ref s.heap.objs.size) { s with heap:=h',toks:=tk }) :
  wpAny (model prog w) A (call (.type "list") [.ref d]) Q E s:=by
 refine callType_codes (Q₁:=fun obj s₁=>obj = .ref s.heap.objs.size/\s₁={ s with heap:=s.heap.push { cls:=.type "list",data:=.seq #[] } }) F.called_list (F.typeCall_list_1 _) F.entry_list_init
  (code_list_new _ ⟨rfl,rfl⟩) fun obj s₁ h₁=>?_
 obtain ⟨rfl,rfl⟩:=h₁
 have hS:(s.heap.push { cls:=.type "list",data:=.seq #[] }).get? s.heap.objs.size=some { cls:=.type "list",data:=.seq #[] }:=Heap.get?_push_size _ rfl
 have hSr:s.heap.objs.size≠d:=Nat.ne_of_gt (Heap.lt_size ho)
 refine ⟨⟨_,hS,rfl⟩,F.args_list_init_2 _ _,?_⟩
 show wpAny _ _ (do let old <-Builtin.List.listItems (.ref s.heap.objs.size);Builtin.List.listUpdate (.ref s.heap.objs.size) (fun _=>#[]);letGo old.toList.reverse;Builtin.List.listExtendWith (.ref s.heap.objs.size) (.ref d) .none) _ _ _
 refine wpAny_bind ?_
 unfold Builtin.List.listItems
 refine wpAny_bind (wpAny_seqItems hS rfl (wpAny_pure ?_))
 show wpAny _ _ (updateSeq s.heap.objs.size (fun _=>#[]) >>= fun _=>letGo (#[]:Array Value).toList.reverse >>= fun _=>Builtin.List.listExtendWith (.ref s.heap.objs.size) (.ref d) .none) _ _ _
 refine wpAny_bind (wpAny_updateSeq hS rfl ?_)
 have hS₂:=Heap.get?_update_self (Obj.mapSeq (fun _=>(#[]:Array Value))) hS rfl
 have oth:∀ b o,b≠s.heap.objs.size->(s.heap.push { cls:=.type "list",data:=.seq #[] }).get? b=some o->((s.heap.push { cls:=.type "list",data:=.seq #[] }).update s.heap.objs.size (Obj.mapSeq (fun _=>(#[]:Array Value)))).get? b=some o:=
  fun b o hb e=>(Heap.get?_update_other _ _ (Ne.symm hb)).trans e
 refine wpAny_bind (wpAny_letGo ?_)
 have ho2:=oth d _ (Ne.symm hSr) (Heap.get?_push_of_some _ ho)
 refine extend_dict (A:=A.in1) hh hd ?_ ho2 hdat hlen _ .none _ hS₂ fun h' tk acc' c' hk hS' hacc=>?_
 ·obtain ⟨o,e1,e2⟩:=hT
  rw [ho] at e1;cases e1
  exact ⟨_,ho2,e2⟩
 ·exact ⟨rfl,hQ h' tk acc' c' (fun b o e=>hk b o (Nat.ne_of_lt (Heap.lt_size e)) (oth b o (Nat.ne_of_lt (Heap.lt_size e)) (Heap.get?_push_of_some _ e))) hS' hacc⟩
end
end L2
end
section
namespace L2
open PySem PySem.Spec PyProof.Rows
section
variable {X:Cx} {p pos:Pos}
theorem items_keys {es:Array DictEntry} {acc:Array Value} {xs:List V} (h:ItemsOf (fun i v=>∃ e,es[i]? = some e/\v=e.key) acc es.size) (r:Vals xs (es.toList.map (·.key))):Vals xs acc.toList:=by
 have:acc.toList=es.toList.map (·.key):=by
  apply List.ext_getElem?
  intro i
  rw [List.getElem?_map]
  by_cases hi:i < es.size
  ·have hi':i < acc.size:=by rw [h.1];exact hi
   obtain ⟨e,e1,e2⟩:=h.2 i acc[i] (by simp [hi'])
   have e3:es.toList[i]? = some e:=by simpa using e1
   rw [e3]
   simp [hi',e2]
  ·have:¬ i < acc.size:=by rw [h.1];exact hi
   simp [Nat.le_of_not_lt hi,Nat.le_of_not_lt this]
 rw [this];exact r
def rListD:List V->Hp->VK->Prop:=fun vs H Q=>match vs with
 | [.ref p]=>(∃ kvs,H p=some (.dT kvs)/\∀ o bs l,KeysAt H kvs bs->H l=none->Q (.ref l) (upd (upd H p (.frz o (.dT kvs))) l (.lst (bs.map V.ref)))) ∨
   (∃ o kvs,H p=some (.frz o (.dT kvs))/\∀ bs l,KeysAt H kvs bs->H l=none->Q (.ref l) (upd H l (.lst (bs.map V.ref)))) ∨
   (∃ o kvs,H p=some (.frz o (.dK kvs))/\∀ l,H l=none->Q (.ref l) (upd H l (.lst (kvs.map fun p=>kV p.1))))\/rListR vs H Q
 | _=>False
theorem call_listD (hc:X.calm=true):CallR X (.type "list") rListD:=by
 have hT2:∀ (pins:List (Addr×Obj)) (s:Shared) (σ:St) (H:Hp) (a:Addr) (Q:VK) (o:Obj) (kvs:List (List Key×V)),Inv X pins σ H s->H a=some (.frz o (.dT kvs)) →
   (∀ bs l,KeysAt H kvs bs->H l=none->Q (.ref l) (upd H l (.lst (bs.map V.ref))))->wpAny (model X.prog X.w) X.A (call (.type "list") [.ref a]) (EP X pins σ Q) X.xe s:=by
  intro pins s σ H a Q o kvs I hq q
  have ho:=I.frozen hq
  obtain ⟨_,z,hd,xs,r,o',es,ep,h1,h2,h3,h4,h5⟩:=I.hok a _ hq
  rw [ho] at h1;cases h1
  have hT:s.TypeIs (.ref a) "dict" := let ⟨_,_,_,_,dd⟩:=dt_rd I.hok (.inr ⟨o,hq⟩);dd.typeIs
  have rel:Vals ((xs.map (·.2.1)).map V.ref) (es.toList.map (·.key)):=by
   rw [h4]
   clear h4 h5 r
   induction xs with
   | nil=>exact .nil
   | cons x xs ih=>exact .cons rfl ih
  have le:es.size<=sizeLine:=by
   have e1:=congrArg List.length h4
   have e2:=Paired.length r
   simp at e1
   omega
  refine call_list_dict (I.ok.hd hc) hd hT ho h3 le fun h' tk acc' c' kp e' it=>?_
  have hl:((xs.map (·.2.1)).map V.ref).length<=sizeLine:=by
   have:=rel.length
   simp at this ⊢
   omega
  exact ⟨.ref s.heap.objs.size,_,I.laid (t':=tk) kp (Nat.le_refl _) (show ObjOk X.prog X.w _ h' _ (.lst _) from ⟨hl,acc'.toList,c',items_keys it rel,by simpa using e'⟩),rfl,q _ _ (keys_tup r) (I.hok.fresh (Nat.le_refl _))⟩
 intro pins s σ H xs us Q I r h
 unfold rListD at h
 split at h
 ·rename_i a
  have r':=r
  obtain ⟨u,rfl,rx⟩:=vals1 r
  cases rx
  rcases h with ⟨kvs,hq,q⟩ | ⟨o,kvs,hq,q⟩ | ⟨o,kvs,hq,q⟩ | h
  ·obtain ⟨o,ho⟩:=I.obj hq
   refine hT2 pins s σ _ a Q o kvs (I.freeze hq trivial ho) upd_same fun bs l kb hl=>?_
   have hla:l≠a:=fun z=>by subst z;rw [upd_same] at hl;cases hl
   rw [upd_ne hla] at hl
   refine q o bs l ?_ hl
   refine Paired.mapP kb fun x b e=>?_
   have:b≠a:=fun z=>by subst z;rw [upd_same] at e;cases e
   rw [upd_ne this] at e;exact e
  ·exact hT2 pins s σ H a Q o kvs I hq q
  ·have ho:=I.frozen hq
   obtain ⟨_,z,hd,vs,r,o',es,ep,h1,h2,h3,h4,h5,h6⟩:=I.hok a _ hq
   rw [ho] at h1;cases h1
   have hT:s.TypeIs (.ref a) "dict" := let ⟨_,_,_,_,dd⟩:=dk_rd I.hok (.inr ⟨o,hq⟩);dd.typeIs
   have rel:=keys_mix r h5
   have le:es.size<=sizeLine:=by
    have e1:=rel.length
    simp at e1
    omega
   refine call_list_dict (I.ok.hd hc) hd hT ho h3 le fun h' tk acc' c' kp e' it=>?_
   have hl:(kvs.map fun p=>kV p.1).length<=sizeLine:=by
    have:=rel.length
    simp at this ⊢
    omega
   exact ⟨.ref s.heap.objs.size,_,I.laid (t':=tk) kp (Nat.le_refl _) (show ObjOk X.prog X.w _ h' _ (.lst _) from ⟨hl,acc'.toList,c',items_keys it rel,by simpa using e'⟩),rfl,q _ (I.hok.fresh (Nat.le_refl _))⟩
  ·exact call_listR hc pins s σ H _ _ Q I r' h
 ·exact h.elim
def iLstF (K:PySem.W.Frag) (tl:TE):TI:=fun σ H R=>tl σ H fun x H1=>match x with
 | .ref a=>(∃ kvs,H1 a=some (.dT kvs)/\∀ o bs,KeysAt H1 kvs bs->R (Itk a o (bs.map V.ref)) (upd H1 a (.frz o (.dT kvs))))\/iLstD K (fun _ H Q=>Q (.ref a) H) σ H1 R
 | _=>False
end
section
variable {prog:Program} {w:World} {A:Around} {E:Value->Shared->Prop} {s:Shared}
end
end L2
end
section
namespace L2
open PySem PySem.Spec PyProof.Rows
section
variable {X:Cx} {p pos:Pos}
theorem pi_lstF {tg l:Expr} {tl:TE} (hl:PE X l tl):PI X tg l (iLstF X.K tl):=by
 intro pins s σ H R I h
 refine thn (hl pins s σ H _ I h) fun v s1 ⟨x,H1,I1,r1,q1⟩=>?_
 dsimp only at q1
 split at q1
 ·rename_i a
  cases r1
  rcases q1 with ⟨kvs,hq,q⟩ | q
  ·obtain ⟨o,ho⟩:=I1.obj hq
   have J:=I1.freeze hq trivial ho
   have hq':upd H1 a (.frz o (.dT kvs)) a=some (.frz o (.dT kvs)):=upd_same
   obtain ⟨_,z,hd,xs,r,o',es,ep,h1,h2,h3,h4,h5⟩:=J.hok a _ hq'
   rw [ho] at h1;cases h1
   have hT:s1.TypeIs (.ref a) "dict" := let ⟨_,_,_,_,dd⟩:=dt_rd J.hok (.inr ⟨o,hq'⟩);dd.typeIs
   have rel:Vals ((xs.map (·.2.1)).map V.ref) (es.toList.map (·.key)):=by
    rw [h4]
    clear h4 h5 r
    induction xs with
    | nil=>exact .nil
    | cons x xs ih=>exact .cons rfl ih
   refine keyIter hd hT ho h3 ?_
   refine ⟨s1.heap.objs.size,[s1.heap.objs.size],_,_,_,rfl,J.kept (t':=s1.toks) fun b o e=>Heap.get?_push_of_some _ e,turn_keys h3 rel,⟨_,Heap.get?_push_size _ rfl,rfl,rfl⟩,fun b hb=>?_,q o _ ?_⟩
   ·have e:b=s1.heap.objs.size:=by simpa using hb
    subst e
    exact J.fpOk (Nat.le_refl _) (J.hok.fresh (Nat.le_refl _))
   ·refine Paired.mapP (keys_tup r) fun x b e=>?_
    have:b≠a:=fun z=>by subst z;rw [upd_same] at e;cases e
    rw [upd_ne this] at e;exact e
  ·obtain ⟨⟨xs,hq⟩,q⟩ | ⟨o,kvs,hq,q⟩ | ⟨o,kvs,hq,q⟩:=q
   ·obtain ⟨its,rv,p,hz⟩:=I1.list hq
    refine wpAny_pyIter_list p.isList ?_
    refine ⟨s1.heap.objs.size,[s1.heap.objs.size],_,_,H1,rfl,I1.kept (t':=s1.toks) fun b o e=>Heap.get?_push_of_some _ e,turn_list a _,⟨_,Heap.get?_push_size _ rfl,rfl,rfl⟩,fun b hb=>?_,q⟩
    have e:b=s1.heap.objs.size:=by simpa using hb
    subst e
    exact I1.fpOk (Nat.le_refl _) (I1.hok.fresh (Nat.le_refl _))
   ·have ho:=I1.frozen hq
    obtain ⟨_,z,hd,xs,r,o',es,ep,h1,h2,h3,h4,h5⟩:=I1.hok a _ hq
    rw [ho] at h1;cases h1
    have hT:s1.TypeIs (.ref a) "dict" := let ⟨_,_,_,_,dd⟩:=dt_rd I1.hok (.inr ⟨o,hq⟩);dd.typeIs
    have rel:Vals ((xs.map (·.2.1)).map V.ref) (es.toList.map (·.key)):=by
     rw [h4]
     clear h4 h5 r
     induction xs with
     | nil=>exact .nil
     | cons x xs ih=>exact .cons rfl ih
    refine keyIter hd hT ho h3 ?_
    refine ⟨s1.heap.objs.size,[s1.heap.objs.size],_,_,H1,rfl,I1.kept (t':=s1.toks) fun b o e=>Heap.get?_push_of_some _ e,turn_keys h3 rel,⟨_,Heap.get?_push_size _ rfl,rfl,rfl⟩,fun b hb=>?_,q _ (keys_tup r)⟩
    have e:b=s1.heap.objs.size:=by simpa using hb
    subst e
    exact I1.fpOk (Nat.le_refl _) (I1.hok.fresh (Nat.le_refl _))
   ·have ho:=I1.frozen hq
    obtain ⟨_,z,hd,vs,r,o',es,ep,h1,h2,h3,h4,h5,h6⟩:=I1.hok a _ hq
    rw [ho] at h1;cases h1
    have hT:s1.TypeIs (.ref a) "dict" := let ⟨_,_,_,_,dd⟩:=dk_rd I1.hok (.inr ⟨o,hq⟩);dd.typeIs
    refine keyIter hd hT ho h3 ?_
    refine ⟨s1.heap.objs.size,[s1.heap.objs.size],_,_,H1,rfl,I1.kept (t':=s1.toks) fun b o e=>Heap.get?_push_of_some _ e,turn_keys h3 (keys_mix r h5),⟨_,Heap.get?_push_size _ rfl,rfl,rfl⟩,fun b hb=>?_,q⟩
    have e:b=s1.heap.objs.size:=by simpa using hb
    subst e
    exact I1.fpOk (Nat.le_refl _) (I1.hok.fresh (Nat.le_refl _))
 ·exact q1.elim
open Classical in
noncomputable def eqT (H:Hp) (k:List Key) (u:Value):Bool:=match u with
 | .ref c=>decide (H c=some (.tup (k.map kV)))
 | _=>false
open Classical in
theorem any_eqT {H:Hp} {k:List Key}:∀ {xs:List V} {us:List Value},Vals xs us->(∀ v∈xs,∃ (c:Addr) (k':List Key),v = .ref c/\H c=some (.tup (k'.map kV)))->(us.any (eqT H k)=true↔∃ c,V.ref c∈xs/\H c=some (.tup (k.map kV)))
 | _,_,.nil,_=>by simp
 | y :: xs,u :: us,.cons r t,f=>by
  obtain ⟨c,k',rfl,hc⟩:=f y List.mem_cons_self
  cases r
  rw [List.any_cons,Bool.or_eq_true,any_eqT t (fun v hv=>f v (List.mem_cons_of_mem _ hv))]
  have e0:eqT H k (.ref c)=true↔H c=some (.tup (k.map kV)):=by unfold eqT;dsimp only;exact (by classical exact decide_eq_true_iff)
  rw [e0]
  constructor
  ·rintro (h | ⟨d,h1,h2⟩)
   ·exact ⟨c,List.mem_cons_self,h⟩
   ·exact ⟨d,List.mem_cons_of_mem _ h1,h2⟩
  ·rintro ⟨d,h1,h2⟩
   rcases List.mem_cons.mp h1 with e | h1
   ·injection e with e;subst e;exact .inl h2
   ·exact .inr ⟨d,h1,h2⟩
end
end L2
end
section
namespace Om
def Win (rows:Rows) (b a:Nat):Prop:=∀ x y,¬ Clash rows b (b+1+a) x y
open Classical in
noncomputable def wf (rows:Rows) (p:Nat×Nat):Bool:=decide (Win rows p.1 p.2)
open Classical in
theorem wf_iff {rows:Rows} {p:Nat×Nat}:wf rows p=true↔Win rows p.1 p.2:=by unfold wf;exact decide_eq_true_iff
end Om
namespace L2
open PySem PySem.Spec PyProof.Rows
end L2
end
section
namespace L2
open PySem PySem.Spec PyProof.Rows
section
variable {prog:Program} {w:World} {A:Around} {E:Value->Shared->Prop} {s:Shared}
theorem call_len_entries {d:Addr} {o:Obj} {es:Array DictEntry} {ep:Nat} {Q:Value->Shared->Prop} (hd:(d == sysModules)=false) (hT:s.TypeIs (.ref d) "dict") (ho:s.heap.get? d=some o) (hdat:o.data = .dict es ep) (hfit:(es.size:Int) < 2 ^ 63)
  (h:Q (.int es.size (s.toks+1)) { s with toks:=s.toks+1+1 }):wpAny (model prog w) A (call (.builtin "len") [.ref d]) Q E s:=by
 have len1:MeetsIn prog w (Builtin.«dict.__len__» ⟨[.ref d],[]⟩) (fun _ R s=>s.heap.get? d=some o/\R (.ok (.ret (.int es.size s.toks))) { s with toks:=s.toks+1 }):=
  .of_wp fun A R s ⟨ho,h⟩=>by
   show wpAny _ _ (dictSize d >>= _) _ _ s
   unfold dictSize
   refine wpAny_bind (wpAny_bind (wpAny_dictEntries ho hdat (wpAny_pure ?_)))
   show wpAny _ _ (Builtin.Dict.pendingCount d >>= _) _ _ s
   refine wpAny_bind (wpAny_pendingCount_other hd ?_)
   refine wpAny_ret_mkInt ?_
   rw [Nat.add_zero];exact h
 refine Calls.call_function_entry kind_len plain_len entry_len (args_len1 _) ?_
 unfold Builtin.«len»
 refine wpAny_bind (m:=oneArg "len" _) (wpAny_pure ?_)
 refine wpAny_bind (m:=callSpecial? (.ref d) (Str.ofString "__len__")) (wpAny_callSpecial?_slot (name:=Str.ofString "__len__") hT F.slot_dict_len
  (call_meetsIn F.slot_dict_len hT F.entry_dict_len (F.args_dict_len_1 _) len1 ⟨ho,?_⟩))
 show wpAny _ _ _ _ _ { s with toks:=s.toks+1 }
 refine wpAny_bind (wpAny_holding (wpAny_pure ?_))
 refine wpAny_bind (wpAny_letGo ?_)
 show wpAny _ _ (if ((es.size:Nat):Int) < 0 then _ else _) _ _ _
 rw [if_neg (by omega)]
 show wpAny _ _ (if ((es.size:Nat):Int) ≥ 2 ^ 63 then _ else _) _ _ _
 rw [if_neg (by omega)]
 exact wpAny_bind (wpAny_mkInt (wpAny_pure ⟨_,rfl,h⟩))
end
section
variable {X:Cx} {p pos:Pos}
end
section
variable {G H0 H:Hp} {D q:Addr} {kvs:List (List Key×V)} {ks:List (Nat×Nat)} {c:Nat} {E:Nat×Nat->Om.Stp->Prop} {o:HO}
end
end L2
namespace Om
end Om
end
section
namespace L2
open PySem PySem.Spec PyProof.Rows
section
variable {prog:Program} {w:World} {A:Around} {E:Value->Shared->Prop} {s:Shared}
theorem iadd_dict {R:Result->Shared->Prop} {d:Addr} {od:Obj} {es:Array DictEntry} {ep:Nat} (hh:A.handled=none) (hd:(d == sysModules)=false) (hT:s.TypeIs (.ref d) "dict") (ho:s.heap.get? d=some od) (hdat:od.data = .dict es ep) (hlen:es.size<=sizeLine) (S:Addr) (c₀:Nat) (hS:s.heap.get? S=some { cls:=.type "list",data:=.seq #[] c₀ })
  (hR:∀ h' tk acc' c',(∀ b o,b≠S->s.heap.get? b=some o->h'.get? b=some o)->h'.get? S=some { cls:=.type "list",dict:=none,data:=.seq acc' c',slots:=#[] } →
   ItemsOf (fun i v=>∃ e,es[i]? = some e/\v=e.key) acc' es.size->R (.ok (.ret (.ref S))) { s with heap:=h',toks:=tk }) :
  codeAny (model prog w) A (.builtin "list.__iadd__" ⟨[.ref S,.ref d],[]⟩) R s:=by
 refine codeAny_builtin entry_list_iadd' ?_
 rw [Around.under_plainId (by decide +kernel) _]
 exact extend_dict hh hd hT ho hdat hlen S (.ref S) c₀ hS hR
theorem collect_dict {d:Addr} {od:Obj} {es:Array DictEntry} {ep:Nat} {Q:List Value->Shared->Prop} (hh:A.handled=none) (hd:(d == sysModules)=false) (hT:s.TypeIs (.ref d) "dict") (ho:s.heap.get? d=some od) (hdat:od.data = .dict es ep) (hlen:es.size<=sizeLine)
  (h:∀ (h':Heap) (tk:Tok) (acc:Array Value),(∀ b o,s.heap.get? b=some o->h'.get? b=some o)->s.heap.objs.size < h'.objs.size->ItemsOf (fun i v=>∃ e,es[i]? = some e/\v=e.key) acc es.size->Q acc.toList { s with heap:=h',toks:=tk }) :
  wpAny (model prog w) A (collect (.ref d)) Q E s:=by
 unfold collect
 refine wpAny_bind (wpAny_runValue (codeAny_builtin entry_proto_collect' ?_))
 show wpAny _ _ (do again (.builtin "list.__iadd__" ⟨[<-newList [],.ref d],[]⟩)) _ _ s
 refine wpAny_bind (wpAny_newList (wpAny_pure ⟨Code.quiet_builtin _ (by decide +kernel),?_⟩))
 have hT':(⟨s.heap.push (seqObj "list" #[] 0),s.gens,s.drawn,s.toks,s.os⟩ : Shared).TypeIs (.ref d) "dict" := by
  obtain ⟨o,e1,e2⟩:=hT
  exact ⟨o,Heap.get?_push_of_some _ e1,e2⟩
 refine iadd_dict hh hd hT' (Heap.get?_push_of_some _ ho) hdat hlen s.heap.objs.size 0 (Heap.get?_push_size _ rfl) fun h' tk acc' c' hk hS' hacc=>?_
 show wpAny (model prog w) A (do
   let o <-load s.heap.objs.size
   match o.data with
   | .seq xs _=>pure xs.toList
   | _=>unsupported "internal:collect") Q E { s with heap:=h',toks:=tk }
 refine wpAny_bind (wpAny_load hS' ?_)
 exact wpAny_pure (h h' tk acc' (fun b o e=>hk b o (Nat.ne_of_lt (Heap.lt_size e)) (Heap.get?_push_of_some _ e)) (Heap.lt_size hS') hacc)
theorem sorted_dict {d:Addr} {od:Obj} {es:Array DictEntry} {ep:Nat} {ns:List Int} {Q:Value->Shared->Prop} (hh:A.handled=none) (hd:(d == sysModules)=false) (hT:s.TypeIs (.ref d) "dict") (ho:s.heap.get? d=some od) (hdat:od.data = .dict es ep) (hI:IntsAre (es.toList.map (·.key)) ns) (h64:es.size < 64)
  (h:∀ (h':Heap) (tk:Tok) (l:Addr) (out:Array Value) (ns':List Int) (e:Nat),(∀ b o,s.heap.get? b=some o->h'.get? b=some o)->s.heap.objs.size<=l->h'.get? l=some (seqObj "list" out e)->IntsAre out.toList ns'->ns'.Perm ns->ns'.Pairwise (·<=·)->Q (.ref l) { s with heap:=h',toks:=tk }) :
  wpAny (model prog w) A (call (.builtin "sorted") [.ref d]) Q E s:=by
 refine Calls.call_function_entry kind_sorted plain_sorted entry_sorted (args_sorted1 _) ?_
 unfold Builtin.«sorted»
 refine wpAny_bind (m:=checkCount "sorted" 1 1 _) (wpAny_pure ?_)
 refine wpAny_bind (collect_dict hh hd hT ho hdat (by rw [sizeLine_eq];omega) fun h1 tk acc kp lt it=>?_)
 have ea:acc.toList=es.toList.map (·.key):=by
  apply List.ext_getElem?
  intro i
  rw [List.getElem?_map]
  by_cases hi:i < es.size
  ·have hi':i < acc.size:=by rw [it.1];exact hi
   obtain ⟨e,e1,e2⟩:=it.2 i acc[i] (by simp [hi'])
   have e3:es.toList[i]? = some e:=by simpa using e1
   rw [e3]
   simp [hi',e2]
  ·have:¬ i < acc.size:=by rw [it.1];exact hi
   simp [Nat.le_of_not_lt hi,Nat.le_of_not_lt this]
 rw [ea]
 generalize hvs:es.toList.map (·.key)=vs at *
 have hv64:vs.length < 64:=by rw [<-hvs];simpa using h64
 refine wpAny_bind (wpAny_newList ?_)
 have hoL:(h1.push (seqObj "list" vs.toArray 0)).get? h1.objs.size=some (seqObj "list" vs.toArray 0):=Heap.get?_push_size _ rfl
 refine wpAny_bind (wpAny_holding (wpAny_call_entry slot_list_sort ⟨_,hoL,rfl⟩ entry_list_sort (list_sort_tree hoL hI hv64 fun out ns' a1 a2 a3=>⟨_,rfl,?_⟩) (args_list_sort _)))
 obtain ⟨e,he⟩:=sortedHeap_at (out:=out) hoL
 refine wpAny_pure ⟨_,rfl,h _ tk h1.objs.size out ns' e (fun b o hb=>?_) (Nat.le_of_lt lt) he a1 a2 a3⟩
 have hb1:=kp b o hb
 have bl:=Heap.lt_size hb1
 rw [sortedHeap_old (Nat.ne_of_lt bl) (by rw [size_push'];exact Nat.lt_succ_of_lt bl)]
 exact Heap.get?_push_of_some _ hb1
end
section
variable {X:Cx} {p pos:Pos}
def rSortedD:List V->Hp->VK->Prop:=fun vs H Q=>(∃ (a:Addr) (kvs:List (Key×V)) (ns:List Int),vs=[.ref a]/\Rd H a (.dK kvs)/\kvs.map (·.1)=ns.map Sum.inl/\ns.length < 64 ∧
  ∀ (l:Addr) (ns':List Int),H l=none->ns'.Perm ns->ns'.Pairwise (·<=·)->Q (.ref l) (upd H l (.lst (ns'.map V.int))))\/rSorted vs H Q
theorem call_sortedD (hc:X.calm=true):CallR X (.builtin "sorted") rSortedD:=by
 intro pins s σ H xs us Q I r h
 rcases h with ⟨a,kvs,ns,rfl,rd,hk,hl,q⟩ | h
 ·obtain ⟨u,rfl,rx⟩:=vals1 r
  cases rx
  obtain ⟨z,hd,vs,kv,o,es,ep,h1,h2,h3,h4,h5,h6⟩:=dk_rd I.hok rd
  have hT:s.TypeIs (.ref a) "dict" := ⟨o,h1,h2.1⟩
  have rel:=keys_mix kv h5
  have e1:(kvs.map fun p=>kV p.1)=ns.map V.int:=by
   have:(kvs.map fun p=>kV p.1)=(kvs.map (·.1)).map kV:=by rw [List.map_map];rfl
   rw [this,hk,List.map_map]
   rfl
  rw [e1] at rel
  have hI:=vals_intsA rel
  have es64:es.size < 64:=by
   have:=rel.length
   simp at this
   omega
  refine sorted_dict (I.ok.hd hc) hd hT h1 h3 hI es64 fun h' tk l out ns' e kp hl' he a1 a2 a3=>?_
  have hz:(ns'.map V.int).length<=sizeLine:=by rw [List.length_map,a2.length_eq];exact le_line (by omega)
  exact ⟨.ref l,upd H l (.lst (ns'.map V.int)),I.laid (t':=tk) kp hl' ⟨hz,out.toList,e,ints_vals a1,by simpa using he⟩,rfl,q _ _ (I.hok.fresh hl') a2 a3⟩
 ·exact call_sortedU pins s σ H xs us Q I r h
theorem fn_sortedD {e:Expr} {es:List Expr} {t:TA} {mg':Str->Option Value} (hm:mg' "sorted" = none) (hX:X.mg=mg') (ha:PA X (e :: es) t) (hc:X.calm=true:=by kernel_rfl) (hg:gB X "sorted" = true:=by kernel_rfl) (he:starEach (e :: es) X.env=(false,eval e X.env) :: starEach es X.env:=by kernel_rfl) (hpl:(backTo pos (starEach es X.env)).any (·.1)=false:=by kernel_rfl) :
  PE X (.Call (.Name "sorted" p) (e :: es) [] pos) (tCB rSortedD t):=pe_callB (call_sortedD hc) (gl_of hg) (by rw [hX];exact hm) PyProof.Rows.boot_sorted ha (he:=he) (hpl:=hpl)
end
end L2
end
section
namespace L2
open PySem PySem.Spec PyProof.Rows
section
variable {X:Cx} {p pos p2:Pos} {a b e st:Expr} {es:List Expr} {t:TA} {te:TE} {ts:TO}
end
section
variable {H H':Hp} {n:Nat} {v:V} {a:Addr} {xs:List V}
end
section
variable {F:Addr->Prop} {H H':Hp} {b:Addr} {o:HO}
end
end L2
end
section
namespace L2
open PySem PySem.Spec PyProof.Rows
end L2
end
section
namespace L2
open PySem PySem.Spec PyProof.Rows
def CodeO (c:Addr) (q:Str):HO:=.ext fun h=>h.CodeRec (.ref c) q
theorem CodeO.mk {P:Program} {w:World} {H:Hp} {h:Heap} {c:Addr} {q:Str} (x:h.CodeRec (.ref c) q):ObjOk P w H h c (CodeO c q):=by
 refine ⟨x,?_,fun h1 h2 x1 k=>?_⟩
 ·obtain ⟨c',o,vs,t,e,g,r⟩:=x
  cases e
  exact ⟨o,g⟩
 ·obtain ⟨c',o,vs,t,e,g,r⟩:=x1
  cases e
  exact ⟨_,o,vs,t,rfl,k o g,r⟩
theorem CodeO.at {P:Program} {w:World} {H:Hp} {h:Heap} {c:Addr} {q:Str} (ok:HOk P w H h) (e:H c=some (CodeO c q)):h.CodeRec (.ref c) q:=(ok c _ e).1
def LamIn (h:Heap) (f:Addr) (params:Arguments) (body:Expr) (scope:Scope) (qual:Str) (c:Addr) (F:List Str) (fvs:List V):Prop:=
 ∃ (pm ctv:Value) (clos:List (Str×Addr)),h.get? f=some (PySem.W.kla_obj "<lambda>" qual params body scope clos pm c ctv) ∧
  (∀ x y d,clos.lookup x=some d->clos.lookup y=some d->x=y) ∧
  (∀ y∈scope.names,y.2 = .free->∃ d,clos.lookup y.1=some d) ∧
  (∀ x d,clos.lookup x=some d->∃ v,h.IsCell d v) ∧
  ∀ (i:Nat) x v,F[i]? = some x->fvs[i]? = some v->∃ d u,clos.lookup x=some d/\h.IsCell d (some u)/\RelV v u
structure LamSc (p:Str) (F:List Str) (sc:Scope):Prop where
 kind:sc.kind = .function
 co:sc.isCoroutine=false
 gen:sc.isGenerator=false
 par:sc.names.lookup p=some .local
 fre:∀ x∈F,sc.names.lookup x=some .free
 nocell:∀ y∈sc.names,y.2≠.cell
def cxLam (CX:CXT) (P:Program) (w:World) (K:PySem.W.Frag) (mg:Str->Option Value) (base:Heap) (N:List Str) (qual:Str) (scope:Scope) (f:Addr) (cd:Value) (clos:List (Str×Addr)) (A:Around) (outer:List Env) (s:Shared) (H:Hp) (E:XK):Cx where
 prog:=P
 w:=w
 K:=K
 mg:=mg
 base:=base
 A:=A.deeper (PySem.W.envX qual scope s.heap.objs.size f cd clos)
 N:=N
 s₀:=s
 H₀:=H
 env:=PySem.W.envX qual scope s.heap.objs.size f cd clos
 outer:=outer
 stack:=PySem.W.envX qual scope s.heap.objs.size f cd clos :: outer
 ex:=[]
 calm:=true
 fn:=fun _=>false
 pn:=[]
 xe:=fun e s'=>wpAny (model P w) (A.deeper (PySem.W.envX qual scope s.heap.objs.size f cd clos)) (leaving (PySem.W.envX qual scope s.heap.objs.size f cd clos) e) (fun _ s''=>CX outer H s E e s'') (fun e' s''=>CX outer H s E e' s'') s'
theorem inv_lam {CX:CXT} {P:Program} {w:World} {K:PySem.W.Frag} {mg:Str->Option Value} {base:Heap} {p:Str} {F:List Str} {fvs:List V} {qual:Str} {scope:Scope} {f:Addr} {cd:Value} {clos:List (Str×Addr)} {A:Around} {outer:List Env} {s:Shared} {H:Hp} {E:XK}
  {u:Value} {v:V} {h':Heap} {tk:Nat} (S:LamSc p F scope) (hd:A.handled=none) (e0:Env0 P w K mg base A outer s H) (rv:RelV v u) (hl:F.length=fvs.length)
  (inj:∀ x y d,clos.lookup x=some d->clos.lookup y=some d->x=y) (has:∀ y∈scope.names,y.2 = .free->∃ d,clos.lookup y.1=some d) (cel:∀ x d,clos.lookup x=some d->∃ v,base.IsCell d v)
  (vals:∀ (i:Nat) x v,F[i]? = some x->fvs[i]? = some v->∃ d u,clos.lookup x=some d/\base.IsCell d (some u)/\RelV v u)
  (hns:h'.Ns s.heap.objs.size (fun x=>[(p,u)].reverse.lookup x)) (hk:∀ b o,s.heap.get? b=some o->h'.get? b=some o) :
  Inv (cxLam CX P w K mg base (p :: F) qual scope f cd clos A outer s H E) [] (some v :: fvs.map some) H { s with heap:=h',toks:=tk }:=by
 have noA:∀ b:Addr,b ∉ (cxLam CX P w K mg base (p :: F) qual scope f cd clos A outer s H E).ex:=fun b z=>absurd (show b∈([]:List Addr) from z) (by simp)
 have up:∀ {d:Addr} {v:Option Value},base.IsCell d v->h'.IsCell d v:=fun {d v} ⟨o,e,q⟩=>⟨o,hk _ _ (e0.bs _ _ e).1,q⟩
 refine ⟨⟨e0.mod,S.kind,rfl,rfl,Nat.le_refl _,inj,fun y hy=>?_,fun y c hf _=>(by cases (show false=true from hf)),fun _=>hd,Around.frames_deeper e0.frames,.inr ⟨rfl,rfl⟩,fun b z=>absurd z (noA b),e0.bs,e0.bsz,fun b _ _=>noA b,fun b z=>absurd z (noA b),e0.funs,e0.frf⟩,
  rfl,e0.bare,Un.kept hk,⟨_,hns,fun i y x h1 h2 h3=>?_⟩,fun y c h=>?_,e0.hok.fresh (Nat.le_refl _),fun y c h=>?_,fun p hp=>absurd (show p∈([]:List (Addr×Obj)) from hp) (by simp),e0.hok.kept hk,?_⟩
 ·have hy:scope.names.lookup y=some .cell\/scope.names.lookup y=some .free:=hy
  rcases hy with hy | hy
  ·exact absurd rfl (S.nocell _ (PySem.mem_of_lookup hy))
  ·exact has _ (PySem.mem_of_lookup hy) rfl
 ·cases i with
  | zero=>
   cases h1
   cases h2
   exact ⟨u,rv,.inl ⟨S.par,by simp⟩⟩
  | succ i=>
   have h1:F[i]? = some y:=by
    have h1:(p :: F)[i+1]? = some y:=h1
    rw [List.getElem?_cons_succ] at h1
    exact h1
   have h2:fvs[i]? = some x:=by
    rw [List.getElem?_cons_succ,List.getElem?_map] at h2
    cases q:fvs[i]? with
    | none=>rw [q] at h2;cases h2
    | some z=>rw [q] at h2;cases h2;rfl
   obtain ⟨d,u',e1,e2,e3⟩:=vals i y x h1 h2
   exact ⟨u',e3,.inr ⟨.inr (S.fre y (List.mem_of_getElem? h1)),d,e1,up e2⟩⟩
 ·obtain ⟨x,e⟩:=cel y c h
  exact ⟨x,up e⟩
 ·obtain ⟨x,o,e,_⟩:=cel y c h
  exact (e0.bs _ _ e).2
 ·show (some v :: fvs.map some).length=(p :: F).length
  simp [hl]
def CanL (P:Program) (w:World) (K:PySem.W.Frag) (mg:Str->Option Value) (base:Heap) (f:Addr) (k:Nat) (p:Str) (sp:Sp):Prop:=
 ∃ fd,FnOk P w K mg base CX0 k f fd [p] sp/\(∃ oc od sl,base.get? f=some ⟨oc,od,.func fd,sl⟩)/\Binds K fd [p] []
theorem lam_ok {P:Program} {w:World} {K:PySem.W.Frag} {mg:Str->Option Value} {base:Heap} {f c:Addr} {params:Arguments} {body:Expr} {scope:Scope} {qual p:Str} {F:List Str} {fvs:List V} {k:Nat} {sp:Sp} (L:LamIn base f params body scope qual c F fvs) (S:LamSc p F scope)
  (hl:F.length=fvs.length) (hbind:∀ clos pm ctv u,bindArgs (PySem.W.kla_fn "<lambda>" qual params body scope clos pm (.ref c) ctv) ⟨[u],[]⟩=pure [(p,u)]) (len:∀ vs H Q E,sp vs H Q E->vs.length=1)
  (hbody:∀ (clos:List (Str×Addr)) (A:Around) (outer:List Env) (s:Shared) (H:Hp) (v:V) (Q:VK) (E:XK),Room k (A.deeper (PySem.W.envX qual scope s.heap.objs.size f (.ref c) clos))->sp [v] H Q E →
   H c=some (CodeO c qual)/\∃ t,PE (cxLam CX0 P w K mg base (p :: F) qual scope f (.ref c) clos A outer s H E).nox body t/\t (some v :: fvs.map some) H Q):CanL P w K mg base f (k+1) p sp:=by
 obtain ⟨pm,ctv,clos,hf,inj,has,cel,vals⟩:=L
 refine ⟨_,⟨len,fun A outer s H args us vs Q E hr e0 hb r hsp=>?_⟩,⟨_,_,_,hf⟩,.all fun us hl=>?_⟩
 ·have hl1:=len _ _ _ _ hsp
  match vs,hl1 with
  | [v],_=>
   obtain ⟨u,rfl,rv⟩:=vals1 r
   have lim:s.heap.NoLimit:=e0.mod.nolimit.keeps fun b o e=>(e0.bs b o e).1
   obtain ⟨hc,t,ht,hq⟩:=hbody clos A outer s H v Q E (hr.deeper _) hsp
   refine PySem.W.kla_callFunE hr.depth (e0.bs _ _ hf).1 rfl S.co S.gen rfl (CodeO.at e0.hok hc) (hb _ _ _ _ ?_)
   refine wpAny_newFunctionEnv S.nocell (fun y hy=>?_) (fun h' hns hsb=>?_) S.kind
   ·have e:y=(p,u):=by simpa using hy
    subst e
    exact S.par
   ·have hk:∀ b o,s.heap.get? b=some o->h'.get? b=some o:=fun b o e=>hsb.extBut b o (Nat.ne_of_lt (Heap.lt_size e)) (Heap.get?_push_of_some _ e)
    refine ⟨lim.keeps hk,PySem.W.kla_codeExpr ?_⟩
    have I:=inv_lam (CX:=CX0) (E:=E) (f:=f) (cd:=.ref c) (qual:=qual) (tk:=s.toks+([p].zip [u]).length) S hr.hd e0 rv hl inj has cel vals hns hk
    refine wpAny_mono (ht.nox [] _ _ H _ I hq) (fun u' s' hs=>?_) fun e s' hs=>hs
    obtain ⟨v',H',J,rv',q⟩:=hs
    exact ⟨v',H',J.os,J.bare,J.base,J.hok,rv',q⟩
 ·match us,hl with
  | [u],_=>exact hbind clos pm ctv u
section
variable {X:Cx} {p pos:Pos} {e:Expr} {es:List Expr} {t:TA}
def tCanF (i:Nat) (f:Addr) (sp:Sp) (t:TA):TE:=fun σ H Q=>σ[i]? = some (some (.ref f))/\t σ H fun vs H1=>sp vs H1 Q E0
theorem e_callF (x:Str) (i:Nat) {P':Program} {w':World} {K':PySem.W.Frag} {mg':Str->Option Value} {base':Heap} {f:Addr} {k:Nat} {y:Str} {sp:Sp} (V:CanL P' w' K' mg' base' f k y sp)
  (hX:X.prog=P'/\X.w=w'/\X.K=K'/\X.mg=mg'/\X.base=base') (hr:Room k X.A) (ha:PA X (e :: es) t) (hN:X.N[i]? = some x:=by with_unfolding_all rfl) (hv:visB X.env.scope x=true:=by kernel_rfl)
  (he:starEach (e :: es) X.env=(false,eval e X.env) :: starEach es X.env:=by kernel_rfl) (hpl:(backTo pos (starEach es X.env)).any (·.1)=false:=by kernel_rfl) :
  PE X (.Call (.Name x p) (e :: es) [] pos) (tCanF i f sp t):=by
 obtain ⟨rfl,rfl,rfl,rfl,rfl⟩:=hX
 obtain ⟨fd,F,⟨oc,od,sl,hf⟩,b⟩:=V
 intro pins s σ H Q I h
 obtain ⟨ef,h⟩:=h
 refine wpAny_Call_Name_kw (thn ((vn (X:=X) (pos:=p) x i hN hv) pins s σ H (fun v H'=>v = .ref f/\H'=H) I ?_) fun u s1 ⟨v,H1,I1,r1,q1,q2⟩=>?_)
 ·unfold tV
  rw [ef]
  exact ⟨rfl,rfl⟩
 ·subst q1
  subst q2
  cases r1
  have go:wpAny (model X.prog X.w) X.A (spliced (backTo pos (starEach (e :: es) X.env))) (fun vs s₁=>s₁.heap.get? f=some ⟨oc,od,.func fd,sl⟩/\wpAny (model X.prog X.w) X.A (call (.ref f) vs) (EP X pins σ Q) X.xe s₁) X.xe s1:=
   thn (ha pos pins s1 σ H1 _ I1 h) fun us s2 ⟨vs,H2,I2,r,q⟩=>⟨I2.bk _ _ hf,run_fn (dvs:=[]) (E:=E0) F hr b .nil pass0 I2 r (by rw [List.append_nil];exact q)⟩
  rw [he] at go ⊢
  exact PySem.W.callWith_of (P:=fun h=>h.get? f=some ⟨oc,od,.func fd,sl⟩) (first:=[]) (by show ((false || (backTo pos (starEach es X.env)).any (·.1)) || false)=false;rw [hpl];rfl)
   (fun h hh=>⟨.frame,.inl rfl,(PySem.W.Looks.ld (part:=none) hh).andThen .now⟩) (Calls.evalArgs_plain go)
end
end L2
end
section
namespace L2
open PySem PySem.Spec PyProof.Rows
structure Maker (mg:Str->Option Value) (base:Heap) (c P:Addr):Prop where
 bm:∃ bm ob,mg "__builtins__" = some (.ref bm)/\bm≠builtinsNs/\base.get? bm=some ob/\ob.cls = .type "module"/\ob.dict=some builtinsNs/\ob.data = .plain
 hd:PySem.W.CodeHd base c P
theorem Maker.keeps {mg:Str->Option Value} {base base':Heap} {c P:Addr} (M:Maker mg base c P) (k:∀ b o,base.get? b=some o->base'.get? b=some o):Maker mg base' c P:=
 ⟨let ⟨bm,ob,a,b,e,r⟩:=M.bm;⟨bm,ob,a,b,k _ _ e,r⟩,M.hd.keeps k⟩
def Tab (P:Addr) (pos:Pos) (qual:Str) (H:Hp):Prop:=H P=some (.tbl #[])\/∃ c,H P=some (.tbl #[rawInt pos.line,rawInt pos.col,.ref c])/\H c=some (CodeO c qual)
def SameT (P:Addr) (H H':Hp):Prop:=∀ b o,b≠P->H b=some o->H' b=some o
theorem SameT.refl (P:Addr) (H:Hp):SameT P H H:=fun _ _ _ h=>h
theorem SameT.trans {P:Addr} {H H1 H2:Hp} (a:SameT P H H1) (b:SameT P H1 H2):SameT P H H2:=fun c o n h=>b c o n (a c o n h)
theorem Same.t {P:Addr} {H H':Hp} (a:Same H H'):SameT P H H':=fun c o _ h=>a c o h
theorem Tab.mono {P:Addr} {pos:Pos} {qual:Str} {H H':Hp} (t:Tab P pos qual H) (s:Same H H'):Tab P pos qual H':=by
 rcases t with e | ⟨c,e1,e2⟩
 ·exact .inl (s _ _ e)
 ·exact .inr ⟨c,s _ _ e1,s _ _ e2⟩
theorem tab_un {Pg:Program} {w:World} {fs ex:List Addr} {H:Hp} {h h':Heap} {P c:Addr} {ps more:Array Value} {q:Str} (ok:HOk Pg w H h) (e:H P=some (.tbl ps)) (k:∀ b o,b≠P->h.get? b=some o->h'.get? b=some o) (hP:h'.get? P=some (PySem.W.tabObj (ps++more)))
  (hc:h.objs.size<=c):Un fs ex H (upd (upd H P (.tbl (ps++more))) c (CodeO c q)) h h':=by
 have nc:=ok.fresh hc
 have cP:c≠P:=fun z=>by rw [z,e] at nc;cases nc
 have at':∀ b o,b≠P->H b=some o->upd (upd H P (.tbl (ps++more))) c (CodeO c q) b=some o:=fun b o n g=>by
  rw [upd_ne (ne_of_none g nc),upd_ne n]
  exact g
 have un:∀ b,H b=none->b≠P:=fun b n z=>by rw [z,e] at n;cases n
 refine ⟨fun b o g n _ _=>k b o (un b n) g,fun b o g n _ _=>⟨o.slots,k b o (un b n) g⟩,fun b o g n _=>?_,fun b o g _=>?_,fun b xs g=>at' b _ (fun z=>by rw [z,e] at g;cases g) g,fun b o u g=>at' b _ (fun z=>by rw [z,e] at g;cases g) g,fun b qs g=>?_⟩
 ·rw [upd_ne (Nat.ne_of_lt (Nat.lt_of_lt_of_le (Heap.lt_size g) hc)),upd_ne (un b n)]
  exact n
 ·by_cases z:b=P
  ·rw [z];exact ⟨_,hP⟩
  ·exact ⟨o,k b o z g⟩
 ·by_cases z:b=P
  ·subst z
   rw [e] at g
   cases g
   exact ⟨more,by rw [upd_ne (Ne.symm cP),upd_same]⟩
  ·exact ⟨#[],by rw [at' b _ z g];simp⟩
theorem tab_hok {Pg:Program} {w:World} {H:Hp} {h h':Heap} {P c:Addr} {ps more:Array Value} {q:Str} (ok:HOk Pg w H h) (e:H P=some (.tbl ps)) (k:∀ b o,b≠P->h.get? b=some o->h'.get? b=some o) (hP:h'.get? P=some (PySem.W.tabObj (ps++more)))
  (hc:h.objs.size<=c) (rec:h'.CodeRec (.ref c) q):HOk Pg w (upd (upd H P (.tbl (ps++more))) c (CodeO c q)) h':=by
 have nc:=ok.fresh hc
 have cP:c≠P:=fun z=>by rw [z,e] at nc;cases nc
 have at':∀ b o,b≠P->H b=some o->upd (upd H P (.tbl (ps++more))) c (CodeO c q) b=some o:=fun b o n g=>by
  rw [upd_ne (ne_of_none g nc),upd_ne n]
  exact g
 intro a o g
 by_cases z:a=c
 ·subst z
  rw [upd_same] at g
  cases g
  exact CodeO.mk rec
 ·rw [upd_ne z] at g
  by_cases y:a=P
  ·subst y
   rw [upd_same] at g
   cases g
   exact hP
  ·rw [upd_ne y] at g
   refine (ok a o g).stay (fun b u hb r=>k b u ?_ r) (fun b r=>at' b _ (fun z=>by rw [z,e] at r;cases r) r) fun b xs r=>at' b _ (fun z=>by rw [z,e] at r;cases r) r
   rintro rfl
   rcases hb with rfl | hb
   ·exact y rfl
   ·rw [e] at hb;cases hb
section
variable {X:Cx} {pins:List (Addr×Obj)} {σ:St} {H:Hp} {s:Shared}
theorem lam_eval {params:Arguments} {body:Expr} {scope:Scope} {pos:Pos} {c P:Addr} {Q:Value->Shared->Prop} (I:Inv X pins σ H s) (M:Maker X.mg X.base c P) (hcd:X.env.code = .ref c) (hdef:defaultsOf params X.env=([],[]))
  (tb:Tab P pos (X.env.qual++"<lambda>") H) (hfr:∀ y∈scope.names,y.2 = .free->∃ d,X.env.cells.lookup y.1=some d)
  (h:∀ (f c':Addr) (clos:List (Str×Addr)) (pm ctv:Value) (H2:Hp) (s2:Shared),Inv X pins σ H2 s2->SameT P H H2->H2 P=some (.tbl #[rawInt pos.line,rawInt pos.col,.ref c'])->H2 c'=some (CodeO c' (X.env.qual++"<lambda>"))->H2 f=none →
   s2.heap.get? f=some (PySem.W.kla_obj "<lambda>" (X.env.qual++"<lambda>") params body scope clos pm c' ctv)->s.heap.objs.size<=f->(∀ x d,clos.lookup x=some d->X.env.cells.lookup x=some d)->(∀ y∈scope.names,y.2 = .free->∃ d,clos.lookup y.1=some d)->Q (.ref f) s2) :
  wpAny (model X.prog X.w) X.A (eval (.Lambda params body scope pos) X.env) Q X.xe s:=by
 refine PySem.W.kla_eval hdef ?_
 obtain ⟨clos,hcl,hc1,hc2⟩:=closure_ok hfr
 have hgs:=I.mod.glob.keeps I.bk
 obtain ⟨bm,ob,b1,b2,b3,b4,b5,b6⟩:=M.bm
 have hbm:=I.bk _ _ b3
 have hbG:bm≠mainGlobals:=fun q=>by
  obtain ⟨o,es,ep,e,hd,_⟩:=hgs
  rw [q,e] at hbm;cases hbm;rw [hd] at b6;cases b6
 have side:∀ {ps:Array Value},s.heap.get? P=some (PySem.W.tabObj ps)->mainGlobals≠P/\s.heap.BuiltinsAt X.mg P:=fun {ps} hP=>by
  refine ⟨fun q=>?_,bm,ob,b1,b2,hbG,fun q=>?_,hbm,b4,b5,b6⟩
  ·obtain ⟨o,es,ep,e,hd,_⟩:=hgs
   rw [q,hP] at e;cases e;cases hd
  ·rw [q,hP] at hbm;cases hbm;cases b4
 rcases tb with e | ⟨c',e1,e2⟩
 ·have hP:s.heap.get? P=some (PySem.W.tabObj #[]):=I.hok P _ e
  obtain ⟨g1,g2⟩:=side hP
  refine PySem.W.kla_makeFunction (mg:=X.mg) hcl I.ok.glob hgs hcd (M.hd.keeps I.bk) hP trivial rfl g1 g2 fun c' ctv h' tk hx hge hlt hrec htb=>?_
  have k:∀ (o:Obj) b u,b≠P->s.heap.get? b=some u->(h'.push o).get? b=some u:=fun o b u n g=>Heap.get?_push_of_some _ (hx b u n g)
  have hf:s.heap.objs.size<=h'.objs.size:=Nat.le_of_lt (Nat.lt_of_le_of_lt hge hlt)
  have nf:=I.hok.fresh hf
  have cP:c'≠P:=fun z=>by have:=I.hok.fresh hge;rw [z,e] at this;cases this
  have J:=I.un (t':=tk) (tab_un (fs:=X.fs) (ex:=[]) (more:=#[rawInt pos.line,rawInt pos.col,.ref c']) (q:=X.env.qual++"<lambda>") I.hok e (k _) (Heap.get?_push_of_some (PySem.W.kla_obj "<lambda>" (X.env.qual++"<lambda>") params body scope clos ((X.mg "__name__").getD .none) c' ctv) htb) hge)
   (tab_hok I.hok e (k _) (Heap.get?_push_of_some _ htb) hge (hrec.push _))
  refine h h'.objs.size c' clos _ ctv _ _ J (fun b o n g=>?_) ?_ upd_same ?_ (Heap.get?_push_size _ rfl) hf hc1 hc2
  ·rw [upd_ne (ne_of_none g (I.hok.fresh hge)),upd_ne n]
   exact g
  ·rw [upd_ne (Ne.symm cP),upd_same]
   simp
  ·rw [upd_ne (Nat.ne_of_gt hlt),upd_ne (fun z=>by rw [z,e] at nf;cases nf)]
   exact nf
 ·have hP:s.heap.get? P=some (PySem.W.tabObj #[rawInt pos.line,rawInt pos.col,.ref c']):=I.hok P _ e1
  obtain ⟨g1,g2⟩:=side hP
  refine PySem.W.kla_makeFunctionHit (mg:=X.mg) hcl I.ok.glob hgs hcd (M.hd.keeps I.bk) hP (TriplesOk_snoc _ _ _ [] trivial) (codeAmong_snoc [] trivial rfl) g2 fun ctv h' tk hk hsz=>?_
  have J:=I.kept (t':=tk) (h':=h'.push (PySem.W.kla_obj "<lambda>" (X.env.qual++"<lambda>") params body scope clos ((X.mg "__name__").getD .none) c' ctv)) fun b u g=>Heap.get?_push_of_some _ (hk b u g)
  exact h h'.objs.size c' clos _ ctv H _ J (SameT.refl _ _) e1 e2 (I.hok.fresh hsz) (Heap.get?_push_size _ rfl) hsz hc1 hc2
def wider (X:Cx) (h:Heap) (H:Hp):Heap:=PySem.W.hideAll h (trk h H++frs X.stack)
theorem wider_get {h:Heap} {b:Addr} {o:Obj} (e:h.get? b=some o) (n:H b=none) (f:b ∉ frs X.stack):(wider X h H).get? b=some o:=
 PySem.W.hideAll_get _ e fun hm=>by
  rcases List.mem_append.mp hm with hm | hm
  ·have q:(H b).isSome=true:=(List.mem_filter.mp hm).2
   rw [n] at q;simp at q
  ·exact f hm
theorem of_wider {h:Heap} {b:Addr} {o:Obj} (e:(wider X h H).get? b=some o):h.get? b=some o/\H b=none/\b ∉ frs X.stack:=by
 have e':h.get? b=some o:=PySem.W.of_hideAll _ e
 have nm:b ∉ trk h H++frs X.stack:=fun hm=>by rw [show (wider X h H).get? b=none from PySem.W.hideAll_none _ hm] at e;cases e
 refine ⟨e',?_,fun z=>nm (List.mem_append_right _ z)⟩
 cases q:H b with
 | none=>rfl
 | some x=>exact absurd (List.mem_append_left _ (List.mem_filter.mpr ⟨List.mem_range.mpr (Heap.lt_size e'),by simp [q]⟩)) nm
theorem Inv.nostk (I:Inv X pins σ H s) {b:Addr} {o:Obj} (e:X.base.get? b=some o):b ∉ frs X.stack:=fun hb=>by
 have:=(I.stack.mem hb).1
 rw [e] at this;cases this
theorem Inv.wide (I:Inv X pins σ H s):(∀ b o,X.base.get? b=some o->(wider X s.heap H).get? b=some o):=fun b o e=>wider_get (I.bs b o e).1 (I.bs b o e).2 (I.nostk e)
theorem funFrames_wide {h base base':Heap}:∀ {l:List Env},h.FunFrames base l->(∀ b∈frs l,base'.get? b=none)->h.FunFrames base' l
 | [],_,_=>trivial
 | env :: r,⟨hk,⟨L,o,hf,hn,ho,hd⟩,hr⟩,k=>by
  have hL:L∈frs (env :: r):=by unfold frs;rw [List.filterMap_cons,hf];exact List.mem_cons_self
  exact ⟨hk,⟨L,o,hf,k L hL,ho,hd⟩,funFrames_wide hr fun b hb=>k b (by unfold frs;rw [List.filterMap_cons,hf];exact List.mem_cons_of_mem _ hb)⟩
theorem Mod.keeps {K:PySem.W.Frag} {mg:Str->Option Value} {base base':Heap} (M:Mod K mg base) (k:∀ b o,base.get? b=some o->base'.get? b=some o):Mod K mg base':=
 ⟨M.kin.keeps k,M.glob.keeps k,let ⟨mb,a,b⟩:=M.blt;⟨mb,a.keeps k,b⟩,M.nolimit.keeps k⟩
theorem Inv.env1 (I:Inv X pins σ H s):Env0 X.prog X.w X.K X.mg (wider X s.heap H) X.A X.stack s H:=
 ⟨I.ok.frames,I.mod.keeps I.wide,fun b o e=>⟨(of_wider e).1,(of_wider e).2.1⟩,Nat.le_of_eq (PySem.W.hideAll_size _ _),funFrames_wide I.stack fun b hb=>PySem.W.hideAll_none _ (List.mem_append_right _ hb),I.stkFree,I.hok,I.bare⟩
end
section
variable {X:Cx} {p pos lp:Pos} {a:Expr} {ta:TE}
def tLam (P:Addr) (lp:Pos) (qual:Str) (js:List Nat) (sp:Addr->Addr->List V->Sp) (ta:TE):TE:=fun σ H Q=>ta σ H fun x H1=>Tab P lp qual H1/\∃ fvs:List V,js.map (fun j=>σ[j]?)=fvs.map (fun v=>some (some v)) ∧
 ∀ f c H2,SameT P H1 H2->H2 P=some (.tbl #[rawInt lp.line,rawInt lp.col,.ref c])->H2 c=some (CodeO c qual)->H2 f=none->sp f c fvs [x,.ref f] H2 Q E0
theorem e_lamcall (x:Str) {params:Arguments} {body:Expr} {scope:Scope} {c P:Addr} {F:List Str} {js:List Nat} {k:Nat} {ps:List Str} {sp:Addr->Addr->List V->Sp} (hm:∃ f,X.mg x=some (.ref f)/\PySem.W.keepIn X.K (.ref f)=true) (M:Maker X.mg X.base c P) (hcd:X.env.code = .ref c)
  (hF:∀ (i:Nat) y,F[i]? = some y->∃ j,js[i]? = some j/\X.N[j]? = some y/\X.env.scope.names.lookup y=some .cell) (hFn:F.length=js.length) (hFs:∀ y∈F,scope.names.lookup y=some .free) (hfn:∀ y,X.fn y=true) (hfree:∀ y∈scope.names,y.2 = .free->X.env.scope.names.lookup y.1=some .cell)
  (hC:∀ (B:Heap) (f c':Addr) (fvs:List V),Mod X.K X.mg B->(∀ b o,X.base.get? b=some o->B.get? b=some o)->F.length=fvs.length->LamIn B f params body scope (X.env.qual++"<lambda>") c' F fvs->Can X.prog X.w X.K X.mg B x k ps (sp f c' fvs))
  (hr:Room k X.A) (ha:PE X a ta) (hg:gB X x=true) (hdef:defaultsOf params X.env=([],[])) (hdb:(x == ("__debug__" : Str))=false)
  (he:starEach [a,.Lambda params body scope lp] X.env=[(false,eval a X.env),(false,eval (.Lambda params body scope lp) X.env)]) :
  PE X (.Call (.Name x p) [a,.Lambda params body scope lp] [] pos) (tLam P lp (X.env.qual++"<lambda>") js sp ta):=by
 obtain ⟨tf,hm,hk⟩:=hm
 intro pins s σ H Q I h
 refine wpAny_Call_Name_kw (ld_glob I (gl_of hg) hm ?_ hdb)
 have go:wpAny (model X.prog X.w) X.A (spliced (backTo pos (starEach [a,.Lambda params body scope lp] X.env))) (fun vs s₁=>X.K.In s₁.heap/\wpAny (model X.prog X.w) X.A (call (.ref tf) vs) (EP X pins σ Q) X.xe s₁) X.xe s:=by
  rw [he]
  refine Calls.spliced_cons (thn (ha pins s σ H _ I h) fun u s1 ⟨v,H1,I1,r1,q1⟩=>?_)
  obtain ⟨tb,fvs,hv,q⟩:=q1
  refine Calls.spliced_cons (lam_eval I1 M hcd hdef tb (fun y hy hz=>I1.ok.has _ (.inl (hfree y hy hz))) fun f c' clos pm ctv H2 s2 I2 sm e1 e2 nf hf hge cl1 cl2=>Calls.spliced_nil ⟨I2.kIn,?_⟩)
  have ls:F.length=fvs.length:=by
   have:=congrArg List.length hv
   rw [List.length_map,List.length_map] at this
   omega
  have nst:f ∉ frs X.stack:=fun hb=>by
   obtain ⟨_,o,ho,_⟩:=I1.stack.mem hb
   exact absurd (Heap.lt_size ho) (Nat.not_lt.mpr hge)
  have cellB:∀ {y:Str} {d:Addr} {z:Option Value},X.env.cells.lookup y=some d->s2.heap.IsCell d z->(wider X s2.heap H2).IsCell d z:=fun {y d z} hd ⟨o,eo,od⟩=>by
   refine ⟨o,wider_get eo (I2.freeC y d hd) fun hb=>?_,od⟩
   rcases List.mem_cons.mp (I2.stkSub d hb) with z1 | z1
   ·exact I2.cne y d hd z1
   ·obtain ⟨_,o',ho',_⟩:=I2.ok.funs.mem z1
    exact absurd (Heap.lt_size ho') (Nat.not_lt.mpr (I2.ok.cab y d (hfn y) hd))
  have L:LamIn (wider X s2.heap H2) f params body scope (X.env.qual++"<lambda>") c' F fvs:=by
   refine ⟨pm,ctv,clos,wider_get hf nf nst,fun y z d h1 h2=>I2.ok.inj y z d (cl1 y d h1) (cl1 z d h2),cl2,fun y d hd=>?_,fun i y v' hi hv'=>?_⟩
   ·obtain ⟨z,hz⟩:=I2.cell y d (cl1 y d hd)
    exact ⟨z,cellB (cl1 y d hd) hz⟩
   ·obtain ⟨j,hj,hN,hc⟩:=hF i y hi
    have ej:σ[j]? = some (some v'):=by
     have:=congrArg (·[i]?) hv
     simp only [List.getElem?_map,hj,hv',Option.map_some] at this
     exact Option.some.inj this
    obtain ⟨m,_,hloc⟩:=I2.loc
    obtain ⟨u',ru,lk⟩:=hloc j y v' hN ej (.inr (.inl hc))
    rcases lk with ⟨k1,_⟩ | ⟨_,d,hd,hcell⟩
    ·have k1:X.env.scope.names.lookup y=some .local:=k1
     rw [hc] at k1;cases k1
    ·obtain ⟨d',hd'⟩:=cl2 (y,.free) (PySem.mem_of_lookup (hFs y (List.mem_of_getElem? hi))) rfl
     have:=cl1 y d' hd'
     rw [hd] at this
     cases this
     exact ⟨d,u',hd',cellB hd hcell,ru⟩
  obtain ⟨f',fd,Fk,hm',hk',hb⟩:=hC _ f c' fvs I2.env1.mod I2.wide ls L
  rw [hm] at hm'
  cases hm'
  have r2:Vals [v,.ref f] [u,.ref f]:=.cons r1 (.cons rfl .nil)
  have hq:=q f c' H2 sm e1 e2 nf
  have hl:([u,Value.ref f]++[]).length=ps.length:=by rw [List.append_nil,<-r2.length];exact Fk.len _ _ _ _ hq
  refine wpAny_call (codeAny_mono (Fk.run X.A X.stack s2 H2 ⟨[u,.ref f],[]⟩ ([u,.ref f]++[]) [v,.ref f] Q E0 hr I2.env1 (hb s2 _ I2.kIn hl) (by rw [List.append_nil];exact r2) hq) fun r s' hq=>?_)
  cases r with
  | error e=>exact hq.elim
  | ok fl=>
   cases fl with
   | ret u=>exact I2.after hq
   | next=>exact False.elim hq
   | brk=>exact False.elim hq
   | cont=>exact False.elim hq
 rw [he] at go ⊢
 exact PySem.W.callWith_of (P:=fun h=>X.K.In h) (first:=[]) rfl (PySem.W.keeps_K hk) (Calls.evalArgs_plain go)
end
end L2
end
section
namespace Om
def once {α:Type} [DecidableEq α] (l:List α):List α:=l.foldl (fun acc x=>if x∈acc then acc else acc++[x]) []
section
variable {α:Type} [DecidableEq α]
theorem snocInd {P:List α->Prop} (h0:P []) (h1:∀ l x,P l->P (l++[x])) (l:List α):P l:=by
 have all:∀ (n:Nat) (l:List α),l.length=n->P l:=by
  intro n
  induction n with
  | zero=>intro l e;rw [List.length_eq_zero_iff.mp e];exact h0
  | succ n ih=>
   intro l e
   have ne:l≠[]:=fun z=>by rw [z] at e;cases e
   rw [<-List.dropLast_concat_getLast ne]
   exact h1 _ _ (ih _ (by rw [List.length_dropLast];omega))
 exact all _ l rfl
theorem once_snoc (l:List α) (x:α):once (l++[x])=if x∈once l then once l else once l++[x]:=by unfold once;rw [List.foldl_append];rfl
theorem once_le (l:List α):(once l).length<=l.length:=by
 induction l using snocInd with
 | h0=>exact Nat.le_refl _
 | h1 l x ih=>
  rw [once_snoc]
  split
  ·rw [List.length_append];exact Nat.le_trans ih (Nat.le_add_right _ _)
  ·rw [List.length_append,List.length_append];exact Nat.add_le_add_right ih _
end
end Om
namespace L2
open PySem PySem.Spec PyProof.Rows
section
variable {prog:Program} {w:World} {A:Around} {I:Addr} {fp wr:List Addr} {G:Array GenState->Array GenState->Prop} {n:Nat} {P:Nat->Value->Prop} {St:Nat->Shared->Prop} {κ:Type} [DecidableEq κ] {knd:KeyKind prog w κ}
end
section
variable {X:Cx} {p pos:Pos} {e:Expr} {es:List Expr} {t:TA}
end
end L2
end
section
namespace Om
section
variable {ts:List Int} {g:Nat} {f:Nat->Bool}
def val (f:Nat->Bool) (k:Nat):Nat->Nat
 | 0=>0
 | g+1=>2 * val f k g+(if f (k+g) then 1 else 0)
end
end Om
end
section
namespace L2
open PySem PySem.Spec PyProof.Rows
section
variable {X:Cx} {p pos:Pos} {a b e:Expr} {es:List Expr} {t:TA}
def tAugN (i:Nat) (te:TE):TS:=fun D σ H=>match σ[i]? with
 | some (some (.int a))=>te σ H fun y H1=>match y with
  | .int b=>D.nx (σ.set i (some (.int (a+b)))) H1
  | _=>False
 | _=>False
theorem s_aug (y:Str) (i:Nat) {te:TE} {py:Pos} (hN:X.N.Nodup) (he:PE X e te) (hi:X.N[i]? = some y:=by with_unfolding_all rfl) (hx:locB X.env.scope y=true:=by kernel_rfl)
  (hf:(X.fn y || X.env.scope.names.lookup y == some .local)=true:=by kernel_rfl):PS X (.AugAssign (.Name y py) .Add e pos) (tAugN i te):=by
 have h:=ps_aug (pos:=pos) (pos':=py) hN hi (loc_of hx) he (ip_add (X:=X)) (by
  rw [Bool.or_eq_true] at hf
  exact hf.elim .inl fun z=>.inr (eq_of_beq z))
 intro pins s σ H D I q
 refine h pins s σ H D I ?_
 unfold tAugN at q
 split at q
 ·rename_i a ea
  have q2:te σ H fun y H1=>ipI (fun i j=>i+j) (.int a) y H1 fun z H2=>D.nx (σ.set i (some z)) H2:=by
   have e:(fun (y:V) (H1:Hp)=>match y with
    | .int b=>D.nx (σ.set i (some (.int (a+b)))) H1
    | _=>False)=fun y H1=>ipI (fun i j=>i+j) (.int a) y H1 fun z H2=>D.nx (σ.set i (some z)) H2:=by
    funext y H1
    apply propext
    unfold ipI
    constructor
    ·intro z
     split at z
     ·exact ⟨_,_,rfl,rfl,z⟩
     ·exact z.elim
    ·rintro ⟨i',j',e1,e2,z⟩
     cases e1
     cases e2
     exact z
   rw [e] at q
   exact q
  exact ⟨_,ea,q2⟩
 ·exact q.elim
end
end L2
namespace Om
end Om
end
section
namespace Om
inductive Rch (nx:Nat->List Nat):Nat->Prop
 | z:Rch nx 0
 | s {a b:Nat}:Rch nx a->b∈nx a->Rch nx b
theorem rch_in {nx:Nat->List Nat} {qs:List Nat} (h0:0∈qs) (hc:∀ a∈qs,∀ b∈nx a,b∈qs):∀ s,Rch nx s->s∈qs:=fun s h=>by
 induction h with
 | z=>exact h0
 | s _ hb ih=>exact hc _ ih _ hb
theorem nodup_len:∀ (m:Nat) (qs:List Nat),qs.Nodup->(∀ s∈qs,s < m)->qs.length<=m
 | 0,[],_,_=>Nat.le_refl _
 | 0,q :: _,_,h=>absurd (h q List.mem_cons_self) (Nat.not_lt_zero _)
 | m+1,qs,nd,h=>by
  have ih:=nodup_len m (qs.erase m) (nd.erase m) fun s hs=>by
   have h1:=(nd.mem_erase_iff.mp hs)
   have h2:=h s h1.2
   have h3:=h1.1
   omega
  rw [List.length_erase] at ih
  split at ih<;>omega
def nxR (rows:Rows) (s:Nat):List Nat:=(rows.getD s []).map (·.2)
end Om
namespace L2
open PySem PySem.Spec PyProof.Rows
theorem upd_nn {H:Hp} {a b:Addr} {o:HO} (h:upd H a o b=none):b≠a/\H b=none:=by
 by_cases e:b=a
 ·rw [e,upd_same] at h;cases h
 ·rw [upd_ne e] at h;exact ⟨e,h⟩
def Stps (H:Hp) (ps:List V) (ts:List Nat):Prop:=ps.length=ts.length/\∀ (i t:Nat),ts[i]? = some t->∃ q,ps[i]? = some (.ref q)/\H q=some (.tup [.int (i:Nat),.int (t:Nat)])
theorem Stps.mono {H H':Hp} {ps:List V} {ts:List Nat} (h:Stps H ps ts) (s:Same H H'):Stps H' ps ts:=⟨h.1,fun i t e=>let ⟨q,a,b⟩:=h.2 i t e;⟨q,a,s _ _ b⟩⟩
def nk (s:Nat):Key:=Sum.inl (s:Int)
theorem nk_inj {a b:Nat} (h:nk a=nk b):a=b:=by
 have:(a:Int)=(b:Int):=Sum.inl.inj h
 omega
theorem valV_none {s:Nat}:∀ {kvs:List (Key×V)} {qs:List Nat},kvs.map (·.1)=qs.map nk->(valV kvs (nk s)).isSome=decide (s∈qs)
 | [],[],_=>by simp [valV]
 | [],_ :: _,h=>nomatch h
 | _ :: _,[],h=>nomatch h
 | kv :: kvs,q :: qs,h=>by
  rw [List.map_cons,List.map_cons,List.cons.injEq] at h
  by_cases e:q=s
  ·subst e
   rw [valV_pos h.1]
   simp
  ·rw [valV_neg (fun z=>e (nk_inj (h.1.symm.trans z))),valV_none h.2]
   have:¬ s=q:=fun z=>e z.symm
   simp [this]
structure Tq (H0 H:Hp) (D Q:Addr) (kvs:List (Key×V)) (qs:List Nat) (c:Nat):Prop where
 s:Same H0 H
 nD:H0 D=none
 nQ:H0 Q=none
 hD:H D=some (.dK kvs)
 hQ:H Q=some (.lst (qs.map fun s=>V.int (s:Nat)))
 ks:kvs.map (·.1)=qs.map nk
 vl:∀ s∈qs,∃ t zs,valV kvs (nk s)=some (.ref t)/\H t=some (.lst zs)/\zs.length<=c/\t≠Q
 nd:qs.Nodup
section
variable {H0 H H1:Hp} {D Q:Addr} {kvs:List (Key×V)} {qs:List Nat} {c:Nat}
theorem Tq.mono (g:Tq H0 H D Q kvs qs c) (s:Same H H1):Tq H0 H1 D Q kvs qs c:=
 ⟨g.s.trans s,g.nD,g.nQ,s _ _ g.hD,s _ _ g.hQ,g.ks,fun x hx=>let ⟨t,zs,a,b,r⟩:=g.vl x hx;⟨t,zs,a,s _ _ b,r⟩,g.nd⟩
theorem Tq.le {c':Nat} (g:Tq H0 H D Q kvs qs c) (h:c<=c'):Tq H0 H D Q kvs qs c':=
 ⟨g.s,g.nD,g.nQ,g.hD,g.hQ,g.ks,fun x hx=>let ⟨t,zs,a,b,d,e⟩:=g.vl x hx;⟨t,zs,a,b,Nat.le_trans d h,e⟩,g.nd⟩
theorem Tq.klen (g:Tq H0 H D Q kvs qs c):kvs.length=qs.length:=by
 have:=congrArg List.length g.ks
 rwa [List.length_map,List.length_map] at this
theorem Tq.has (g:Tq H0 H D Q kvs qs c) (s:Nat):(valV kvs (nk s)).isSome=decide (s∈qs):=valV_none g.ks
theorem Tq.start {Z:Addr} (hD:H D=none) (hZ:upd H D (.dK []) Z=none) (hQ:upd (upd (upd H D (.dK [])) Z (.lst [])) D (.dK [(nk 0,.ref Z)]) Q=none) :
  Tq H (upd (upd (upd (upd H D (.dK [])) Z (.lst [])) D (.dK [(nk 0,.ref Z)])) Q (.lst [.int 0])) D Q [(nk 0,.ref Z)] [0] 0:=by
 obtain ⟨QD,q1⟩:=upd_nn hQ
 obtain ⟨QZ,q2⟩:=upd_nn q1
 obtain ⟨_,q3⟩:=upd_nn q2
 obtain ⟨ZD,z1⟩:=upd_nn hZ
 refine ⟨fun b o e=>?_,hD,q3,by rw [upd_ne (Ne.symm QD),upd_same],upd_same,rfl,fun s hs=>?_,by simp⟩
 ·rw [upd_ne (ne_of_none e q3),upd_ne (ne_of_none e hD),upd_ne (ne_of_none e z1),upd_ne (ne_of_none e hD)]
  exact e
 ·have:s=0:=by simpa using hs
  subst this
  exact ⟨Z,[],valV_pos rfl,by rw [upd_ne (Ne.symm QZ),upd_ne ZD,upd_same],Nat.le_refl _,Ne.symm QZ⟩
theorem Tq.put_at {b u:Addr} {o:HO} {t:Nat} {ys:List V} (h:H b=some o) (bD:b≠D) (bQ:b≠Q):upd (upd H D (.dK (putK kvs (nk t) (.ref u)))) Q (.lst ys) b=some o:=by
 rw [upd_ne bQ,upd_ne bD];exact h
theorem Tq.put (g:Tq H0 H D Q kvs qs c) {u:Addr} {zs:List V} {t:Nat} (nt:t ∉ qs) (hu:H u=some (.lst zs)) (uQ:u≠Q) (hz:zs.length<=c) :
  Tq H0 (upd (upd H D (.dK (putK kvs (nk t) (.ref u)))) Q (.lst ((qs.map fun s=>V.int (s:Nat))++[.int (t:Nat)]))) D Q (putK kvs (nk t) (.ref u)) (qs++[t]) c:=by
 have DQ:D≠Q:=ne_of g.hD g.hQ (fun z=>nomatch z)
 have vn:valV kvs (nk t)=none:=by
  have:=g.has t
  rw [decide_eq_false nt] at this
  cases e:valV kvs (nk t) with
  | none=>rfl
  | some v=>rw [e] at this;cases this
 have lk:∀ {b:Addr} {ys:List V},H b=some (.lst ys)->b≠Q->upd (upd H D (.dK (putK kvs (nk t) (.ref u)))) Q (.lst ((qs.map fun s=>V.int (s:Nat))++[.int (t:Nat)])) b=some (.lst ys):=fun {b ys} h n=>by
  rw [upd_ne n,upd_ne (ne_of h g.hD (fun z=>nomatch z))]
  exact h
 refine ⟨fun b o e=>?_,g.nD,g.nQ,by rw [upd_ne DQ,upd_same],by rw [upd_same,List.map_append];rfl,?_,fun x hx=>?_,?_⟩
 ·rw [upd_ne (ne_of_none e g.nQ),upd_ne (ne_of_none e g.nD)]
  exact g.s _ _ e
 ·rw [putK_new _ vn,List.map_append,List.map_append,g.ks]
  rfl
 ·by_cases e:x=t
  ·subst e
   exact ⟨u,zs,by rw [valV_put,if_pos rfl],lk hu uQ,hz,uQ⟩
  ·obtain ⟨t',ys,a,b,d,f⟩:=g.vl x ((List.mem_append.mp hx).resolve_right (fun z=>e (by simpa using z)))
   exact ⟨t',ys,by rw [valV_put,if_neg (fun z=>e (nk_inj z))];exact a,lk b f,d,f⟩
 ·rw [List.nodup_append]
  refine ⟨g.nd,by simp,fun a ha b hb z=>?_⟩
  have:b=t:=by simpa using hb
  subst this
  subst z
  exact nt ha
end
end L2
end
section
namespace Om
theorem perm_nats {qs:List Nat} {ns:List Int} (h:ns.Perm (qs.map fun s=>((s:Nat):Int))):∃ qs':List Nat,ns=qs'.map (fun s=>((s:Nat):Int))/\qs'.Perm qs:=by
 have e:ns=(ns.map Int.toNat).map fun s=>((s:Nat):Int):=by
  have all:∀ x∈ns,((x.toNat:Nat):Int)=x:=fun x hx=>by
   obtain ⟨s,_,rfl⟩:=List.mem_map.mp (h.mem_iff.mp hx)
   simp
  rw [List.map_map]
  conv=>lhs;rw [<-List.map_id ns]
  exact List.map_congr_left fun x hx=>(all x hx).symm
 refine ⟨ns.map Int.toNat,e,?_⟩
 have:=h.map Int.toNat
 rw [List.map_map] at this
 have z:(Int.toNat ∘ fun s=>((s:Nat):Int))=id:=by funext s;simp
 rwa [z,List.map_id] at this
theorem lt_of_le:∀ {qs:List Nat},qs.Nodup->(qs.map fun s=>((s:Nat):Int)).Pairwise (·<=·)->qs.Pairwise (· < ·)
 | [],_,_=>.nil
 | q :: qs,nd,h=>by
  rw [List.map_cons,List.pairwise_cons] at h
  rw [List.nodup_cons] at nd
  refine .cons (fun s hs=>?_) (lt_of_le nd.2 h.2)
  have h1:=h.1 _ (List.mem_map_of_mem (f:=fun s=>((s:Nat):Int)) hs)
  have h2:q≠s:=fun z=>nd.1 (z ▸ hs)
  have h1:(q:Int)<=(s:Int):=h1
  omega
end Om
namespace L2
open PySem PySem.Spec PyProof.Rows
def lamArgs (e:Expr):Arguments:=match e with
 | .Lambda a _ _ _=>a
 | _=>{ posonlyargs:=[],args:=[],vararg:=none,kwonlyargs:=[],kw_defaults:=[],kwarg:=none,defaults:=[] }
def lamBody (e:Expr):Expr:=match e with
 | .Lambda _ b _ _=>b
 | _=>e
def lamScope (e:Expr):Scope:=match e with
 | .Lambda _ _ sc _=>sc
 | _=>{ kind:=.function,names:=[],isGenerator:=false,isCoroutine:=false }
def lamPos (e:Expr):Pos:=match e with
 | .Lambda _ _ _ p=>p
 | _=>⟨0,0,0,0⟩
def callArg (i:Nat) (e:Expr):Expr:=match e with
 | .Call _ as _ _=>as.getD i e
 | _=>e
def retE (d:Expr) (s:Stmt):Expr:=match s with
 | .Return (some e) _=>e
 | _=>d
def wo1 (P:Addr) (H:Hp):Hp:=fun b=>if b=P then none else H b
theorem wo1.at {P b:Addr} {H:Hp} {o:HO} (h:H b=some o) (n:b≠P):wo1 P H b=some o:=by unfold wo1;rw [if_neg n];exact h
theorem wo1.same {P:Addr} {H H':Hp} (s:SameT P H H'):Same (wo1 P H) H':=fun b o e=>by
 unfold wo1 at e
 split at e
 ·cases e
 ·rename_i n
  exact s b o n e
mutual
theorem DV.wo1 {H:Hp} {P:Addr} {ps:Array Value} (hP:H P=some (.tbl ps)):∀ {v:V} {d:PyData},DV H v d->DV (wo1 P H) v d
 | _,_,.non=>.non
 | _,_,.bl b=>.bl b
 | _,_,.int i=>.int i
 | _,_,.str x=>.str x
 | _,_,.lst h r=>.lst (wo1.at h (ne_of h hP (fun z=>nomatch z))) (DVs.wo1 hP r)
 | _,_,.tup h r=>.tup (wo1.at h (ne_of h hP (fun z=>nomatch z))) (DVs.wo1 hP r)
 | _,_,.dic h=>.dic (wo1.at h (ne_of h hP (fun z=>nomatch z)))
theorem DVs.wo1 {H:Hp} {P:Addr} {ps:Array Value} (hP:H P=some (.tbl ps)):∀ {vs:List V} {ds:List PyData},DVs H vs ds->DVs (wo1 P H) vs ds
 | _,_,.nil=>.nil
 | _,_,.cons h r=>.cons (DV.wo1 hP h) (DVs.wo1 hP r)
end
theorem Tab.tbl {P:Addr} {pos:Pos} {qual:Str} {H:Hp} (t:Tab P pos qual H):∃ ps,H P=some (.tbl ps):=by
 rcases t with e | ⟨c,e,_⟩
 ·exact ⟨_,e⟩
 ·exact ⟨_,e⟩
theorem DV.monoT {H H':Hp} {P:Addr} {pos:Pos} {qual:Str} {v:V} {d:PyData} (h:DV H v d) (t:Tab P pos qual H) (s:SameT P H H'):DV H' v d:=
 let ⟨_,e⟩:=t.tbl
 (h.wo1 e).mono (wo1.same s)
theorem SameT.free {P:Addr} {H H':Hp} {l:Addr} (s:SameT P H H') (h:H' l=none) (n:l≠P):H l=none:=by
 cases q:H l with
 | none=>rfl
 | some o=>rw [s l o n q] at h;cases h
def FnC (K:PySem.W.Frag) (mg:Str->Option Value) (x:Str) (st:Stmt) (ps:List Str) (c:Addr):Prop:=∃ (f:Addr) (oc:Value) (od:Option Addr) (kV doc pm:Value) (an:Option Addr) (ct:Value) (osl:Array (Option Value)),
 K.lookup f=some ⟨oc,od,.func (PySem.W.fnOf x x (defArgs st) (defBody st) (defScope st) .none kV doc pm an (.ref c) ct),osl⟩/\PySem.W.codeIn K (.ref c) x=true/\PySem.W.keepIn K (.ref f)=true/\mg x=some (.ref f) ∧
 Binds K (PySem.W.fnOf x x (defArgs st) (defBody st) (defScope st) .none kV doc pm an (.ref c) ct) ps []
theorem can_fnC {P:Program} {w:World} {K:PySem.W.Frag} {mg:Str->Option Value} {base:Heap} {x:Str} {st:Stmt} {N ps:List Str} {k:Nat} {sp:Sp} {c:Addr} (D:FnC K mg x st ps c) (S:FnScope N ps (defScope st)) (len:∀ vs H Q E,sp vs H Q E->vs.length=ps.length)
  (hbody:∀ (f:Addr) (A:Around) (outer:List Env) (s:Shared) (H:Hp) (vs:List V) (Q:VK) (E:XK),Room k (A.deeper (envOfC x (defScope st) s.heap.objs.size f (.ref c)))->sp vs H Q E →
   ∃ t,PSs (cxOf CX0 P w K mg base N x (defScope st) f (.ref c) A outer s H E).nox (defBody st) t/\t { nx:=fun _ H'=>Q .non H',rt:=Q } (start N vs) H):Can P w K mg base x (k+1) ps sp:=by
 obtain ⟨f,oc,od,kV,doc,pm,an,ct,osl,lk,hcd,kp,hm,hb⟩:=D
 refine ⟨f,_,fn_of lk hcd S len fun A outer s H vs Q E hr hsp=>?_,hm,kp,hb⟩
 obtain ⟨t,h,q⟩:=hbody f A outer s H vs Q E hr hsp
 exact ⟨t,h.nox,q⟩
end L2
end
section
namespace Om
end Om
namespace L2
open PySem PySem.Spec PyProof.Rows
section
variable {H0 H H':Hp} {a b:Addr} {qs:List Addr} {k n:Nat} {rows:Om.Rows}
end
end L2
end
section
namespace Om
end Om
namespace L2
open PySem PySem.Spec PyProof.Rows
section
variable {F:Addr->Prop} {H0 H H' G:Hp} {d P:Addr} {pos:Pos} {qual:Str}
theorem Deck.lst (h:Deck F H d) {b:Addr} (z:F b):∃ xs,H b=some (.lst xs):=by
 obtain ⟨p,qs,n,h1,h2,h3,h4,h5,h6⟩:=h.ex
 rcases (h6 b).mp z with rfl | rfl | z
 ·exact ⟨_,h1⟩
 ·exact ⟨_,h2⟩
 ·obtain ⟨c,f,m,e⟩:=h5 b z
  exact ⟨_,e⟩
theorem Tab.off (t:Tab P pos qual H) (k:Deck F H d) (o:Off F H H'):Tab P pos qual H':=by
 have nl:∀ {b:Addr} {u:HO},H b=some u->(∀ xs,u≠.lst xs)->¬ F b:=fun {b u} e n z=>by
  obtain ⟨xs,e'⟩:=k.lst z
  rw [e] at e'
  exact n xs (Option.some.inj e')
 rcases t with e | ⟨c,e1,e2⟩
 ·exact .inl (o _ _ e (nl e fun xs z=>nomatch z))
 ·exact .inr ⟨c,o _ _ e1 (nl e1 fun xs z=>nomatch z),o _ _ e2 (nl e2 fun xs z=>nomatch z)⟩
theorem Tab.upd {b:Addr} {xs:List V} {o:HO} (t:Tab P pos qual H) (e:H b=some (.lst xs)):Tab P pos qual (upd H b o):=by
 rcases t with z | ⟨c,z1,z2⟩
 ·exact .inl (by rw [upd_ne (ne_of z e (fun y=>nomatch y))];exact z)
 ·exact .inr ⟨c,by rw [upd_ne (ne_of z1 e (fun y=>nomatch y))];exact z1,by rw [upd_ne (ne_of z2 e (fun y=>nomatch y))];exact z2⟩
end
end L2
end
section
namespace L2
open PySem PySem.Spec PyProof.Rows
theorem FnC.of {K:PySem.W.Frag} {h:Heap} {mg:Str->Option Value} {x:Str} {st:Stmt} {ps:List Str} {c P:Addr} (D:DefIn K x st) (ht:PySem.W.tabIn K x=some (c,P)) (X:K.In h) (G:h.Ns mainGlobals mg)
  (hb:∀ (kV doc pm:Value) (an:Option Addr) (cdv ct:Value) (us:List Value),us.length=ps.length->bindArgs (PySem.W.fnOf x x (defArgs st) (defBody st) (defScope st) .none kV doc pm an cdv ct) ⟨us,[]⟩=pure (ps.zip us)):FnC K mg x st ps c:=by
 obtain ⟨f,oc,od,an,osl,kV,dc,pm,cd,ct,h1,h2,h3,h4⟩:=D
 have e:cd = .ref c:=by
  unfold PySem.W.tabIn at ht
  rw [h1] at ht
  dsimp only at ht
  rw [h2] at ht
  dsimp only at ht
  split at ht
  ·rename_i c' _
   split at ht
   ·split at ht
    ·cases ht;rfl
    ·cases ht
   ·cases ht
  ·cases ht
 subst e
 exact ⟨f,oc,od,kV,dc,pm,an,ct,osl,h2,h3,h4,PySem.W.mg_of X G h1,.all (hb kV dc pm an _ ct)⟩
theorem law_callT {P:Program} {w:World} {K:PySem.W.Frag} {mg mb:Str->Option Value} {CX:CXT} {k:Nat} {fa a:Addr} {fd:FuncData} {x:Str} {sp:Sp} {s₁:Shared} {vs:List Value} {ns:List Int} {tabs:List (Addr×Addr)}
  (KX:K.In s₁.heap) (hns:s₁.heap.Ns mainGlobals mg) (hb:s₁.heap.Ns builtinsNs mb) (hbb:∀ x:Str,x≠"__name__"->mb x=bootBuiltins x) (hlim:s₁.heap.NoLimit) (hg:s₁.gens = #[])
  (ha:s₁.heap.get? a=some { cls:=.type "list",data:=.seq vs.toArray }) (hi:IntsAre vs ns) (hl:ns.length<=sizeLine) (hr:Room k callerA) (hT:PySem.W.TabsAt tabs s₁.heap) (hnt:PySem.W.noTabs K=true)
  (hbm:∃ bm ob,mg "__builtins__" = some (.ref bm)/\bm≠builtinsNs/\s₁.heap.get? bm=some ob/\ob.cls = .type "module"/\ob.dict=some builtinsNs/\ob.data = .plain)
  (F:∀ base:Heap,K.In base->base.Ns mainGlobals mg->(∀ q∈tabs,Maker mg base q.1 q.2)->FnOk P w K mg base CX k fa fd [x] sp) (hbind:∀ (s:Shared) (u:Value),BindsTo s fd ⟨[u],[]⟩ [(x,u)])
  (hsp:∀ H:Hp,(∀ q∈tabs,H q.2=some (.tbl #[]))->SqL K H a (ns.map V.int)->sp [.ref a] H (fun v _=>v = .bl true) fun _ _ _=>False)
  (hCX:∀ H e s',CX [] H s₁ (fun _ _ _=>False) e s'->False) :
  codeAny (model P w) callerA (.call (.ref fa) ⟨[.ref a],[]⟩) (fun r s'=>r = .ok (.ret (.bool true))/\OldK s₁.heap s'.heap/\s'.os=s₁.os/\AllBare s'.gens) s₁:=by
 have rv:=vals_ints hi
 have lenV:=hi.length
 have aT:∀ q∈tabs,q.2≠a:=fun q hq z=>by
  have e:=(hT q hq).2
  rw [z,ha] at e
  cases e
 have core:∀ H:Hp,(∀ b u,H b=some u->(b=a/\u = .frz { cls:=.type "list",data:=.seq vs.toArray } (.lst (ns.map V.int))/\K.lookup a=none)\/∃ q∈tabs,b=q.2/\u = .tbl #[])->(∀ q∈tabs,H q.2=some (.tbl #[]))->SqL K H a (ns.map V.int) →
   codeAny (model P w) callerA (.call (.ref fa) ⟨[.ref a],[]⟩) (fun r s'=>r = .ok (.ret (.bool true))/\OldK s₁.heap s'.heap/\s'.os=s₁.os/\AllBare s'.gens) s₁:=by
  intro H hH hTE hS
  have hok:HOk P w H s₁.heap:=fun b u e=>by
   rcases hH b u e with ⟨rfl,rfl,_⟩ | ⟨q,hq,rfl,rfl⟩
   ·exact ⟨ha,by rw [List.length_map];exact hl,vs,_,rv,ha⟩
   ·exact (hT q hq).2
  have free:∀ {b:Addr} {o:Obj},s₁.heap.get? b=some o->o.cls≠.type "list"\/(∀ y,o.data≠.seq vs.toArray y)->(o.cls≠.none\/∀ ps,o.data≠.fields ps)->H b=none:=fun {b o} e n1 n2=>by
   cases q:H b with
   | none=>rfl
   | some u=>
    rcases hH b u q with ⟨rfl,_,_⟩ | ⟨t,ht,rfl,_⟩
    ·rw [ha] at e
     cases e
     rcases n1 with n1 | n1
     ·exact absurd rfl n1
     ·exact absurd rfl (n1 _)
    ·rw [(hT t ht).2] at e
     cases e
     rcases n2 with n2 | n2
     ·exact absurd rfl n2
     ·exact absurd rfl (n2 _)
  have nsK:∀ {b:Addr} {m:Str->Option Value},s₁.heap.Ns b m->(hidT s₁.heap H).Ns b m:=fun {b m} ⟨o,es,ep,e,d,r⟩=>
   ⟨o,es,ep,hidT_get e (free e (.inr fun y z=>by rw [d] at z;cases z) (.inr fun y z=>by rw [d] at z;cases z)),d,r⟩
  have hKb:K.In (hidT s₁.heap H):=fun b o e=>hidT_get (KX b o e) (by
   cases q:H b with
   | none=>rfl
   | some u=>
    rcases hH b u q with ⟨rfl,_,z⟩ | ⟨t,ht,rfl,_⟩
    ·rw [z] at e;cases e
    ·have e1:=KX _ _ e
     rw [(hT t ht).2] at e1
     have e2:=List.all_eq_true.mp hnt _ (PySem.W.mem_of_lookupK e)
     cases e1
     exact absurd (show false=true from e2) Bool.false_ne_true)
  have hM:Mod K mg (hidT s₁.heap H):=⟨hKb,nsK hns,⟨mb,nsK hb,hbb⟩,let ⟨mc,h1,h2⟩:=hlim;⟨mc,nsK h1,h2⟩⟩
  have hMk:∀ q∈tabs,Maker mg (hidT s₁.heap H) q.1 q.2:=fun q hq=>by
   refine ⟨?_,?_⟩
   ·obtain ⟨bm,ob,b1,b2,b3,b4,b5,b6⟩:=hbm
    exact ⟨bm,ob,b1,b2,hidT_get b3 (free b3 (.inl (by rw [b4];decide)) (.inl (by rw [b4];exact fun z=>nomatch z))),b4,b5,b6⟩
   ·obtain ⟨o,c1,c2,c3,c4,c5,c6,c7,c8,e,c9,r⟩:=(hT q hq).1
    exact ⟨o,c1,c2,c3,c4,c5,c6,c7,c8,hidT_get e (free e (.inl (by rw [c9];decide)) (.inl (by rw [c9];exact fun z=>nomatch z))),c9,r⟩
  have e0:Env0 P w K mg (hidT s₁.heap H) callerA [] s₁ H:=⟨rfl,hM,fun b o e=>of_hidT e,Nat.le_of_eq (hidT_size _ _),trivial,fun b hb=>absurd (show b∈([]:List Addr) from hb) (by simp),hok,.of_eq hg⟩
  refine codeAny_mono ((F _ hKb (nsK hns) hMk).run callerA [] s₁ H ⟨[.ref a],[]⟩ [.ref a] [.ref a] _ _ hr e0 (hbind s₁ (.ref a)) (.cons rfl .nil) (hsp H hTE hS)) fun r s' h=>?_
  cases r with
  | error e=>exact (hCX H e s' h).elim
  | ok fl=>
   cases fl with
   | next=>exact False.elim h
   | brk=>exact False.elim h
   | cont=>exact False.elim h
   | ret u=>
    obtain ⟨v,H',os,bare,un,hok',r',q⟩:=h
    have q':v = .bl true:=q
    subst q'
    obtain rfl:u=Value.bool true:=r'
    have kept:∀ b o,s₁.heap.get? b=some o->(∀ t∈tabs,b≠t.2)->s'.heap.get? b=some o:=fun b o e n=>by
     cases q:H b with
     | none=>exact un.keep b o e q (by intro z;exact absurd (show b∈([]:List Addr) from z) (by simp)) (by simp)
     | some u=>
      rcases hH b u q with ⟨rfl,rfl,_⟩ | ⟨t,ht,z,_⟩
      ·have z2:=un.frzs _ _ _ q
       obtain ⟨e2,_⟩:=hok' _ _ z2
       rw [ha] at e;cases e
       exact e2
      ·exact absurd z (n t ht)
    have grown:∀ t∈tabs,∃ more,s'.heap.get? t.2=some (PySem.W.tabObj (#[]++more)):=fun t ht=>by
     obtain ⟨more,z⟩:=un.tbls _ _ (hTE t ht)
     exact ⟨more,hok' _ _ z⟩
    refine ⟨rfl,⟨fun b o e=>?_,fun b o e=>?_⟩,os,bare⟩
    ·by_cases n:∀ t∈tabs,b≠t.2
     ·exact .inl (kept b o e n)
     ·obtain ⟨t,ht,z⟩ : ∃ t∈tabs,b=t.2:=by
       refine Classical.byContradiction fun z=>n fun t ht y=>z ⟨t,ht,y⟩
      subst z
      have hP:=(hT t ht).2
      rw [hP] at e
      cases e
      obtain ⟨more,g⟩:=grown t ht
      exact .inr (.inl ⟨((hT t ht).1.tab hP).isCodeTable,rfl,#[],more,rfl,g⟩)
    ·by_cases n:∀ t∈tabs,b≠t.2
     ·exact ⟨o,kept b o e n⟩
     ·obtain ⟨t,ht,z⟩ : ∃ t∈tabs,b=t.2:=by
       refine Classical.byContradiction fun z=>n fun t ht y=>z ⟨t,ht,y⟩
      subst z
      obtain ⟨more,g⟩:=grown t ht
      exact ⟨_,g⟩
 cases hk:K.lookup a with
 | some o=>
  have e:=KX a o hk
  rw [ha] at e
  cases e
  refine core (fun b=>if b∈tabs.map (·.2) then some (.tbl #[]) else none) (fun b u e=>?_) (fun q hq=>if_pos (List.mem_map_of_mem hq)) (.inr ⟨_,vs.toArray,_,hk,rfl,rfl,rfl,by rw [List.size_toArray,lenV];exact hl,by simpa using rv⟩)
  by_cases n:b∈tabs.map (·.2)
  ·obtain ⟨q,hq,rfl⟩:=List.mem_map.mp n
   have z:=(if_pos n).symm.trans e
   cases z
   exact .inr ⟨q,hq,rfl,rfl⟩
  ·have z:=(if_neg n).symm.trans e
   cases z
 | none=>
  refine core (fun b=>if b=a then some (.frz { cls:=.type "list",data:=.seq vs.toArray } (.lst (ns.map V.int))) else if b∈tabs.map (·.2) then some (.tbl #[]) else none) (fun b u e=>?_) (fun q hq=>?_) (.inl (.inr ⟨{ cls:=.type "list",data:=.seq vs.toArray },if_pos rfl⟩))
  ·by_cases m:b=a
   ·have z:=(if_pos m).symm.trans e
    cases z
    exact .inl ⟨m,rfl,hk⟩
   ·have z:=(if_neg m).symm.trans e
    by_cases n:b∈tabs.map (·.2)
    ·obtain ⟨q,hq,rfl⟩:=List.mem_map.mp n
     have z2:=(if_pos n).symm.trans z
     cases z2
     exact .inr ⟨q,hq,rfl,rfl⟩
    ·have z2:=(if_neg n).symm.trans z
     cases z2
  ·show (if q.2=a then _ else _)=_
   rw [if_neg (aT q hq)]
   exact if_pos (List.mem_map_of_mem hq)
theorem walk_ofT {l:PySem.W.OpenLaw} {n k:Nat} {q:Program} {loose:List Str} {XP:(Str->Option Value)->Heap->Prop} {YP:World->Heap->Prop} {d:DefRec} {K:Params->PySem.W.Frag} {CX:World->CXT} {sp:World->Sp} {x:Str} {c0 P0:Addr}
  (hn:l.most=some n) (hn2:n<=sizeLine) (hdf:d.params.defaults=[]) (hr:Room k callerA) (hY:∀ (w:World) (h:Heap),YP w h->(K w.params).In h) (hnt:∀ w:World,PySem.W.noTabs (K w.params)=true)
  (htb:∀ (w:World) (h:Heap),YP w h->h.get? P0=some (PySem.W.tabObj #[])) (hcd:∀ w:World,PySem.W.codeHdIn (K w.params) c0 P0=true)
  (F:∀ (w:World) (mg:Str->Option Value) (fa:Addr) (h:Heap),(K w.params).In h->h.Ns mainGlobals mg->mg d.name=some (.ref fa) →
   ∃ fd:FuncData,(∀ (s:Shared) (u:Value),BindsTo s fd ⟨[u],[]⟩ [(x,u)]) ∧
    ∀ base:Heap,(K w.params).In base->base.Ns mainGlobals mg->Maker mg base c0 P0->FnOk l.prog w (K w.params) mg base (CX w) k fa fd [x] (sp w))
  (hsp:∀ (w:World) (H:Hp) (a:Addr) (ns:List Int),ns.length<=n->H P0=some (.tbl #[])->SqL (K w.params) H a (ns.map V.int)->sp w [.ref a] H (fun v _=>v = .bl true) fun _ _ _=>False)
  (hCX:∀ (w:World) (H:Hp) (s:Shared) (e:Value) (s':Shared),CX w [] H s (fun _ _ _=>False) e s'->False) :
  PySem.W.WalkO q loose XP YP l.row.toRowW d [] (fun f vs=>PySem.call f vs):=by
 refine Att.attach_call hn hdf fun w s₀ s₁ mg mb fa o pm cd doc a vs ns G Y ho hd hcd' hmg hobj hints hlen hg=>?_
 have KX:=hY w _ Y
 obtain ⟨fd,hb,hF⟩:=F w mg fa _ KX G.T.g hmg
 exact law_callT (tabs:=[(c0,P0)]) KX G.T.g G.T.b G.T.builtins G.T.nolimit hg hobj hints (Nat.le_trans hlen hn2) hr (fun q hq=>by rw [List.mem_singleton.mp hq];exact ⟨PySem.W.codeHd_of_K KX (hcd w),htb w _ Y⟩) (hnt w) G.T.bmain
  (fun base kb nb m=>hF base kb nb (m (c0,P0) (List.mem_singleton.mpr rfl))) hb (fun H hO hS=>hsp w H a ns hlen (hO (c0,P0) (List.mem_singleton.mpr rfl)) hS) fun H e s'=>hCX w H s₁ e s'
end L2
end
section
namespace L2
open PySem PySem.Spec PyProof.Rows
section
variable {X:Cx} {p pos:Pos} {k v:Expr} {tk tv:TE}
def tDispT (tk tv:TE):TE:=fun σ H Q=>∀ p,H p=none->tk σ (upd H p (.dT [])) fun x H1=>tv σ H1 fun y H2=>H2 p=some (.dT [])/\∃ (b:Addr) (ks:List Key),x = .ref b/\H2 b=some (.tup (ks.map kV))/\Q (.ref p) (upd H2 p (.dT [(ks,y)]))
theorem pe_dispT (hu:X.A.units+64 < cLine) (hk:PE X k tk) (hv:PE X v tv):PE X (.Dict [some k] [v] pos) (tDispT tk tv):=by
 intro pins s σ H Q I q
 have hshape:(evalEachOpt [some k] X.env).zip ((evalEach [v] X.env).map fun v=>do let x <-v;standAt pos;pure x)=[(eval k X.env,(do let x <-eval v X.env;standAt pos;pure x:Sem Value))].map fun p=>(some p.1,p.2):=rfl
 have hn:=I.hok.fresh (Nat.le_refl s.heap.objs.size)
 have I1:=I.laid (a:=s.heap.objs.size) (o:=.dT []) (h':=s.heap.push { cls:=.type "dict",data:=.dict #[] }) (t':=s.toks) (fun _ _ q=>Heap.get?_push_of_some _ q) (Nat.le_refl _) (dt_empty s.heap I.big)
 rw [arm_eval_Dict,hshape,dictDisplay_pairs _ (by simp) (Nat.le_of_ble_eq_true rfl)]
 refine wpAny_bind (wpAny_standAt (wpAny_bind ?_))
 unfold subDict
 refine wpAny_bind (wpAny_alloc ?_)
 refine wpAny_bind (wpAny_holding ?_)
 rw [if_pos (Nat.le_of_ble_eq_true rfl)]
 refine wpAny_bind (evalPairs_cons (thn (hk pins _ σ _ _ I1 (q _ hn)) fun u s1 ⟨x,H1,J1,rx,q1⟩=>wpAny_bind (thn (hv pins s1 σ H1 _ J1 q1) fun u2 s2 ⟨y,H2,I2,ry,e,b,ks,ex,eb,q2⟩=>wpAny_bind (wpAny_standAt (wpAny_pure (evalPairs_nil ?_))))))
 subst ex
 cases (show u=Value.ref b from rx)
 refine wpAny_holding (wpAny_bind ?_)
 rw [List.forIn_cons]
 obtain ⟨z,hd,xs,rel,dd⟩:=dt_of I2.hok e
 cases rel
 refine wpAny_bind (wpAny_bind (wpAny_dictSet_heap (knd:=tupleKind (mixKind X.prog X.w)) (k:=ks) (xs:=[]) (by show _ < cLine;have:=hu;omega) (key_of I2.hok eb) dd fun h' dd' hs=>wpAny_pure ?_))
 dsimp only
 rw [List.forIn_nil]
 refine wpAny_pure (wpAny_pure (wpAny_pure (wpAny_pure ?_)))
 obtain ⟨qo,es,ep,hq,h2,h3,h4,_,h5⟩:=dd'
 refine ⟨.ref s.heap.objs.size,_,d_write (ob:=.dT [(ks,y)]) I2 (by rw [e];exact True.intro) hs ⟨qo,hq⟩ ⟨?_,hd,_,(KT.put (H:=H2) (kvs:=[]) (xs:=[]) .nil ks eb ry).keeps fun c ys ec=>?_,qo,es,ep,hq,h2,h3,h4,h5⟩,rfl,q2⟩
 ·rw [sizeLine_eq];simp
 ·rw [upd_ne (ne_of ec e (fun z=>nomatch z))]
  exact ec
end
end L2
end
section
namespace Om
section
variable {k n:Nat} {rows:Rows} {a b c:Nat} {w v:List Bool}
theorem nodup_on {α β:Type} {f:α->β}:∀ {l:List α},(∀ a∈l,∀ b∈l,f a=f b->a=b)->l.Nodup->(l.map f).Nodup
 | [],_,_=>List.nodup_nil
 | x :: l,h,nd=>by
  rw [List.nodup_cons] at nd
  rw [List.map_cons,List.nodup_cons]
  refine ⟨fun z=>?_,nodup_on (fun a ha b hb=>h a (List.mem_cons_of_mem _ ha) b (List.mem_cons_of_mem _ hb)) nd.2⟩
  obtain ⟨y,hy,e⟩:=List.mem_map.mp z
  exact nd.1 (h y (List.mem_cons_of_mem _ hy) x List.mem_cons_self e ▸ hy)
end
end Om
end
section
namespace Om
abbrev Sn:=Nat->Prop
def aft (rows:Rows) (S:Sn) (w:List Bool):Sn:=fun y=>∃ x i,S x/\i < (rows.getD x []).length/\step rows x i=(w,y)
def afts (rows:Rows) (S:Sn) (ws:List (List Bool)):Sn:=ws.foldl (aft rows) S
end Om
namespace L2
open PySem PySem.Spec PyProof.Rows
def SL (H:Hp) (v:V) (S:Om.Sn):Prop:=∃ (l:Addr) (ns:List Nat),v = .ref l/\H l=some (.lst (ns.map fun i=>V.int (i:Nat)))/\ns.length<=8/\∀ x,x∈ns↔S x
theorem SL.mono {H H':Hp} {v:V} {S:Om.Sn} (h:SL H v S) (s:Same H H'):SL H' v S:=by
 obtain ⟨l,ns,e,h1,h2⟩:=h
 exact ⟨l,ns,e,s _ _ h1,h2⟩
section
variable {ks:List Nat} {kvs:List (Key×V)} {x:Nat} {v:V}
end
end L2
end
section
namespace Om
def adds {α:Type} [DecidableEq α] (xs:List α) (x:α):List α:=if x∈xs then xs else xs++[x]
section
variable {α:Type} [DecidableEq α] {xs:List α} {x y:α}
theorem mem_adds:y∈adds xs x↔y∈xs\/y=x:=by
 unfold adds
 split
 ·rename_i h
  exact ⟨.inl,fun z=>z.elim id fun e=>e ▸ h⟩
 ·rw [List.mem_append,List.mem_singleton]
theorem nodup_adds (nd:xs.Nodup):(adds xs x).Nodup:=by
 unfold adds
 split
 ·exact nd
 ·rename_i h
  rw [List.nodup_append]
  refine ⟨nd,by simp,fun a ha b hb z=>?_⟩
  have:b=x:=by simpa using hb
  subst this
  subst z
  exact h ha
end
end Om
namespace L2
open PySem PySem.Spec PyProof.Rows
section
variable {κ N:Type} [DecidableEq κ] [DecidableEq N]
theorem keys_map {kvs:List (κ×V)} {k:κ} {v:V}:(kvs.map fun kv=>if kv.1=k then (kv.1,v) else kv).map (·.1)=kvs.map (·.1):=by
 rw [List.map_map]
 refine List.map_congr_left fun kv _=>?_
 show (if kv.1=k then (kv.1,v) else kv).1=kv.1
 split<;>rfl
theorem val_has {kvs:List (κ×V)} {k:κ}:(valV kvs k).isSome=decide (k∈kvs.map (·.1)):=by
 rw [<-valV_any,Bool.eq_iff_iff,List.any_eq_true,decide_eq_true_eq,List.mem_map]
 constructor
 ·rintro ⟨kv,h,e⟩
  exact ⟨kv,h,by simpa using e⟩
 ·rintro ⟨kv,h,e⟩
  exact ⟨kv,h,by simpa using e⟩
structure KS (key:N->κ) (kvs:List (κ×V)) (xs:List N):Prop where
 ks:kvs.map (·.1)=xs.map key
 nd:xs.Nodup
theorem KS.nil {key:N->κ}:KS key [] ([]:List N):=⟨rfl,List.nodup_nil⟩
theorem KS.len {key:N->κ} {kvs:List (κ×V)} {xs:List N} (h:KS key kvs xs):kvs.length=xs.length:=by
 have:=congrArg List.length h.ks
 rwa [List.length_map,List.length_map] at this
theorem KS.has {key:N->κ} (inj:∀ a b,key a=key b->a=b) {kvs:List (κ×V)} {xs:List N} (h:KS key kvs xs) (x:N):(valV kvs (key x)).isSome=decide (x∈xs):=by
 rw [val_has,h.ks,Bool.eq_iff_iff,decide_eq_true_eq,decide_eq_true_eq,List.mem_map]
 exact ⟨fun ⟨y,hy,e⟩=>inj _ _ e ▸ hy,fun hx=>⟨x,hx,rfl⟩⟩
theorem KS.put {key:N->κ} (inj:∀ a b,key a=key b->a=b) {kvs:List (κ×V)} {xs:List N} (h:KS key kvs xs) (x:N) (v:V):KS key (putK kvs (key x) v) (Om.adds xs x):=by
 refine ⟨?_,Om.nodup_adds h.nd⟩
 have hs:=h.has inj x
 unfold Om.adds
 by_cases e:x∈xs
 ·rw [if_pos e]
  rw [decide_eq_true e] at hs
  unfold putK
  rw [valV_any,if_pos hs,keys_map]
  exact h.ks
 ·rw [if_neg e]
  rw [decide_eq_false e] at hs
  have vn:valV kvs (key x)=none:=by
   cases q:valV kvs (key x) with
   | none=>rfl
   | some y=>rw [q] at hs;cases hs
  rw [putK_new _ vn,List.map_append,List.map_append,h.ks]
  rfl
end
def tk (u:List Bool):Key:=Sum.inr (bs u)
section
variable {H0 H H1:Hp} {D Q:Addr} {kvs:List (List Key×V)} {xs:List (List Bool×Nat)} {bz:List Addr}
end
end L2
end
section
namespace L2
open PySem PySem.Spec PyProof.Rows
end L2
end
section
namespace Om
end Om
namespace L2
open PySem PySem.Spec PyProof.Rows
section
variable {H0 H H1:Hp} {D:Addr} {kvs:List (Key×V)} {us:List (List Bool)} {L:Nat} {S S':List Bool->Prop}
end
end L2
end
section
namespace Om
end Om
namespace L2
open PySem PySem.Spec PyProof.Rows
section
variable {H2 H H1:Hp} {D E Mo:Addr} {kvs:List (Key×V)} {us:List (List Bool)} {L:Nat} {S:List Bool->Prop} {ekvs:List (Key×V)} {vs:List (List Bool)} {M:Nat} {B B':List Bool->Prop} {mkvs:List (List Key×V)} {ys:List (List Bool×Nat)} {A A':List Bool×Nat->Prop}
end
end L2
end
section
namespace L2
open PySem PySem.Spec PyProof.Rows
def nw (H H':Hp):Hp:=fun b=>match H b with
 | none=>H' b
 | some _=>none
theorem nw.at {H H':Hp} {b:Addr} (h:H b=none):nw H H' b=H' b:=by unfold nw;rw [h]
theorem nw.old {H H':Hp} {b:Addr} {o:HO} (h:H b=some o):nw H H' b=none:=by unfold nw;rw [h]
theorem nw.inv {H H':Hp} {b:Addr} {o:HO} (h:nw H H' b=some o):H b=none/\H' b=some o:=by
 cases e:H b with
 | none=>rw [nw.at e] at h;exact ⟨rfl,h⟩
 | some u=>rw [nw.old e] at h;cases h
theorem nw.same {H H':Hp}:Same (nw H H') H':=fun b o e=>(nw.inv e).2
theorem nw.up {H H1 H2:Hp} (s:Same H1 H2):Same (nw H H1) (nw H H2):=fun b o e=>by rw [nw.at (nw.inv e).1];exact s _ _ (nw.inv e).2
section
variable {X:Cx} {pos:Pos} {e:Expr} {es:List Expr} {n:Nat} {d:PyData} {ds:List PyData}
end
end L2
end
section
namespace L2
open PySem PySem.Spec PyProof.Rows
theorem SqL.wo1 {K:PySem.W.Frag} {H:Hp} {a P:Addr} {xs:List V} {ps:Array Value} (h:SqL K H a xs) (hP:H P=some (.tbl ps)):SqL K (wo1 P H) a xs:=by
 rcases h with (h | ⟨o,h⟩) | h
 ·exact .inl (.inl (wo1.at h (ne_of h hP (fun z=>nomatch z))))
 ·exact .inl (.inr ⟨o,wo1.at h (ne_of h hP (fun z=>nomatch z))⟩)
 ·exact .inr h
section
variable {H H':Hp} {kvs:List (Key×V)} {ls:List Nat} {rows:Om.Rows}
end
end L2
end
section
namespace K50
open PySem L2
def top (i:Nat):Stmt:=PySem.Challenge.pw_ownbeat_k50_greatest_quiet_sets.main.body.getD i (.Pass ⟨0,0,0,0⟩)
end K50
end
section
namespace L2
open PySem PySem.Spec PyProof.Rows
section
variable {X:Cx} {p pos:Pos} {e:Expr} {es:List Expr} {t:TA}
end
end L2
end
section
namespace L2
open PySem PySem.Spec PyProof.Rows
section
variable {X:Cx}
variable {elt target iter:Expr} {ifs:List Expr} {scope:Scope} {pos spos:Pos} {wi:TI} {g:TG} {tt:TT} {te:TE}
end
end L2
end
section
namespace L2
open PySem PySem.Spec PyProof.Rows
def Its (ws:List Bool):It:=⟨fun i _=>i < ws.length,fun i H x H'=>H'=H/\∃ b,ws[i]? = some b/\x = .str (bs [b]),fun i _=>ws.length<=i⟩
theorem turn_str {P:Program} {w:World} {K:PySem.W.Frag} {tg:Expr} (it:Addr) (ws:List Bool) (t:Tok):Turn P w K tg (Its ws) [it] it (fun i h=>h.IsStrIter it "str_ascii_iterator" (bs ws) t i) where
 mem:=by simp
 obj:=fun i h st b hb=>by
  have e:b=it:=by simpa using hb
  subst e
  obtain ⟨o,e,c,d⟩:=st
  exact ⟨o,e,fun v z=>by rw [d] at z;cases z⟩
 keep:=fun i h h' st k=>by
  obtain ⟨o,e,c,d⟩:=st
  exact ⟨o,k it (by simp) o e,c,d⟩
 item:=by
  intro X hP hw hK hc i pins s σ H E I hf st hg
  subst hP hw hK
  obtain ⟨f0,f1,f2,f3,f4,f5⟩:=hf it (by simp)
  have hg:i < ws.length:=hg
  have hb:ws[i]? = some ws[i]:=List.getElem?_eq_getElem hg
  refine wpAny_pyNext_ascii_item st (bs_get hb) fun h' st' sb=>?_
  have I1:Inv X pins σ H { s with heap:=h',toks:=s.toks+1 }:=I.turned (fun b o hb e=>(sb.2 b hb).trans e) f0 f1 f3 f4 f5
  obtain ⟨o,e,c,d⟩:=id st'
  exact ⟨_,rfl,go_of (s:={ s with heap:=h',toks:=s.toks+1 }) e c d (by decide) ⟨.str (bs [ws[i]]),H,I1,⟨_,rfl⟩,⟨rfl,_,hb,rfl⟩,st',fun b hb=>(hf b hb).1⟩⟩
 done:=by
  intro X hP hw hK hc i pins s σ H E I hf st hg
  subst hP hw hK
  obtain ⟨f0,f1,f2,f3,f4,f5⟩:=hf it (by simp)
  have hg:ws.length<=i:=hg
  refine wpAny_pyNext_ascii_end (I.ok.hd hc) st ?_ fun h' eb=>⟨rfl,I.turned (t':=s.toks) (fun b o hb e=>eb b o hb e) f0 f1 f3 f4 f5⟩
  unfold bs
  rw [List.getElem?_toArray]
  exact List.getElem?_eq_none (by rw [List.length_map];exact hg)
 self:=fun _ _ _ _ _ st h=>wpAny_pyIter_striter_ascii st h
section
variable {X:Cx} {tg:Expr}
def iTxt (tl:TE):TI:=fun σ H R=>tl σ H fun x H1=>∃ ws:List Bool,x = .str (bs ws)/\R (Its ws) H1
theorem pi_txt {l:Expr} {tl:TE} (hl:PE X l tl):PI X tg l (iTxt tl):=by
 intro pins s σ H R I h
 refine thn (hl pins s σ H _ I h) fun v s1 ⟨x,H1,I1,r1,q1⟩=>?_
 obtain ⟨ws,rfl,q⟩:=q1
 obtain ⟨t,rfl⟩:=r1
 refine wpAny_pyIter_ascii (by
  unfold bs
  rw [List.all_toArray,List.all_eq_true]
  intro c hc
  obtain ⟨b,_,rfl⟩:=List.mem_map.mp hc
  cases b<;>decide) ?_
 refine ⟨s1.heap.objs.size,[s1.heap.objs.size],_,_,H1,rfl,I1.kept (t':=s1.toks) fun b o e=>Heap.get?_push_of_some _ e,turn_str _ ws t,⟨_,Heap.get?_push_size _ rfl,rfl,rfl⟩,fun b hb=>?_,q⟩
 have e:b=s1.heap.objs.size:=by simpa using hb
 subst e
 exact I1.fpOk (Nat.le_refl _) (I1.hok.fresh (Nat.le_refl _))
theorem it_txt (ws:List Bool):ItOk (Its ws) (ws.map fun b=>V.str (bs [b])) fun _=>True:=
 ⟨fun H _=>by show ws.length<=_;rw [List.length_map];exact Nat.le_refl _,fun i H _ hi=>by show i < ws.length;rw [List.length_map] at hi;exact hi,fun i H x H' _ hi y=>⟨y.1,by
  obtain ⟨b,h1,h2⟩:=y.2
  rw [List.getElem?_map,h1,h2];rfl⟩⟩
end
end L2
end
section
namespace L2
open PySem PySem.Spec PyProof.Rows
section
variable {prog:Program} {w:World} {A:Around} {E:Value->Shared->Prop} {s:Shared}
end
section
variable {X:Cx} {p pos:Pos}
def rDictK:List V->Hp->VK->Prop:=fun vs H Q=>match vs with
 | [.ref p]=>∃ kvs:List (Key×V),Rd H p (.dK kvs)/\∀ l,H l=none->Q (.ref l) (upd H l (.dK kvs))
 | _=>False
def iLstH (tl:TE):TI:=fun σ H R=>tl σ H fun x H1=>match x with
 | .ref a=>∃ kvs,Rd H1 a (.dK kvs)/\∀ o H2,H2 a=some (.frz o (.dK kvs))->SameT a H1 H2->R (Itk a o (kvs.map fun p=>kV p.1)) H2
 | _=>False
theorem pi_lstH {tg l:Expr} {tl:TE} (hl:PE X l tl):PI X tg l (iLstH tl):=by
 intro pins s σ H R I h
 refine thn (hl pins s σ H _ I h) fun v s1 ⟨x,H1,I1,r1,q1⟩=>?_
 dsimp only at q1
 split at q1
 ·rename_i a
  cases r1
  obtain ⟨kvs,rd,q⟩:=q1
  obtain ⟨o,H2,J,ho,hq',st⟩ : ∃ (o:Obj) (H2:Hp),Inv X pins σ H2 s1/\s1.heap.get? a=some o/\H2 a=some (.frz o (.dK kvs))/\SameT a H1 H2:=by
   rcases rd with hq | ⟨o,hq⟩
   ·obtain ⟨o,ho⟩:=I1.obj hq
    exact ⟨o,_,I1.freeze hq trivial ho,ho,upd_same,fun b u nb e=>by rw [upd_ne nb];exact e⟩
   ·exact ⟨o,H1,I1,I1.frozen hq,hq,fun b u nb e=>e⟩
  obtain ⟨_,z,hd,vs,r,o',es,ep,h1,h2,h3,h4,h5,h6⟩:=J.hok a _ hq'
  rw [ho] at h1;cases h1
  have hT:s1.TypeIs (.ref a) "dict" := let ⟨_,_,_,_,dd⟩:=dk_rd J.hok (.inr ⟨o,hq'⟩);dd.typeIs
  refine keyIter hd hT ho h3 ?_
  refine ⟨s1.heap.objs.size,[s1.heap.objs.size],_,_,_,rfl,J.kept (t':=s1.toks) fun b o e=>Heap.get?_push_of_some _ e,turn_keys h3 (keys_mix r h5),⟨_,Heap.get?_push_size _ rfl,rfl,rfl⟩,fun b hb=>?_,q o H2 hq' st⟩
  have e:b=s1.heap.objs.size:=by simpa using hb
  subst e
  exact J.fpOk (Nat.le_refl _) (J.hok.fresh (Nat.le_refl _))
 ·exact q1.elim
end
end L2
end
section
namespace Om
section
variable {rows:Rows} {turn:Int} {ks ks':List Nat} {E E':Nat->Int} {ed ed':Nat->Nat->Prop} {s l:Nat} {r:List Bool×Nat}
end
end Om
namespace L2
open PySem PySem.Spec PyProof.Rows
section
variable {H H':Hp} {kvs:List (Key×V)} {ks:List Nat} {E:Nat->Int} {c:Nat}
end
end L2
end
section
namespace L2
open PySem PySem.StrLaws Builtin Builtin.Str
abbrev ch (c:Nat):Str:=⟨#[c]⟩
end L2
end
section
namespace L2
open PySem PySem.Spec PyProof.Rows Builtin Builtin.Str
section
variable {X:Cx} {p pos apos:Pos} {a b c e o:Expr} {es:List Expr} {t:TA} {to:TE}
end
end L2
end
section
namespace Om
def allS (rows:Rows):Sn:=fun x=>x < rows.length
def byL (rows:Rows) (S:Sn) (w:List Bool) (l:Nat):Sn:=fun y=>∃ x,S x/\l < (rows.getD x []).length/\step rows x l=(w,y)
def Goes (rows:Rows) (ws:List (List Bool)) (b l:Nat):Prop:=∃ z,afts rows (byL rows (afts rows (allS rows) (ws.take b)) (ws.getD b []) l) (ws.drop (b+1)) z
open Classical in
noncomputable def rd (rows:Rows) (k b:Nat) (ws:List (List Bool)):Option Nat:=(List.range (2 ^ k)).find? fun l=>decide (Goes rows ws b l)
end Om
namespace L2
open PySem PySem.Spec PyProof.Rows
section
variable {H0 H:Hp} {L q:Addr} {ts:List Addr} {yss:Nat->List Nat}
end
def BL (H:Hp) (v:V) (m:Nat) (S:Nat->Om.Sn):Prop:=∃ (L:Addr) (ts:List Addr),v = .ref L/\H L=some (.lst (ts.map V.ref))/\ts.length=m/\∀ l t,ts[l]? = some t->SL H (.ref t) (S l)
end L2
namespace L2
open PySem PySem.Spec PyProof.Rows
section
variable {X:Cx}
end
end L2
namespace Om
end Om
namespace L2
open PySem PySem.Spec PyProof.Rows
end L2
end
section
namespace Om
end Om
namespace L2
open PySem PySem.Spec PyProof.Rows
end L2
namespace L2
theorem if_negP {c A B:Prop} [Decidable c] (hc:¬ c) (h:B):if c then A else B:=by rw [if_neg hc];exact h
end L2
namespace L2
end L2
end
section
namespace L2
open PySem PySem.Spec PyProof.Rows
section
variable {X:Cx} {p pos:Pos}
def rListK:List V->Hp->VK->Prop:=fun vs H Q=>(∃ (a:Addr) (kvs:List (Key×V)),vs=[.ref a]/\Rd H a (.dK kvs)/\∀ l,H l=none->Q (.ref l) (upd H l (.lst (kvs.map fun p=>kV p.1))))\/rListD vs H Q
theorem call_listK (hc:X.calm=true):CallR X (.type "list") rListK:=by
 intro pins s σ H xs us Q I r h
 rcases h with ⟨a,kvs,rfl,rd,q⟩ | h
 ·obtain ⟨u,rfl,rx⟩:=vals1 r
  cases rx
  obtain ⟨z,hd,vs,kv,o,es,ep,h1,h2,h3,h4,h5,h6⟩:=dk_rd I.hok rd
  have hT:s.TypeIs (.ref a) "dict" := ⟨o,h1,h2.1⟩
  have rel:=keys_mix kv h5
  have le:es.size<=sizeLine:=by
   have e1:=rel.length
   simp at e1
   omega
  refine call_list_dict (I.ok.hd hc) hd hT h1 h3 le fun h' tk acc' c' kp e' it=>?_
  have hl:(kvs.map fun p=>kV p.1).length<=sizeLine:=by
   have:=rel.length
   simp at this ⊢
   omega
  exact ⟨.ref s.heap.objs.size,_,I.laid (t':=tk) kp (Nat.le_refl _) (show ObjOk X.prog X.w _ h' _ (.lst _) from ⟨hl,acc'.toList,c',items_keys it rel,by simpa using e'⟩),rfl,q _ (I.hok.fresh (Nat.le_refl _))⟩
 ·exact call_listD hc pins s σ H _ _ Q I r h
theorem fn_listK {e:Expr} {es:List Expr} {t:TA} {mg':Str->Option Value} (hm:mg' "list" = none) (hX:X.mg=mg') (ha:PA X (e :: es) t) (hc:X.calm=true:=by kernel_rfl) (hg:gB X "list" = true:=by kernel_rfl) (he:starEach (e :: es) X.env=(false,eval e X.env) :: starEach es X.env:=by kernel_rfl) (hpl:(backTo pos (starEach es X.env)).any (·.1)=false:=by kernel_rfl) :
  PE X (.Call (.Name "list" p) (e :: es) [] pos) (tCB rListK t):=pe_callTy (call_listK hc) (gl_of hg) (by rw [hX];exact hm) PyProof.Rows.boot_list ha (he:=he) (hpl:=hpl)
end
end L2
namespace Om
end Om
end
section
namespace L2
open PySem PySem.Spec PyProof.Rows
end L2
namespace L2
open PySem PySem.Spec PyProof.Rows
end L2
namespace L2
open PySem PySem.Spec PyProof.Rows
end L2
end
section
namespace L2
open PySem PySem.Spec PyProof.Rows
section
variable {X:Cx} {p pos apos:Pos} {a b e o:Expr} {es:List Expr} {t:TA} {to:TE}
end
end L2
end
section
namespace L2
open PySem PySem.Spec PyProof.Rows
section
variable {X:Cx} {p pos:Pos}
end
end L2
end
section
namespace Om
end Om
end
section
namespace L2
open PySem PySem.Spec PyProof.Rows
theorem DVs.erase {G:Hp}:∀ {us:List V} {ds:List PyData} (i:Nat),DVs G us ds->DVs G (us.eraseIdx i) (ds.eraseIdx i)
 | _,_,_,.nil=>.nil
 | _,_,0,.cons _ b=>b
 | _,_,i+1,.cons a b=>.cons a (DVs.erase i b)
section
variable {G H0 H H':Hp} {a A S q:Addr} {ts:List Addr} {ps:List (Nat×Nat)} {rw:Nat->List (List Bool×Nat)}
end
end L2
namespace L2
open PySem PySem.Spec PyProof.Rows
end L2
end
section
namespace L2
open PySem PySem.Spec PyProof.Rows
def Itv (K:PySem.W.Frag) (a:Addr) (n:Nat):It:=
 ⟨fun i H=>∃ xs x,SqL K H a xs/\xs.length=n/\xs.reverse[i]? = some x,fun i H x H'=>H'=H/\∀ xs,SqL K H a xs->xs.reverse[i]? = some x,fun i H=>∃ xs,SqL K H a xs/\xs.length=n/\n<=i⟩
theorem turn_rev {P:Program} {w:World} {K:PySem.W.Frag} {tg:Expr} (a it:Addr) (n:Nat):Turn P w K tg (Itv K a n) [it] it (fun i h=>i<=n/\h.IsRevIter it a ((n:Int) - 1 - (i:Int))) where
 mem:=by simp
 obj:=fun i h st b hb=>by
  have e:b=it:=by simpa using hb
  subst e
  obtain ⟨_,o,e,c,d⟩:=st
  exact ⟨o,e,fun v z=>by rw [d] at z;cases z⟩
 keep:=fun i h h' st k=>⟨st.1,st.2.at fun o e=>k it (by simp) o e⟩
 item:=by
  intro X hP hw hK hc i pins s σ H E I hf st hg
  subst hP hw hK
  obtain ⟨xs,x,hq,hn,hx⟩:=hg
  obtain ⟨its,rv,p,hz⟩:=I.list hq
  have hi:i < n:=by
   have:=(List.getElem?_eq_some_iff.mp hx).1
   rw [List.length_reverse] at this;omega
  have hx':xs[n - 1 - i]? = some x:=by rw [List.getElem?_reverse (by omega),hn] at hx;exact hx
  obtain ⟨u,hu,ru⟩:=rv.get hx'
  obtain ⟨f0,f1,f2,f3,f4,f5⟩:=hf it (by simp)
  have e:(n:Int) - 1 - (i:Int)=((n - 1 - i:Nat):Int):=by omega
  have hit:=st.2
  rw [e] at hit
  refine wpAny_pyNext_rev_item hit p.isList (x:=u) (by simpa using hu) fun h' st' sb=>?_
  have e2:((n - 1 - i:Nat):Int) - 1=(n:Int) - 1 - ((i+1:Nat):Int):=by omega
  rw [e2] at st'
  have I1:Inv X pins σ H { s with heap:=h' }:=I.turned (t':=s.toks) (fun b o hb e=>(sb.2 b hb).trans e) f0 f1 f3 f4 f5
  obtain ⟨o,e,c,d⟩:=id st'
  exact ⟨u,rfl,go_of (s:={ s with heap:=h' }) e c d (by decide) ⟨x,H,I1,ru,⟨rfl,fun ys hy=>by rw [I.list_inj hy hq];exact hx⟩,⟨hi,st'⟩,fun b hb=>(hf b hb).1⟩⟩
 done:=by
  intro X hP hw hK hc i pins s σ H E I hf st hg
  subst hP hw hK
  obtain ⟨xs,hq,hn,hx⟩:=hg
  obtain ⟨f0,f1,f2,f3,f4,f5⟩:=hf it (by simp)
  have hit:=st.2
  have:i=n:=Nat.le_antisymm st.1 hx
  subst this
  rw [show (i:Int) - 1 - (i:Int) = -1 by omega] at hit
  exact wpAny_pyNext_rev_end (I.ok.hd hc) hit fun h' eb=>⟨rfl,I.turned (t':=s.toks) (fun b o hb e=>eb b o hb e) f0 f1 f3 f4 f5⟩
 self:=fun _ _ _ _ _ st h=>wpAny_pyIter_revIter st.2 h
section
variable {X:Cx} {p pos:Pos} {a tg:Expr}
def iRev (K:PySem.W.Frag) (ta:TA):TI:=fun σ H R=>ta σ H fun vs H1=>match vs with
 | [.ref l]=>∃ xs,SqL K H1 l xs/\R (Itv K l xs.length) H1
 | _=>False
theorem it_rev {ta:TA} {mg':Str->Option Value} (hm:mg' "reversed" = none) (hX:X.mg=mg') (ha:PA X [a] ta) (hg:gB X "reversed" = true:=by kernel_rfl) (hs:starEach [a] X.env=[(false,eval a X.env)]:=by kernel_rfl) :
  PI X tg (.Call (.Name "reversed" p) [a] [] pos) (iRev X.K ta):=by
 intro pins s σ H R I h
 refine Call_ (ld_blt I (gl_of hg) (by rw [hX];exact hm) boot_reversed (PyProof.Rows.callWith_type1 (thn (ha pos pins s σ H _ I h) fun us s1 ⟨vs,H1,I1,r1,q1⟩=>?_) hs rfl))
 dsimp only at q1
 split at q1
 ·rename_i l
  obtain ⟨xs,hq,q⟩:=q1
  obtain ⟨u,rfl,r⟩:=vals1 r1
  cases r
  obtain ⟨its,rv,pl,hz⟩:=I1.list hq
  have rl:=rv.length
  refine call_reversed_list pl.isList ?_
  have e0:((its.toArray.size:Nat):Int) - 1=(xs.length:Int) - 1 - ((0:Nat):Int):=by simp;omega
  have st:(s1.heap.push (revObj l (((its.toArray.size:Nat):Int) - 1))).IsRevIter s1.heap.objs.size l ((xs.length:Int) - 1 - ((0:Nat):Int)):=⟨_,Heap.get?_push_size _ rfl,rfl,by rw [<-e0];rfl⟩
  refine wpAny_pyIter_revIter st ?_
  refine ⟨s1.heap.objs.size,[s1.heap.objs.size],_,_,H1,rfl,I1.kept (t':=s1.toks) fun b o e=>Heap.get?_push_of_some _ e,turn_rev l _ xs.length,⟨Nat.zero_le _,st⟩,fun b hb=>?_,q⟩
  have e:b=s1.heap.objs.size:=by simpa using hb
  subst e
  exact I1.fpOk (Nat.le_refl _) (I1.hok.fresh (Nat.le_refl _))
 ·exact q1.elim
end
theorem it_revL (K:PySem.W.Frag) (a:Addr) (xs:List V):ItOk (Itv K a xs.length) xs.reverse fun H=>SqL K H a xs:=
 ⟨fun H h=>⟨xs,h,rfl,by simp⟩,fun i H h hi=>⟨xs,_,h,rfl,List.getElem?_eq_getElem hi⟩,fun i H x H' h hi y=>⟨y.1,y.2 xs h⟩⟩
end L2
namespace L2
open PySem PySem.Spec PyProof.Rows
theorem Vals.rev:∀ {xs:List V} {us:List Value},Vals xs us->Vals xs.reverse us.reverse
 | _,_,.nil=>.nil
 | _,_,.cons r t=>by
  rw [List.reverse_cons,List.reverse_cons]
  exact (Vals.rev t).append (.cons r .nil)
section
variable {prog:Program} {w:World} {A:Around} {E:Value->Shared->Prop} {s:Shared}
theorem hint_rev {it:Addr} {Q:Bool->Shared->Prop} (hT:s.TypeIs (.ref it) "list_reverseiterator") (h:Q false s):wpAny (model prog w) A (Builtin.List.listLengthHint (.ref it)) Q E s:=by
 have n1:typeLookup (.type "list_reverseiterator") "__len__" = pure none:=by rw [typeLookup_type,builtinLookup_eq_fast];kernel_rfl
 have n2:typeLookup (.type "list_reverseiterator") "__length_hint__" = pure (some (.builtin "list_reverseiterator.__length_hint__")):=by rw [typeLookup_type,builtinLookup_eq_fast];kernel_rfl
 unfold Builtin.List.listLengthHint
 refine wpAny_bind (wpAny_specialOf hT n1 ?_)
 wp_delta
 refine wpAny_ite_split (fun hab=>absurd hab (by decide +kernel)) (fun _=>?_)
 refine wpAny_ite_split (fun hab=>absurd hab (by decide)) (fun _=>?_)
 refine wpAny_bind (wpAny_specialOf hT n2 ?_)
 generalize hid:("list_reverseiterator.__length_hint__" : String)=id0
 wp_delta
 rw [show splitId id0=some ("list_reverseiterator","__length_hint__") from by subst hid;decide +kernel]
 subst hid
 refine wpAny_bind (wpAny_isInstance (T:= "list_reverseiterator") (b:=true) hT (by rw [isSubtype_type];kernel_rfl) ?_)
 refine wpAny_ite_split (fun hab=>absurd hab (by decide)) (fun _=>?_)
 refine wpAny_ite_split (fun _=>?_) (fun hab=>absurd (by decide +kernel) hab)
 refine wpAny_ite_split (fun hab=>absurd hab (by decide +kernel)) (fun _=>?_)
 exact wpAny_pure h
theorem extend_rev {R:Result->Shared->Prop} {it l:Addr} {items:Array Value} (hh:A.handled=none) (hit:s.heap.IsRevIter it l ((items.size:Int) - 1 - ((0:Nat):Int))) (hl:s.heap.IsList l items) (hne:l≠it) (hlen:items.size<=sizeLine) (S:Addr) (res:Value) (c₀:Nat) (hS:s.heap.get? S=some { cls:=.type "list",data:=.seq #[] c₀ }) (hSl:S≠l)
  (hR:∀ h' tk acc' c',(∀ b o,b≠S->b≠it->s.heap.get? b=some o->h'.get? b=some o)->h'.get? S=some { cls:=.type "list",dict:=none,data:=.seq acc' c',slots:=#[] } →
   ItemsOf (fun i v=>items[items.size - 1 - i]? = some v) acc' items.size->R (.ok (.ret res)) { s with heap:=h',toks:=tk }) :
  wpAny (model prog w) A.in1 (Builtin.List.listExtendWith (.ref S) (.ref it) res)
   (fun fin s'=>match fin with | .done f=>R (.ok f) s' | .again c'=>c'.quiet=true/\codeAny (model prog w) A c' R s') (fun e s'=>R (.error e) s') s:=by
 have hT:=hit.typeIs
 have hSr:S≠it:=fun e=>by obtain ⟨o,ho,hc,_⟩:=hit;rw [<-e,hS] at ho;cases ho;exact absurd (show Value.type "list" = Value.type "list_reverseiterator" from hc) (by decide)
 have hSf:S ∉ [it,l]:=fun hm=>by simp at hm;rcases hm with h | h;exact hSr h;exact hSl h
 have W:=(Walks.listRev (prog:=prog) (w:=w) (A:=A.in1) hh it l hne items).toS
 unfold Builtin.List.listExtendWith
 refine wpAny_bind (wpAny_typeOf (T:= "list_reverseiterator") hT ?_)
 have h1:Builtin.List.listSameRef (.ref S) (.ref it)=false:=by simp [Builtin.List.listSameRef,hSr]
 have h2:(Value.type "list_reverseiterator" == Value.type "list")=false:=by decide
 have h3:(Value.type "list_reverseiterator" == Value.type "tuple")=false:=by decide
 simp only [h1,h2,h3,Bool.or_false,Bool.false_eq_true,if_false]
 refine wpAny_bind (wpAny_pyIter_revIter hit ?_)
 refine wpAny_bind (wpAny_holding (hint_rev hT ?_))
 have key:∀ (h:Heap) (c₁ tk:Nat),h.IsRevIter it l ((items.size:Int) - 1 - ((0:Nat):Int))->h.IsList l items->(∀ b o,b≠S->s.heap.get? b=some o->h.get? b=some o) →
   h.get? S=some { cls:=.type "list",data:=.seq #[] c₁ }->codeAny (model prog w) A (.builtin "list.extend.loop" ⟨[.ref S,.ref it,res],[]⟩) R { s with heap:=h,toks:=tk }:=by
  intro h c₁ tk hit' hll hk hS₁
  refine codeAny_extend_loopS W hlen S hSf res items.size 0 _ #[] c₁ rfl (Nat.zero_le _) ⟨Nat.zero_le _,hit',hll⟩ hS₁ (ItemsOf.nil _) fun s' acc' c' hm hS' hacc=>?_
  rw [Moved.eq_with hm]
  refine hR s'.heap s'.toks acc' c' (fun b o hb hb2 e=>hm.heap b o (fun hmem=>?_) (hk b o hb e)) hS' hacc
  rcases List.mem_cons.mp hmem with e' | hmem
  ·exact hb e'
  ·exact hb2 (List.mem_singleton.mp hmem)
 refine wpAny_ite_split (fun _=>?_) (fun _=>wpAny_pure ⟨plainId_quiet F.plain_extend_loop _,key _ c₀ _ hit hl (fun b o _ e=>e) hS⟩)
 refine wpAny_bind (wpAny_rule ?_)
 refine wpAny_bind ?_
 show wpAny _ _ (updateSeq S (·.push .none) >>= fun _=>updateSeq S (·.pop)) _ _ _
 refine wpAny_bind (wpAny_updateSeq hS rfl ?_)
 have hS₂:=Heap.get?_update_self (Obj.mapSeq (·.push Value.none)) hS rfl
 refine wpAny_updateSeq (hz:=by seq_fits) hS₂ rfl ?_
 have hS₃:=Heap.get?_update_self (Obj.mapSeq (·.pop)) hS₂ rfl
 refine wpAny_pure ⟨plainId_quiet F.plain_extend_loop _,key _ _ _ ?_ ?_ (fun b o hb e=>?_) hS₃⟩
 ·exact hit.at fun o e=>(Heap.get?_update_other _ _ hSr).trans ((Heap.get?_update_other _ _ hSr).trans e)
 ·exact hl.at fun o e=>(Heap.get?_update_other _ _ hSl).trans ((Heap.get?_update_other _ _ hSl).trans e)
 ·exact (Heap.get?_update_other _ _ (Ne.symm hb)).trans ((Heap.get?_update_other _ _ (Ne.symm hb)).trans e)
theorem call_list_rev {Q:Value->Shared->Prop} {it l:Addr} {items:Array Value} (hh:A.handled=none) (hit:s.heap.IsRevIter it l ((items.size:Int) - 1 - ((0:Nat):Int))) (hl:s.heap.IsList l items) (hne:l≠it) (hlen:items.size<=sizeLine)
  (hQ:∀ h' tk acc' c',(∀ b o,b≠it->s.heap.get? b=some o->h'.get? b=some o) →
   h'.get? s.heap.objs.size=some { cls:=.type "list",dict:=none,data:=.seq acc' c',slots:=#[] }->ItemsOf (fun i v=>items[items.size - 1 - i]? = some v) acc' items.size->Q (.ref s.heap.objs.size) { s with heap:=h',toks:=tk }) :
  wpAny (model prog w) A (call (.type "list") [.ref it]) Q E s:=by
 refine callType_codes (Q₁:=fun obj s₁=>obj = .ref s.heap.objs.size/\s₁={ s with heap:=s.heap.push { cls:=.type "list",data:=.seq #[] } }) F.called_list (F.typeCall_list_1 _) F.entry_list_init
  (code_list_new _ ⟨rfl,rfl⟩) fun obj s₁ h₁=>?_
 obtain ⟨rfl,rfl⟩:=h₁
 have hS:(s.heap.push { cls:=.type "list",data:=.seq #[] }).get? s.heap.objs.size=some { cls:=.type "list",data:=.seq #[] }:=Heap.get?_push_size _ rfl
 have itlt:it < s.heap.objs.size:=by obtain ⟨o,ho,_⟩:=hit;exact Heap.lt_size ho
 have llt:l < s.heap.objs.size:=by obtain ⟨o,ho,_⟩:=hl;exact Heap.lt_size ho
 refine ⟨⟨_,hS,rfl⟩,F.args_list_init_2 _ _,?_⟩
 show wpAny _ _ (do let old <-Builtin.List.listItems (.ref s.heap.objs.size);Builtin.List.listUpdate (.ref s.heap.objs.size) (fun _=>#[]);letGo old.toList.reverse;Builtin.List.listExtendWith (.ref s.heap.objs.size) (.ref it) .none) _ _ _
 refine wpAny_bind ?_
 unfold Builtin.List.listItems
 refine wpAny_bind (wpAny_seqItems hS rfl (wpAny_pure ?_))
 show wpAny _ _ (updateSeq s.heap.objs.size (fun _=>#[]) >>= fun _=>letGo (#[]:Array Value).toList.reverse >>= fun _=>Builtin.List.listExtendWith (.ref s.heap.objs.size) (.ref it) .none) _ _ _
 refine wpAny_bind (wpAny_updateSeq hS rfl ?_)
 have hS₂:=Heap.get?_update_self (Obj.mapSeq (fun _=>(#[]:Array Value))) hS rfl
 have oth:∀ b o,b≠s.heap.objs.size->(s.heap.push { cls:=.type "list",data:=.seq #[] }).get? b=some o->((s.heap.push { cls:=.type "list",data:=.seq #[] }).update s.heap.objs.size (Obj.mapSeq (fun _=>(#[]:Array Value)))).get? b=some o:=
  fun b o hb e=>(Heap.get?_update_other _ _ (Ne.symm hb)).trans e
 refine wpAny_bind (wpAny_letGo ?_)
 have hit2:=hit.at (h':=((s.heap.push { cls:=.type "list",data:=.seq #[] }).update s.heap.objs.size (Obj.mapSeq (fun _=>(#[]:Array Value))))) fun o e=>oth it o (Nat.ne_of_lt itlt) (Heap.get?_push_of_some _ e)
 have hl2:=hl.at (h':=((s.heap.push { cls:=.type "list",data:=.seq #[] }).update s.heap.objs.size (Obj.mapSeq (fun _=>(#[]:Array Value))))) fun o e=>oth l o (Nat.ne_of_lt llt) (Heap.get?_push_of_some _ e)
 refine extend_rev (A:=A.in1) hh hit2 hl2 hne hlen _ .none _ hS₂ (Nat.ne_of_gt llt) fun h' tk acc' c' hk hS' hacc=>?_
 exact ⟨rfl,hQ h' tk acc' c' (fun b o hb e=>hk b o (Nat.ne_of_lt (Heap.lt_size e)) hb (oth b o (Nat.ne_of_lt (Heap.lt_size e)) (Heap.get?_push_of_some _ e))) hS' hacc⟩
end
section
variable {X:Cx} {p p2 pos pos2:Pos} {a:Expr}
def tLR (ta:TA):TE:=fun σ H Q=>ta σ H fun vs H1=>match vs with
 | [.ref l]=>∃ xs,H1 l=some (.lst xs)/\∀ n,H1 n=none->Q (.ref n) (upd H1 n (.lst xs.reverse))
 | _=>False
theorem e_listRev {ta:TA} {mg':Str->Option Value} (hm1:mg' "list" = none) (hm2:mg' "reversed" = none) (hX:X.mg=mg') (ha:PA X [a] ta) (hc:X.calm=true:=by kernel_rfl) (hg1:gB X "list" = true:=by kernel_rfl) (hg2:gB X "reversed" = true:=by kernel_rfl)
  (hs:starEach [a] X.env=[(false,eval a X.env)]:=by kernel_rfl) (hs1:starEach [.Call (.Name "reversed" p2) [a] [] pos2] X.env=[(false,eval (.Call (.Name "reversed" p2) [a] [] pos2) X.env)]:=by kernel_rfl) :
  PE X (.Call (.Name "list" p) [.Call (.Name "reversed" p2) [a] [] pos2] [] pos) (tLR ta):=by
 intro pins s σ H Q I h
 refine wpAny_Call_Name_kw (ld_blt I (gl_of hg1) (by rw [hX];exact hm1) boot_list ?_)
 refine PyProof.Rows.callWith_type1 ?_ hs1 rfl
 rw [hs1]
 show wpAny _ _ (spliced [(false,eval (.Call (.Name "reversed" p2) [a] [] pos2) X.env)]) _ _ s
 refine Calls.spliced_cons ?_
 refine Call_ (ld_blt I (gl_of hg2) (by rw [hX];exact hm2) boot_reversed (PyProof.Rows.callWith_type1 (thn (ha pos2 pins s σ H _ I h) fun us s1 ⟨vs,H1,I1,r1,q1⟩=>?_) hs rfl))
 dsimp only at q1
 split at q1
 ·rename_i l
  obtain ⟨xs,hq,q⟩:=q1
  obtain ⟨u,rfl,r⟩:=vals1 r1
  cases r
  obtain ⟨its,rv,pl,hz⟩:=I1.list (SqL.of (K:=X.K) hq)
  have rl:=rv.length
  refine call_reversed_list pl.isList ?_
  have ilt:l < s1.heap.objs.size:=by obtain ⟨o,ho,_⟩:=pl.isList;exact Heap.lt_size ho
  have hne:l≠s1.heap.objs.size:=Nat.ne_of_lt ilt
  have hfr:H1 s1.heap.objs.size=none:=I1.hok.fresh (Nat.le_refl _)
  have I2:Inv X pins σ H1 { s1 with heap:=s1.heap.push (revObj l (((its.toArray.size:Nat):Int) - 1)) }:=I1.kept (t':=s1.toks) fun b o e=>Heap.get?_push_of_some _ e
  have st:(s1.heap.push (revObj l (((its.toArray.size:Nat):Int) - 1))).IsRevIter s1.heap.objs.size l (((its.toArray.size:Nat):Int) - 1 - ((0:Nat):Int)):=⟨_,Heap.get?_push_size _ rfl,rfl,by rw [show ((its.toArray.size:Nat):Int) - 1 - ((0:Nat):Int)=((its.toArray.size:Nat):Int) - 1 by omega];rfl⟩
  have fp:FpOk X pins H1 s1.heap.objs.size:=I1.fpOk (Nat.le_refl _) hfr
  refine Calls.spliced_nil ?_
  refine call_list_rev (I2.ok.hd hc) st (pl.isList.at fun o e=>Heap.get?_push_of_some _ e) hne (by simp;omega) fun h' tk acc' c' kp e' itm=>?_
  have sz:s1.heap.objs.size<=(s1.heap.push (revObj l (((its.toArray.size:Nat):Int) - 1))).objs.size:=by rw [Heap.size_push];omega
  have hn:H1 (s1.heap.push (revObj l (((its.toArray.size:Nat):Int) - 1))).objs.size=none:=I1.hok.fresh sz
  refine ⟨.ref (s1.heap.push (revObj l (((its.toArray.size:Nat):Int) - 1))).objs.size,upd H1 (s1.heap.push (revObj l (((its.toArray.size:Nat):Int) - 1))).objs.size (.lst xs.reverse),?_,rfl,q _ hn⟩
  refine I2.turnLaid (t':=tk) (ch:=[s1.heap.objs.size]) (fun b hb=>?_) (fun b o hb e=>kp b o (fun z=>hb (by simp [z])) e) (Nat.le_refl _) ?_
  ·rw [List.mem_singleton.mp hb];exact fp
  ·refine ⟨by rw [List.length_reverse];omega,acc'.toList,c',?_,by simpa using e'⟩
   have er:acc'.toList=its.reverse:=by
    apply List.ext_getElem?
    intro i
    by_cases hi:i < its.length
    ·have hi':i < acc'.size:=by rw [itm.1];simpa using hi
     have:=itm.2 i acc'[i] (by simp [hi'])
     rw [List.getElem?_reverse hi]
     have e1:acc'.toList[i]? = some acc'[i]:=by simp [hi']
     rw [e1]
     have e2:its.toArray[its.toArray.size - 1 - i]? = its[its.length - 1 - i]?:=by simp
     rw [<-e2];exact this.symm
    ·have:¬ i < acc'.size:=by rw [itm.1];simpa using hi
     rw [List.getElem?_eq_none (by simp;omega),List.getElem?_eq_none (by rw [List.length_reverse];omega)]
   rw [er]
   exact Vals.rev rv
 ·exact q1.elim
end
end L2
end
section
namespace L2
open PySem PySem.Spec PyProof.Rows
section
variable {prog:Program} {w:World} {A:Around} {E:Value->Shared->Prop} {s:Shared}
abbrev tK (prog:Program) (w:World):=tupleKind (mixKind prog w)
theorem set_there {d a:Addr} {xs:List (List Key×Addr×Value)} {k:List Key} {v:Value} {Q:Unit->Shared->Prop} (hu:(tK prog w).room A) (hk:(tK prog w).is s.heap k a) (hm:s.heap.DictOfH (tK prog w) d xs) (hin:k∈xs.map (·.1))
  (q:∀ h',h'.DictOfH (tK prog w) d (storedH xs k a v)->Heap.SameBut d s.heap h'->Q () { s with heap:=h' }):wpAny (model prog w) A (dictSetHashed d (.ref a) ((tK prog w).hash k) v) Q E s:=by
 obtain ⟨od,ents,epo,a1,a2,a3,a4,a5,a6⟩:=hm
 unfold dictSetHashed
 refine wpAny_holding (wpAny_bind (wpAny_dictFind_heap hu hk a1 a3 a4 a5 a6 (fun no=>?_) (fun j p hj=>?_)))
 ·exfalso
  obtain ⟨x,hx,e⟩:=List.mem_map.mp hin
  obtain ⟨j,hj⟩:=List.mem_iff_getElem?.mp hx
  exact no j x.2 (by rw [hj,<-e])
 ·have so:=storedH_old (atKey_of_get a6 hj) a v
  refine wpAny_bind (wpAny_rule (wpAny_bind (wpAny_updateDict a1 a3 (wpAny_point (q _ ?_ (Heap.SameBut.update ..))))))
  rw [so]
  refine ⟨_,_,epo,Heap.get?_update_self _ a1 (Obj.isFreed_of_dict (Obj.data_mapDict a3 _)),a2.mapDict _,Obj.data_mapDict a3 _,?_,fun x hx=>?_,by rw [keys_map_putAt];exact a6⟩
  ·have mm:=modify_map_putAt (entryOfKey (tK prog w)) (fun e:DictEntry=>{ e with val:=v }) k v (fun _ _=>rfl) a6 hj
   rw [<-a4] at mm
   cases ents
   simpa using mm
  ·obtain ⟨y,hy,rfl⟩:=List.mem_map.mp hx
   have ky:=(tK prog w).keeps (a5 y hy) a1 a3 (Heap.SameBut.update s.heap d (Obj.mapDict fun es=>es.modify j fun e=>{ e with val:=v }))
   unfold putAt
   split<;>exact ky
def mrgH (xs ys:List (List Key×Addr×Value)):List (List Key×Addr×Value):=ys.foldl (fun acc y=>storedH acc y.1 y.2.1 y.2.2) xs
theorem mrgH_keys:∀ {ys xs:List (List Key×Addr×Value)},(∀ y∈ys,y.1∈xs.map (·.1))->(mrgH xs ys).map (·.1)=xs.map (·.1)
 | [],_,_=>rfl
 | y :: ys,xs,h=>by
  have h1:=h y List.mem_cons_self
  have e:(storedH xs y.1 y.2.1 y.2.2).map (·.1)=xs.map (·.1):=by
   obtain ⟨x,hx,ex⟩:=List.mem_map.mp h1
   have:(atKey xs y.1).isSome:=by
    unfold atKey
    rw [Option.isSome_map,List.find?_isSome]
    exact ⟨x,hx,by simpa using ex⟩
   unfold storedH
   rw [if_pos this,keys_map_putAt]
  show (mrgH (storedH xs y.1 y.2.1 y.2.2) ys).map (·.1)=_
  rw [mrgH_keys (fun z hz=>by rw [e];exact h z (List.mem_cons_of_mem _ hz)),e]
theorem mrgH_snoc (xs ys:List (List Key×Addr×Value)) (y:List Key×Addr×Value):mrgH xs (ys++[y])=storedH (mrgH xs ys) y.1 y.2.1 y.2.2:=by unfold mrgH;rw [List.foldl_append];rfl
theorem merge_there {nm:String} {d o:Addr} {xs ys:List (List Key×Addr×Value)} {Q:Unit->Shared->Prop} (hdo:d≠o) (hoS:(o == sysModules)=false) (hu:(tK prog w).room A) (hd:s.heap.DictOfH (tK prog w) d xs) (ho:s.heap.DictOfH (tK prog w) o ys) (ne:xs≠[])
  (hin:∀ y∈ys,y.1∈xs.map (·.1)) (q:∀ h',h'.DictOfH (tK prog w) d (mrgH xs ys)->Heap.SameBut d s.heap h'->Q () { s with heap:=h' }):wpAny (model prog w) A (Builtin.Dict.mergeDict nm d o) Q E s:=by
 obtain ⟨dd,d1,d2,d3,d4,d5,d6,d7,d8⟩:=id hd
 obtain ⟨oo,o1,o2,o3,o4,o5,o6,o7,o8⟩:=id ho
 have ol:o1.size=ys.length:=size_of_entries o6
 unfold Builtin.Dict.mergeDict Builtin.Dict.showsAll
 rw [if_neg (by simpa using hdo),if_neg (by rw [hoS];exact Bool.false_ne_true)]
 refine wpAny_bind (wpAny_pure (wpAny_bind (wpAny_dictEntries o3 o5 ?_)))
 dsimp only
 split
 refine wpAny_bind (wpAny_dictEntries d3 d5 ?_)
 split
 ·rename_i em
  exfalso
  have l0:d1.size=0:=by rw [Array.isEmpty_iff.mp em];rfl
  have l1:d1.size=xs.length:=size_of_entries d6
  exact ne (List.length_eq_zero_iff.mp (by omega))
 all_goals
  refine wpAny_bind (wpAny_dictEpoch o3 o5 (wpAny_bind (wpAny_dictEntries o3 o5 (wpAny_bind ?_))))
  rw [Std.Legacy.Range.forIn_eq_forIn_range'];simp only [Std.Legacy.Range.size,Nat.sub_zero,Nat.add_sub_cancel,Nat.div_one]
  refine wpAny_forIn_list _ (fun rest _ s'=>∃ h' i,s'={ s with heap:=h' }/\rest=List.range' i (o1.size - i)/\i<=o1.size/\h'.DictOfH (tK prog w) d (mrgH xs (ys.take i))/\h'.get? o=some oo/\Heap.SameBut d s.heap h') _ ?_ ?_ _ _ ⟨s.heap,0,rfl,by simp,Nat.zero_le _,hd,o3,Heap.SameBut.refl _ _⟩
  ·rintro x rest b s' ⟨h',i,rfl,hr,hi,hd',ho',hs'⟩
   have lt:i < o1.size:=by
    rcases Nat.lt_or_ge i o1.size with z | z
    ·exact z
    ·rw [Nat.sub_eq_zero_of_le z] at hr;simp at hr
   have e2:o1.size - i=(o1.size - (i+1))+1:=by omega
   rw [e2,List.range'_succ] at hr
   injection hr with r1 r2
   subst r1
   have xl:x < ys.length:=by omega
   have yx:ys[x]? = some ys[x]:=List.getElem?_eq_getElem xl
   have ent:o1[x]? = some (entryOfKey (tK prog w) ys[x]):=by rw [entry_at o6 x,yx];rfl
   have km:ys[x]∈ys:=List.getElem_mem xl
   obtain ⟨dq,dq1,dq2,dq3,dq4,dq5,dq6,dq7,dq8⟩:=id hd'
   refine wpAny_bind (wpAny_dictEntries ho' o5 ?_)
   rw [ent]
   refine wpAny_bind (wpAny_holding (set_there (xs:=mrgH xs (ys.take x)) hu ((tK prog w).keeps (o7 _ km) d3 d5 hs') hd' (by rw [mrgH_keys fun y hy=>hin y (List.mem_of_mem_take hy)];exact hin _ km) fun h2 hd2 hs2=>?_))
   have ho2:h2.get? o=some oo:=(hs2.2 o (Ne.symm hdo)).trans ho'
   refine wpAny_bind (wpAny_dictEpoch ho2 o5 ?_)
   rw [if_neg (by simp)]
   refine wpAny_pure ⟨h2,x+1,rfl,r2,lt,?_,ho2,hs'.trans hs2⟩
   rw [List.take_add_one,yx]
   exact (mrgH_snoc xs (ys.take x) ys[x]) ▸ hd2
  ·rintro b s' ⟨h',i,rfl,hr,hi,hd',ho',hs'⟩
   have ie:i=o1.size:=by
    rcases Nat.lt_or_ge i o1.size with z | z
    ·have e2:o1.size - i=(o1.size - (i+1))+1:=by omega
     rw [e2,List.range'_succ] at hr;exact nomatch hr
    ·exact Nat.le_antisymm hi z
   rw [ie,ol,List.take_length] at hd'
   exact wpAny_pure (q h' hd' hs')
end
section
variable {X:Cx} {pos apos:Pos} {o e:Expr} {to:TE} {t:TA} {es:List Expr}
def updT (kvs more:List (List Key×V)):List (List Key×V):=more.foldl (fun acc p=>putK acc p.1 p.2) kvs
theorem kt_upd {H:Hp} {more:List (List Key×V)} {ys:List (List Key×Addr×Value)} (r:KT H more ys):∀ {kvs:List (List Key×V)} {xs:List (List Key×Addr×Value)},KT H kvs xs->KT H (updT kvs more) (mrgH xs ys):=by
 induction r with
 | nil=>exact fun r=>r
 | @cons p y ps qs h t ih=>
  intro kvs xs rr
  obtain ⟨h1,h2,h3⟩:=h
  have:=ih (rr.put p.1 h2 h3)
  rw [show mrgH xs (y :: qs)=mrgH (storedH xs p.1 y.2.1 y.2.2) qs by rw [h1];rfl]
  exact this
theorem kt_fst {H:Hp} {kvs:List (List Key×V)} {xs:List (List Key×Addr×Value)} (r:KT H kvs xs):xs.map (·.1)=kvs.map (·.1):=by
 induction r with
 | nil=>rfl
 | cons h t ih=>rw [List.map_cons,List.map_cons,ih,h.1]
theorem updT_len:∀ {more kvs:List (List Key×V)},(∀ p∈more,p.1∈kvs.map (·.1))->(updT kvs more).map (·.1)=kvs.map (·.1)
 | [],_,_=>rfl
 | p :: ps,kvs,h=>by
  have h1:=h p List.mem_cons_self
  have e:(putK kvs p.1 p.2).map (·.1)=kvs.map (·.1):=by
   unfold putK
   rw [if_pos (by rw [List.any_eq_true];obtain ⟨x,hx,ex⟩:=List.mem_map.mp h1;exact ⟨x,hx,decide_eq_true ex⟩),keys_map]
  show (updT (putK kvs p.1 p.2) ps).map (·.1)=_
  rw [updT_len (fun z hz=>by rw [e];exact h z (List.mem_cons_of_mem _ hz)),e]
def rUpdT:V->List V->Hp->VK->Prop:=fun x xs H Q=>∃ a b kvs more,x = .ref a/\xs=[.ref b]/\a≠b/\H a=some (.dT kvs)/\Rd H b (.dT more)/\kvs≠[]/\(∀ p∈more,p.1∈kvs.map (·.1))/\Q .non (upd H a (.dT (updT kvs more)))
theorem mt_updT (hu:X.A.units+64 < cLine):MtM X "dict.update" rUpdT:=by
 intro pins s σ H x vs v us Q I rx rv h
 obtain ⟨a,b,kvs,more,rfl,rfl,ab,ha,rd,ne,hin,q⟩:=h
 cases rx
 obtain ⟨u,rfl,r1⟩:=vals1 rv
 cases r1
 obtain ⟨z1,n1,xs,k1,m1⟩:=dt_of I.hok ha
 obtain ⟨z2,n2,ys,k2,m2⟩:=dt_rd I.hok rd
 refine wpAny_call_entry PySem.F.slot_dict_update m1.typeIs PySem.F.entry_dict_update ?_ (PySem.F.args_dict_update_2 _ _)
 unfold Builtin.«dict.update» Builtin.Dict.selfAndRest
 refine wpAny_bind (wpAny_bind (wpAny_notOrdered_dict m1.typeIs ?_))
 show wpAny _ _ (pure (a,[Value.ref b])) _ _ s
 refine wpAny_pure ?_
 show wpAny _ _ (Builtin.Dict.updateFrom "dict.update" a (.ref b) [] .none) _ _ s
 unfold Builtin.Dict.updateFrom
 refine wpAny_bind (wpAny_typeOf m2.typeIs ?_)
 rw [if_neg (by decide)]
 refine wpAny_bind ?_
 unfold Builtin.Dict.merge
 refine wpAny_bind ?_
 unfold Builtin.Dict.readDirectly
 refine wpAny_bind (wpAny_isInstance m2.typeIs isSubtype_dict_dict ?_)
 simp only [Bool.not_true,Bool.false_eq_true,if_false]
 refine wpAny_bind (wpAny_specialOf m2.typeIs F.slot_dict_iter.lookup (wpAny_pure ?_))
 simp only [beq_self_eq_true,if_true]
 refine wpAny_bind (wpAny_pure ?_)
 have f1:=kt_fst k1
 have f2:=kt_fst k2
 refine merge_there ab n2 ?_ m1 m2 (fun z=>ne (by
  have:=congrArg List.length f1
  rw [z,List.length_map,List.length_map] at this
  exact List.length_eq_zero_iff.mp this.symm)) (fun y hy=>?_) fun h' hd' hs'=>?_
 ·exact tupleKind_room_in1 (by omega)
 ·rw [f1]
  have:y.1∈ys.map (·.1):=List.mem_map.mpr ⟨y,hy,rfl⟩
  rw [f2] at this
  obtain ⟨p,hp,e⟩:=List.mem_map.mp this
  rw [<-e]
  exact hin p hp
 show wpAny _ _ (Builtin.Dict.addKeywords a [] >>= _) _ _ _
 refine wpAny_bind (wpAny_pure (wpAny_pure ⟨_,rfl,?_⟩))
 obtain ⟨qo,es,ep,hq,h2,h3,h4,_,h5⟩:=hd'
 refine ⟨.non,_,d_write (ob:=.dT (updT kvs more)) I (by rw [ha];exact True.intro) hs' ⟨qo,hq⟩ ⟨?_,n1,_,(kt_upd k2 k1).keeps fun c ys ec=>?_,qo,es,ep,hq,h2,h3,h4,h5⟩,rfl,q⟩
 ·have:=congrArg List.length (updT_len hin)
  rw [List.length_map,List.length_map] at this
  rw [this];exact z1
 ·rw [upd_ne (ne_of ec ha (fun z=>nomatch z))]
  exact ec
theorem m_updT {cpos:Pos} (hu:X.A.units+64 < cLine) (ho:PE X o to) (ha:PA X (e :: es) t)
  (hbase:attributeBase o "update" X.env (eval o X.env)=eval o X.env:=by kernel_rfl)
  (hfew:((backTo cpos (starEach (e :: es) X.env)).all (fun x=>!x.1) && (backToKw cpos (keywordEach [] X.env)).all (fun x=>x.1.isSome)
   && decide ((e :: es).length+([]:List Keyword).length+(if ([]:List Keyword).isEmpty then 0 else 1) < 30))=true:=by kernel_rfl)
  (hline:(apos.endLine == cpos.line)=true:=by kernel_rfl) (hs:starEach (e :: es) X.env=(false,eval e X.env) :: starEach es X.env:=by kernel_rfl) (hplain:(backTo cpos (starEach es X.env)).any (·.1)=false:=by kernel_rfl) :
  PE X (.Call (.Attribute o "update" apos) (e :: es) [] cpos) (tMtV X.K "dict" rUpdT to t):=by
 intro pins s σ H Q I h
 refine wpAny_Call_method_late hbase hfew hline rfl (thn (ho pins s σ H _ I h) fun v s1 ⟨x,H1,I1,r1,ty,q1⟩=>?_)
 obtain ⟨h1,h2⟩:=tyV_is I1 r1 ty
 refine ⟨"dict","dict.update",PySem.F.plainAttrs_dict,PySem.F.slot_dict_update,PySem.F.type_dict_update,h1,h2,?_⟩
 have hA:=ha cpos pins s1 σ H1 _ I1 q1
 rw [hs] at hA ⊢
 refine Calls.callWith_builtin (by show (false || (backTo cpos (starEach es X.env)).any (·.1))=false;rw [hplain]<;>rfl) (Calls.evalArgs_plain ?_)
 exact thn hA fun us s2 ⟨vs,H2,I2,r2,q2⟩=>mt_updT hu pins s2 σ H2 x vs v us Q I2 r1 r2 q2
theorem e_gref {x:Str} {a:Addr} {mg':Str->Option Value} (hm:mg' x=some (.ref a)) (hX:X.mg=mg') (hg:gB X x=true:=by kernel_rfl) (hd:(x == ("__debug__" : Str))=false:=by kernel_rfl):PE X (.Name x pos) (tC (.ref a)):=
 pe_glob (gl_of hg) (by rw [hX];exact hm) rfl hd
def rLenK:List V->Hp->VK->Prop:=fun vs H Q=>(∃ a kvs,vs=[.ref a]/\Rd H a (.dK kvs)/\kvs.length<=2 ^ 24/\Q (.int (kvs.length:Nat)) H)\/rLen vs H Q
theorem call_lenK:CallR X (.builtin "len") rLenK:=by
 intro pins s σ H xs us Q I r h
 rcases h with ⟨a,kvs,rfl,rd,hl,q⟩ | h
 ·obtain ⟨u,rfl,rx⟩:=vals1 r
  cases rx
  obtain ⟨z,hd,vs,kv,o,es,ep,h1,h2,h3,h4,h5,h6⟩:=(show ObjOk X.prog X.w H s.heap a (.dK kvs) from rd_of I.hok rd)
  have hT:s.TypeIs (.ref a) "dict" := ⟨o,h1,h2.1⟩
  have esl:es.size=kvs.length:=by
   have e1:=h5.length
   have e2:=kv.length
   simp at e1
   omega
  refine call_len_entries hd hT h1 h3 (by omega) ?_
  exact ⟨.int _,H,I.tok _,⟨_,rfl⟩,by rw [esl];exact q⟩
 ·exact call_lenU pins s σ H xs us Q I r h
theorem fn_lenK {p:Pos} {mg':Str->Option Value} (hm:mg' "len" = none) (hX:X.mg=mg') (ha:PA X (e :: es) t) (hg:gB X "len" = true:=by kernel_rfl) (he:starEach (e :: es) X.env=(false,eval e X.env) :: starEach es X.env:=by kernel_rfl) (hpl:(backTo pos (starEach es X.env)).any (·.1)=false:=by kernel_rfl) :
  PE X (.Call (.Name "len" p) (e :: es) [] pos) (tCB rLenK t):=pe_callB call_lenK (gl_of hg) (by rw [hX];exact hm) boot_len ha (he:=he) (hpl:=hpl)
end
end L2
end
section
namespace L2
open PySem PySem.Spec PyProof.Rows
section
variable {X:Cx} {pins:List (Addr×Obj)} {σ:St} {H:Hp} {s:Shared} {a:Addr} {u:HO} {o:Obj}
theorem Inv.thaw (I:Inv X pins σ H s) (e:H a=some (.frz o u)) (mu:Mut (some u)) (nf:∀ o' u',X.H₀ a≠some (.frz o' u')):Inv X pins σ (upd H a u) s:=by
 have nn:∀ b,H b=none->b≠a:=fun b h z=>by rw [z,e] at h;cases h
 have nt:∀ b xs,H b=some (.tup xs)->b≠a:=fun b xs h z=>by rw [z,e] at h;cases h
 have no:∀ b y,H b=some (.own y)->b≠a:=fun b y h z=>by rw [z,e] at h;cases h
 refine ⟨I.ok,I.os,I.bare,⟨I.base.keep,I.base.slot,fun b ob q n hx=>?_,I.base.there,fun b xs q=>?_,fun b ob w q=>?_,fun b ps q=>?_⟩,I.loc,I.cell,?_,fun x c h=>?_,fun p hp=>?_,fun b w q=>?_,I.len⟩
 ·have:=I.base.free b ob q n hx
  rw [upd_ne (nn b this)];exact this
 ·have:=I.base.tups b xs q
  rw [upd_ne (nt b xs this)];exact this
 ·have h1:=I.base.frzs b ob w q
  rw [upd_ne (show b≠a from fun z=>nf ob w (z ▸ q))];exact h1
 ·obtain ⟨more,h1⟩:=I.base.tbls b ps q
  exact ⟨more,by rw [upd_ne (fun z=>by rw [z,e] at h1;cases h1)];exact h1⟩
 ·rw [upd_ne (nn _ I.free)];exact I.free
 ·rw [upd_ne (nn _ (I.freeC x c h))];exact I.freeC x c h
 ·obtain ⟨h1,h2,h3⟩:=I.pin p hp
  exact ⟨h1,by rw [upd_ne (nn _ h2)];exact h2,h3⟩
 ·have st:∀ {b:Addr} {w:HO},ObjOk X.prog X.w H s.heap b w->ObjOk X.prog X.w (upd H a u) s.heap b w:=fun {b w} h=>h.stay (fun _ _ _ z=>z) (fun c z=>by rw [upd_ne (no c _ z)];exact z) fun c xs z=>by rw [upd_ne (nt c xs z)];exact z
  by_cases ba:b=a
  ·subst ba
   rw [upd_same] at q
   cases q
   exact st (I.hok b _ e).2
  ·rw [upd_ne ba] at q
   exact st (I.hok b _ q)
end
section
variable {X:Cx} {st:Stmt} {t:TS}
def tThaw (H0:Hp) (t:TS):TS:=fun D σ H=>t { nx:=fun σ' H'=>∃ a o u,H' a=some (.frz o u)/\Mut (some u)/\(∀ o' u',H0 a≠some (.frz o' u'))/\D.nx σ' (upd H' a u),rt:=D.rt,bk:=D.bk,ct:=D.ct } σ H
theorem s_thaw (h:PS X st t):PS X st (tThaw X.H₀ t):=by
 intro pins s σ H D I hw
 refine thn (h pins s σ H _ I hw) fun f s' sp=>?_
 cases f with
 | next=>
  obtain ⟨σ',H',I',a,o,u,e,mu,nf,q⟩:=sp
  exact ⟨σ',_,I'.thaw e mu nf,q⟩
 | _=>exact sp
end
end L2
end
section
open PySem L2
local macro_rules | `(tactic| walk_at "T.n")=>`(tactic| with_reducible first | exact vn _ 0 | exact vn _ 1 | exact vn _ 2 | exact vn _ 3 | exact vn _ 4 | exact vn _ 5 | exact vn _ 6 | exact vn _ 7 | exact vn _ 8 | exact vn _ 9 | exact vn _ 10 | exact vn _ 11 | exact vn _ 12 | exact vn _ 13 | exact vn _ 14 | exact vn _ 15 | exact vn _ 16 | exact vn _ 17 | exact vn _ 18 | exact vn _ 19)
local macro_rules | `(tactic| walk_at "T.a")=>`(tactic| first | (with_reducible exact pa_nil) | ((with_reducible refine' a_cons ?a1 ?a2);(case a1=>walk_at "T.e");(case a2=>walk_at "T.a")))
local macro_rules | `(tactic| walk_at "T.o")=>`(tactic| first | ((with_reducible refine' po_someU ?a1);(case a1=>walk_at "T.e")))
local macro_rules | `(tactic| walk_at "T.cmp")=>`(tactic| first | (with_reducible exact op_inL) | (with_reducible exact op_notInL) | (with_reducible exact op_isU) | (with_reducible exact op_isNotU) | (with_reducible exact op_lt.n0) | (with_reducible exact op_le.n0) | (with_reducible exact op_gt.n0) | (with_reducible exact op_ge.n0) | ((with_reducible refine' op_eqU ?a1);(case a1=>exact Room.units (by assumption))) | ((with_reducible refine' op_neU ?a1);(case a1=>exact Room.units (by assumption))))
local macro_rules | `(tactic| walk_at "T.op")=>`(tactic| first | (with_reducible exact op_addU) | (with_reducible exact op_sub.n0) | (with_reducible exact op_mulU) | (with_reducible exact op_mod.n) | (with_reducible exact op_fdiv.n) | (with_reducible exact op_pow.n) | (with_reducible exact op_shl.n) | (with_reducible exact op_shr.n) | (with_reducible exact op_and.n0) | (with_reducible exact op_xor.n0) | (with_reducible exact op_or.n0))
local macro_rules | `(tactic| walk_at "T.ty")=>`(tactic| first | ((with_reducible refine' ty_bool ?a1 ?a9);(case a1=>with_reducible assumption);(case a9=>rfl)) | ((with_reducible refine' ty_list ?a1 ?a9);(case a1=>with_reducible assumption);(case a9=>rfl)) )
local macro_rules | `(tactic| walk_at "T.f")=>`(tactic| ((with_reducible refine' fn_can _ ?a0 ?a9 ?a1 ?a2);(case a0=>with_reducible assumption);(case a9=>exact ⟨rfl,rfl,rfl,rfl,rfl⟩);(case a1=>exact Room.mono (by assumption) (by first | decide | exact Nat.le_refl _));(case a2=>walk_at "T.a")))
local macro_rules | `(tactic| walk_at "T.b")=>`(tactic| first | walk_at "T.f" | ((with_reducible refine' fn_len ?a0 ?a9 ?a1);(case a0=>with_reducible assumption);(case a9=>rfl);(case a1=>walk_at "T.a")) | ((with_reducible refine' fn_isinst ?a0 ?a9 ?a1);(case a0=>with_reducible assumption);(case a9=>rfl);(case a1=>walk_at "T.a")) | ((with_reducible refine' fn_max ?a0 ?a9 ?a1);(case a0=>with_reducible assumption);(case a9=>rfl);(case a1=>walk_at "T.a")) | ((with_reducible refine' fn_min ?a0 ?a9 ?a1);(case a0=>with_reducible assumption);(case a9=>rfl);(case a1=>walk_at "T.a")) | ((with_reducible refine' fn_list ?a0 ?a9 ?a1);(case a0=>with_reducible assumption);(case a9=>rfl);(case a1=>walk_at "T.a")) )
local macro_rules | `(tactic| walk_at "T.m")=>`(tactic| first | ((with_reducible refine' m_append ?a1 ?a2);(case a1=>walk_at "T.e");(case a2=>walk_at "T.a")) | ((with_reducible refine' m_strip ?a1 ?a2);(case a1=>walk_at "T.e");(case a2=>walk_at "T.a")) )
local macro_rules | `(tactic| walk_at "T.c")=>`(tactic| fail "no comprehension's names")
local macro_rules | `(tactic| walk_at "T.e")=>`(tactic| first | (with_reducible exact pe_int) | (with_reducible exact pe_str) | (with_reducible exact pe_bl) | (with_reducible exact pe_non) | walk_at "T.n" | walk_at "T.ty" | ((with_reducible refine' pe_op ?a1 ?a2 ?a3);(case a1=>walk_at "T.op");(case a2=>walk_at "T.e");(case a3=>walk_at "T.e")) | ((with_reducible refine' e_cmp ?a1 ?a2 ?a3);(case a1=>walk_at "T.cmp");(case a2=>walk_at "T.e");(case a3=>walk_at "T.e")) | ((with_reducible refine' e_chain ?a1 ?a2 ?a3 ?a4 ?a5);(case a1=>walk_at "T.cmp");(case a2=>walk_at "T.cmp");(case a3=>walk_at "T.e");(case a4=>walk_at "T.e");(case a5=>walk_at "T.e")) | ((with_reducible refine' pe_slice slU ?a1 ?a2 ?a3);(case a1=>walk_at "T.e");(case a2=>walk_at "T.o");(case a3=>walk_at "T.o")) | ((with_reducible refine' ix_at ?a1 ?a2);(case a1=>walk_at "T.e");(case a2=>walk_at "T.e")) | ((with_reducible refine' pe_tup ?a1);(case a1=>walk_at "T.a")) | ((with_reducible refine' pe_lst ?a1);(case a1=>walk_at "T.a")) | ((with_reducible refine' pe_andU ?a1 ?a2);(case a1=>walk_at "T.e");(case a2=>walk_at "T.e")) | ((with_reducible refine' pe_one ?a1);(case a1=>walk_at "T.e")) | ((with_reducible refine' e_neg ?a1);(case a1=>walk_at "T.e")) | walk_at "T.b" | walk_at "T.m" | ((with_reducible refine' e_fmt ?a1);(case a1=>walk_at "T.e")) | ((with_reducible refine' e_fstr ?a1);(case a1=>walk_at "T.j")) | walk_at "T.c")
local macro_rules | `(tactic| walk_at "T.j")=>`(tactic| first | (with_reducible exact pj_nil) )
local macro_rules | `(tactic| walk_at "T.t")=>`(tactic| first | ((with_reducible refine' t_cmp ?a1 ?a2 ?a3);(case a1=>walk_at "T.cmp");(case a2=>walk_at "T.e");(case a3=>walk_at "T.e")) | ((with_reducible refine' pt_not ?a1);(case a1=>walk_at "T.t")) | ((with_reducible refine' PW.pt ?a1);(case a1=>walk_at "T.w")) | ((with_reducible refine' t_tru ?a1);(case a1=>walk_at "T.e")))
local macro_rules | `(tactic| walk_at "T.w")=>`(tactic| first | ((with_reducible refine' pw_and ?a1 ?a2);(case a1=>walk_at "T.t");(case a2=>walk_at "T.w")) | ((with_reducible refine' pw_or ?a1 ?a2);(case a1=>walk_at "T.t");(case a2=>walk_at "T.w")) | ((with_reducible refine' pw_and1 ?a1);(case a1=>walk_at "T.t")) | ((with_reducible refine' pw_or1 ?a1);(case a1=>walk_at "T.t")))
local macro_rules | `(tactic| walk_at "T.i")=>`(tactic| first | ((with_reducible refine' it_r1 ?a0 ?a9 ?a1);(case a0=>with_reducible assumption);(case a9=>rfl);(case a1=>walk_at "T.a")) | ((with_reducible refine' it_enum ?a0 ?a9 ?a1);(case a0=>with_reducible assumption);(case a9=>rfl);(case a1=>walk_at "T.a")) | ((with_reducible refine' pi_tup ?a1);(case a1=>((with_reducible refine' pe_tup ?a1);(case a1=>walk_at "T.a")))) | ((with_reducible refine' pi_lst ?a1);(case a1=>walk_at "T.e")))
local macro_rules | `(tactic| walk_at "T.gn")=>`(tactic| with_reducible first | exact gn _ 0 (by with_unfolding_all assumption) | exact gn _ 1 (by with_unfolding_all assumption) | exact gn _ 2 (by with_unfolding_all assumption) | exact gn _ 3 (by with_unfolding_all assumption) | exact gn _ 4 (by with_unfolding_all assumption) | exact gn _ 5 (by with_unfolding_all assumption) | exact gn _ 6 (by with_unfolding_all assumption) | exact gn _ 7 (by with_unfolding_all assumption) | exact gn _ 8 (by with_unfolding_all assumption) | exact gn _ 9 (by with_unfolding_all assumption) | exact gn _ 10 (by with_unfolding_all assumption) | exact gn _ 11 (by with_unfolding_all assumption) | exact gn _ 12 (by with_unfolding_all assumption) | exact gn _ 13 (by with_unfolding_all assumption) | exact gn _ 14 (by with_unfolding_all assumption) | exact gn _ 15 (by with_unfolding_all assumption) | exact gn _ 16 (by with_unfolding_all assumption) | exact gn _ 17 (by with_unfolding_all assumption) | exact gn _ 18 (by with_unfolding_all assumption) | exact gn _ 19 (by with_unfolding_all assumption))
local macro_rules | `(tactic| walk_at "T.g")=>`(tactic| first | walk_at "T.gn" | ((with_reducible refine' g_tupL ?a1);(case a1=>walk_at "T.gs")) | ((with_reducible refine' g_tupN ?a1);(case a1=>walk_at "T.gs")))
local macro_rules | `(tactic| walk_at "T.gs")=>`(tactic| first | (with_reducible exact pgs_nil) | ((with_reducible refine' gs_cons ?a1 ?a2);(case a1=>walk_at "T.g");(case a2=>walk_at "T.gs")))
local macro_rules | `(tactic| walk_at "T.sc")=>`(tactic| fail "no comprehension's names")
local macro_rules | `(tactic| walk_at "T.st")=>`(tactic| first | ((with_reducible refine' ps_ret ?a1);(case a1=>walk_at "T.e")) | walk_at "T.sc" | ((with_reducible refine' s_asg ?a1 ?a2);(case a1=>walk_at "T.e");(case a2=>walk_at "T.g")) | ((with_reducible refine' s_expr ?a1);(case a1=>walk_at "T.e")) | ((with_reducible refine' ps_if ?a1 ?a2 ?a3);(case a1=>walk_at "T.t");(case a2=>walk_at "T.s");(case a3=>walk_at "T.s")) | ((with_reducible refine' s_for ?a1 ?a2 ?a3);(case a1=>walk_at "T.i");(case a2=>walk_at "T.g");(case a3=>walk_at "T.s")) | ((with_reducible refine' s_while ?a1 ?a2);(case a1=>walk_at "T.t");(case a2=>walk_at "T.s")) | (with_reducible exact s_raise))
local macro_rules | `(tactic| walk_at "T.s")=>`(tactic| first | (with_reducible exact pss_nil) | ((with_reducible refine' pss_one ?a1);(case a1=>walk_at "T.st")) | ((with_reducible refine' pss_cons ?a1 ?a2);(case a1=>walk_at "T.st");(case a2=>walk_at "T.s")))
local macro_rules | `(tactic| walk_at "T.pf")=>`(tactic| first | (with_reducible exact pf_nil) | ((with_reducible refine' pf_one ?a1);(case a1=>walk_at "T.t")))
local macro_rules | `(tactic| walk_at "T.top1")=>`(tactic| ((refine' pss_one ?a1);(case a1=>walk_at "T.st")))
local macro_rules | `(tactic| walk_at "T.top")=>`(tactic| ((refine' pss_cons ?a1 ?a2);(case a1=>walk_at "T.st");(case a2=>walk_at "T.s")))
section
namespace K50
open PySem L2
structure WOk (n:Nat) (rows:Om.Rows):Prop where
 n1:1<=n
 n6:n<=6
 s1:1<=rows.length
 s8:rows.length<=8
 len:∀ st∈rows,st.length<=128
 row:∀ st∈rows,∀ r∈st,r.1.length=n/\r.2 < rows.length
theorem rch_okW {n:Nat} {rows:Om.Rows} (ok:WOk n rows) (s:Nat) (h:Om.Rch (Om.nxR rows) s):s < rows.length:=by
 induction h with
 | z=>exact ok.s1
 | @s a b _ hb ih=>
  obtain ⟨r,hr,rfl⟩:=List.mem_map.mp hb
  rw [List.getD_eq_getElem?_getD,List.getElem?_eq_getElem ih] at hr
  exact (ok.row _ (List.getElem_mem ih) _ hr).2
theorem nx_okW {n:Nat} {rows:Om.Rows} (ok:WOk n rows) {s:Nat} (hs:s < rows.length):(Om.nxR rows s).length<=128/\∀ t∈Om.nxR rows s,t < rows.length:=by
 have e:rows.getD s []=rows[s]:=by rw [List.getD_eq_getElem?_getD,List.getElem?_eq_getElem hs];rfl
 unfold Om.nxR
 rw [e]
 refine ⟨by rw [List.length_map];exact ok.len _ (List.getElem_mem hs),fun t ht=>?_⟩
 obtain ⟨r,hr,rfl⟩:=List.mem_map.mp ht
 exact (ok.row _ (List.getElem_mem hs) r hr).2
end K50
end
section
namespace K50
open PySem L2
def pbs (o:Option Bool) (c p:Nat):List Bool->Option Bool×Nat×Nat
 | []=>(o,c,p)
 | x :: ws=>pbs (some x) (if o=some x then c+1 else 1) (max p (if o=some x then c+1 else 1)) ws
def pb (o:Option Bool) (c:Nat) (ws:List Bool):Option Bool×Nat×Nat:=pbs o c c ws
theorem pbs_app (o:Option Bool) (c p:Nat) (v w:List Bool):pbs o c p (v++w)=pbs (pbs o c p v).1 (pbs o c p v).2.1 (pbs o c p v).2.2 w:=by
 induction v generalizing o c p with
 | nil=>rfl
 | cons x v ih=>exact ih _ _ _
theorem pbs_last {ws:List Bool} (h:ws≠[]) (o:Option Bool) (c p:Nat):∃ b,(pbs o c p ws).1=some b/\∀ o' c' p',(pbs o' c' p' ws).1=some b:=by
 induction ws generalizing o c p with
 | nil=>exact absurd rfl h
 | cons x ws ih=>
  cases ws with
  | nil=>exact ⟨x,rfl,fun _ _ _=>rfl⟩
  | cons y ws=>
   obtain ⟨b,h1,h2⟩:=ih (by simp) (some x) (if o=some x then c+1 else 1) (max p (if o=some x then c+1 else 1))
   exact ⟨b,h1,fun o' c' p'=>h2 _ _ _⟩
def Le (o:Option Bool) (c:Nat) (o':Option Bool) (c':Nat):Prop:=(o=o'/\c<=c')\/c=0
theorem pbs_mono {ws:List Bool}:∀ {o o':Option Bool} {c c' p p':Nat},Le o c o' c'->p<=p'->(pbs o c p ws).2.1<=(pbs o' c' p' ws).2.1/\(pbs o c p ws).2.2<=(pbs o' c' p' ws).2.2\/ws=[]:=by
 induction ws with
 | nil=>exact fun _ _=>.inr rfl
 | cons x ws ih=>
  intro o o' c c' p p' h hp
  left
  have hc:(if o=some x then c+1 else 1)<=(if o'=some x then c'+1 else 1):=by
   rcases h with ⟨rfl,h⟩ | rfl
   ·split<;>omega
   ·split<;>split<;>omega
  rcases ih (o:=some x) (o':=some x) (.inl ⟨rfl,hc⟩) (show max p (if o=some x then c+1 else 1)<=max p' (if o'=some x then c'+1 else 1) by omega) with z | z
  ·exact z
  ·subst z
   exact ⟨hc,show max p (if o=some x then c+1 else 1)<=max p' (if o'=some x then c'+1 else 1) by omega⟩
theorem pb_mono {ws:List Bool} (hw:ws≠[]) {o o':Option Bool} {c c':Nat} (h:Le o c o' c') (hc:c<=c'):(pb o c ws).2.1<=(pb o' c' ws).2.1/\(pb o c ws).2.2<=(pb o' c' ws).2.2:=(pbs_mono h hc).resolve_right hw
theorem pbs_all {ws:List Bool}:∀ {o:Option Bool} {c p:Nat},ws≠[]->ws.length<=(pbs o c p ws).2.1->(∃ b,(∀ x∈ws,x=b)/\(pbs o c p ws).1=some b/\(pbs o c p ws).2.1=(if o=some b then c else 0)+ws.length):=by
 induction ws with
 | nil=>exact fun h=>absurd rfl h
 | cons x ws ih=>
  intro o c p _ h
  cases hw:ws with
  | nil=>
   subst hw
   refine ⟨x,by simp,rfl,?_⟩
   show (if o=some x then c+1 else 1)=(if o=some x then c else 0)+1
   split<;>omega
  | cons y v=>
   have hne:ws≠[]:=by rw [hw];simp
   rw [<-hw]
   have h':ws.length+1<=(pbs (some x) (if o=some x then c+1 else 1) (max p (if o=some x then c+1 else 1)) ws).2.1:=h
   obtain ⟨b,b1,b2,b3⟩:=ih (o:=some x) (c:=if o=some x then c+1 else 1) (p:=max p (if o=some x then c+1 else 1)) hne (by omega)
   have xb:x=b:=by
    refine Classical.byContradiction fun z=>?_
    rw [if_neg (fun y=>z (Option.some.inj y))] at b3
    omega
   subst xb
   rw [if_pos rfl] at b3
   refine ⟨x,fun z hz=>(List.mem_cons.mp hz).elim id (b1 z),b2,?_⟩
   show (pbs (some x) _ _ ws).2.1=_
   rw [b3,List.length_cons]
   split<;>omega
theorem pbs_same {ws:List Bool} {b:Bool}:(∀ x∈ws,x=b)->∀ {c p:Nat},(pbs (some b) c p ws).2.1=c+ws.length/\(pbs (some b) c p ws).1=some b:=by
 induction ws with
 | nil=>exact fun _ _ _=>⟨rfl,rfl⟩
 | cons x ws ih=>
  intro h c p
  have:x=b:=h x List.mem_cons_self
  subst this
  obtain ⟨h1,h2⟩:=ih (fun z hz=>h z (List.mem_cons_of_mem _ hz)) (c:=c+1) (p:=max p (c+1))
  have e:pbs (some x) c p (x :: ws)=pbs (some x) (c+1) (max p (c+1)) ws:=by
   show pbs (some x) (if some x=some x then c+1 else 1) (max p (if some x=some x then c+1 else 1)) ws=_
   rw [if_pos rfl]
  rw [e,h1,List.length_cons]
  exact ⟨by omega,h2⟩
end K50
end
section
namespace K50
open PySem L2
section
variable {P:Program} {w:World} {K:PySem.W.Frag} {mg:Str->Option Value} {base:Heap}
def sgn (o:Option Bool):Str:=match o with | none=>"" | some b=>bs [b]
theorem sgn_eq (o:Option Bool) (b:Bool):decide (bs [b]=sgn o)=decide (o=some b):=by
 cases o with
 | none=>cases b<;>decide +kernel
 | some x=>cases b<;>cases x<;>decide +kernel
theorem pbs_take {o:Option Bool} {c p i:Nat} {ws:List Bool} (h:i < ws.length):pbs o c p (ws.take (i+1))=pbs (pbs o c p (ws.take i)).1 (pbs o c p (ws.take i)).2.1 (pbs o c p (ws.take i)).2.2 [ws[i]]:=by
 rw [List.take_add_one,List.getElem?_eq_getElem h]
 exact pbs_app o c p (ws.take i) [ws[i]]
abbrev sPut:Stmt:=top 13
def spPut:Sp:=fun vs H Q _=>match vs with
 | [.str z,.int c0,.str zs]=>∃ (o:Option Bool) (c:Nat) (ws:List Bool),z=sgn o/\c0=(c:Nat)/\zs=bs ws/\ws≠[]/\∀ p H',Same H H'->H' p=some (.tup [.int ((pb o c ws).2.2:Nat),.str (sgn (pb o c ws).1),.int ((pb o c ws).2.1:Nat)])->H p=none->Q (.ref p) H'
 | _=>False
theorem scPut:FnScope ["sign","count","word","peak","one"] ["sign","count","word"] (defScope sPut):=⟨rfl,rfl,rfl,by decide +kernel,rfl,by decide +kernel,by decide +kernel⟩
local macro_rules | `(tactic| walk_at "T.i")=>`(tactic| ((with_reducible refine' pi_txt ?a1);(case a1=>walk_at "T.e")))
local macro_rules | `(tactic| walk_at "T.e")=>`(tactic| ((with_reducible refine' pe_ifExp ?a1 ?a2 ?a3);(case a1=>walk_at "T.t");(case a2=>walk_at "T.e");(case a3=>walk_at "T.e")))
theorem ok_put (D:FnX K mg "put_behind" sPut ["sign","count","word"]) (g1:mg "max" = none):Can P w K mg base "put_behind" 1 ["sign","count","word"] spPut:=by
 refine can_fn (k:=0) D scPut (fun vs H Q E h=>?_) (fun f cdv A outer s H vs Q E hr h=>?_)
 all_goals
  unfold spPut at h
  split at h
 ·rfl
 ·exact h.elim
 ·rename_i z c0 zs
  obtain ⟨o,c,ws,rfl,rfl,rfl,wne,q⟩:=h
  have nd:=scPut.nd
  refine ⟨_,(by walk_at "T.top"),?_⟩
  refine ⟨ws,rfl,?_⟩
  refine for_by (it_txt ws) (fun i σ H2=>∃ (v4:Option V),σ=[some (.str (sgn (pbs o c c (ws.take i)).1)),some (.int ((pbs o c c (ws.take i)).2.1:Nat)),some (.str (bs ws)),some (.int ((pbs o c c (ws.take i)).2.2:Nat)),v4]/\H2=H)
   ⟨none,rfl,rfl⟩ (fun _ _ _ _ _=>trivial) ?_ ?_
  ·rintro i x σ H2 hi hx ⟨v4,rfl,rfl⟩
   rw [List.length_map] at hi
   rw [List.getElem?_map,List.getElem?_eq_getElem hi] at hx
   cases hx
   rw [pbs_take hi]
   generalize ws[i]=b
   generalize pbs o c c (ws.take i)=S
   dsimp only [gName]
   refine seq_by (fun σ H3=>σ=[some (.str (sgn S.1)),some (.int ((if S.1=some b then S.2.1+1 else 1:Nat):Int)),some (.str (bs ws)),some (.int (S.2.2:Nat)),some (.str (bs [b]))]/\H3=H2) ?_ (fun fin=>?_)
   ·rintro σ H3 ⟨rfl,rfl⟩
    refine ⟨some (.str (bs [b])),?_,rfl⟩
    show _=[some (V.str (sgn (some b))),some (.int ((if S.1=some b then S.2.1+1 else 1:Nat):Int)),some (.str (bs ws)),some (.int ((max S.2.2 (if S.1=some b then S.2.1+1 else 1):Nat):Int)),_]
    have e:(if ((if S.1=some b then S.2.1+1 else 1:Nat):Int) > ((S.2.2:Nat):Int) then ((if S.1=some b then S.2.1+1 else 1:Nat):Int) else ((S.2.2:Nat):Int))=((max S.2.2 (if S.1=some b then S.2.1+1 else 1):Nat):Int):=by split<;>omega
    rw [<-e]
    rfl
   ·refine ite2 (fun k=>?_) (fun k=>?_)
    ·have k:decide (bs [b]=sgn S.1)=true:=k
     rw [sgn_eq] at k
     have k:=of_decide_eq_true k
     exact fin [some (.str (sgn S.1)),some (.int ((S.2.1:Nat)+1)),some (.str (bs ws)),some (.int (S.2.2:Nat)),some (.str (bs [b]))] H2 ⟨by rw [if_pos k];rfl,rfl⟩
    ·have k:¬ decide (bs [b]=sgn S.1)=true:=k
     rw [sgn_eq] at k
     have k:¬ S.1=some b:=fun z=>k (decide_eq_true z)
     exact fin [some (.str (sgn S.1)),some (.int 1),some (.str (bs ws)),some (.int (S.2.2:Nat)),some (.str (bs [b]))] H2 ⟨by rw [if_neg k];rfl,rfl⟩
  ·rintro σ H2 ⟨v4,rfl,rfl⟩
   rw [List.length_map,List.take_length]
   refine ⟨le_line (Nat.le_of_ble_eq_true rfl),fun p hp=>?_⟩
   exact q p _ (Same.upd hp) upd_same hp
 ·exact h.elim
end
end K50
end
section
namespace K50
open PySem L2
section
variable {P:Program} {w:World} {K:PySem.W.Frag} {mg:Str->Option Value} {base:Heap}
abbrev Nd:=Nat×Option Bool×Nat
theorem sgn_inj {a b:Option Bool} (h:sgn a=sgn b):a=b:=by
 cases a with
 | none=>cases b with
  | none=>rfl
  | some y=>have:=congrArg (fun z:Str=>z.length) h;cases y<;>exact absurd h (by decide +kernel)
 | some x=>cases b with
  | none=>cases x<;>exact absurd h (by decide +kernel)
  | some y=>cases x<;>cases y<;>first | rfl | exact absurd h (by decide +kernel)
def nxt (x:Nd) (r:List Bool×Nat):Nd:=(r.2,(pb x.2.1 x.2.2 r.1).1,(pb x.2.1 x.2.2 r.1).2.1)
def topN (x:Nd) (r:List Bool×Nat):Nat:=(pb x.2.1 x.2.2 r.1).2.2
inductive Rr (rows:Om.Rows):Nd->Prop where
 | z:Rr rows (0,none,0)
 | s {x r}:Rr rows x->r∈rows.getD x.1 []->Rr rows (nxt x r)
def TopAt (rows:Om.Rows) (m:Nat):Prop:=m=0\/∃ x r,Rr rows x/\r∈rows.getD x.1 []/\m=topN x r
structure Mo (rows:Om.Rows) (B most:Nat):Prop where
 bd:∀ x,Rr rows x->x.2.2 < B
 all:∀ x r,Rr rows x->r∈rows.getD x.1 []->topN x r<=most
 src:TopAt rows most
end
end K50
end
section
namespace K50
open PySem L2
section
variable {P:Program} {w:World} {K:PySem.W.Frag} {mg:Str->Option Value} {base:Heap}
def Ed (rows:Om.Rows) (b:Bool) (s t:Nat):Prop:=∃ r∈rows.getD s [],r.2=t/\∀ x∈r.1,x=b
def StE (H:Hp) (ps:List V) (ts:List Nat):Prop:=ps.length=ts.length/\∀ (i t:Nat),ts[i]? = some t->∃ q lab,ps[i]? = some (.ref q)/\H q=some (.tup [.int lab,.int (t:Nat)])
theorem StE.mono {H H':Hp} {ps:List V} {ts:List Nat} (h:StE H ps ts) (s:∀ b ys,H b=some (.tup ys)->H' b=some (.tup ys)):StE H' ps ts:=⟨h.1,fun i t e=>let ⟨q,l,a,b⟩:=h.2 i t e;⟨q,l,a,s _ _ b⟩⟩
def aw:Nat->List (List Bool)
 | 0=>[[]]
 | n+1=>(aw n).flatMap fun w=>[false :: w,true :: w]
theorem mem_aw:∀ (w:List Bool),w∈aw w.length
 | []=>List.mem_singleton.mpr rfl
 | b :: w=>by
  show b :: w∈(aw w.length).flatMap fun w=>[false :: w,true :: w]
  rw [List.mem_flatMap]
  exact ⟨w,mem_aw w,by cases b<;>simp⟩
theorem strip_chk:((List.range 7).all fun n=>(aw n).all fun w=>[false,true].all fun b=>decide (Txt.stripChars (bs w) (bs [b])=("" : Str)) == w.all (· == b))=true:=by decide +kernel
theorem strip_one (w:List Bool) (b:Bool) (h:w.length<=6):decide (Txt.stripChars (bs w) (bs [b])=("" : Str))=decide (∀ x∈w,x=b):=by
 have h1:=List.all_eq_true.mp strip_chk w.length (List.mem_range.mpr (by omega))
 have h2:=List.all_eq_true.mp (List.all_eq_true.mp h1 w (mem_aw w)) b (by cases b<;>simp)
 rw [eq_of_beq h2,Bool.eq_iff_iff,List.all_eq_true,decide_eq_true_eq]
 exact ⟨fun z x hx=>eq_of_beq (z x hx),fun z x hx=>by rw [z x hx];exact beq_self_eq_true b⟩
abbrev sStS:Stmt:=top 19
def spStS:Sp:=fun vs H Q _=>match vs with
 | [cv,.int s0,.str z]=>∃ (n:Nat) (rows:Om.Rows) (s:Nat) (b:Bool),DV H cv (codeD 0 0 rows)/\WOk n rows/\s0=(s:Nat)/\s < rows.length/\z=bs [b] ∧
   ∀ l ps (ts:List Nat) H',Same H H'->H l=none->H' l=some (.lst ps)->StE H' ps ts->(∀ t,t∈ts↔Ed rows b s t)->Q (.ref l) H'
 | _=>False
theorem scStS:FnScope ["code","state","sign"] ["code","state","sign"] (defScope sStS):=⟨rfl,rfl,rfl,by decide +kernel,rfl,by decide +kernel,by decide +kernel⟩
local macro_rules | `(tactic| walk_at "T.c")=>`(tactic| (have ndc:(["letter","row","sign"]:List Str).Nodup:=(by decide +kernel));((with_reducible refine' c_comp ["letter","row","sign"] [2] ?b1 ?b2 (fun cl C s H fp=>?b3) (fun cl C s H fp=>?b4) (fun cl C s H fp=>?b5));(case b1=>exact ndc);(case b2=>walk_at "T.i");(case b3=>walk_at "T.g");(case b4=>walk_at "T.pf");(case b5=>walk_at "T.e")))
theorem ok_stS (D:FnX K mg "standing_steps" sStS ["code","state","sign"]) (g1:mg "enumerate" = none):Can P w K mg base "standing_steps" 1 ["code","state","sign"] spStS:=by
 refine can_fn (k:=0) D scStS (fun vs H Q E h=>?_) (fun f cdv A outer s H vs Q E hr h=>?_)
 all_goals
  unfold spStS at h
  split at h
 ·rfl
 ·exact h.elim
 ·rename_i cv s0 z
  obtain ⟨n,rows,st,b,hc,ok,rfl,hs,rfl,q⟩:=h
  have nd:=scStS.nd
  obtain ⟨a,bb,ss,rfl,ha,hb,hss⟩:=code_inv hc
  obtain ⟨qx,rx,e1,e2,e3⟩:=state_at hss (s:=st) (st:=rows[st]) (List.getElem?_eq_getElem hs)
  have lx:rows[st].length<=128:=ok.len _ (List.getElem_mem hs)
  have rxl:rx.length=rows[st].length:=by rw [e3.length,List.length_map]
  have p8:rx.length<=128:=by rw [rxl];exact lx
  have eg:rows.getD st []=rows[st]:=by rw [List.getD_eq_getElem?_getD,List.getElem?_eq_getElem hs];rfl
  have n6:=ok.n6
  refine ⟨_,(by walk_at "T.top1"),?_⟩
  refine ⟨_,gt ha (by decide) rfl,.ref qx,gl hb (by omega) (by simpa using e1),⟨_,SqL.of e2⟩,fun R hR=>?_⟩
  refine comp_pr (it_enumP _ qx rx) (fun i τ H2 ys=>(∃ v1 v2,τ=[v1,v2,some (.str (bs [b]))])/\Same H H2/\H2 R=some (.lst ys)/\ys.length<=i/\∃ ts:List Nat,StE H2 ys ts/\∀ t,t∈ts↔∃ (j:Nat) (r:List Bool×Nat),j < i/\rows[st][j]? = some r/\r.2=t/\∀ x∈r.1,x=b) (le_line (by omega))
   ⟨⟨none,none,rfl⟩,Same.upd hR,upd_same,Nat.le_refl _,[],⟨rfl,fun i t h=>by simp at h⟩,fun t=>⟨(fun h=>nomatch h),fun ⟨_,_,h,_⟩=>absurd h (Nat.not_lt_zero _)⟩⟩ ?_ ?_ ?_
  ·rintro i τ H2 ys hi ⟨_,s2,hR2,yl,_⟩
   exact ⟨s2 _ _ e2,hR2,yl⟩
  ·rintro i t τ H2 ys hi ⟨⟨v1,v2,rfl⟩,s2,hR2,yl,ts,se,mem⟩ ht
   have hi':i < rows[st].length:=by omega
   obtain ⟨r,r1,r2⟩:=row_at e3 (l:=i) (r:=rows[st][i]) (List.getElem?_eq_getElem hi')
   have er:rx.getD i .non = .ref r:=by rw [List.getD_eq_getElem?_getD,r1];rfl
   have okr:=ok.row _ (List.getElem_mem hs) _ (List.getElem_mem hi')
   have hrow:rows[st][i]? = some rows[st][i]:=List.getElem?_eq_getElem hi'
   rw [er]
   have s3:Same H2 (upd H2 t (.tup [.int (i:Nat),.ref r])):=Same.upd ht
   refine ⟨_,.inl upd_same,rfl,rfl,?_⟩
   refine ⟨_,gt (s3 _ _ (s2 _ _ r2)) (by decide) rfl,rfl,by rw [bs_len];exact le_line (by omega),?_⟩
   have se3:=se.mono fun b ys e=>s3 _ _ e
   generalize upd H2 t (.tup [.int (i:Nat),.ref r])=H3 at s3 se3
   dsimp only [tC,rEqU]
   rw [strip_one _ _ (by omega)]
   generalize rows[st][i]=rw0 at r2 okr hrow
   refine ite2 (fun c=>?_) (fun c=>?_)
   ·have c:=of_decide_eq_true c
    refine ⟨_,gt (s3 _ _ (s2 _ _ r2)) (by decide) rfl,le_line (Nat.le_of_ble_eq_true rfl),fun p hp=>?_⟩
    have s4:=s3.trans (Same.upd (o:=.tup [.int (i:Nat),.int (rw0.2:Nat)]) hp)
    have pR:p≠R:=fun z=>by rw [z,s3 _ _ hR2] at hp;cases hp
    refine ⟨s4 _ _ hR2,⟨_,_,rfl⟩,(s2.trans s4).own hR,upd_same,by simp;omega,ts++[rw0.2],⟨by rw [List.length_append,List.length_append,se.1];rfl,fun j t' hj=>?_⟩,fun t'=>?_⟩
    ·by_cases jl:j < ts.length
     ·rw [List.getElem?_append_left jl] at hj
      obtain ⟨q',lab,a1,a2⟩:=se3.2 j t' hj
      refine ⟨q',lab,by rw [List.getElem?_append_left (by rw [se.1];exact jl)];exact a1,?_⟩
      have a3:=Same.upd (o:=.tup [.int (i:Nat),.int (rw0.2:Nat)]) hp _ _ a2
      rw [upd_ne (ne_of a3 (s4 _ _ hR2) (fun z=>nomatch z))]
      exact a3
     ·have je:j=ts.length:=by
       have:=(List.getElem?_eq_some_iff.mp hj).1
       rw [List.length_append] at this
       simp at this
       omega
      subst je
      rw [List.getElem?_append_right (Nat.le_refl _)] at hj
      simp at hj
      subst hj
      exact ⟨p,_,by rw [List.getElem?_append_right (by rw [se.1];exact Nat.le_refl _),se.1];simp,by rw [upd_ne pR,upd_same]⟩
    ·rw [List.mem_append,mem]
     constructor
     ·rintro (⟨j,r',h,e⟩ | h)
      ·exact ⟨j,r',by omega,e⟩
      ·exact ⟨i,rw0,by omega,hrow,(List.mem_singleton.mp h).symm,c⟩
     ·rintro ⟨j,r',h,e,e2,e3⟩
      by_cases ej:j=i
      ·subst ej
       rw [hrow] at e
       cases e
       exact .inr (List.mem_singleton.mpr e2.symm)
      ·exact .inl ⟨j,r',by omega,e,e2,e3⟩
   ·have c:¬ ∀ x∈rw0.1,x=b:=fun z=>c (decide_eq_true z)
    refine ⟨⟨_,_,rfl⟩,s2.trans s3,s3 _ _ hR2,by omega,ts,se3,fun t'=>?_⟩
    rw [mem]
    constructor
    ·rintro ⟨j,r',h,e⟩
     exact ⟨j,r',by omega,e⟩
    ·rintro ⟨j,r',h,e,e2,e3⟩
     by_cases ej:j=i
     ·subst ej
      rw [hrow] at e
      cases e
      exact absurd e3 c
     ·exact ⟨j,r',by omega,e,e2,e3⟩
  ·rintro τ H2 ys ⟨_,s2,hR2,yl,ts,se,mem⟩
   refine q R ys ts _ s2 hR hR2 se fun t=>?_
   rw [mem]
   unfold Ed
   rw [eg]
   constructor
   ·rintro ⟨j,r,_,e,e2⟩
    exact ⟨r,List.mem_of_getElem? e,e2⟩
   ·rintro ⟨r,hr,e2⟩
    obtain ⟨j,hj⟩:=List.mem_iff_getElem?.mp hr
    exact ⟨j,r,by have:=(List.getElem?_eq_some_iff.mp hj).1;omega,hj,e2⟩
 ·exact h.elim
end
end K50
end
section
namespace K50
open PySem L2
section
variable {P:Program} {w:World} {K:PySem.W.Frag} {mg:Str->Option Value} {base:Heap}
theorem nodup_sub:∀ {ks qs:List Nat},ks.Nodup->(∀ x∈ks,x∈qs)->ks.length<=qs.length
 | [],_,_,_=>Nat.zero_le _
 | k :: ks,qs,nd,h=>by
  have hk:=h k List.mem_cons_self
  rw [List.nodup_cons] at nd
  have:=nodup_sub (qs:=qs.erase k) nd.2 (fun x hx=>(List.mem_erase_of_ne (show x≠k from fun e=>nd.1 (e ▸ hx))).mpr (h x (List.mem_cons_of_mem _ hx)))
  rw [List.length_erase_of_mem hk] at this
  have:0 < qs.length:=List.length_pos_of_mem hk
  rw [List.length_cons];omega
def Lv (E:Nat->Nat->Prop) (qs:List Nat):Nat->Nat->Prop
 | 0,t=>t∈qs
 | j+1,t=>∃ s,Lv E qs j s/\E s t
structure Gph (H:Hp) (g:Addr) (qs:List Nat) (E:Nat->Nat->Prop):Prop where
 ex:∃ kvs,Rd H g (.dK kvs)/\KS nk kvs qs/\∀ s∈qs,∃ l ps ts,valV kvs (nk s)=some (.ref l)/\H l=some (.lst ps)/\StE H ps ts/\∀ t,t∈ts↔E s t
theorem rd_mono {H H':Hp} {a:Addr} {u:HO} (h:Rd H a u) (s:∀ b o,b=a->H b=some o->H' b=some o):Rd H' a u:=h.elim (fun z=>.inl (s _ _ rfl z)) (fun ⟨o,z⟩=>.inr ⟨o,s _ _ rfl z⟩)
theorem Gph.monoT {H H':Hp} {g d:Addr} {qs:List Nat} {E:Nat->Nat->Prop} (h:Gph H g qs E) (gd:g≠d) (nt:∀ xs,H d≠some (.tup xs)) (nl:∀ xs,H d≠some (.lst xs)) (s:SameT d H H'):Gph H' g qs E:=by
 obtain ⟨kvs,h1,h2,h3⟩:=h.ex
 refine ⟨kvs,rd_mono h1 fun b o e z=>s _ _ (by rw [e];exact gd) z,h2,fun x hx=>?_⟩
 obtain ⟨l,ps,ts,a1,a2,a3,a4⟩:=h3 x hx
 exact ⟨l,ps,ts,a1,s _ _ (fun z=>nl _ (z ▸ a2)) a2,a3.mono fun b ys e=>s _ _ (fun z=>nt _ (z ▸ e)) e,a4⟩
theorem Gph.mono {H H':Hp} {g:Addr} {qs:List Nat} {E:Nat->Nat->Prop} (h:Gph H g qs E) (s:Same H H'):Gph H' g qs E:=by
 obtain ⟨kvs,h1,h2,h3⟩:=h.ex
 refine ⟨kvs,rd_mono h1 fun b o e z=>s _ _ z,h2,fun x hx=>?_⟩
 obtain ⟨l,ps,ts,a1,a2,a3,a4⟩:=h3 x hx
 exact ⟨l,ps,ts,a1,s _ _ a2,a3.mono fun b ys e=>s _ _ e,a4⟩
structure Lay1 (H:Hp) (kvs:List (Key×V)) (ks:List Nat) (pre:V->Prop):Prop where
 kz:KS nk kvs ks
 vl:∀ t∈ks,∃ p x y,valV kvs (nk t)=some (.ref p)/\H p=some (.tup [x,y])/\pre x
theorem Lay1.mono {H H':Hp} {kvs:List (Key×V)} {ks:List Nat} {pre:V->Prop} (h:Lay1 H kvs ks pre) (s:∀ b ys,H b=some (.tup ys)->H' b=some (.tup ys)):Lay1 H' kvs ks pre:=⟨h.kz,fun t ht=>let ⟨p,x,y,a,b,c⟩:=h.vl t ht;⟨p,x,y,a,s _ _ b,c⟩⟩
theorem Lay1.put {H:Hp} {D p:Addr} {kvs:List (Key×V)} {ks:List Nat} {pre:V->Prop} {t:Nat} {x y:V} (h:Lay1 H kvs ks pre) (hD:H D=some (.dK kvs)) (nt:t ∉ ks) (hp:H p=some (.tup [x,y])) (hx:pre x):Lay1 (upd H D (.dK (putK kvs (nk t) (.ref p)))) (putK kvs (nk t) (.ref p)) (ks++[t]) pre:=by
 have off:∀ {b:Addr} {ys:List V},H b=some (.tup ys)->upd H D (.dK (putK kvs (nk t) (.ref p))) b=some (.tup ys):=fun {b ys} h=>by rw [upd_ne (ne_of h hD (fun z=>nomatch z))];exact h
 have kp:=h.kz.put (fun a b h=>nk_inj h) t (.ref p)
 unfold Om.adds at kp
 rw [if_neg nt] at kp
 refine ⟨kp,fun s hs=>?_⟩
 by_cases e:s=t
 ·subst e
  exact ⟨p,x,y,by rw [valV_put,if_pos rfl],off hp,hx⟩
 ·obtain ⟨p',x',y',a,b,c⟩:=h.vl s ((List.mem_append.mp hs).resolve_right (fun z=>e (by simpa using z)))
  exact ⟨p',x',y',by rw [valV_put,if_neg (fun z=>e (nk_inj z))];exact a,off b,c⟩
abbrev sLyB:Stmt:=top 6
def spLyB:Sp:=fun vs H Q _=>match vs with
 | [.ref ly,.ref g]=>∃ (lkvs:List (Key×V)) (ls qs:List Nat) (E:Nat->Nat->Prop) (pre:V->Prop),Rd H ly (.dK lkvs)/\Lay1 H lkvs ls pre/\(∀ s∈ls,s∈qs)/\ly≠g/\Gph H g qs E/\(∀ s t,s∈qs->E s t->t∈qs)/\qs.length<=8 ∧
   ∀ d o o' kvs ks H',SameT ly H H'->H' ly=some (.frz o' (.dK lkvs))->H d=none->H' d=some (.frz o (.dK kvs))->Lay1 H' kvs ks (fun x=>∃ n:Nat,x = .int (n:Nat)/\n∈ls)->(∀ t,t∈ks↔∃ s∈ls,E s t)->Q (.ref d) H'
 | _=>False
theorem scLyB:FnScope ["layer","graph","behind","node","label","to"] ["layer","graph"] (defScope sLyB):=⟨rfl,rfl,rfl,by decide +kernel,rfl,by decide +kernel,by decide +kernel⟩
local macro_rules | `(tactic| walk_at "T.e")=>`(tactic| first | (with_reducible exact pe_dnewK) | ((with_reducible refine' ix_atD ?a0 ?a1 ?a2);(case a0=>exact Room.units (by assumption));(case a1=>with_reducible exact vn "graph" 1);(case a2=>walk_at "T.e")) | fail "no")
local macro_rules | `(tactic| walk_at "T.g")=>`(tactic| ((with_reducible refine' g_subD ?a0 ?a1 ?a2);(case a0=>exact Room.units (by assumption));(case a1=>with_reducible exact vn "behind" 2);(case a2=>walk_at "T.e")))
local macro_rules | `(tactic| walk_at "T.i")=>`(tactic| ((with_reducible refine' pi_lstH ?a1);(case a1=>with_reducible exact vn "layer" 0)))
local macro_rules | `(tactic| walk_at "T.cmp")=>`(tactic| ((with_reducible refine' op_notInDict ?a0);(case a0=>exact Room.units (by assumption))))
local macro_rules | `(tactic| walk_at "T.st")=>`(tactic| ((with_reducible refine' s_retF ?a1);(case a1=>walk_at "T.e")))
theorem ok_lyB (D:FnX K mg "layer_behind" sLyB ["layer","graph"]):Can P w K mg base "layer_behind" 1 ["layer","graph"] spLyB:=by
 refine can_fn (k:=0) D scLyB (fun vs H Q E h=>?_) (fun f cdv A outer s H vs Q E hr h=>?_)
 all_goals
  unfold spLyB at h
  split at h
 ·rfl
 ·exact h.elim
 ·rename_i ly g
  obtain ⟨lkvs,ls,qs,Eg,pre,rd,ly1,lq,lg,gp,cl,q8,q⟩:=h
  have nd:=scLyB.nd
  refine ⟨_,(by walk_at "T.top"),?_⟩
  intro B hB
  have sB:Same H (upd H B (.dK [])):=Same.upd hB
  have hB1:upd H B (.dK []) B=some (.dK []):=upd_same
  generalize upd H B (.dK [])=H1 at sB hB1
  dsimp only [gName]
  refine ⟨lkvs,rd_mono rd (fun b o _ z=>sB _ _ z),fun o H2 hl2 st2=>?_⟩
  have hlyX:∃ ob,H ly=some ob/\(∀ xs,ob≠.tup xs)/\(∀ xs,ob≠.lst xs):=by
   rcases rd with h | ⟨o,h⟩
   ·exact ⟨_,h,(fun _ z=>nomatch z),fun _ z=>nomatch z⟩
   ·exact ⟨_,h,(fun _ z=>nomatch z),fun _ z=>nomatch z⟩
  obtain ⟨ob,ob1,ob2,ob3⟩:=hlyX
  have BL:B≠ly:=fun z=>by rw [z,ob1] at hB;cases hB
  have S2:SameT ly H H2:=(Same.t sB).trans st2
  have nt:∀ xs,H ly≠some (.tup xs):=fun xs z=>ob2 xs (Option.some.inj (ob1.symm.trans z))
  have nl:∀ xs,H ly≠some (.lst xs):=fun xs z=>ob3 xs (Option.some.inj (ob1.symm.trans z))
  have gp2:=gp.monoT (Ne.symm lg) nt nl S2
  have hB2:H2 B=some (.dK []):=st2 _ _ BL hB1
  have ek:(lkvs.map fun p=>kV p.1)=ls.map fun s=>V.int (s:Nat):=by
   have:(lkvs.map fun p=>kV p.1)=(lkvs.map (·.1)).map kV:=by rw [List.map_map];rfl
   rw [this,ly1.kz.ks,List.map_map];rfl
  rw [ek]
  have gB:g≠B:=fun z=>by
   obtain ⟨kvs,h1,_⟩:=gp.ex
   rcases h1 with h | ⟨o,h⟩<;>rw [z,hB] at h<;>cases h
  refine for_by (it_keys ly o (ls.map fun s=>V.int (s:Nat))) (fun i σ H3=>∃ (v3 v4 v5:Option V) (kvs:List (Key×V)) (ks:List Nat),σ=[some (.ref ly),some (.ref g),some (.ref B),v3,v4,v5]/\SameT B H2 H3/\H3 B=some (.dK kvs)/\Lay1 H3 kvs ks (fun x=>∃ n:Nat,x = .int (n:Nat)/\n∈ls)/\(∀ t∈ks,t∈qs)/\∀ t,t∈ks↔∃ s∈ls.take i,Eg s t)
   ⟨none,none,none,[],[],rfl,SameT.refl _ _,hB2,⟨KS.nil,fun t ht=>nomatch ht⟩,(fun t ht=>nomatch ht),fun t=>⟨(fun z=>nomatch z),fun ⟨s,z,_⟩=>by simp at z⟩⟩ (fun i σ H3 _ ⟨_,_,_,_,_,_,s3,_⟩=>⟨_,s3 _ _ (Ne.symm BL) hl2⟩) ?_ ?_
  ·rintro i x σ H3 hi hx ⟨v3,v4,v5,kvs,ks,rfl,s3,hB3,l3,kq,mem⟩
   rw [List.length_map] at hi
   have hls:ls[i]? = some ls[i]:=List.getElem?_eq_getElem hi
   rw [List.getElem?_map,hls] at hx
   cases hx
   have sm:=List.getElem_mem hi
   have tk1:ls.take (i+1)=ls.take i++[ls[i]]:=by rw [List.take_add_one,hls];rfl
   generalize ls[i]=st at sm tk1
   have gp3:=gp2.monoT gB (fun xs z=>by rw [hB2] at z;cases z) (fun xs z=>by rw [hB2] at z;cases z) s3
   obtain ⟨gkvs,g1,g2,g3⟩:=gp3.ex
   obtain ⟨l,ps,ts,a1,a2,a3,a4⟩:=g3 st (lq st sm)
   refine .inr ⟨g,.ref l,rfl,.inl ⟨gkvs,nk st,g1,rfl,a1.symm⟩,⟨_,SqL.of a2⟩,?_⟩
   have lB:l≠B:=ne_of a2 hB3 (fun z=>nomatch z)
   refine for_by (it_list _ l ps) (fun j σ H4=>∃ (v4 v5:Option V) (kvs:List (Key×V)) (ks:List Nat),σ=[some (.ref ly),some (.ref g),some (.ref B),some (.int (st:Nat)),v4,v5]/\SameT B H3 H4/\H4 B=some (.dK kvs)/\Lay1 H4 kvs ks (fun x=>∃ n:Nat,x = .int (n:Nat)/\n∈ls)/\(∀ t∈ks,t∈qs)/\∀ t,t∈ks↔(∃ s∈ls.take i,Eg s t)\/t∈ts.take j)
    ⟨v4,v5,kvs,ks,rfl,SameT.refl _ _,hB3,l3,kq,fun t=>by rw [mem];simp⟩ (fun j σ H4 _ ⟨_,_,_,_,_,s4,_⟩=>SqL.of (s4 _ _ lB a2)) ?_ ?_
   ·rintro j z σ H4 hj hz ⟨v4,v5,kvs,ks,rfl,s4,hB4,l4,kq,mem4⟩
    have hj':j < ts.length:=by rw [<-a3.1];exact hj
    have htj:ts[j]? = some ts[j]:=List.getElem?_eq_getElem hj'
    obtain ⟨q1,lab,b1,b2⟩:=a3.2 j ts[j] htj
    rw [hz] at b1
    cases b1
    have tm:=(a4 _).mp (List.getElem_mem hj')
    have tk2:ts.take (j+1)=ts.take j++[ts[j]]:=by rw [List.take_add_one,htj];rfl
    generalize ts[j]=t at b2 tm tk2
    have tq:=cl st t (lq st sm) tm
    refine ⟨_,.inl (s4 _ _ (ne_of b2 hB3 (fun z=>nomatch z)) b2),rfl,rfl,?_⟩
    refine ⟨B,_,rfl,DGet.k (k:=nk t) hB4,?_⟩
    rw [l4.kz.has (fun a b h=>nk_inj h) t]
    have k8:ks.length<=qs.length:=nodup_sub l4.kz.nd kq
    refine ite2 (fun c1=>?_) (fun c1=>?_)
    ·have nt':t ∉ ks:=by simpa using c1
     refine ⟨le_line (Nat.le_of_ble_eq_true rfl),fun p hp=>?_⟩
     have z5:=Same.upd (o:=.tup [.int (st:Nat),.int lab]) hp
     have l5:=l4.mono fun b ys e=>z5 _ _ e
     refine .inr ⟨B,_,rfl,DPut.k (k:=nk t) (z5 _ _ hB4) (lt_line (by have:=l4.kz.len;omega)),?_⟩
     refine ⟨_,_,_,ks++[t],rfl,fun b u nb e=>?_,upd_same,l5.put (z5 _ _ hB4) nt' upd_same ⟨st,rfl,sm⟩,fun x hx=>?_,fun x=>?_⟩
     ·rw [upd_ne nb];exact z5 _ _ (s4 _ _ nb e)
     ·rcases List.mem_append.mp hx with h | h
      ·exact kq x h
      ·rw [show x=t by simpa using h];exact tq
     ·rw [List.mem_append,mem4,tk2,List.mem_append,or_assoc]
    ·have nt':t∈ks:=by
      by_cases z:t∈ks
      ·exact z
      ·exact absurd (by simpa using z) c1
     refine ⟨_,_,kvs,ks,rfl,s4,hB4,l4,kq,fun x=>?_⟩
     rw [tk2,List.mem_append,mem4,<-or_assoc]
     refine ⟨.inl,fun h=>h.elim id fun h=>?_⟩
     rw [<-mem4,show x=t by simpa using h];exact nt'
   ·rintro σ H4 ⟨v4,v5,kvs,ks,rfl,s4,hB4,l4,kq,mem4⟩
    refine ⟨_,v4,v5,kvs,ks,rfl,s3.trans s4,hB4,l4,kq,fun t=>?_⟩
    rw [mem4,a3.1,List.take_length,tk1]
    constructor
    ·rintro (⟨s,hs,e⟩ | h)
     ·exact ⟨s,List.mem_append_left _ hs,e⟩
     ·exact ⟨st,List.mem_append_right _ (by simp),(a4 t).mp h⟩
    ·rintro ⟨s,hs,e⟩
     rcases List.mem_append.mp hs with h | h
     ·exact .inl ⟨s,h,e⟩
     ·have:s=st:=by simpa using h
      subst this
      exact .inr ((a4 t).mpr e)
  ·rintro σ H3 ⟨v3,v4,v5,kvs,ks,rfl,s3,hB3,l3,kq,mem⟩
   rw [List.length_map,List.take_length] at mem
   refine .inl ⟨_,hB3,trivial,fun o'=>?_⟩
   have s6:SameT B H3 (upd H3 B (.frz o' (.dK kvs))):=fun b u nb z=>by rw [upd_ne nb];exact z
   refine q B o' o kvs ks _ (fun b u nb e=>?_) (s6 _ _ (Ne.symm BL) (s3 _ _ (Ne.symm BL) hl2)) hB upd_same (l3.mono fun b ys e=>s6 _ _ (ne_of e hB3 (fun z=>nomatch z)) e) mem
   have bB:=ne_of_none e hB
   exact s6 _ _ bB (s3 _ _ bB (S2 _ _ nb e))
 ·exact h.elim
end
end K50
end
section
namespace K50
open PySem L2
section
variable {P:Program} {w:World} {K:PySem.W.Frag} {mg:Str->Option Value} {base:Heap}
structure LyS (H:Hp) (ds:List Addr) (qs:List Nat) (E:Nat->Nat->Prop):Prop where
 at':∀ i d,ds[i]? = some d->∃ o kvs ks,H d=some (.frz o (.dK kvs))/\ks≠[]/\(∀ t,t∈ks↔Lv E qs i t)/\Lay1 H kvs ks (fun x=>i=0\/∃ n:Nat,x = .int (n:Nat)/\Lv E qs (i - 1) n)
theorem LyS.mono {H H':Hp} {ds:List Addr} {qs:List Nat} {E:Nat->Nat->Prop} (h:LyS H ds qs E) (s:Same H H'):LyS H' ds qs E:=⟨fun i d e=>let ⟨o,kvs,ks,a,b,c,l⟩:=h.at' i d e;⟨o,kvs,ks,s _ _ a,b,c,l.mono fun b ys e=>s _ _ e⟩⟩
theorem LyS.monoT {H H':Hp} {ds:List Addr} {qs:List Nat} {E:Nat->Nat->Prop} {a:Addr} (h:LyS H ds qs E) (nt:∀ xs,H a≠some (.tup xs)) (nf:∀ o u,H a≠some (.frz o u)) (s:SameT a H H'):LyS H' ds qs E:=
 ⟨fun i d e=>let ⟨o,kvs,ks,x,b,c,l⟩:=h.at' i d e;⟨o,kvs,ks,s _ _ (fun z=>nf _ _ (z ▸ x)) x,b,c,l.mono fun b ys e=>s _ _ (fun z=>nt _ (z ▸ e)) e⟩⟩
theorem Lv.in {E:Nat->Nat->Prop} {qs:List Nat} (cl:∀ s t,s∈qs->E s t->t∈qs):∀ {i t:Nat},Lv E qs i t->t∈qs
 | 0,_,h=>h
 | _+1,_,⟨s,h,e⟩=>cl s _ (Lv.in cl h) e
abbrev sLyO:Stmt:=top 5
def spLyO:Sp:=fun vs H Q _=>match vs with
 | [.ref f,.ref g]=>∃ (fkvs:List (Key×V)) (qs:List Nat) (E:Nat->Nat->Prop),H f=some (.dK fkvs)/\Lay1 H fkvs qs (fun _=>True)/\f≠g/\Gph H g qs E/\(∀ s t,s∈qs->E s t->t∈qs)/\qs.length<=8/\qs≠[] ∧
   ∀ l (ds:List Addr) H',SameT f H H'->H l=none->H' l=some (.lst (ds.map V.ref))->LyS H' ds qs E->(ds.length=qs.length+1\/(ds.length<=qs.length/\∀ t,¬ Lv E qs ds.length t))->Q (.ref l) H'
 | _=>False
theorem scLyO:FnScope ["first","graph","layers","layer"] ["first","graph"] (defScope sLyO):=⟨rfl,rfl,rfl,by decide +kernel,rfl,by decide +kernel,by decide +kernel⟩
local macro_rules | `(tactic| walk_at "T.b")=>`(tactic| ((with_reducible refine' fn_lenK ?a0 ?a9 ?a1);(case a0=>with_reducible assumption);(case a9=>rfl);(case a1=>walk_at "T.a")))
local macro_rules | `(tactic| walk_at "T.t")=>`(tactic| ((with_reducible refine' t_truD ?a1);(case a1=>with_reducible exact vn "layer" 3)))
theorem ok_lyO (D:FnX K mg "layers_of" sLyO ["first","graph"]) (g1:mg "len" = none) (c1:Can P w K mg base "layer_behind" 1 ["layer","graph"] spLyB):Can P w K mg base "layers_of" 2 ["first","graph"] spLyO:=by
 refine can_fn (k:=1) D scLyO (fun vs H Q E h=>?_) (fun f cdv A outer s H vs Q E hr h=>?_)
 all_goals
  unfold spLyO at h
  split at h
 ·rfl
 ·exact h.elim
 ·rename_i f g
  obtain ⟨fkvs,qs,Eg,hf,lf,fg,gp,cl,q8,qne,q⟩:=h
  have nd:=scLyO.nd
  refine ⟨_,(by walk_at "T.top"),?_⟩
  refine ⟨Nat.zero_le _,fun L hL=>?_⟩
  have sL:Same H (upd H L (.lst [])):=Same.upd hL
  have Lf:L≠f:=fun z=>by rw [z,hf] at hL;cases hL
  have nf1:∀ xs,H f≠some (.tup xs):=fun xs z=>by rw [hf] at z;cases z
  have nf2:∀ xs,H f≠some (.lst xs):=fun xs z=>by rw [hf] at z;cases z
  have gn:H g≠none:=fun z=>by
   obtain ⟨kvs,h1,_⟩:=gp.ex
   rcases h1 with h | ⟨o,h⟩<;>rw [z] at h<;>cases h
  refine ⟨fun mm σ H2=>∃ (d:Addr) (ds:List Addr) (kvs:List (Key×V)) (ks:List Nat),σ=[some (.ref f),some (.ref g),some (.ref L),some (.ref d)]/\mm+ds.length=100/\ds.length<=qs.length+1/\SameT f H H2/\(∃ ob,H2 f=some ob)/\H2 L=some (.lst (ds.map V.ref))/\LyS H2 ds qs Eg/\Rd H2 d (.dK kvs)/\(d=f\/H d=none)/\d≠L/\Lay1 H2 kvs ks (fun x=>ds.length=0\/∃ n:Nat,x = .int (n:Nat)/\Lv Eg qs (ds.length - 1) n)/\∀ t,t∈ks↔Lv Eg qs ds.length t,
   ⟨100,f,[],fkvs,qs,rfl,rfl,by simp,sL.t,⟨_,sL _ _ hf⟩,upd_same,⟨fun i d e=>by simp at e⟩,.inl (sL _ _ hf),.inl rfl,Ne.symm Lf,⟨lf.kz,fun t ht=>let ⟨p,x,y,a,b,c⟩:=lf.vl t ht;⟨p,x,y,a,sL _ _ b,.inl rfl⟩⟩,fun t=>Iff.rfl⟩,?_⟩
  rintro mm σ H2 ⟨d,ds,kvs,ks,rfl,hmm,dl,s2,⟨ob,hob⟩,hL2,ly,rd,df,dL,l1,mem⟩
  have dg:d≠g:=fun z=>by
   rcases df with e | e
   ·exact fg (e.symm.trans z)
   ·rw [z] at e;exact gn e
  have gp2:=gp.monoT (Ne.symm fg) nf1 nf2 s2
  obtain ⟨gkvs,g1',g2',g3'⟩:=gp2.ex
  have gl:=g2'.len
  have kl:=l1.kz.len
  have fin:(ds.length=qs.length+1\/(ds.length<=qs.length/\∀ t,¬ Lv Eg qs ds.length t))->Q (.ref L) H2:=fun h=>q L ds _ s2 hL hL2 ly h
  refine .inr (.inl ⟨kvs,rd,?_⟩)
  refine ite2 (fun c=>?_) (fun c=>?_)
  ·have kne:ks≠[]:=fun z=>by
    rw [z] at kl
    have k0:kvs=[]:=List.length_eq_zero_iff.mp (by simpa using kl)
    rw [k0] at c
    simp at c
   refine .inr ⟨_,lenL hL2,.inl ⟨g,gkvs,rfl,g1',by omega,?_⟩⟩
   dsimp only [rN0]
   rw [List.length_map,gl]
   refine ite2 (fun c2=>?_) (fun c2=>?_)
   ·have c2:ds.length<=qs.length:=by have:=of_decide_eq_true c2;omega
    refine ⟨fun σ' H'=>∃ (d:Addr) (ds':List Addr) (kvs:List (Key×V)) (ks:List Nat),σ'=[some (.ref f),some (.ref g),some (.ref L),some (.ref d)]/\ds'.length=ds.length+1/\SameT f H H'/\(∃ ob,H' f=some ob)/\H' L=some (.lst (ds'.map V.ref))/\LyS H' ds' qs Eg/\Rd H' d (.dK kvs)/\(d=f\/H d=none)/\d≠L/\Lay1 H' kvs ks (fun x=>ds'.length=0\/∃ n:Nat,x = .int (n:Nat)/\Lv Eg qs (ds'.length - 1) n)/\∀ t,t∈ks↔Lv Eg qs ds'.length t,?_,?_⟩
    ·rintro σ' H' ⟨d,ds',kvs,ks,rfl,dl',s',ho',hL',ly',rd',df',dL',l1',mem'⟩
     exact ⟨mm - 1,by omega,d,ds',kvs,ks,rfl,by omega,by omega,s',ho',hL',ly',rd',df',dL',l1',mem'⟩
    ·refine ⟨⟨_,rfl,hL2⟩,_,hL2,lt_line (by rw [List.length_map];omega),?_⟩
     have hL3:upd H2 L (.lst (ds.map V.ref++[.ref d])) L=some (.lst ((ds++[d]).map V.ref)):=by rw [upd_same,List.map_append];rfl
     have k3:∀ b u,b≠L->H2 b=some u->upd H2 L (.lst (ds.map V.ref++[.ref d])) b=some u:=fun b u n e=>by rw [upd_ne n];exact e
     generalize upd H2 L (.lst (ds.map V.ref++[.ref d]))=H3 at hL3 k3
     have S3:SameT f H H3:=fun b u nb e=>k3 _ _ (ne_of_none e hL) (s2 _ _ nb e)
     have gp3:=gp.monoT (Ne.symm fg) nf1 nf2 S3
     have rd3:Rd H3 d (.dK kvs):=rd_mono rd fun b o e z=>k3 _ _ (e ▸ dL) z
     have tpL:∀ b ys,H2 b=some (.tup ys)->H3 b=some (.tup ys):=fun b ys e=>k3 _ _ (ne_of e hL2 (fun z=>nomatch z)) e
     have kq:∀ s∈ks,s∈qs:=fun s hs=>Lv.in cl ((mem s).mp hs)
     dsimp only [tNext]
     refine ⟨kvs,ks,qs,Eg,_,rd3,l1.mono tpL,kq,dg,gp3,cl,q8,fun d' o o' kvs' ks' H4 s4 hd4 nd' hd' l4 mem4=>?_⟩
     have rdn:∀ ys,H3 d≠some (.tup ys):=fun ys z=>by rcases rd3 with h | ⟨o,h⟩<;>rw [z] at h<;>cases h
     have tp4:∀ b ys,H2 b=some (.tup ys)->H4 b=some (.tup ys):=fun b ys e=>s4 _ _ (fun z=>rdn ys (z ▸ tpL b ys e)) (tpL b ys e)
     have f4:∃ ob,H4 f=some ob:=by
      by_cases z:f=d
      ·rw [z];exact ⟨_,hd4⟩
      ·exact ⟨ob,s4 _ _ z (k3 _ _ (Ne.symm Lf) hob)⟩
     refine ⟨d',ds++[d],kvs',ks',rfl,by simp,fun b u nb e=>?_,f4,s4 _ _ (Ne.symm dL) hL3,⟨fun i di e=>?_⟩,.inr ⟨o,hd'⟩,.inr ?_,(fun z=>by rw [z,hL3] at nd';cases nd'),⟨l4.kz,fun t ht=>?_⟩,fun t=>?_⟩
     ·refine s4 _ _ (fun z=>?_) (S3 _ _ nb e)
      rcases df with h | h
      ·exact nb (z.trans h)
      ·rw [z,h] at e;cases e
     ·by_cases il:i < ds.length
      ·rw [List.getElem?_append_left il] at e
       obtain ⟨o1,kv1,ks1,a1,a2,a3,a4⟩:=ly.at' i di e
       by_cases z:di=d
       ·subst z
        have ek:kv1=kvs:=by
         rcases rd with h | ⟨o2,h⟩
         ·rw [a1] at h;cases h
         ·rw [a1] at h;cases h;rfl
        subst ek
        exact ⟨o',kv1,ks1,hd4,a2,a3,a4.mono tp4⟩
       ·exact ⟨o1,kv1,ks1,s4 _ _ z (k3 _ _ (ne_of a1 hL2 (fun z=>nomatch z)) a1),a2,a3,a4.mono tp4⟩
      ·have ie:i=ds.length:=by
        have:=(List.getElem?_eq_some_iff.mp e).1
        rw [List.length_append] at this
        simp at this
        omega
       subst ie
       rw [List.getElem?_append_right (Nat.le_refl _)] at e
       simp at e
       subst e
       exact ⟨o',kvs,ks,hd4,kne,mem,l1.mono tp4⟩
     ·cases q':H d' with
      | none=>rfl
      | some u=>
       exfalso
       by_cases z:d'=f
       ·rw [z,k3 _ _ (Ne.symm Lf) hob] at nd';cases nd'
       ·rw [S3 _ _ z q'] at nd';cases nd'
     ·obtain ⟨p,x,y,a1,a2,n',a3,a4⟩:=l4.vl t ht
      refine ⟨p,x,y,a1,a2,.inr ⟨n',a3,?_⟩⟩
      rw [List.length_append]
      exact (mem n').mp a4
     ·rw [mem4,List.length_append]
      show _↔∃ s,Lv Eg qs ds.length s/\Eg s t
      exact ⟨fun ⟨s,hs,e⟩=>⟨s,(mem s).mp hs,e⟩,fun ⟨s,hs,e⟩=>⟨s,(mem s).mpr hs,e⟩⟩
   ·have c2:ds.length=qs.length+1:=by
     have h:¬ ((ds.length:Nat):Int)<=((qs.length:Nat):Int):=fun z=>c2 (decide_eq_true z)
     omega
    exact fin (.inl c2)
  ·have ke:ks=[]:=by
    have:kvs=[]:=by
     cases kvs with
     | nil=>rfl
     | cons _ _=>simp at c
    rw [this] at kl
    exact List.length_eq_zero_iff.mp kl.symm
   refine fin ?_
   by_cases z:ds.length=qs.length+1
   ·exact .inl z
   ·exact .inr ⟨by omega,fun t ht=>by have:=(mem t).mpr ht;rw [ke] at this;cases this⟩
 ·exact h.elim
abbrev sCB:Stmt:=top 7
def spCB:Sp:=fun vs H Q _=>match vs with
 | [.ref l,.ref g]=>∃ (ds:List Addr) (qs:List Nat) (E:Nat->Nat->Prop),H l=some (.lst (ds.map V.ref))/\Gph H g qs E/\qs.length<=8/\Q (.bl (decide (qs.length < ds.length))) H
 | _=>False
theorem scCB:FnScope ["layers","graph"] ["layers","graph"] (defScope sCB):=⟨rfl,rfl,rfl,by decide +kernel,rfl,by decide +kernel,by decide +kernel⟩
theorem ok_cb (D:FnX K mg "comes_back" sCB ["layers","graph"]) (g1:mg "len" = none):Can P w K mg base "comes_back" 1 ["layers","graph"] spCB:=by
 refine can_fn (k:=0) D scCB (fun vs H Q E h=>?_) (fun f cdv A outer s H vs Q E hr h=>?_)
 all_goals
  unfold spCB at h
  split at h
 ·rfl
 ·exact h.elim
 ·rename_i l g
  obtain ⟨ds,qs,Eg,hl,gp,q8,q⟩:=h
  have nd:=scCB.nd
  obtain ⟨kvs,g1',g2,g3⟩:=gp.ex
  have kl:=g2.len
  refine ⟨_,(by walk_at "T.top1"),?_⟩
  refine .inr ⟨_,lenL hl,.inl ⟨g,kvs,rfl,g1',by omega,?_⟩⟩
  dsimp only [rN0]
  rw [List.length_map,kl]
  rw [show decide (((ds.length:Nat):Int) > ((qs.length:Nat):Int))=decide (qs.length < ds.length) by rw [Bool.eq_iff_iff,decide_eq_true_eq,decide_eq_true_eq];omega]
  exact q
 ·exact h.elim
end
end K50
end
section
namespace K50
open PySem L2
section
variable {P:Program} {w:World} {K:PySem.W.Frag} {mg:Str->Option Value} {base:Heap}
theorem glast {H:Hp} {l:Addr} {xs:List V} {v:V} (hl:H l=some (.lst xs)) (h:0 < xs.length) (hv:xs[xs.length - 1]? = some v):getV H (.ref l) (-1)=some v:=by
 rw [getV_lst hl]
 unfold atI ixN
 rw [if_neg (by decide),if_pos (by omega)]
 show xs[((-1:Int)+(xs.length:Nat)).toNat]? = _
 rw [show ((-1:Int)+(xs.length:Nat)).toNat=xs.length - 1 by omega,hv]
def WkV (H:Hp) (bz:List V) (qs:List Nat):Prop:=∀ (i:Nat) v,bz[i]? = some v->∃ b x y n,v = .ref b/\H b=some (.tup [x,y,.int ((n:Nat):Int)])/\n∈qs
theorem WkV.mono {H H':Hp} {bz:List V} {qs:List Nat} (h:WkV H bz qs) (s:∀ b ys,H b=some (.tup ys)->H' b=some (.tup ys)):WkV H' bz qs:=fun i v e=>let ⟨b,x,y,n,a,c,d⟩:=h i v e;⟨b,x,y,n,a,s _ _ c,d⟩
abbrev sWalk:Stmt:=top 8
def spWalk:Sp:=fun vs H Q _=>match vs with
 | [.ref L]=>∃ (ds:List Addr) (qs:List Nat) (E:Nat->Nat->Prop),H L=some (.lst (ds.map V.ref))/\LyS H ds qs E/\ds≠[]/\ds.length<=9/\(∀ s t,s∈qs->E s t->t∈qs) ∧
   ∀ l bz H',Same H H'->H' l=some (.lst bz)->bz.length=ds.length->WkV H' bz qs->Q (.ref l) H'
 | _=>False
theorem scWalk:FnScope ["layers","node","walk","layer","ahead"] ["layers"] (defScope sWalk):=⟨rfl,rfl,rfl,by decide +kernel,rfl,by decide +kernel,by decide +kernel⟩
local macro_rules | `(tactic| walk_at "T.e")=>`(tactic| first | ((with_reducible refine' e_listRev ?a0 ?a8 ?a9 ?a1);(case a0=>with_reducible assumption);(case a8=>with_reducible assumption);(case a9=>rfl);(case a1=>walk_at "T.a")) | ((with_reducible refine' ix_atD ?a0 ?a1 ?a2);(case a0=>exact Room.units (by assumption));(case a1=>with_reducible exact vn "layer" 3);(case a2=>walk_at "T.e")) | fail "no")
local macro_rules | `(tactic| walk_at "T.i")=>`(tactic| ((with_reducible refine' it_rev ?a0 ?a9 ?a1);(case a0=>with_reducible assumption);(case a9=>rfl);(case a1=>walk_at "T.a")))
local macro_rules | `(tactic| walk_at "T.b")=>`(tactic| ((with_reducible refine' fn_listK ?a0 ?a9 ?a1);(case a0=>with_reducible assumption);(case a9=>rfl);(case a1=>walk_at "T.a")))
theorem ok_walk (D:FnX K mg "longest_walk" sWalk ["layers"]) (g1:mg "list" = none) (g2:mg "reversed" = none):Can P w K mg base "longest_walk" 1 ["layers"] spWalk:=by
 refine can_fn (k:=0) D scWalk (fun vs H Q E h=>?_) (fun f cdv A outer s H vs Q E hr h=>?_)
 all_goals
  unfold spWalk at h
  split at h
 ·rfl
 ·exact h.elim
 ·rename_i L
  obtain ⟨ds,qs,Eg,hL,ly,dne,d9,cl,q⟩:=h
  have nd:=scWalk.nd
  have dpos:0 < ds.length:=List.length_pos_iff.mpr dne
  refine ⟨_,(by walk_at "T.top"),?_⟩
  have hm:ds.length - 1 < ds.length:=by omega
  obtain ⟨o,kvs,ks,a1,a2,a3,a4⟩:=ly.at' (ds.length - 1) ds[ds.length - 1] (List.getElem?_eq_getElem hm)
  refine ⟨.ref ds[ds.length - 1],glast hL (by rw [List.length_map];exact dpos) (by rw [List.length_map,List.getElem?_map,List.getElem?_eq_getElem hm];rfl),.inl ⟨_,kvs,rfl,.inr ⟨o,a1⟩,fun l0 hl0=>?_⟩⟩
  have ek:(kvs.map fun p=>kV p.1)=ks.map fun s=>V.int (s:Nat):=by
   have:(kvs.map fun p=>kV p.1)=(kvs.map (·.1)).map kV:=by rw [List.map_map];rfl
   rw [this,a4.kz.ks,List.map_map];rfl
  rw [ek]
  have kpos:0 < ks.length:=List.length_pos_iff.mpr a2
  have u1:=Same.upd (o:=.lst (ks.map fun s=>V.int (s:Nat))) hl0
  have hl1:upd H l0 (.lst (ks.map fun s=>V.int (s:Nat))) l0=some (.lst (ks.map fun s=>V.int (s:Nat))):=upd_same
  generalize upd H l0 (.lst (ks.map fun s=>V.int (s:Nat)))=H1 at u1 hl1
  refine ⟨.int (ks[0]:Nat),gl hl1 (by decide) (by rw [List.getElem?_map,show (0:Int).toNat=0 from rfl,List.getElem?_eq_getElem kpos];rfl),?_⟩
  refine ⟨Nat.zero_le _,fun W hW=>?_⟩
  have nW:H W=none:=u1.free hW
  have u2:=u1.trans (Same.upd (o:=.lst []) hW)
  have hW2:upd H1 W (.lst []) W=some (.lst []):=upd_same
  generalize upd H1 W (.lst [])=H2 at u2 hW2
  refine ⟨ds.map V.ref,SqL.of (u2 _ _ hL),?_⟩
  refine for_by (it_revL _ L (ds.map V.ref)) (fun j σ H3=>∃ (nv:V) (v3 v4:Option V) (ws:List V),σ=[some (.ref L),some nv,some (.ref W),v3,v4]/\Same H H3/\H3 W=some (.lst ws)/\ws.length=j/\WkV H3 ws qs/\(j < ds.length->∃ n:Nat,nv = .int (n:Nat)/\Lv Eg qs (ds.length - 1 - j) n))
   ⟨_,none,none,[],rfl,u2,hW2,rfl,(fun i v h=>by simp at h),fun _=>⟨ks[0],rfl,(a3 _).mp (List.getElem_mem kpos)⟩⟩ (fun j σ H3 _ ⟨_,_,_,_,_,s3,_⟩=>SqL.of (s3 _ _ hL)) ?_ ?_
  ·rintro j x σ H3 hj hx ⟨nv,v3,v4,ws,rfl,s3,hW3,wl,wk,hn⟩
   rw [List.length_reverse,List.length_map] at hj
   obtain ⟨n,rfl,hln⟩:=hn hj
   have hi:ds.length - 1 - j < ds.length:=by omega
   rw [List.getElem?_reverse (by rw [List.length_map];exact hj),List.length_map,List.getElem?_map,List.getElem?_eq_getElem hi] at hx
   cases hx
   obtain ⟨o,kvs,ks,b1,b2,b3,b4⟩:=ly.at' (ds.length - 1 - j) ds[ds.length - 1 - j] (List.getElem?_eq_getElem hi)
   obtain ⟨p,x,y,c1,c2,c3⟩:=b4.vl n ((b3 n).mpr hln)
   generalize ds[ds.length - 1 - j]=dd at b1
   refine .inr ⟨dd,.ref p,rfl,.inl ⟨kvs,nk n,.inr ⟨o,s3 _ _ b1⟩,rfl,c1.symm⟩,?_⟩
   refine ⟨⟨_,rfl,hW3⟩,x,gt (s3 _ _ c2) (by decide) rfl,y,gt (s3 _ _ c2) (by decide) rfl,le_line (Nat.le_of_ble_eq_true rfl),fun e he=>?_⟩
   have z:=Same.upd (o:=.tup [x,y,.int (n:Nat)]) he
   have We:W≠e:=ne_of_none hW3 he
   refine ⟨_,z _ _ hW3,lt_line (by omega),?_⟩
   have hW4:upd (upd H3 e (.tup [x,y,.int (n:Nat)])) W (.lst (ws++[.ref e])) W=some (.lst (ws++[.ref e])):=upd_same
   have tp:∀ b ys,upd H3 e (.tup [x,y,.int (n:Nat)]) b=some (.tup ys)->upd (upd H3 e (.tup [x,y,.int (n:Nat)])) W (.lst (ws++[.ref e])) b=some (.tup ys):=fun b ys h=>by rw [upd_ne (ne_of h (z _ _ hW3) (fun z=>nomatch z))];exact h
   have s4:=(s3.trans z).own (o:=.lst (ws++[.ref e])) nW
   have he4:=tp e _ upd_same
   have wk4:=wk.mono fun b ys h=>tp b ys (z _ _ h)
   generalize upd (upd H3 e (.tup [x,y,.int (n:Nat)])) W (.lst (ws++[.ref e]))=H4 at hW4 s4 he4 wk4
   dsimp only [tNext]
   refine ⟨x,gt (s4 _ _ c2) (by decide) rfl,?_⟩
   refine ⟨x,_,_,ws++[.ref e],rfl,s4,hW4,by simp [wl],fun i v hv=>?_,fun hj1=>?_⟩
   ·by_cases il:i < ws.length
    ·rw [List.getElem?_append_left il] at hv
     exact wk4 i v hv
    ·rw [List.getElem?_append_right (by omega)] at hv
     have e4:i - ws.length=0:=by
      cases h:i - ws.length with
      | zero=>rfl
      | succ _=>rw [h] at hv;simp at hv
     rw [e4] at hv
     have:v = .ref e:=by simpa using hv.symm
     exact ⟨e,x,y,n,this,he4,Lv.in cl hln⟩
   ·rcases c3 with h | ⟨n',e1,e2⟩
    ·omega
    ·exact ⟨n',e1,by rw [show ds.length - 1 - (j+1)=ds.length - 1 - j - 1 by omega];exact e2⟩
  ·rintro σ H3 ⟨nv,v3,v4,ws,rfl,s3,hW3,wl,wk,hn⟩
   rw [List.length_reverse,List.length_map] at wl
   refine ⟨ws,hW3,fun l hl=>?_⟩
   have z:=Same.upd (o:=.lst ws.reverse) hl
   refine q l ws.reverse _ (s3.trans z) upd_same (by rw [List.length_reverse];exact wl) fun i v hv=>?_
   have hm:=List.mem_reverse.mp (List.mem_of_getElem? hv)
   obtain ⟨i',hi'⟩:=List.mem_iff_getElem?.mp hm
   exact (wk.mono fun b ys h=>z _ _ h) i' v hi'
 ·exact h.elim
abbrev sFirst:Stmt:=top 9
def spFirst:Sp:=fun vs H Q _=>match vs with
 | [.ref W]=>∃ (bz:List V) (qs:List Nat),H W=some (.lst bz)/\WkV H bz qs/\qs.length < bz.length/\bz.length<=9 ∧
   ∀ t (i j:Nat) H',Same H H'->i < j->j < bz.length->H' t=some (.tup [.int (i:Nat),.int (j:Nat)])->Q (.ref t) H'
 | _=>False
theorem scFirst:FnScope ["walk","places","place","step"] ["walk"] (defScope sFirst):=⟨rfl,rfl,rfl,by decide +kernel,rfl,by decide +kernel,by decide +kernel⟩
local macro_rules | `(tactic| walk_at "T.i")=>`(tactic| ((with_reducible refine' it_enum ?a0 ?a9 ?a1);(case a0=>with_reducible assumption);(case a9=>rfl);(case a1=>walk_at "T.a")))
local macro_rules | `(tactic| walk_at "T.e")=>`(tactic| first | (with_reducible exact pe_dnewK) | ((with_reducible refine' ix_atD ?a0 ?a1 ?a2);(case a0=>exact Room.units (by assumption));(case a1=>with_reducible exact vn "places" 1);(case a2=>walk_at "T.e")) | fail "no")
local macro_rules | `(tactic| walk_at "T.cmp")=>`(tactic| ((with_reducible refine' op_inDict ?a1);(case a1=>exact Room.units (by assumption))))
local macro_rules | `(tactic| walk_at "T.g")=>`(tactic| ((with_reducible refine' g_subD ?a0 ?a1 ?a2);(case a0=>exact Room.units (by assumption));(case a1=>with_reducible exact vn "places" 1);(case a2=>walk_at "T.e")))
theorem ok_first (D:FnX K mg "first_return" sFirst ["walk"]) (g1:mg "enumerate" = none):Can P w K mg base "first_return" 1 ["walk"] spFirst:=by
 refine can_fn (k:=0) D scFirst (fun vs H Q E h=>?_) (fun f cdv A outer s H vs Q E hr h=>?_)
 all_goals
  unfold spFirst at h
  split at h
 ·rfl
 ·exact h.elim
 ·rename_i W
  obtain ⟨bz,qs,hW,wk,ql,b9,q⟩:=h
  have nd:=scFirst.nd
  refine ⟨_,(by walk_at "T.top"),?_⟩
  intro B hB
  have sB:Same H (upd H B (.dK [])):=Same.upd hB
  have hB1:upd H B (.dK []) B=some (.dK []):=upd_same
  generalize upd H B (.dK [])=H1 at sB hB1
  dsimp only [gName]
  refine ⟨⟨_,SqL.of (sB _ _ hW)⟩,?_⟩
  refine for_pr (it_enumP _ W bz) (fun i σ H2=>∃ (v2 v3:Option V) (kvs:List (Key×V)) (ns:List Nat),σ=[some (.ref W),some (.ref B),v2,v3]/\Same H H2/\H2 B=some (.dK kvs)/\KS nk kvs ns/\ns.length=i/\(∀ n∈ns,n∈qs)/\∀ n∈ns,∃ j:Nat,valV kvs (nk n)=some (.int (j:Nat))/\j < i)
   ⟨none,none,[],[],rfl,sB,hB1,KS.nil,rfl,(fun n h=>nomatch h),fun n h=>nomatch h⟩ (fun i σ H2 _ ⟨_,_,_,_,_,s2,_⟩=>s2 _ _ hW) ?_ ?_
  ·rintro i t σ H2 hi ⟨v2,v3,kvs,ns,rfl,s2,hB2,kz,nl,nq,nv⟩ ht
   obtain ⟨b,x,y,n,ev,hb,hn⟩:=wk i bz[i] (List.getElem?_eq_getElem hi)
   have er:bz.getD i .non = .ref b:=by rw [List.getD_eq_getElem?_getD,List.getElem?_eq_getElem hi,ev];rfl
   dsimp only
   rw [er]
   refine ⟨_,.inl upd_same,rfl,rfl,?_⟩
   have z:=Same.upd (o:=.tup [.int (i:Nat),.ref b]) ht
   have s3:=s2.trans z
   have hB3:=z _ _ hB2
   generalize upd H2 t (.tup [.int (i:Nat),.ref b])=H3 at s3 hB3
   refine ⟨_,gt (s3 _ _ hb) (by decide) rfl,B,_,rfl,DGet.k (k:=nk n) hB3,?_⟩
   rw [kz.has (fun a b h=>nk_inj h) n]
   refine ite2 (fun c=>?_) (fun c=>?_)
   ·have c:n∈ns:=by simpa using c
    obtain ⟨j,ej,jl⟩:=nv n c
    refine ⟨_,gt (s3 _ _ hb) (by decide) rfl,.inr ⟨B,.int (j:Nat),rfl,ej ▸ DGet.k (k:=nk n) hB3,?_⟩⟩
    refine ⟨le_line (Nat.le_of_ble_eq_true rfl),fun t' ht'=>?_⟩
    exact q t' j i _ (s3.trans (Same.upd ht')) jl hi upd_same
   ·have c:n ∉ ns:=by simpa using c
    refine ⟨_,gt (s3 _ _ hb) (by decide) rfl,.inr ⟨B,_,rfl,DPut.k (k:=nk n) hB3 (lt_line (by have:=kz.len;omega)),?_⟩⟩
    have kp:=kz.put (fun a b h=>nk_inj h) n (.int (i:Nat))
    unfold Om.adds at kp
    rw [if_neg c] at kp
    refine ⟨_,_,_,ns++[n],rfl,s3.own hB,upd_same,kp,by simp [nl],fun m hm=>?_,fun m hm=>?_⟩
    ·rcases List.mem_append.mp hm with h | h
     ·exact nq m h
     ·rw [show m=n by simpa using h];exact hn
    ·by_cases e:m=n
     ·subst e
      exact ⟨i,by rw [valV_put,if_pos rfl],by omega⟩
     ·obtain ⟨j,ej,jl⟩:=nv m ((List.mem_append.mp hm).resolve_right (fun z=>e (by simpa using z)))
      exact ⟨j,by rw [valV_put,if_neg (fun z=>e (nk_inj z))];exact ej,by omega⟩
  ·rintro σ H2 ⟨v2,v3,kvs,ns,rfl,s2,hB2,kz,nl,nq,nv⟩
   exfalso
   have:=nodup_sub kz.nd nq
   omega
 ·exact h.elim
abbrev sLpO:Stmt:=top 20
def spLpO:Sp:=fun vs H Q _=>match vs with
 | [.ref W]=>∃ (bz:List V) (qs:List Nat),H W=some (.lst bz)/\WkV H bz qs/\qs.length < bz.length/\bz.length<=9/\∀ p H',Same H H'->Q (.ref p) H'
 | _=>False
theorem scLpO:FnScope ["walk","places"] ["walk"] (defScope sLpO):=⟨rfl,rfl,rfl,by decide +kernel,rfl,by decide +kernel,by decide +kernel⟩
local macro_rules | `(tactic| walk_at "T.c")=>`(tactic| (have ndc:(["step"]:List Str).Nodup:=(by decide +kernel));((with_reducible refine' c_comp ["step"] [] ?b1 ?b2 (fun cl C s H fp=>?b3) (fun cl C s H fp=>?b4) (fun cl C s H fp=>?b5));(case b1=>exact ndc);(case b2=>walk_at "T.i");(case b3=>walk_at "T.g");(case b4=>walk_at "T.pf");(case b5=>walk_at "T.e")))
theorem ok_lpO (D:FnX K mg "loop_of" sLpO ["walk"]) (c1:Can P w K mg base "first_return" 1 ["walk"] spFirst):Can P w K mg base "loop_of" 2 ["walk"] spLpO:=by
 refine can_fn (k:=1) D scLpO (fun vs H Q E h=>?_) (fun f cdv A outer s H vs Q E hr h=>?_)
 all_goals
  unfold spLpO at h
  split at h
 ·rfl
 ·exact h.elim
 ·rename_i W
  obtain ⟨bz,qs,hW,wk,ql,b9,q⟩:=h
  have nd:=scLpO.nd
  refine ⟨_,(by walk_at "T.top"),?_⟩
  refine ⟨bz,qs,hW,wk,ql,b9,fun t i j H1 s1 ij jl ht=>?_⟩
  have hW1:=s1 _ _ hW
  have wk1:=wk.mono fun b ys h=>s1 _ _ h
  have hi:i < bz.length:=by omega
  obtain ⟨b,x,y,n,ev,hb,hn⟩:=wk1 i bz[i] (List.getElem?_eq_getElem hi)
  refine .inl ⟨_,gt ht (by decide) rfl,.ref b,gl hW1 (by omega) (by rw [Int.toNat_natCast,List.getElem?_eq_getElem hi,ev]),_,gt hb (by decide) rfl,?_⟩
  refine .inl ⟨_,gt ht (by decide) rfl,.inl ⟨_,gt ht (by decide) rfl,bz,hW1,fun c nc=>?_⟩⟩
  have z:=Same.upd (o:=.lst (cutV bz (some ((i:Nat)+1)) (some ((j:Nat)+1)))) nc
  have hc:upd H1 c (.lst (cutV bz (some ((i:Nat)+1)) (some ((j:Nat)+1)))) c=some (.lst (cutV bz (some ((i:Nat)+1)) (some ((j:Nat)+1)))):=upd_same
  have sub:∀ v∈cutV bz (some ((i:Nat)+1:Int)) (some ((j:Nat)+1:Int)),v∈bz:=fun v hv=>by unfold cutV at hv;exact List.mem_of_mem_drop (List.mem_of_mem_take hv)
  have cl:=cutV_length bz (some ((i:Nat)+1:Int)) (some ((j:Nat)+1:Int))
  generalize cutV bz (some ((i:Nat)+1:Int)) (some ((j:Nat)+1:Int))=cz at z hc sub cl
  generalize upd H1 c (.lst cz)=H2 at z hc
  refine ⟨⟨_,SqL.of hc⟩,fun R hR=>?_⟩
  have cR:c≠R:=ne_of_none hc hR
  refine comp_by (it_list _ c cz) (fun i τ H3 ys=>(∃ v,τ=[v])/\H3=upd H2 R (.lst ys)/\ys.length=i) (le_line (by omega)) ⟨⟨none,rfl⟩,rfl,rfl⟩ ?_ ?_ ?_
  ·rintro i τ H3 ys hi ⟨_,rfl,yl⟩
   exact ⟨SqL.upd hc hR,upd_same,by omega⟩
  ·rintro i' v τ H3 ys hi' hv ⟨⟨v0,rfl⟩,rfl,yl⟩
   obtain ⟨i2,hi2⟩:=List.mem_iff_getElem?.mp (sub v (List.mem_of_getElem? hv))
   obtain ⟨b',x',y',n',ev',hb',_⟩:=wk1 i2 v hi2
   subst ev'
   have hb2:=z _ _ hb'
   exact ⟨_,gt (by rw [upd_ne (ne_of_none hb2 hR)];exact hb2) (by decide) rfl,upd_same,⟨_,rfl⟩,upd_upd,by simp [yl]⟩
  ·rintro τ H3 ys ⟨_,rfl,yl⟩
   refine ⟨le_line (Nat.le_of_ble_eq_true rfl),fun p hp=>?_⟩
   exact q p _ (((s1.trans z).trans (Same.upd hR)).trans (Same.upd hp))
 ·exact h.elim
end
end K50
end
section
namespace K50
open PySem L2
section
variable {P:Program} {w:World} {K:PySem.W.Frag} {mg:Str->Option Value} {base:Heap}
abbrev sTexts:Stmt:=top 2
def spTexts (f:Addr) (spF:Sp):Sp:=fun vs H Q _=>match vs with
 | [.int s0,.ref f']=>s0=0/\f'=f/\∃ (nx:Nat->List Nat) (m:Nat) (W:Hp->Prop),(∀ H H',W H->Same H H'->W H')/\W H/\0 < m/\m<=8/\(∀ s,s < m->(nx s).length<=128/\∀ t∈nx s,t < m) ∧
   (∀ (s:Nat) H Q,s < m->W H->(∀ l ps H',Same H H'->H l=none->H' l=some (.lst ps)->Stps H' ps (nx s)->Q (.ref l) H')->spF [.int (s:Nat)] H Q E0) ∧
   ∀ d o (kvs:List (Key×V)) (qs:List Nat) H',Same H H'->H d=none->H' d=some (.frz o (.dK kvs))->kvs.map (·.1)=qs.map nk->qs.Nodup->(∀ s,s∈qs↔Om.Rch nx s)->qs.length<=8->Q (.ref d) H'
 | _=>False
theorem scTexts:FnScope ["start","steps","texts","queue","place","node","letter","to"] ["start","steps"] (defScope sTexts):=⟨rfl,rfl,rfl,by decide +kernel,rfl,by decide +kernel,by decide +kernel⟩
local macro_rules | `(tactic| walk_at "T.ps")=>`(tactic| first | (with_reducible exact pps_nil) | ((with_reducible refine' pps_cons ?a1 ?a2 ?a3);(case a1=>walk_at "T.e");(case a2=>walk_at "T.e");(case a3=>walk_at "T.ps")))
local macro_rules | `(tactic| walk_at "T.e")=>`(tactic| first | ((with_reducible refine' pe_disp ?a1 ?a2 ?a3 ?a4 ?a5);(case a1=>walk_at "T.ps");(case a2=>kernel_rfl);(case a3=>kernel_rfl);(case a4=>exact fun z=>nomatch z);(case a5=>decide)) | ((with_reducible refine' ix_atD ?a0 ?a1 ?a2);(case a0=>exact Room.units (by assumption));(case a1=>walk_at "T.e");(case a2=>walk_at "T.e")))
local macro_rules | `(tactic| walk_at "T.cmp")=>`(tactic| ((with_reducible refine' op_notInDict ?a0);(case a0=>exact Room.units (by assumption))))
local macro_rules | `(tactic| walk_at "T.b")=>`(tactic| ((with_reducible refine' e_callF "steps" 1 ?a0 ?a9 ?a1 ?a2);(case a0=>with_reducible assumption);(case a9=>exact ⟨rfl,rfl,rfl,rfl,rfl⟩);(case a1=>exact Room.mono (by assumption) (Nat.le_refl _));(case a2=>walk_at "T.a")))
local macro_rules | `(tactic| walk_at "T.g")=>`(tactic| ((with_reducible refine' g_subD ?a0 ?a1 ?a2);(case a0=>exact Room.units (by assumption));(case a1=>walk_at "T.e");(case a2=>walk_at "T.e")))
local macro_rules | `(tactic| walk_at "T.st")=>`(tactic| first | ((with_reducible refine' s_retF ?a1);(case a1=>walk_at "T.e")) | ((with_reducible refine' s_aug "place" 4 ?b0 ?a1);(case b0=>with_unfolding_all assumption);(case a1=>walk_at "T.e")))
theorem ok_texts {f:Addr} {k:Nat} {p:Str} {spF:Sp} (D:FnX K mg "texts_from" sTexts ["start","steps"]) (g1:mg "len" = none) (c1:CanL P w K mg base f k p spF):Can P w K mg base "texts_from" (k+1) ["start","steps"] (spTexts f spF):=by
 refine can_fn (k:=k) D scTexts (fun vs H Q E h=>?_) (fun f0 cdv A outer s H vs Q E hr h=>?_)
 all_goals
  unfold spTexts at h
  split at h
 ·rfl
 ·exact h.elim
 ·rename_i s0 f'
  obtain ⟨rfl,rfl,nx,m,W,Wm,hW,m0,m8,hn,hF,q⟩:=h
  have nd:=scTexts.nd
  refine ⟨_,(by walk_at "T.top"),?_⟩
  refine fun D hD=>⟨Nat.zero_le _,fun Z hZ=>⟨by rw [upd_ne (Ne.symm (upd_nn hZ).1)];exact upd_same,[(nk 0,.ref Z)],rfl,Nat.le_of_ble_eq_true rfl,?_⟩⟩
  refine ⟨le_line (Nat.le_of_ble_eq_true rfl),fun Qa hQ=>?_⟩
  have G0:=Tq.start hD hZ hQ
  refine ⟨fun mm σ H2=>∃ (v5 v6 v7:Option V) (kvs:List (Key×V)) (qs:List Nat) (c:Nat),σ=[some (.int 0),some (.ref f'),some (.ref D),some (.ref Qa),some (.int (c:Nat)),v5,v6,v7]/\mm+c=m/\Tq H H2 D Qa kvs qs qs.length/\(∀ s∈qs,s < m)/\0∈qs/\(∀ s∈qs,Om.Rch nx s)/\c<=qs.length/\∀ (i s:Nat),i < c->qs[i]? = some s->∀ t∈nx s,t∈qs,
   ⟨m,none,none,none,_,[0],0,rfl,rfl,G0.le (Nat.zero_le _),by simpa using m0,by simp,(fun s hs=>by rw [List.mem_singleton.mp hs];exact .z),Nat.zero_le _,fun i s h=>absurd h (Nat.not_lt_zero _)⟩,?_⟩
  rintro mm σ H2 ⟨v5,v6,v7,kvs,qs,c,rfl,hmm,G,hlt,h0,hrc,cl,hdone⟩
  have ql:=Om.nodup_len m qs G.nd hlt
  refine ⟨_,lenL G.hQ,?_⟩
  dsimp only [rN0]
  rw [List.length_map]
  refine ite2 (fun lt=>?_) (fun ge=>?_)
  ·have lt:c < qs.length:=by simpa using lt
   obtain ⟨s,hs⟩ : ∃ s,qs[c]? = some s:=⟨_,List.getElem?_eq_getElem lt⟩
   have sm:=List.mem_of_getElem? hs
   have slt:=hlt s sm
   obtain ⟨n8,nlt⟩:=hn s slt
   refine ⟨fun σ' H'=>∃ (v6 v7:Option V) (kvs:List (Key×V)) (more:List Nat),σ'=[some (.int 0),some (.ref f'),some (.ref D),some (.ref Qa),some (.int ((c:Nat)+1)),some (.int (s:Nat)),v6,v7]/\Tq H H' D Qa kvs (qs++more) (qs++more).length/\(∀ s∈more,s < m/\Om.Rch nx s)/\∀ t∈nx s,t∈qs++more,?_,?_⟩
   ·rintro σ' H' ⟨v6,v7,kvs,more,rfl,G',hm',hd'⟩
    refine ⟨mm - 1,by omega,_,v6,v7,kvs,qs++more,c+1,rfl,by omega,G',fun x hx=>?_,List.mem_append_left _ h0,fun x hx=>?_,by rw [List.length_append];omega,fun i x hi hx t ht=>?_⟩
    ·exact (List.mem_append.mp hx).elim (hlt x) fun z=>(hm' x z).1
    ·exact (List.mem_append.mp hx).elim (hrc x) fun z=>(hm' x z).2
    ·rw [List.getElem?_append_left (by omega)] at hx
     by_cases e:i=c
     ·subst e
      rw [hs] at hx
      cases hx
      exact hd' t ht
     ·exact List.mem_append_left _ (hdone i x (by omega) hx t ht)
   ·refine .inl ⟨_,gl G.hQ (by omega) (by rw [List.getElem?_map,show ((c:Nat):Int).toNat=c by omega,hs];rfl),?_⟩
    refine ⟨rfl,hF s _ _ slt (Wm _ _ hW G.s) fun l ps H3 s3 nl hl st=>?_⟩
    have lD:l≠D:=Ne.symm (ne_of_none G.hD nl)
    have lQ:l≠Qa:=Ne.symm (ne_of_none G.hQ nl)
    refine ⟨⟨_,SqL.of hl⟩,for_by (it_list _ l ps) (fun i σ H4=>∃ (v6 v7:Option V) (kvs:List (Key×V)) (more:List Nat),σ=[some (.int 0),some (.ref f'),some (.ref D),some (.ref Qa),some (.int ((c:Nat)+1)),some (.int (s:Nat)),v6,v7]/\Tq H H4 D Qa kvs (qs++more) (qs++more).length/\(∀ s∈more,s < m/\Om.Rch nx s)/\H4 l=some (.lst ps)/\Stps H4 ps (nx s)/\∀ (j t:Nat),j < i->(nx s)[j]? = some t->t∈qs++more)
     ⟨v6,v7,kvs,[],rfl,by rw [List.append_nil];exact G.mono s3,by simp,hl,st,fun j t h=>absurd h (Nat.not_lt_zero _)⟩ (fun i σ H4 _ ⟨_,_,_,_,_,_,_,h,_⟩=>SqL.of h) ?_ ?_⟩
    ·rintro i x σ H4 hi hx ⟨v6,v7,kvs,more,rfl,G4,hm4,hl4,st4,hd4⟩
     have hi':i < (nx s).length:=by rw [<-st4.1];exact hi
     obtain ⟨qa,e1,e2⟩:=st4.2 i (nx s)[i] (List.getElem?_eq_getElem hi')
     rw [e1] at hx
     cases hx
     have tm:(nx s)[i]∈nx s:=List.getElem_mem hi'
     have tlt:=nlt _ tm
     generalize et:(nx s)[i]=t at e2 tm tlt
     have ei:(nx s)[i]? = some t:=by rw [List.getElem?_eq_getElem hi',et]
     refine ⟨_,.inl e2,rfl,rfl,?_⟩
     refine ⟨D,_,rfl,DGet.k (k:=nk t) G4.hD,?_⟩
     rw [G4.has t]
     have l4:(qs++more).length<=m:=Om.nodup_len m _ G4.nd fun x hx=>(List.mem_append.mp hx).elim (hlt x) fun z=>(hm4 x z).1
     refine ite2 (fun c1=>?_) (fun c1=>?_)
     ·have nt:t ∉ qs++more:=by simpa using c1
      obtain ⟨t0,zs,w1,w2,w3,w4⟩:=G4.vl s (List.mem_append_left _ sm)
      refine .inr ⟨D,.ref t0,rfl,w1 ▸ DGet.k (k:=nk s) G4.hD,?_⟩
      refine ⟨le_line (Nat.le_of_ble_eq_true rfl),fun B hB=>?_⟩
      have s5:Same H4 (upd H4 B (.lst [.int (i:Nat)])):=Same.upd hB
      refine ⟨zs,[.int (i:Nat)],s5 _ _ w2,upd_same,le_line (by simp;omega),fun U hU=>?_⟩
      have s6:=s5.trans (Same.upd (o:=.lst (zs++[.int (i:Nat)])) hU)
      have G6:=G4.mono s6
      have UQ:U≠Qa:=Ne.symm (ne_of_none (s5 _ _ G4.hQ) hU)
      have kl:=G6.klen
      refine .inr ⟨D,_,rfl,DPut.k (k:=nk t) G6.hD (lt_line (by omega)),?_⟩
      have DQ:D≠Qa:=ne_of G6.hD G6.hQ (fun z=>nomatch z)
      refine ⟨⟨_,rfl,by rw [upd_ne (Ne.symm DQ)];exact G6.hQ⟩,_,by rw [upd_ne (Ne.symm DQ)];exact G6.hQ,lt_line (by rw [List.length_map];omega),?_⟩
      have G7:=(G6.le (Nat.le_succ _)).put (u:=U) (zs:=zs++[.int (i:Nat)]) nt upd_same UQ (by rw [List.length_append];exact Nat.add_le_add_right w3 1)
      rw [show (qs++more).length.succ=(qs++more++[t]).length from (List.length_append (as:=qs++more) (bs:=[t])).symm,List.append_assoc] at G7
      refine ⟨_,_,_,more++[t],rfl,G7,fun x hx=>?_,Tq.put_at (s6 _ _ hl4) lD lQ,⟨st4.1,fun j t' hj=>?_⟩,fun j t' hj ht'=>?_⟩
      ·rcases List.mem_append.mp hx with z | z
       ·exact hm4 x z
       ·have:x=t:=by simpa using z
        subst this
        exact ⟨tlt,.s (hrc s sm) tm⟩
      ·obtain ⟨qb,a1,a2⟩:=st4.2 j t' hj
       exact ⟨qb,a1,Tq.put_at (s6 _ _ a2) (ne_of (s6 _ _ a2) G6.hD (fun z=>nomatch z)) (ne_of (s6 _ _ a2) G6.hQ (fun z=>nomatch z))⟩
      ·rw [<-List.append_assoc]
       by_cases e:j=i
       ·subst e
        rw [ei] at ht'
        cases ht'
        exact List.mem_append_right _ (by simp)
       ·exact List.mem_append_left _ (hd4 j t' (by omega) ht')
     ·have nt:t∈qs++more:=by
       by_cases z:t∈qs++more
       ·exact z
       ·exact absurd (by simpa using z) c1
      refine ⟨_,_,kvs,more,rfl,G4,hm4,hl4,st4,fun j t' hj ht'=>?_⟩
      by_cases e:j=i
      ·subst e
       rw [ei] at ht'
       cases ht'
       exact nt
      ·exact hd4 j t' (by omega) ht'
    ·rintro σ H4 ⟨v6,v7,kvs,more,rfl,G4,hm4,hl4,st4,hd4⟩
     refine ⟨v6,v7,kvs,more,rfl,G4,hm4,fun t ht=>?_⟩
     obtain ⟨j,hj⟩:=List.mem_iff_getElem?.mp ht
     have lj:=(List.getElem?_eq_some_iff.mp hj).1
     exact hd4 j t (by rw [st4.1];exact lj) hj
  ·have ge:qs.length<=c:=by
    by_cases z:c < qs.length
    ·exact absurd (by simpa using z) ge
    ·omega
   refine .inl ⟨_,G.hD,trivial,fun o=>?_⟩
   refine q D o kvs qs _ (fun b u e=>?_) hD upd_same G.ks G.nd (fun s=>⟨hrc s,Om.rch_in h0 (fun a ha b hb=>?_) s⟩) (by omega)
   ·rw [upd_ne (ne_of_none e hD)]
    exact G.s _ _ e
   ·obtain ⟨i,hi⟩:=List.mem_iff_getElem?.mp ha
    have li:=(List.getElem?_eq_some_iff.mp hi).1
    exact hdone i a (by omega) hi b hb
 ·exact h.elim
end
end K50
end
section
namespace K50
open PySem L2
section
variable {P:Program} {w:World} {K:PySem.W.Frag} {mg:Str->Option Value} {base:Heap}
abbrev sStT:Stmt:=top 3
abbrev lamSt:Expr:=callArg 1 (retE (.Name "" ⟨0,0,0,0⟩) ((defBody sStT).getD 0 (.Pass ⟨0,0,0,0⟩)))
abbrev qSt:Str:=("state_texts"++".<locals>." : Str)++"<lambda>"
def spLamSt (c:Addr) (fvs:List V):Sp:=fun vs H Q _=>match vs with
 | [.int s0]=>∃ (n:Nat) (rows:Om.Rows) (cv:V) (s:Nat),s0=(s:Nat)/\fvs=[cv]/\DV H cv (codeD 0 0 rows)/\WOk n rows/\s < rows.length/\H c=some (CodeO c qSt) ∧
   ∀ l ps H',Same H H'->H l=none->H' l=some (.lst ps)->Stps H' ps (Om.nxR rows s)->Q (.ref l) H'
 | _=>False
local macro_rules | `(tactic| walk_at "T.c")=>`(tactic| (have ndc:(["letter","row"]:List Str).Nodup:=(by decide +kernel));((with_reducible refine' c_comp ["letter","row"] [] ?b1 ?b2 (fun cl C s H fp=>?b3) (fun cl C s H fp=>?b4) (fun cl C s H fp=>?b5));(case b1=>exact ndc);(case b2=>walk_at "T.i");(case b3=>walk_at "T.g");(case b4=>walk_at "T.pf");(case b5=>walk_at "T.e")))
theorem lam_st {f c:Addr} {fvs:List V} (L:LamIn base f (lamArgs lamSt) (lamBody lamSt) (lamScope lamSt) qSt c ["code"] fvs) (hl:["code"].length=fvs.length) (g1:mg "enumerate" = none):CanL P w K mg base f 1 "state" (spLamSt c fvs):=by
 refine lam_ok (k:=0) L ⟨rfl,rfl,rfl,rfl,by decide +kernel,by decide +kernel⟩ hl (fun _ _ _ _=>rfl) (fun vs H Q E h=>?_) (fun clos A outer s H v Q E hr h=>?_)
 ·unfold spLamSt at h
  split at h
  ·rfl
  ·exact h.elim
 ·unfold spLamSt at h
  split at h
  ·rename_i s0 hv
   cases hv
   obtain ⟨n,rows,cv,st,rfl,rfl,hc,ok,hs,hcd,q⟩:=h
   refine ⟨hcd,?_⟩
   have ndc:(["letter","row"]:List Str).Nodup:=by decide +kernel
   refine ⟨_,(by (refine' c_comp ["letter","row"] [] ?b1 ?b2 (fun cl C s H fp=>?b3) (fun cl C s H fp=>?b4) (fun cl C s H fp=>?b5));(case b1=>exact ndc);(case b2=>walk_at "T.i");(case b3=>walk_at "T.g");(case b4=>walk_at "T.pf");(case b5=>walk_at "T.e")),?_⟩
   obtain ⟨a,b,ss,rfl,ha,hb,hss⟩:=code_inv hc
   obtain ⟨qx,rx,e1,e2,e3⟩:=state_at hss (s:=st) (st:=rows[st]) (List.getElem?_eq_getElem hs)
   have lx:rows[st].length<=128:=ok.len _ (List.getElem_mem hs)
   have rxl:rx.length=rows[st].length:=by rw [e3.length,List.length_map]
   have p8:rx.length<=128:=by rw [rxl];exact lx
   have gx:Om.nxR rows st=rows[st].map (·.2):=by unfold Om.nxR;rw [List.getD_eq_getElem?_getD,List.getElem?_eq_getElem hs];rfl
   refine ⟨_,gt ha (by decide) rfl,.ref qx,gl hb (by omega) (by simpa using e1),⟨_,SqL.of e2⟩,fun R hR=>?_⟩
   refine comp_pr (it_enumP _ qx rx) (fun i τ H2 ys=>(∃ v1 v2,τ=[v1,v2])/\Same H H2/\H2 R=some (.lst ys)/\Stps H2 ys ((Om.nxR rows st).take i)) (le_line (by omega)) ⟨⟨none,none,rfl⟩,Same.upd hR,upd_same,rfl,fun i t h=>by simp at h⟩ ?_ ?_ ?_
   ·rintro i τ H2 ys hi ⟨_,s2,hR2,st2⟩
    exact ⟨s2 _ _ e2,hR2,by rw [st2.1,List.length_take];exact Nat.min_le_left _ _⟩
   ·rintro i t τ H2 ys hi ⟨⟨v1,v2,rfl⟩,s2,hR2,st2⟩ ht
    have hi':i < rows[st].length:=by omega
    obtain ⟨r,r1,r2⟩:=row_at e3 (l:=i) (r:=rows[st][i]) (List.getElem?_eq_getElem hi')
    have er:rx.getD i .non = .ref r:=by rw [List.getD_eq_getElem?_getD,r1];rfl
    rw [er]
    have s3:Same H2 (upd H2 t (.tup [.int (i:Nat),.ref r])):=Same.upd ht
    refine ⟨_,.inl upd_same,rfl,rfl,?_⟩
    refine ⟨_,gt (s3 _ _ (s2 _ _ r2)) (by decide) rfl,le_line (Nat.le_of_ble_eq_true rfl),fun p hp=>?_⟩
    have s4:=s3.trans (Same.upd (o:=.tup [.int (i:Nat),.int (rows[st][i].2:Nat)]) hp)
    refine ⟨s4 _ _ hR2,⟨_,_,rfl⟩,(s2.trans s4).own hR,upd_same,?_,fun j t' hj=>?_⟩
    ·rw [List.length_append,st2.1,List.length_take,List.length_take,gx,List.length_map]
     simp
     omega
    ·have il:ys.length=i:=by rw [st2.1,List.length_take,gx,List.length_map];omega
     have jl:j < i+1:=by
      have:=(List.getElem?_eq_some_iff.mp hj).1
      rw [List.length_take] at this
      omega
     rw [List.getElem?_take_of_lt jl] at hj
     by_cases e:j=i
     ·subst e
      have et:t'=rows[st][j].2:=by
       rw [gx,List.getElem?_map,List.getElem?_eq_getElem hi'] at hj
       exact (Option.some.inj hj).symm
      subst et
      refine ⟨p,by rw [List.getElem?_append_right (by omega),il];simp,?_⟩
      rw [upd_ne (ne_of (u:=.lst ys) upd_same (s4 _ _ hR2) (fun z=>nomatch z))]
      exact upd_same
     ·obtain ⟨q',a1,a2⟩:=st2.2 j t' (by rw [List.getElem?_take_of_lt (by omega)];exact hj)
      refine ⟨q',by rw [List.getElem?_append_left (by omega)];exact a1,?_⟩
      rw [upd_ne (ne_of a2 hR2 (fun z=>nomatch z))]
      exact s4 _ _ a2
   ·rintro τ H2 ys ⟨_,s2,hR2,st2⟩
    rw [List.take_of_length_le (by rw [gx,List.length_map];omega)] at st2
    exact q R ys _ s2 hR hR2 st2
  ·rename_i hv
   exact h.elim
end
section
variable {P:Program} {w:World} {K:PySem.W.Frag} {mg:Str->Option Value} {base:Heap}
def spStT (P0:Addr):Sp:=fun vs H Q _=>match vs with
 | [cv]=>∃ (n:Nat) (rows:Om.Rows),DV H cv (codeD 0 0 rows)/\WOk n rows/\Tab P0 (lamPos lamSt) qSt H ∧
   ∀ d o (kvs:List (Key×V)) (qs:List Nat) H',SameT P0 H H'->Tab P0 (lamPos lamSt) qSt H'->H d=none->H' d=some (.frz o (.dK kvs))->kvs.map (·.1)=qs.map nk->qs.Nodup->(∀ s,s∈qs↔Om.Rch (Om.nxR rows) s)->qs.length<=8->Q (.ref d) H'
 | _=>False
theorem scStT:FnScope ["code"] ["code"] (defScope sStT):=⟨rfl,rfl,rfl,by decide +kernel,rfl,by decide +kernel,by decide +kernel⟩
theorem ok_stT {c P0:Addr} (D:FnC K mg "state_texts" sStT ["code"] c) (D2:FnX K mg "texts_from" sTexts ["start","steps"]) (g1:mg "len" = none) (g2:mg "enumerate" = none) (M:Maker mg base c P0):Can P w K mg base "state_texts" 3 ["code"] (spStT P0):=by
 refine can_fnC (k:=2) D scStT (fun vs H Q E h=>?_) (fun f A outer s H vs Q E hr h=>?_)
 all_goals
  unfold spStT at h
  split at h
 ·rfl
 ·exact h.elim
 ·rename_i cv
  obtain ⟨n,rows,hc,ok,tb,q⟩:=h
  have hm:∃ f,mg "texts_from" = some (.ref f)/\PySem.W.keepIn K (.ref f)=true:=by
   obtain ⟨f,fd,F,hm,_⟩:=D2
   exact ⟨f,hm,F.kp⟩
  have hf0:∀ y∈(lamScope lamSt).names,y.2 = .free->(defScope sStT).names.lookup y.1=some .cell:=by decide +kernel
  refine ⟨_,(by
   refine' pss_one ?a1
   case a1=>
    refine' ps_ret ?a2
    case a2=>
     refine' e_lamcall "texts_from" (F:=["code"]) (js:=[0]) (k:=2) (ps:=["start","steps"]) (sp:=fun f c fvs=>spTexts f (spLamSt c fvs)) hm M rfl ?hF rfl ?hFs (fun _=>rfl) ?hfree ?hC hr ?ha ?hg rfl rfl ?he
     case hF=>
      intro i y h
      cases i with
      | zero=>cases h;exact ⟨0,rfl,rfl,by kernel_rfl⟩
      | succ i=>simp at h
     case hFs=>decide +kernel
     case hfree=>exact hf0
     case hC=>exact fun B f c' fvs m0 kb hl L=>ok_texts D2 g1 (lam_st L hl g2)
     case ha=>exact pe_int
     case hg=>kernel_rfl
     case he=>kernel_rfl),?_⟩
  refine ⟨tb,[cv],rfl,fun f' c' H2 sm e1 e2 nf=>?_⟩
  have rl:∀ s,s < rows.length->Om.nxR rows s=(rows.getD s []).map (·.2):=fun _ _=>rfl
  refine ⟨rfl,rfl,Om.nxR rows,rows.length,fun H=>DV H cv (codeD 0 0 rows)/\H c'=some (CodeO c' qSt),fun H H' ⟨a,b⟩ s=>⟨a.mono s,s _ _ b⟩,⟨hc.monoT tb sm,e2⟩,ok.s1,ok.s8,fun s hs=>?_,fun s H Q hs ⟨a,b⟩ h=>⟨n,rows,cv,s,rfl,rfl,a,ok,hs,b,h⟩,
   fun d o kvs qs H' s' nd hd ks ndq hrr hl=>q d o kvs qs H' (sm.trans s'.t) (.inr ⟨c',s' _ _ e1,s' _ _ e2⟩) (sm.free nd fun z=>by rw [z,e1] at nd;cases nd) hd ks ndq hrr hl⟩
  exact nx_okW ok hs
 ·exact h.elim
end
end K50
end
section
namespace K50
open PySem L2
section
variable {P:Program} {w:World} {K:PySem.W.Frag} {mg:Str->Option Value} {base:Heap}
abbrev sReached:Stmt:=top 4
def spReached (P0:Addr):Sp:=fun vs H Q _=>match vs with
 | [cv]=>∃ (n:Nat) (rows:Om.Rows),DV H cv (codeD 0 0 rows)/\WOk n rows/\Tab P0 (lamPos lamSt) qSt H ∧
   ∀ l (qs:List Nat) H',SameT P0 H H'->Tab P0 (lamPos lamSt) qSt H'->H l=none->H' l=some (.lst (qs.map fun s=>V.int (s:Nat)))->qs.Pairwise (· < ·)->(∀ s,s∈qs↔Om.Rch (Om.nxR rows) s)->qs.length<=8->Q (.ref l) H'
 | _=>False
theorem scReached:FnScope ["code"] ["code"] (defScope sReached):=⟨rfl,rfl,rfl,by decide +kernel,rfl,by decide +kernel,by decide +kernel⟩
local macro_rules | `(tactic| walk_at "T.b")=>`(tactic| ((with_reducible refine' fn_sortedD ?a0 ?a9 ?a1);(case a0=>with_reducible assumption);(case a9=>rfl);(case a1=>walk_at "T.a")))
theorem ok_reached {P0:Addr} (D:FnX K mg "reached" sReached ["code"]) (g1:mg "sorted" = none) (c1:Can P w K mg base "state_texts" 3 ["code"] (spStT P0)):Can P w K mg base "reached" 4 ["code"] (spReached P0):=by
 refine can_fn (k:=3) D scReached (fun vs H Q E h=>?_) (fun f cdv A outer s H vs Q E hr h=>?_)
 all_goals
  unfold spReached at h
  split at h
 ·rfl
 ·exact h.elim
 ·rename_i cv
  obtain ⟨n,rows,hc,ok,tb,q⟩:=h
  have nd:=scReached.nd
  refine ⟨_,(by walk_at "T.top1"),?_⟩
  refine ⟨n,rows,hc,ok,tb,fun d o kvs qs H' s1 t1 nd1 hd ks ndq hr8 l8=>?_⟩
  refine .inl ⟨d,kvs,qs.map fun s=>((s:Nat):Int),rfl,.inr ⟨o,hd⟩,by rw [ks,List.map_map];rfl,by rw [List.length_map];omega,fun l ns hl pm srt=>?_⟩
  obtain ⟨qs',rfl,pm'⟩:=Om.perm_nats pm
  refine q l qs' _ (s1.trans (Same.upd hl).t) (t1.mono (Same.upd hl)) (s1.free hl fun z=>by obtain ⟨ps,e⟩:=t1.tbl;rw [z,e] at hl;cases hl) ?_ ?_ (fun s=>?_) (by rw [pm'.length_eq];exact l8)
  ·rw [upd_same,List.map_map];rfl
  ·exact Om.lt_of_le (pm'.nodup_iff.mpr ndq) srt
  ·rw [pm'.mem_iff];exact hr8 s
 ·exact h.elim
end
section
variable {P:Program} {w:World} {K:PySem.W.Frag} {mg:Str->Option Value} {base:Heap}
end
end K50
end
section
namespace K50
open PySem L2
def RchL (rows:Om.Rows) (qs:List Nat):Prop:=qs.Pairwise (· < ·)/\(∀ s,s∈qs↔Om.Rch (Om.nxR rows) s)/\qs.length<=8
theorem nat_uniq:∀ {l m:List Nat},l.Pairwise (· < ·)->m.Pairwise (· < ·)->(∀ x,x∈l↔x∈m)->l=m
 | [],[],_,_,_=>rfl
 | [],b :: m,_,_,h=>absurd ((h b).mpr (List.mem_cons_self ..)) (by simp)
 | a :: l,[],_,_,h=>absurd ((h a).mp (List.mem_cons_self ..)) (by simp)
 | a :: l,b :: m,hl,hm,h=>by
  rw [List.pairwise_cons] at hl hm
  have e:a=b:=by
   rcases List.mem_cons.mp ((h a).mp List.mem_cons_self) with z | z
   ·exact z
   ·rcases List.mem_cons.mp ((h b).mpr List.mem_cons_self) with y | y
    ·exact y.symm
    ·have:=hm.1 a z
     have:=hl.1 b y
     omega
  subst e
  rw [nat_uniq hl.2 hm.2 fun x=>⟨fun z=>?_,fun z=>?_⟩]
  ·rcases List.mem_cons.mp ((h x).mp (List.mem_cons_of_mem _ z)) with y | y
   ·have:=hl.1 x z
    omega
   ·exact y
  ·rcases List.mem_cons.mp ((h x).mpr (List.mem_cons_of_mem _ z)) with y | y
   ·have:=hm.1 x z
    omega
   ·exact y
theorem RchL.uniq {rows:Om.Rows} {qs qs':List Nat} (h:RchL rows qs) (h':RchL rows qs'):qs=qs':=nat_uniq h.1 h'.1 fun s=>(h.2.1 s).trans (h'.2.1 s).symm
end K50
end
section
namespace K50
open PySem L2
section
variable {P:Program} {w:World} {K:PySem.W.Frag} {mg:Str->Option Value} {base:Heap}
def SgT (K:PySem.W.Frag) (mg:Str->Option Value) (a:Addr):Prop:=mg "SIGNS" = some (.ref a)/\∀ H,SqT K H a [.str (bs [false]),.str (bs [true])]
def GphP (H:Hp) (kvs:List (Key×V)) (ks:List Nat) (E:Nat->Nat->Prop):Prop:=KS nk kvs ks/\∀ s∈ks,∃ l ps ts,valV kvs (nk s)=some (.ref l)/\H l=some (.lst ps)/\StE H ps ts/\∀ t,t∈ts↔E s t
theorem GphP.mono {H H':Hp} {kvs:List (Key×V)} {ks:List Nat} {E:Nat->Nat->Prop} (h:GphP H kvs ks E) (s:∀ b u,(∀ kv,u≠.dK kv)->H b=some u->H' b=some u):GphP H' kvs ks E:=
 ⟨h.1,fun x hx=>let ⟨l,ps,ts,a,b,c,d⟩:=h.2 x hx;⟨l,ps,ts,a,s _ _ (fun _ z=>nomatch z) b,c.mono fun b ys e=>s _ _ (fun _ z=>nomatch z) e,d⟩⟩
theorem GphP.put {H:Hp} {D l:Addr} {kvs:List (Key×V)} {ks ts:List Nat} {ps:List V} {E:Nat->Nat->Prop} {t:Nat} (h:GphP H kvs ks E) (hD:H D=some (.dK kvs)) (nt:t ∉ ks) (hl:H l=some (.lst ps)) (se:StE H ps ts) (mem:∀ x,x∈ts↔E t x):GphP (upd H D (.dK (putK kvs (nk t) (.ref l)))) (putK kvs (nk t) (.ref l)) (ks++[t]) E:=by
 have off:∀ b u,(∀ kv,u≠.dK kv)->H b=some u->upd H D (.dK (putK kvs (nk t) (.ref l))) b=some u:=fun b u n e=>by rw [upd_ne (fun z=>by rw [z,hD] at e;exact n _ (Option.some.inj e).symm)];exact e
 have h':=h.mono off
 have kp:=h.1.put (fun a b h=>nk_inj h) t (.ref l)
 unfold Om.adds at kp
 rw [if_neg nt] at kp
 refine ⟨kp,fun s hs=>?_⟩
 by_cases e:s=t
 ·subst e
  exact ⟨l,ps,ts,by rw [valV_put,if_pos rfl],off _ _ (fun _ z=>nomatch z) hl,se.mono fun b ys e=>off _ _ (fun _ z=>nomatch z) e,mem⟩
 ·obtain ⟨l',ps',ts',a,b,c⟩:=h'.2 s ((List.mem_append.mp hs).resolve_right (fun z=>e (by simpa using z)))
  exact ⟨l',ps',ts',by rw [valV_put,if_neg (fun z=>e (nk_inj z))];exact a,b,c⟩
theorem pw_not {qs:List Nat} (h:qs.Pairwise (· < ·)) {i:Nat} (hi:i < qs.length):qs[i] ∉ qs.take i:=fun z=>by
 obtain ⟨j,hj,e⟩:=List.mem_iff_getElem.mp z
 rw [List.length_take] at hj
 rw [List.getElem_take] at e
 have:=List.pairwise_iff_getElem.mp h j i (by omega) hi (by omega)
 omega
abbrev sStand:Stmt:=top 18
def spStand (P0:Addr):Sp:=fun vs H Q _=>match vs with
 | [cv]=>∃ (n:Nat) (rows:Om.Rows),DV H cv (codeD 0 0 rows)/\WOk n rows/\Tab P0 (lamPos lamSt) qSt H ∧
   (∀ qs H',SameT P0 H H'->Tab P0 (lamPos lamSt) qSt H'->RchL rows qs->(∀ b t,¬ Lv (Ed rows b) qs qs.length t)->Q .non H') ∧
   ∀ p qs H',SameT P0 H H'->Tab P0 (lamPos lamSt) qSt H'->RchL rows qs->(∃ b t,Lv (Ed rows b) qs qs.length t)->Q (.ref p) H'
 | _=>False
theorem scStand:FnScope ["code","states","sign","graph","state","first","layers"] ["code"] (defScope sStand):=⟨rfl,rfl,rfl,by decide +kernel,rfl,by decide +kernel,by decide +kernel⟩
local macro_rules | `(tactic| walk_at "T.i")=>`(tactic| ((with_reducible refine' pi_tup ?a1);(case a1=>((with_reducible refine' e_gref ?c1 ?c2);(case c1=>with_reducible assumption);(case c2=>rfl)))))
local macro_rules | `(tactic| walk_at "T.e")=>`(tactic| (with_reducible exact pe_dnewK))
local macro_rules | `(tactic| walk_at "T.g")=>`(tactic| first | ((with_reducible refine' g_subD ?a0 ?a1 ?a2);(case a0=>exact Room.units (by assumption));(case a1=>with_reducible exact vn "graph" 3);(case a2=>walk_at "T.e")) | ((with_reducible refine' g_subD ?a0 ?a1 ?a2);(case a0=>exact Room.units (by assumption));(case a1=>with_reducible exact vn "first" 5);(case a2=>walk_at "T.e")) | fail "no")
theorem ok_stand {P0 aS:Addr} (D:FnX K mg "standing_loop" sStand ["code"]) (sg:SgT K mg aS) (c1:Can P w K mg base "reached" 4 ["code"] (spReached P0)) (c2:Can P w K mg base "standing_steps" 1 ["code","state","sign"] spStS) (c3:Can P w K mg base "layers_of" 2 ["first","graph"] spLyO) (c4:Can P w K mg base "comes_back" 1 ["layers","graph"] spCB)
  (c5:Can P w K mg base "loop_of" 2 ["walk"] spLpO) (c6:Can P w K mg base "longest_walk" 1 ["layers"] spWalk):Can P w K mg base "standing_loop" 5 ["code"] (spStand P0):=by
 refine can_fn (k:=4) D scStand (fun vs H Q E h=>?_) (fun f0 cdv A outer s H vs Q X hr h=>?_)
 all_goals
  unfold spStand at h
  split at h
 ·rfl
 ·exact h.elim
 ·rename_i cv
  obtain ⟨n,rows,hc,ok,tb,qn,qt⟩:=h
  have nd:=scStand.nd
  obtain ⟨sg1,sg2⟩:=sg
  refine ⟨_,(by walk_at "T.top"),?_⟩
  refine ⟨n,rows,hc,ok,tb,fun l qs H1 s1 t1 nl hl srt mem l8=>?_⟩
  have rc:RchL rows qs:=⟨srt,mem,l8⟩
  have hc1:=hc.monoT tb s1
  have qlt:∀ s∈qs,s < rows.length:=fun s hs=>rch_okW ok s ((mem s).mp hs)
  have qne:qs≠[]:=fun z=>by have:=(mem 0).mpr .z;rw [z] at this;cases this
  have cl:∀ b s t,s∈qs->Ed rows b s t->t∈qs:=fun b s t hs ⟨r,hr,e,_⟩=>(mem t).mpr (.s ((mem s).mp hs) (List.mem_map.mpr ⟨r,hr,e⟩))
  refine ⟨aS,rfl,⟨_,sg2 _⟩,?_⟩
  refine for_by (it_tup _ aS [.str (bs [false]),.str (bs [true])]) (fun i σ H2=>∃ (v2 v3 v4 v5 v6:Option V),σ=[some cv,some (.ref l),v2,v3,v4,v5,v6]/\Same H1 H2/\∀ b:Bool,V.str (bs [b])∈[V.str (bs [false]),.str (bs [true])].take i->∀ t,¬ Lv (Ed rows b) qs qs.length t)
   ⟨none,none,none,none,none,rfl,Same.refl _,fun b h=>by simp at h⟩ (fun i σ H2 _ _=>sg2 _) ?_ ?_
  ·rintro i x σ H2 hi hx ⟨v2,v3,v4,v5,v6,rfl,s2,dn⟩
   obtain ⟨b,rfl⟩ : ∃ b,x = .str (bs [b]):=by
    have:=List.mem_of_getElem? hx
    simp only [List.mem_cons,List.not_mem_nil,or_false] at this
    rcases this with h | h
    ·exact ⟨false,h⟩
    ·exact ⟨true,h⟩
   have tk1:[V.str (bs [false]),.str (bs [true])].take (i+1)=[V.str (bs [false]),.str (bs [true])].take i++[V.str (bs [b])]:=by rw [List.take_add_one,hx];rfl
   intro G hG
   have z1:=Same.upd (o:=.dK []) hG
   have hG1:upd H2 G (.dK []) G=some (.dK []):=upd_same
   generalize upd H2 G (.dK [])=H3 at z1 hG1
   dsimp only [gName]
   refine ⟨⟨_,SqL.of (z1 _ _ (s2 _ _ hl))⟩,?_⟩
   refine for_by (it_list _ l (qs.map fun s=>V.int (s:Nat))) (fun j σ H4=>∃ (v4:Option V) (kvs:List (Key×V)),σ=[some cv,some (.ref l),some (.str (bs [b])),some (.ref G),v4,v5,v6]/\Same H2 H4/\H4 G=some (.dK kvs)/\GphP H4 kvs (qs.take j) (Ed rows b))
    ⟨v4,[],rfl,z1,hG1,KS.nil,fun s hs=>by simp at hs⟩ (fun j σ H4 _ ⟨_,_,_,s4,_⟩=>SqL.of (s4 _ _ (s2 _ _ hl))) ?_ ?_
   ·rintro j y σ H4 hj hy ⟨v4,kvs,rfl,s4,hG4,gp4⟩
    rw [List.length_map] at hj
    rw [List.getElem?_map,List.getElem?_eq_getElem hj] at hy
    cases hy
    have sm:=List.getElem_mem hj
    refine ⟨n,rows,qs[j],b,(hc1.mono s2).mono s4,ok,rfl,qlt _ sm,rfl,fun l' ps ts H5 s5 nl' hl' se me=>?_⟩
    have gp5:=gp4.mono fun b u _ e=>s5 _ _ e
    have kl:=gp4.1.len
    rw [List.length_take] at kl
    refine .inr ⟨G,_,rfl,DPut.k (k:=nk qs[j]) (s5 _ _ hG4) (lt_line (by omega)),?_⟩
    refine ⟨_,_,rfl,(s4.trans s5).own hG,upd_same,?_⟩
    rw [List.take_add_one,List.getElem?_eq_getElem hj]
    exact gp5.put (s5 _ _ hG4) (pw_not srt hj) hl' se me
   ·rintro σ H4 ⟨v4,kvs,rfl,s4,hG4,gp4⟩
    rw [List.length_map,List.take_length] at gp4
    intro F hF
    have z2:=Same.upd (o:=.dK []) hF
    have hF1:upd H4 F (.dK []) F=some (.dK []):=upd_same
    generalize upd H4 F (.dK [])=H5 at z2 hF1
    have S5:=s4.trans z2
    have nF:H2 F=none:=s4.free hF
    have GF:G≠F:=ne_of_none hG4 hF
    dsimp only [gName]
    refine ⟨⟨_,SqL.of (S5 _ _ (s2 _ _ hl))⟩,?_⟩
    refine for_by (it_list _ l (qs.map fun s=>V.int (s:Nat))) (fun j σ H6=>∃ (v4:Option V) (fkvs:List (Key×V)),σ=[some cv,some (.ref l),some (.str (bs [b])),some (.ref G),v4,some (.ref F),v6]/\Same H4 H6/\H6 F=some (.dK fkvs)/\Lay1 H6 fkvs (qs.take j) (fun _=>True))
     ⟨v4,[],rfl,z2,hF1,KS.nil,fun s hs=>by simp at hs⟩ (fun j σ H6 _ ⟨_,_,_,s6,_⟩=>SqL.of (s6 _ _ (s4 _ _ (s2 _ _ hl)))) ?_ ?_
    ·rintro j y σ H6 hj hy ⟨v4,fkvs,rfl,s6,hF6,ly6⟩
     rw [List.length_map] at hj
     rw [List.getElem?_map,List.getElem?_eq_getElem hj] at hy
     cases hy
     refine ⟨le_line (Nat.le_of_ble_eq_true rfl),fun p hp=>?_⟩
     have z3:=Same.upd (o:=.tup [.non,.non]) hp
     have kl:=ly6.kz.len
     rw [List.length_take] at kl
     refine .inr ⟨F,_,rfl,DPut.k (k:=nk qs[j]) (z3 _ _ hF6) (lt_line (by omega)),?_⟩
     refine ⟨_,_,rfl,(s6.trans z3).own hF,upd_same,?_⟩
     rw [List.take_add_one,List.getElem?_eq_getElem hj]
     exact (ly6.mono fun b ys e=>z3 _ _ e).put (z3 _ _ hF6) (pw_not srt hj) upd_same trivial
    ·rintro σ H6 ⟨v4,fkvs,rfl,s6,hF6,ly6⟩
     rw [List.length_map,List.take_length] at ly6
     have gph6:Gph H6 G qs (Ed rows b):=⟨kvs,.inl (s6 _ _ hG4),(gp4.mono fun b u _ e=>s6 _ _ e)⟩
     refine ⟨fkvs,qs,Ed rows b,hF6,ly6,Ne.symm GF,gph6,cl b,l8,qne,fun Ly ds H7 s7 nLy hLy lys fin=>?_⟩
     have gph7:=gph6.monoT GF (fun xs z=>by rw [hF6] at z;cases z) (fun xs z=>by rw [hF6] at z;cases z) s7
     have S7:Same H1 H7:=fun b u e=>by
      have e2:=s2 _ _ e
      exact s7 _ _ (ne_of_none e2 nF) (s6 _ _ (s4 _ _ e2))
     refine ⟨ds,qs,Ed rows b,hLy,gph7,l8,?_⟩
     refine ite2 (fun c=>?_) (fun c=>?_)
     ·have c:=of_decide_eq_true c
      have dl:ds.length=qs.length+1:=fin.elim id fun z=>by omega
      have dne:ds≠[]:=fun z=>by rw [z] at dl;simp at dl
      refine ⟨ds,qs,Ed rows b,hLy,lys,dne,by omega,cl b,fun lw bz H8 s8 hlw bl wk=>?_⟩
      refine ⟨bz,qs,hlw,wk,by omega,by omega,fun p H9 s9=>?_⟩
      have S9:=(S7.trans s8).trans s9
      obtain ⟨o,kv,ks,d1,d2,d3,d4⟩:=lys.at' qs.length (ds[qs.length]'(by omega)) (List.getElem?_eq_getElem _)
      obtain ⟨t,ht⟩ : ∃ t,t∈ks:=by
       cases ks with
       | nil=>exact absurd rfl d2
       | cons t _=>exact ⟨t,List.mem_cons_self⟩
      exact qt p qs _ (s1.trans S9.t) (t1.mono S9) rc ⟨b,t,(d3 t).mp ht⟩
     ·have c:¬ qs.length < ds.length:=fun z=>c (decide_eq_true z)
      refine ⟨_,_,_,_,_,rfl,S7,fun b' hb' t ht=>?_⟩
      rw [tk1] at hb'
      rcases List.mem_append.mp hb' with h | h
      ·exact dn b' h t ht
      ·have eb:b'=b:=by
        have:V.str (bs [b'])=V.str (bs [b]):=by simpa using h
        injection this with this
        simpa using bs_inj this
       subst eb
       rcases fin with f | ⟨f1,f2⟩
       ·omega
       ·have:∀ i t,Lv (Ed rows b') qs (ds.length+i) t->∃ t',Lv (Ed rows b') qs ds.length t':=fun i=>by
         induction i with
         | zero=>exact fun t h=>⟨t,h⟩
         | succ i ih=>exact fun t ⟨s,h,_⟩=>ih s h
        obtain ⟨t',ht'⟩:=this (qs.length - ds.length) t (by rw [show ds.length+(qs.length - ds.length)=qs.length by omega];exact ht)
        exact f2 t' ht'
  ·rintro σ H2 ⟨v2,v3,v4,v5,v6,rfl,s2,dn⟩
   exact qn qs _ (s1.trans s2.t) (t1.mono s2) rc fun b t=>dn b (by cases b<;>simp) t
 ·exact h.elim
end
end K50
end
section
namespace K50
open PySem L2
section
variable {P:Program} {w:World} {K:PySem.W.Frag} {mg:Str->Option Value} {base:Heap}
abbrev Ky:=Nat×Bool
def hkey (x:Ky):List Key:=[Sum.inl ((x.1:Nat):Int),Sum.inr (bs [x.2])]
theorem hkey_inj (a b:Ky) (h:hkey a=hkey b):a=b:=by
 unfold hkey at h
 injection h with h1 h2
 injection h2 with h2 _
 have e1:((a.1:Nat):Int)=((b.1:Nat):Int):=Sum.inl.inj h1
 have e2:=bs_inj (Sum.inr.inj h2)
 exact Prod.ext (by omega) (by simpa using e2)
def keysOf (qs:List Nat):List Ky:=qs.flatMap fun s=>[(s,false),(s,true)]
theorem mem_keysOf {qs:List Nat} {x:Ky}:x∈keysOf qs↔x.1∈qs:=by
 unfold keysOf
 rw [List.mem_flatMap]
 constructor
 ·rintro ⟨s,hs,h⟩
  simp only [List.mem_cons,List.not_mem_nil,or_false] at h
  rcases h with rfl | rfl<;>exact hs
 ·intro h
  obtain ⟨s,b⟩:=x
  exact ⟨s,h,by cases b<;>simp⟩
theorem keysOf_len (qs:List Nat):(keysOf qs).length=2 * qs.length:=by
 unfold keysOf
 induction qs with
 | nil=>rfl
 | cons s qs ih=>rw [List.flatMap_cons,List.length_append,ih,List.length_cons];simp;omega
theorem keysOf_nd {qs:List Nat} (h:qs.Nodup):(keysOf qs).Nodup:=by
 induction qs with
 | nil=>exact List.nodup_nil
 | cons s qs ih=>
  rw [List.nodup_cons] at h
  show ([(s,false),(s,true)]++keysOf qs).Nodup
  rw [List.nodup_append]
  refine ⟨by simp,ih h.2,fun a ha b hb e=>?_⟩
  subst e
  have h1:=mem_keysOf.mp hb
  simp only [List.mem_cons,List.not_mem_nil,or_false] at ha
  rcases ha with rfl | rfl<;>exact h.1 h1
def KyL (H:Hp) (bz:List V) (ks:List Ky):Prop:=bz.length=ks.length/\∀ (i:Nat) x,ks[i]? = some x->∃ b,bz[i]? = some (.ref b)/\H b=some (.tup ((hkey x).map kV))
theorem KyL.mono {H H':Hp} {bz:List V} {ks:List Ky} (h:KyL H bz ks) (s:∀ b ys,H b=some (.tup ys)->H' b=some (.tup ys)):KyL H' bz ks:=⟨h.1,fun i x e=>let ⟨b,a,c⟩:=h.2 i x e;⟨b,a,s _ _ c⟩⟩
theorem KyL.add {H:Hp} {bz:List V} {ks:List Ky} {b:Addr} {x:Ky} (h:KyL H bz ks) (hb:H b=some (.tup ((hkey x).map kV))):KyL H (bz++[.ref b]) (ks++[x]):=by
 refine ⟨by rw [List.length_append,List.length_append,h.1];rfl,fun i y hy=>?_⟩
 by_cases il:i < ks.length
 ·rw [List.getElem?_append_left il] at hy
  obtain ⟨b',a,c⟩:=h.2 i y hy
  exact ⟨b',by rw [List.getElem?_append_left (by rw [h.1];exact il)];exact a,c⟩
 ·have ie:i=ks.length:=by
   have:=(List.getElem?_eq_some_iff.mp hy).1
   rw [List.length_append] at this
   simp at this
   omega
  subst ie
  rw [List.getElem?_append_right (Nat.le_refl _)] at hy
  simp at hy
  subst hy
  exact ⟨b,by rw [List.getElem?_append_right (by rw [h.1];exact Nat.le_refl _),h.1];simp,hb⟩
abbrev sKeys:Stmt:=top 14
def spKeys (P0:Addr):Sp:=fun vs H Q _=>match vs with
 | [cv]=>∃ (n:Nat) (rows:Om.Rows),DV H cv (codeD 0 0 rows)/\WOk n rows/\Tab P0 (lamPos lamSt) qSt H ∧
   ∀ l bz qs H',SameT P0 H H'->Tab P0 (lamPos lamSt) qSt H'->H' l=some (.lst bz)->RchL rows qs->KyL H' bz (keysOf qs)->Q (.ref l) H'
 | _=>False
theorem scKeys:FnScope ["code","keys","state","sign"] ["code"] (defScope sKeys):=⟨rfl,rfl,rfl,by decide +kernel,rfl,by decide +kernel,by decide +kernel⟩
local macro_rules | `(tactic| walk_at "T.i")=>`(tactic| ((with_reducible refine' pi_tup ?a1);(case a1=>((with_reducible refine' e_gref ?c1 ?c2);(case c1=>with_reducible assumption);(case c2=>rfl)))))
theorem ok_keys {P0 aS:Addr} (D:FnX K mg "paper_keys" sKeys ["code"]) (sg:SgT K mg aS) (c1:Can P w K mg base "reached" 4 ["code"] (spReached P0)):Can P w K mg base "paper_keys" 5 ["code"] (spKeys P0):=by
 refine can_fn (k:=4) D scKeys (fun vs H Q E h=>?_) (fun f0 cdv A outer s H vs Q X hr h=>?_)
 all_goals
  unfold spKeys at h
  split at h
 ·rfl
 ·exact h.elim
 ·rename_i cv
  obtain ⟨n,rows,hc,ok,tb,q⟩:=h
  have nd:=scKeys.nd
  obtain ⟨sg1,sg2⟩:=sg
  refine ⟨_,(by walk_at "T.top"),?_⟩
  refine ⟨Nat.zero_le _,fun L hL=>?_⟩
  have z0:=Same.upd (o:=.lst []) hL
  have hL0:upd H L (.lst []) L=some (.lst []):=upd_same
  have LP:L≠P0:=fun z=>by obtain ⟨ps,e⟩:=tb.tbl;rw [z,e] at hL;cases hL
  have t0:=tb.mono z0
  have hc0:=hc.mono z0
  generalize upd H L (.lst [])=H0 at z0 hL0 t0 hc0
  refine ⟨n,rows,hc0,ok,t0,fun l qs H1 s1 t1 nl hl srt mem l8=>?_⟩
  have hL1:=s1 _ _ LP hL0
  have lL:l≠L:=fun z=>by rw [z,hL0] at nl;cases nl
  have S1:SameT P0 H H1:=z0.t.trans s1
  refine ⟨⟨_,SqL.of hl⟩,?_⟩
  refine for_by (it_list _ l (qs.map fun s=>V.int (s:Nat))) (fun i σ H2=>∃ (v2 v3:Option V) (bz:List V),σ=[some cv,some (.ref L),v2,v3]/\SameT L H1 H2/\H2 L=some (.lst bz)/\KyL H2 bz (keysOf (qs.take i)))
   ⟨none,none,[],rfl,SameT.refl _ _,hL1,rfl,fun i x h=>by simp [keysOf] at h⟩ (fun i σ H2 _ ⟨_,_,_,_,s2,_⟩=>SqL.of (s2 _ _ lL hl)) ?_ ?_
  ·rintro i x σ H2 hi hx ⟨v2,v3,bz,rfl,s2,hL2,kl⟩
   rw [List.length_map] at hi
   rw [List.getElem?_map,List.getElem?_eq_getElem hi] at hx
   cases hx
   refine ⟨aS,rfl,⟨_,sg2 _⟩,?_⟩
   have ek:keysOf (qs.take (i+1))=keysOf (qs.take i)++[(qs[i],false),(qs[i],true)]:=by
    unfold keysOf
    rw [List.take_add_one,List.getElem?_eq_getElem hi,List.flatMap_append];rfl
   have bl:bz.length<=16:=by
    rw [kl.1,keysOf_len,List.length_take];omega
   refine for_by (it_tup _ aS [.str (bs [false]),.str (bs [true])]) (fun j σ H3=>∃ (v3:Option V) (bz:List V),σ=[some cv,some (.ref L),some (.int (qs[i]:Nat)),v3]/\SameT L H1 H3/\H3 L=some (.lst bz)/\KyL H3 bz (keysOf (qs.take i)++[(qs[i],false),(qs[i],true)].take j))
    ⟨v3,bz,rfl,s2,hL2,by simpa using kl⟩ (fun j σ H3 _ _=>sg2 _) ?_ ?_
   ·rintro j y σ H3 hj hy ⟨v3,bz,rfl,s3,hL3,kl3⟩
    obtain ⟨b,rfl,eb⟩ : ∃ b,y = .str (bs [b])/\[(qs[i],false),(qs[i],true)][j]? = some (qs[i],b):=by
     have hj2:j < 2:=hj
     match j,hj2 with
     | 0,_=>cases hy;exact ⟨false,rfl,rfl⟩
     | 1,_=>cases hy;exact ⟨true,rfl,rfl⟩
    have bl3:bz.length<=20:=by
     rw [kl3.1,List.length_append,keysOf_len,List.length_take,List.length_take]
     have:min j [(qs[i],false),(qs[i],true)].length<=2:=Nat.min_le_right _ _
     omega
    refine ⟨⟨_,rfl,hL3⟩,le_line (Nat.le_of_ble_eq_true rfl),fun p hp=>?_⟩
    have z:=Same.upd (o:=.tup [.int (qs[i]:Nat),.str (bs [b])]) hp
    refine ⟨_,z _ _ hL3,lt_line (by omega),?_⟩
    have tp:∀ b' ys,upd H3 p (.tup [.int (qs[i]:Nat),.str (bs [b])]) b'=some (.tup ys)->upd (upd H3 p (.tup [.int (qs[i]:Nat),.str (bs [b])])) L (.lst (bz++[.ref p])) b'=some (.tup ys):=fun b' ys h=>by rw [upd_ne (ne_of h (z _ _ hL3) (fun z=>nomatch z))];exact h
    refine ⟨_,bz++[.ref p],rfl,fun b' u nb e=>?_,upd_same,?_⟩
    ·rw [upd_ne nb];exact z _ _ (s3 _ _ nb e)
    ·rw [List.take_add_one,eb,<-List.append_assoc]
     exact (kl3.mono fun b' ys h=>tp b' ys (z _ _ h)).add (x:=(qs[i],b)) (tp p _ upd_same)
   ·rintro σ H3 ⟨v3,bz,rfl,s3,hL3,kl3⟩
    refine ⟨_,_,bz,rfl,s3,hL3,?_⟩
    rw [ek]
    exact kl3
  ·rintro σ H2 ⟨v2,v3,bz,rfl,s2,hL2,kl⟩
   rw [List.length_map,List.take_length] at kl
   have hLn:H L=none:=hL
   have S2:SameT P0 H H2:=fun b u nb e=>s2 _ _ (ne_of_none e hLn) (S1 _ _ nb e)
   have t2:Tab P0 (lamPos lamSt) qSt H2:=by
    rcases t1 with z | ⟨c,z1,z2⟩
    ·exact .inl (s2 _ _ (Ne.symm LP) z)
    ·exact .inr ⟨c,s2 _ _ (Ne.symm LP) z1,s2 _ _ (ne_of z2 hL1 (fun y=>nomatch y)) z2⟩
   exact q L bz qs _ S2 t2 hL2 ⟨srt,mem,l8⟩ kl
 ·exact h.elim
end
end K50
end
section
namespace K50
open PySem L2
section
variable {P:Program} {w:World} {K:PySem.W.Frag} {mg:Str->Option Value} {base:Heap}
theorem keys_getG {N:Type} {key:N->List Key} {H:Hp}:∀ {kvs:List (List Key×V)} {bz:List Addr} {xs:List N} {i:Nat} {x:N},KeysAt H kvs bz->KS key kvs xs->xs[i]? = some x->∃ b,bz[i]? = some b/\H b=some (.tup ((key x).map kV)):=by
 intro kvs bz xs i x kb ks hx
 have h1:(kvs.map (·.1))[i]? = some (key x):=by rw [ks.ks,List.getElem?_map,hx];rfl
 clear ks hx
 induction kb generalizing i with
 | nil=>simp at h1
 | @cons p b ps bs' h t ih=>
  cases i with
  | zero=>
   have e:p.1=key x:=by simpa using h1
   rw [e] at h
   exact ⟨b,rfl,h⟩
  | succ i=>
   obtain ⟨b',a1,a2⟩:=ih (i:=i) (by simpa using h1)
   exact ⟨b',by simpa using a1,a2⟩
theorem keys_len {H:Hp} {kvs:List (List Key×V)} {bz:List Addr} (h:KeysAt H kvs bz):bz.length=kvs.length:=by
 induction h with
 | nil=>rfl
 | cons _ _ ih=>rw [List.length_cons,List.length_cons,ih]
structure RunV (kvs:List (List Key×V)) (ks:List Ky) (F:Ky->Nat):Prop where
 kz:KS hkey kvs ks
 vl:∀ x∈ks,valV kvs (hkey x)=some (.int (F x:Nat))
def tpF (F:Ky->Nat) (x:Ky) (r:List Bool×Nat):Nat:=(pb (some x.2) (F x) r.1).2.2
structure Pk (rows:Om.Rows) (F:Ky->Nat) (S:Ky->Nat->Prop) (m:Nat):Prop where
 all:∀ x l r,S x l->(rows.getD x.1 [])[l]? = some r->tpF F x r<=m
 src:m=0\/∃ x l r,S x l/\(rows.getD x.1 [])[l]? = some r/\m=tpF F x r
theorem Pk.cong {rows:Om.Rows} {F:Ky->Nat} {S S':Ky->Nat->Prop} {m:Nat} (h:Pk rows F S m) (e1:∀ x l r,(rows.getD x.1 [])[l]? = some r->S' x l->S x l) (e2:∀ x l r,(rows.getD x.1 [])[l]? = some r->S x l->S' x l):Pk rows F S' m:=
 ⟨fun x l r a b=>h.all x l r (e1 x l r b a) b,h.src.imp id fun ⟨x,l,r,a,b,c⟩=>⟨x,l,r,e2 x l r b a,b,c⟩⟩
theorem Pk.put {rows:Om.Rows} {F:Ky->Nat} {S:Ky->Nat->Prop} {m:Nat} (h:Pk rows F S m) {x:Ky} {l:Nat} {r:List Bool×Nat} (hr:(rows.getD x.1 [])[l]? = some r):Pk rows F (fun y j=>S y j\/(y=x/\j=l)) (max m (tpF F x r)):=by
 refine ⟨fun y j r' a b=>?_,?_⟩
 ·rcases a with a | ⟨rfl,rfl⟩
  ·have:=h.all y j r' a b;omega
  ·rw [hr] at b;cases b;omega
 ·by_cases c:m<=tpF F x r
  ·exact .inr ⟨x,l,r,.inr ⟨rfl,rfl⟩,hr,by omega⟩
  ·rw [Nat.max_eq_left (by omega)]
   exact h.src.imp id fun ⟨y,j,r',a,b,c⟩=>⟨y,j,r',.inl a,b,c⟩
abbrev sPeak:Stmt:=top 15
def spPeak:Sp:=fun vs H Q _=>match vs with
 | [cv,.ref D]=>∃ (n:Nat) (rows:Om.Rows) (kvs:List (List Key×V)) (ks:List Ky) (F:Ky->Nat),DV H cv (codeD 0 0 rows)/\WOk n rows/\H D=some (.dT kvs)/\RunV kvs ks F/\(∀ x∈ks,x.1 < rows.length) ∧
   ∀ (m:Nat) H',SameT D H H'->Pk rows F (fun x _=>x∈ks) m->Q (.int (m:Nat)) H'
 | _=>False
theorem scPeak:FnScope ["code","runs","peak","state","sign","row"] ["code","runs"] (defScope sPeak):=⟨rfl,rfl,rfl,by decide +kernel,rfl,by decide +kernel,by decide +kernel⟩
local macro_rules | `(tactic| walk_at "T.e")=>`(tactic| ((with_reducible refine' ix_atD ?a0 ?a1 ?a2);(case a0=>exact Room.units (by assumption));(case a1=>with_reducible exact vn "runs" 1);(case a2=>walk_at "T.e")))
local macro_rules | `(tactic| walk_at "T.i")=>`(tactic| ((with_reducible refine' pi_lstF ?a1);(case a1=>with_reducible exact vn "runs" 1)))
theorem ok_peak (D:FnX K mg "greatest_peak" sPeak ["code","runs"]) (g2:mg "max" = none) (c1:Can P w K mg base "put_behind" 1 ["sign","count","word"] spPut):Can P w K mg base "greatest_peak" 2 ["code","runs"] spPeak:=by
 refine can_fn (k:=1) D scPeak (fun vs H Q E h=>?_) (fun f0 cdv A outer s H vs Q E hr h=>?_)
 all_goals
  unfold spPeak at h
  split at h
 ·rfl
 ·exact h.elim
 ·rename_i cv D
  obtain ⟨n,rows,kvs,ks,F,hc,ok,hD,rv,kb,q⟩:=h
  obtain ⟨a,b,ss,rfl,ha,hb,hss⟩:=code_inv hc
  have nd:=scPeak.nd
  have n1:=ok.n1
  refine ⟨_,(by walk_at "T.top"),?_⟩
  refine .inl ⟨kvs,hD,fun o bz kz=>?_⟩
  have bl:bz.length=ks.length:=by rw [keys_len kz,rv.kz.len]
  have s0:SameT D H (upd H D (.frz o (.dT kvs))):=fun b u nb e=>by rw [upd_ne nb];exact e
  have hD0:upd H D (.frz o (.dT kvs)) D=some (.frz o (.dT kvs)):=upd_same
  generalize upd H D (.frz o (.dT kvs))=H0 at s0 hD0
  refine for_by (it_keys D o (bz.map V.ref)) (fun i σ H2=>∃ (v3 v4 v5:Option V) (m:Nat),σ=[some (.ref a),some (.ref D),some (.int (m:Nat)),v3,v4,v5]/\Same H0 H2/\Pk rows F (fun x _=>x∈ks.take i) m)
   ⟨none,none,none,0,rfl,Same.refl _,⟨fun x l r h=>by simp at h,.inl rfl⟩⟩ (fun i σ H2 _ ⟨_,_,_,_,_,s2,_⟩=>⟨_,s2 _ _ hD0⟩) ?_ ?_
  ·rintro i v σ H2 hi hv ⟨v3,v4,v5,m,rfl,s2,pk⟩
   rw [List.length_map,bl] at hi
   have hx:ks[i]? = some ks[i]:=List.getElem?_eq_getElem hi
   have xm:ks[i]∈ks:=List.getElem_mem hi
   have tk:ks.take (i+1)=ks.take i++[ks[i]]:=by rw [List.take_add_one,hx];rfl
   generalize ks[i]=x at hx xm tk
   obtain ⟨b0,b1,b2⟩:=keys_getG kz rv.kz hx
   have b2:=s2 _ _ (s0 _ _ (ne_of b2 hD (fun z=>nomatch z)) b2)
   rw [List.getElem?_map,b1] at hv
   cases hv
   have slt:=kb x xm
   obtain ⟨qx,rx,e1,e2,e3⟩:=state_at hss (s:=x.1) (st:=rows[x.1]) (List.getElem?_eq_getElem slt)
   have rl:rx.length=rows[x.1].length:=by rw [e3.length,List.length_map]
   have eg:rows.getD x.1 []=rows[x.1]:=by rw [List.getD_eq_getElem?_getD,List.getElem?_eq_getElem slt];rfl
   have ha0:=s0 _ _ (ne_of ha hD (fun z=>nomatch z)) ha
   have hb0:=s0 _ _ (ne_of hb hD (fun z=>nomatch z)) hb
   have e20:=s0 _ _ (ne_of e2 hD (fun z=>nomatch z)) e2
   refine ⟨_,.inl b2,rfl,rfl,?_⟩
   refine ⟨_,gt (s2 _ _ ha0) (by decide) rfl,.ref qx,gl (s2 _ _ hb0) (by omega) (by simpa using e1),⟨_,SqL.of (s2 _ _ e20)⟩,?_⟩
   refine for_by (it_list _ qx rx) (fun j σ H3=>∃ (v5:Option V) (m:Nat),σ=[some (.ref a),some (.ref D),some (.int (m:Nat)),some (.int (x.1:Nat)),some (.str (bs [x.2])),v5]/\Same H0 H3/\Pk rows F (fun y l=>y∈ks.take i\/(y=x/\l < j)) m)
    ⟨v5,m,rfl,s2,pk.cong (fun y l _ _ h=>h.elim id fun z=>absurd z.2 (Nat.not_lt_zero _)) fun y l _ _ h=>.inl h⟩ (fun j σ H3 _ ⟨_,_,_,s3,_⟩=>SqL.of (s3 _ _ e20)) ?_ ?_
   ·clear pk
    rintro j z σ H3 hj hz ⟨v5,m,rfl,s3,pk⟩
    have hj':j < rows[x.1].length:=by omega
    obtain ⟨r,r1,r2⟩:=row_at e3 (l:=j) (r:=rows[x.1][j]) (List.getElem?_eq_getElem hj')
    rw [hz] at r1
    cases r1
    have okr:=ok.row _ (List.getElem_mem slt) _ (List.getElem_mem hj')
    have hrow:(rows.getD x.1 [])[j]? = some rows[x.1][j]:=by rw [eg];exact List.getElem?_eq_getElem hj'
    generalize rows[x.1][j]=rw0 at r2 okr hrow
    have wne:rw0.1≠[]:=fun z=>by have:=congrArg List.length z;rw [okr.1] at this;simp at this;omega
    have r2:=s0 _ _ (ne_of r2 hD (fun z=>nomatch z)) r2
    refine ⟨le_line (Nat.le_of_ble_eq_true rfl),fun p hp=>?_⟩
    have z4:=Same.upd (o:=.tup [.int (x.1:Nat),.str (bs [x.2])]) hp
    refine .inr ⟨D,.int (F x:Nat),rfl,.inr ⟨kvs,hkey x,p,.inr ⟨o,z4 _ _ (s3 _ _ hD0)⟩,rfl,upd_same,(rv.vl x xm).symm⟩,?_⟩
    have s4:=s3.trans z4
    generalize upd H3 p (.tup [.int (x.1:Nat),.str (bs [x.2])])=H4 at s4
    refine ⟨_,gt (s4 _ _ r2) (by decide) rfl,some x.2,F x,rw0.1,rfl,rfl,rfl,wne,fun p5 H5 s5 hp5 _=>?_⟩
    refine ⟨_,gt hp5 (by decide) rfl,?_⟩
    have em:(if ((tpF F x rw0:Nat):Int) > ((m:Nat):Int) then ((tpF F x rw0:Nat):Int) else ((m:Nat):Int))=((max m (tpF F x rw0):Nat):Int):=by split<;>omega
    refine ⟨_,max m (tpF F x rw0),by rw [<-em];rfl,s4.trans s5,(pk.put hrow).cong (fun y l _ _ h=>?_) fun y l _ _ h=>?_⟩
    ·rcases h with h | ⟨h,h'⟩
     ·exact .inl (.inl h)
     ·rcases Nat.lt_succ_iff_lt_or_eq.mp h' with h' | h'
      ·exact .inl (.inr ⟨h,h'⟩)
      ·exact .inr ⟨h,h'⟩
    ·rcases h with (h | ⟨h,h'⟩) | ⟨h,h'⟩
     ·exact .inl h
     ·exact .inr ⟨h,by omega⟩
     ·exact .inr ⟨h,by omega⟩
   ·rintro σ H3 ⟨v5,m,rfl,s3,pk⟩
    refine ⟨_,_,v5,m,rfl,s3,pk.cong (fun y l r hr h=>?_) fun y l r hr h=>?_⟩
    ·rw [tk] at h
     rcases List.mem_append.mp h with h | h
     ·exact .inl h
     ·have h:y=x:=by simpa using h
      subst h
      have:=(List.getElem?_eq_some_iff.mp hr).1
      rw [eg] at this
      exact .inr ⟨rfl,by omega⟩
    ·rw [tk]
     rcases h with h | ⟨h,_⟩
     ·exact List.mem_append_left _ h
     ·exact List.mem_append_right _ (by rw [h];simp)
  ·rintro σ H2 ⟨v3,v4,v5,m,rfl,s2,pk⟩
   rw [List.length_map,bl,List.take_length] at pk
   exact q m _ (fun b u nb e=>s2 _ _ (s0 _ _ nb e)) pk
 ·exact h.elim
end
end K50
end
section
namespace K50
open PySem L2
section
variable {P:Program} {w:World} {K:PySem.W.Frag} {mg:Str->Option Value} {base:Heap}
def lb (ws:List Bool):Bool:=((pb none 0 ws).1).getD false
theorem pb_last {ws:List Bool} (h:ws≠[]) (o:Option Bool) (c:Nat):(pb o c ws).1=some (lb ws):=by
 obtain ⟨b,_,h2⟩:=pbs_last h o c c
 have e1:(pb o c ws).1=some b:=h2 o c c
 have e2:(pb none 0 ws).1=some b:=h2 none 0 0
 unfold lb
 rw [e1,e2];rfl
def tgt (r:List Bool×Nat):Ky:=(r.2,lb r.1)
def ctF (F:Ky->Nat) (x:Ky) (r:List Bool×Nat):Nat:=(pb (some x.2) (F x) r.1).2.1
open Classical in
def cur (F:Ky->Nat) (oks:List Ky) (G:Ky->Nat) (y:Ky):Nat:=if y∈oks then G y else F y
structure Ov (rows:Om.Rows) (F:Ky->Nat) (S:Ky->Nat->Prop) (oks:List Ky) (G:Ky->Nat):Prop where
 all:∀ x l r,S x l->(rows.getD x.1 [])[l]? = some r->ctF F x r<=cur F oks G (tgt r)
 up:∀ y∈oks,F y < G y
 src:∀ y∈oks,∃ x l r,S x l/\(rows.getD x.1 [])[l]? = some r/\y=tgt r/\G y=ctF F x r
theorem Ov.cong {rows:Om.Rows} {F G:Ky->Nat} {S S':Ky->Nat->Prop} {oks:List Ky} (h:Ov rows F S oks G) (e1:∀ x l r,(rows.getD x.1 [])[l]? = some r->S' x l->S x l) (e2:∀ x l r,(rows.getD x.1 [])[l]? = some r->S x l->S' x l):Ov rows F S' oks G:=
 ⟨fun x l r a b=>h.all x l r (e1 x l r b a) b,h.up,fun y hy=>let ⟨x,l,r,a,b,c⟩:=h.src y hy;⟨x,l,r,e2 x l r b a,b,c⟩⟩
theorem Ov.small {rows:Om.Rows} {F G:Ky->Nat} {S:Ky->Nat->Prop} {oks:List Ky} (h:Ov rows F S oks G) {x:Ky} {l:Nat} {r:List Bool×Nat} (hr:(rows.getD x.1 [])[l]? = some r) (le:ctF F x r<=cur F oks G (tgt r)):Ov rows F (fun y j=>S y j\/(y=x/\j=l)) oks G:=by
 refine ⟨fun y j r' a b=>?_,h.up,fun y hy=>let ⟨x,l,r,a,b,c⟩:=h.src y hy;⟨x,l,r,.inl a,b,c⟩⟩
 rcases a with a | ⟨rfl,rfl⟩
 ·exact h.all y j r' a b
 ·rw [hr] at b;cases b;exact le
theorem Ov.big {rows:Om.Rows} {F G:Ky->Nat} {S:Ky->Nat->Prop} {oks:List Ky} (h:Ov rows F S oks G) {x:Ky} {l:Nat} {r:List Bool×Nat} (hr:(rows.getD x.1 [])[l]? = some r) (lt:cur F oks G (tgt r) < ctF F x r):Ov rows F (fun y j=>S y j\/(y=x/\j=l)) (Om.adds oks (tgt r)) (fun z=>if z=tgt r then ctF F x r else G z):=by
 have c1:cur F (Om.adds oks (tgt r)) (fun z=>if z=tgt r then ctF F x r else G z) (tgt r)=ctF F x r:=by
  unfold cur
  rw [if_pos (Om.mem_adds.mpr (.inr rfl))]
  show (if tgt r=tgt r then _ else _)=_
  rw [if_pos rfl]
 have c2:∀ z,z≠tgt r->cur F (Om.adds oks (tgt r)) (fun z=>if z=tgt r then ctF F x r else G z) z=cur F oks G z:=fun z hz=>by
  unfold cur
  by_cases m:z∈oks
  ·rw [if_pos (Om.mem_adds.mpr (.inl m)),if_pos m]
   show (if z=tgt r then _ else _)=_
   rw [if_neg hz]
  ·rw [if_neg (fun c=>(Om.mem_adds.mp c).elim m hz),if_neg m]
 have fy:F (tgt r)<=cur F oks G (tgt r):=by
  unfold cur
  split
  ·rename_i m
   exact Nat.le_of_lt (h.up _ m)
  ·exact Nat.le_refl _
 refine ⟨fun y j r' a b=>?_,fun y hy=>?_,fun y hy=>?_⟩
 ·rcases a with a | ⟨rfl,rfl⟩
  ·have:=h.all y j r' a b
   by_cases e:tgt r'=tgt r
   ·rw [e] at this ⊢;rw [c1];omega
   ·rw [c2 _ e];exact this
  ·rw [hr] at b;cases b;rw [c1];exact Nat.le_refl _
 ·show F y < (if y=tgt r then ctF F x r else G y)
  by_cases e:y=tgt r
  ·rw [if_pos e,e];omega
  ·rw [if_neg e];exact h.up y ((Om.mem_adds.mp hy).resolve_right e)
 ·show ∃ x' l' r',_/\_/\_/\(if y=tgt r then ctF F x r else G y)=_
  by_cases e:y=tgt r
  ·rw [if_pos e];exact ⟨x,l,r,.inr ⟨rfl,rfl⟩,hr,e,rfl⟩
  ·rw [if_neg e]
   obtain ⟨x',l',r',a,b,c⟩:=h.src y ((Om.mem_adds.mp hy).resolve_right e)
   exact ⟨x',l',r',.inl a,b,c⟩
theorem RunV.put {kvs:List (List Key×V)} {ks:List Ky} {F:Ky->Nat} (h:RunV kvs ks F) (y:Ky) (c:Nat):RunV (putK kvs (hkey y) (.int (c:Nat))) (Om.adds ks y) (fun z=>if z=y then c else F z):=by
 refine ⟨h.kz.put hkey_inj y _,fun z hz=>?_⟩
 show _=some (V.int ((if z=y then c else F z:Nat):Int))
 rw [valV_put]
 by_cases e:z=y
 ·subst e;rw [if_pos rfl,if_pos rfl]
 ·rw [if_neg (fun k=>e (hkey_inj _ _ k)),if_neg e]
  exact h.vl z ((Om.mem_adds.mp hz).resolve_right e)
theorem RunV.curV {kvs:List (List Key×V)} {ks:List Ky} {G:Ky->Nat} (h:RunV kvs ks G) (F:Ky->Nat) (y:Ky):(valV kvs (hkey y)).getD (.int (F y:Nat)) = .int (cur F ks G y:Nat):=by
 unfold cur
 by_cases m:y∈ks
 ·rw [if_pos m,h.vl y m];rfl
 ·rw [if_neg m]
  have this:(valV kvs (hkey y)).isSome=false:=by
   have t:=h.kz.has hkey_inj y
   cases hv:(valV kvs (hkey y)).isSome with
   | false=>rfl
   | true=>rw [hv] at t;exact absurd (by simpa using t) m
  rw [Option.isSome_eq_false_iff,Option.isNone_iff_eq_none] at this
  rw [this];rfl
theorem few_keys {xs:List Ky} (nd:xs.Nodup) (h:∀ x∈xs,x.1 < 8):xs.length<=16:=by
 have bt:∀ b:Bool,b.toNat < 2:=fun b=>by cases b<;>decide
 have:=Om.nodup_len 16 (xs.map fun x=>x.1 * 2+x.2.toNat) ?_ fun s hs=>?_
 ·rwa [List.length_map] at this
 ·refine Om.nodup_on (fun x hx y hy e=>?_) nd
  have h1:=bt x.2
  have h2:=bt y.2
  have e1:x.1=y.1:=by omega
  have e2:x.2.toNat=y.2.toNat:=by omega
  exact Prod.ext e1 (by revert e2;cases x.2<;>cases y.2<;>simp)
 ·obtain ⟨x,hx,rfl⟩:=List.mem_map.mp hs
  have h1:=h x hx
  have h2:=bt x.2
  omega
theorem lt1_of64 {u c:Nat} (h:u+64 < c):u+1 < c:=by omega
abbrev sOver:Stmt:=top 16
def spOver:Sp:=fun vs H Q _=>match vs with
 | [cv,.ref D]=>∃ (n:Nat) (rows:Om.Rows) (kvs:List (List Key×V)) (ks:List Ky) (F:Ky->Nat),DV H cv (codeD 0 0 rows)/\WOk n rows/\H D=some (.dT kvs)/\RunV kvs ks F/\(∀ x∈ks,x.1 < rows.length)/\(∀ x∈ks,∀ r∈rows.getD x.1 [],∀ b,(r.2,b)∈ks) ∧
   ∀ L okvs oks G H',Same H H'->H L=none->H' L=some (.dT okvs)->RunV okvs oks G->Ov rows F (fun x _=>x∈ks) oks G->Q (.ref L) H'
 | _=>False
theorem scOver:FnScope ["code","runs","over","state","sign","row","run","key"] ["code","runs"] (defScope sOver):=⟨rfl,rfl,rfl,by decide +kernel,rfl,by decide +kernel,by decide +kernel⟩
local macro_rules | `(tactic| walk_at "T.e")=>`(tactic| first | (with_reducible exact pe_dnewT) | ((with_reducible refine' ix_atD ?a0 ?a1 ?a2);(case a0=>exact Room.units (by assumption));(case a1=>with_reducible exact vn "runs" 1);(case a2=>walk_at "T.e")) | ((with_reducible refine' pe_dget2 ?a0 ?a1 ?a2 ?a3 ⟨?a4,?a5,?a6,?a7⟩);(case a0=>exact lt1_of64 (Room.units (by assumption)));(case a1=>with_reducible exact vn "over" 2);(case a2=>walk_at "T.e");(case a3=>walk_at "T.e");(case a4=>kernel_rfl);(case a5=>kernel_rfl);(case a6=>kernel_rfl);(case a7=>kernel_rfl)) | fail "no")
local macro_rules | `(tactic| walk_at "T.g")=>`(tactic| ((with_reducible refine' g_subD ?a0 ?a1 ?a2);(case a0=>exact Room.units (by assumption));(case a1=>with_reducible exact vn "over" 2);(case a2=>walk_at "T.e")))
local macro_rules | `(tactic| walk_at "T.st")=>`(tactic| first | ((with_reducible refine' s_thaw ?a0);(case a0=>((with_reducible refine' s_for ?a1 ?a2 ?a3);(case a1=>((with_reducible refine' pi_lstF ?b1);(case b1=>with_reducible exact vn "runs" 1)));(case a2=>walk_at "T.g");(case a3=>walk_at "T.s")))) | fail "no")
theorem ok_over (D:FnX K mg "runs_over" sOver ["code","runs"]) (c1:Can P w K mg base "put_behind" 1 ["sign","count","word"] spPut):Can P w K mg base "runs_over" 2 ["code","runs"] spOver:=by
 refine can_fn (k:=1) D scOver (fun vs H Q E h=>?_) (fun f0 cdv A outer s H vs Q E hr h=>?_)
 all_goals
  unfold spOver at h
  split at h
 ·rfl
 ·exact h.elim
 ·rename_i cv D
  obtain ⟨n,rows,kvs,ks,F,hc,ok,hD,rv,kb,cl,q⟩:=h
  obtain ⟨a,b,ss,rfl,ha,hb,hss⟩:=code_inv hc
  have nd:=scOver.nd
  have n1:=ok.n1
  have s8:=ok.s8
  refine ⟨_,(by walk_at "T.top"),?_⟩
  intro L hL
  have DL:D≠L:=ne_of_none hD hL
  have u1:=Same.upd (o:=.dT []) hL
  have hL1:upd H L (.dT []) L=some (.dT []):=upd_same
  generalize upd H L (.dT [])=H1 at u1 hL1
  have hD1:=u1 _ _ hD
  dsimp only [gName,tThaw]
  refine .inl ⟨kvs,hD1,fun o bz kz=>?_⟩
  have bl:bz.length=ks.length:=by rw [keys_len kz,rv.kz.len]
  have s0:SameT D H1 (upd H1 D (.frz o (.dT kvs))):=fun b u nb e=>by rw [upd_ne nb];exact e
  have hD0:upd H1 D (.frz o (.dT kvs)) D=some (.frz o (.dT kvs)):=upd_same
  generalize upd H1 D (.frz o (.dT kvs))=H0 at s0 hD0
  have hL0:=s0 _ _ (Ne.symm DL) hL1
  refine for_by (it_keys D o (bz.map V.ref)) (fun i σ H2=>∃ (v3 v4 v5 v6 v7:Option V) (okvs:List (List Key×V)) (oks:List Ky) (G:Ky->Nat),σ=[some (.ref a),some (.ref D),some (.ref L),v3,v4,v5,v6,v7]/\SameT L H0 H2/\H2 L=some (.dT okvs)/\RunV okvs oks G/\Ov rows F (fun x _=>x∈ks.take i) oks G)
   ⟨none,none,none,none,none,[],[],fun _=>0,rfl,SameT.refl _ _,hL0,⟨KS.nil,fun x h=>nomatch h⟩,⟨(fun x l r h=>by simp at h),(fun y h=>nomatch h),fun y h=>nomatch h⟩⟩ (fun i σ H2 _ ⟨_,_,_,_,_,_,_,_,_,s2,_⟩=>⟨_,s2 _ _ DL hD0⟩) ?_ ?_
  ·rintro i v σ H2 hi hv ⟨v3,v4,v5,v6,v7,okvs,oks,G,rfl,s2,hL2,ov,oo⟩
   rw [List.length_map,bl] at hi
   have hx:ks[i]? = some ks[i]:=List.getElem?_eq_getElem hi
   have xm:ks[i]∈ks:=List.getElem_mem hi
   have tk:ks.take (i+1)=ks.take i++[ks[i]]:=by rw [List.take_add_one,hx];rfl
   generalize ks[i]=x at hx xm tk
   obtain ⟨b0,b1,b2⟩:=keys_getG kz rv.kz hx
   have b2L:b0≠L:=ne_of b2 hL1 (fun z=>nomatch z)
   have b2:=s2 _ _ b2L (s0 _ _ (ne_of b2 hD1 (fun z=>nomatch z)) b2)
   rw [List.getElem?_map,b1] at hv
   cases hv
   have slt:=kb x xm
   obtain ⟨qx,rx,e1,e2,e3⟩:=state_at hss (s:=x.1) (st:=rows[x.1]) (List.getElem?_eq_getElem slt)
   have rl:rx.length=rows[x.1].length:=by rw [e3.length,List.length_map]
   have eg:rows.getD x.1 []=rows[x.1]:=by rw [List.getD_eq_getElem?_getD,List.getElem?_eq_getElem slt];rfl
   have ha0:=s0 _ _ (ne_of ha hD (fun z=>nomatch z)) (u1 _ _ ha)
   have hb0:=s0 _ _ (ne_of hb hD (fun z=>nomatch z)) (u1 _ _ hb)
   have e20:=s0 _ _ (ne_of e2 hD (fun z=>nomatch z)) (u1 _ _ e2)
   have aL:=ne_of_none ha hL
   have bL:=ne_of_none hb hL
   have qL:=ne_of_none e2 hL
   refine ⟨_,.inl b2,rfl,rfl,?_⟩
   refine ⟨_,gt (s2 _ _ aL ha0) (by decide) rfl,.ref qx,gl (s2 _ _ bL hb0) (by omega) (by simpa using e1),⟨_,SqL.of (s2 _ _ qL e20)⟩,?_⟩
   refine for_by (it_list _ qx rx) (fun j σ H3=>∃ (v5 v6 v7:Option V) (okvs:List (List Key×V)) (oks:List Ky) (G:Ky->Nat),σ=[some (.ref a),some (.ref D),some (.ref L),some (.int (x.1:Nat)),some (.str (bs [x.2])),v5,v6,v7]/\SameT L H0 H3/\H3 L=some (.dT okvs)/\RunV okvs oks G/\Ov rows F (fun y l=>y∈ks.take i\/(y=x/\l < j)) oks G)
    ⟨v5,v6,v7,okvs,oks,G,rfl,s2,hL2,ov,oo.cong (fun y l _ _ h=>h.elim id fun z=>absurd z.2 (Nat.not_lt_zero _)) fun y l _ _ h=>.inl h⟩ (fun j σ H3 _ ⟨_,_,_,_,_,_,_,s3,_⟩=>SqL.of (s3 _ _ qL e20)) ?_ ?_
   ·clear oo ov hL2 s2 b2
    rintro j z σ H3 hj hz ⟨v5,v6,v7,okvs,oks,G,rfl,s3,hL3,ov,oo⟩
    have hj':j < rows[x.1].length:=by omega
    obtain ⟨r,r1,r2⟩:=row_at e3 (l:=j) (r:=rows[x.1][j]) (List.getElem?_eq_getElem hj')
    rw [hz] at r1
    cases r1
    have okr:=ok.row _ (List.getElem_mem slt) _ (List.getElem_mem hj')
    have hrow:(rows.getD x.1 [])[j]? = some rows[x.1][j]:=by rw [eg];exact List.getElem?_eq_getElem hj'
    generalize rows[x.1][j]=rw0 at r2 okr hrow
    have wne:rw0.1≠[]:=fun z=>by have:=congrArg List.length z;rw [okr.1] at this;simp at this;omega
    have ym:tgt rw0∈ks:=cl x xm rw0 (List.mem_of_getElem? hrow) _
    have rL:=ne_of_none r2 hL
    have r2:=s0 _ _ (ne_of r2 hD (fun z=>nomatch z)) (u1 _ _ r2)
    refine ⟨le_line (Nat.le_of_ble_eq_true rfl),fun p hp=>?_⟩
    have z4:=Same.upd (o:=.tup [.int (x.1:Nat),.str (bs [x.2])]) hp
    refine .inr ⟨D,.int (F x:Nat),rfl,.inr ⟨kvs,hkey x,p,.inr ⟨o,z4 _ _ (s3 _ _ DL hD0)⟩,rfl,upd_same,(rv.vl x xm).symm⟩,?_⟩
    have s4:SameT L H0 (upd H3 p (.tup [.int (x.1:Nat),.str (bs [x.2])])):=fun b u nb e=>z4 _ _ (s3 _ _ nb e)
    have hL4:=z4 _ _ hL3
    generalize upd H3 p (.tup [.int (x.1:Nat),.str (bs [x.2])])=H4 at s4 hL4
    refine ⟨_,gt (s4 _ _ rL r2) (by decide) rfl,some x.2,F x,rw0.1,rfl,rfl,rfl,wne,fun p5 H5 s5 hp5 _=>?_⟩
    rw [pb_last wne] at hp5
    have s5':SameT L H0 H5:=fun b u nb e=>s5 _ _ (s4 _ _ nb e)
    have hL5:=s5 _ _ hL4
    refine ⟨_,gt (s5' _ _ rL r2) (by decide) rfl,_,gt hp5 (by decide) rfl,le_line (Nat.le_of_ble_eq_true rfl),fun pk hpk=>?_⟩
    have z6:=Same.upd (o:=.tup [.int (rw0.2:Nat),.str (sgn (some (lb rw0.1)))]) hpk
    have s6:SameT L H0 (upd H5 pk (.tup [.int (rw0.2:Nat),.str (sgn (some (lb rw0.1)))])):=fun b u nb e=>z6 _ _ (s5' _ _ nb e)
    have hL6:=z6 _ _ hL5
    have hp6:=z6 _ _ hp5
    have hk6:upd H5 pk (.tup [.int (rw0.2:Nat),.str (sgn (some (lb rw0.1)))]) pk=some (.tup ((hkey (tgt rw0)).map kV)):=upd_same
    generalize upd H5 pk (.tup [.int (rw0.2:Nat),.str (sgn (some (lb rw0.1)))])=H6 at s6 hL6 hp6 hk6
    dsimp only [gName]
    refine ⟨_,gt hp6 (by decide) rfl,L,rfl,.inr ⟨okvs,.inl hL6⟩,.inr ⟨D,.int (F (tgt rw0):Nat),rfl,.inr ⟨kvs,hkey (tgt rw0),pk,.inr ⟨o,s6 _ _ DL hD0⟩,rfl,hk6,(rv.vl _ ym).symm⟩,?_⟩⟩
    refine ⟨_,DGet.t (k:=hkey (tgt rw0)) hL6 hk6,?_⟩
    rw [ov.curV F]
    have c8:∀ (y:Ky) l,(y∈ks.take i\/(y=x/\l < j))\/(y=x/\l=j)↔(y∈ks.take i\/(y=x/\l < j+1)):=fun y l=>by
     constructor
     ·rintro ((h | ⟨h,h'⟩) | ⟨h,h'⟩)
      ·exact .inl h
      ·exact .inr ⟨h,by omega⟩
      ·exact .inr ⟨h,by omega⟩
     ·rintro (h | ⟨h,h'⟩)
      ·exact .inl (.inl h)
      ·rcases Nat.lt_succ_iff_lt_or_eq.mp h' with h' | h'
       ·exact .inl (.inr ⟨h,h'⟩)
       ·exact .inr ⟨h,h'⟩
    refine ite2 (fun big=>?_) (fun small=>?_)
    ·have big:((cur F oks G (tgt rw0):Nat):Int) < ((ctF F x rw0:Nat):Int):=of_decide_eq_true big
     have kl:oks.length<=16:=few_keys ov.kz.nd fun y hy=>by
      obtain ⟨x',l',r',_,h1,h2,_⟩:=oo.src y hy
      have:y∈ks:=by
       rcases ‹_\/_› with h | ⟨h,_⟩
       ·rw [h2];exact cl x' (List.mem_of_mem_take h) r' (List.mem_of_getElem? h1) _
       ·rw [h2];exact cl x' (h ▸ xm) r' (List.mem_of_getElem? h1) _
      have:=kb y this
      omega
     refine ⟨_,gt hp6 (by decide) rfl,.inr ⟨L,_,rfl,DPut.t (k:=hkey (tgt rw0)) hL6 hk6 (lt_line (by have:=ov.kz.len;omega)),?_⟩⟩
     exact ⟨_,_,_,_,_,_,rfl,fun b u nb e=>by rw [upd_ne nb];exact s6 _ _ nb e,upd_same,ov.put (tgt rw0) (ctF F x rw0),(oo.big hrow (by omega)).cong (fun y l _ _ h=>(c8 y l).mpr h) fun y l _ _ h=>(c8 y l).mp h⟩
    ·have small:¬ ((cur F oks G (tgt rw0):Nat):Int) < ((ctF F x rw0:Nat):Int):=fun z=>small (decide_eq_true z)
     exact ⟨_,_,_,okvs,oks,G,rfl,s6,hL6,ov,(oo.small hrow (by omega)).cong (fun y l _ _ h=>(c8 y l).mpr h) fun y l _ _ h=>(c8 y l).mp h⟩
   ·rintro σ H3 ⟨v5,v6,v7,okvs,oks,G,rfl,s3,hL3,ov,oo⟩
    refine ⟨_,_,v5,v6,v7,okvs,oks,G,rfl,s3,hL3,ov,oo.cong (fun y l r hr h=>?_) fun y l r hr h=>?_⟩
    ·rw [tk] at h
     rcases List.mem_append.mp h with h | h
     ·exact .inl h
     ·have h:y=x:=by simpa using h
      subst h
      have:=(List.getElem?_eq_some_iff.mp hr).1
      rw [eg] at this
      exact .inr ⟨rfl,by omega⟩
    ·rw [tk]
     rcases h with h | ⟨h,_⟩
     ·exact List.mem_append_left _ h
     ·exact List.mem_append_right _ (by rw [h];simp)
  ·rintro σ H2 ⟨v3,v4,v5,v6,v7,okvs,oks,G,rfl,s2,hL2,ov,oo⟩
   rw [List.length_map,bl,List.take_length] at oo
   refine ⟨D,o,.dT kvs,s2 _ _ DL hD0,trivial,(fun o' u' e=>nomatch (show some (HO.dT kvs)=some (HO.frz o' u') from hD.symm.trans e)),?_⟩
   refine q L okvs oks G _ (fun b u e=>?_) hL (by rw [upd_ne (Ne.symm DL)];exact hL2) ov oo
   by_cases bD:b=D
   ·subst bD;rw [upd_same,<-hD,e]
   ·rw [upd_ne bD]
    exact s2 _ _ (ne_of_none e hL) (s0 _ _ bD (u1 _ _ e))
 ·exact h.elim
end
end K50
end
section
namespace K50
open PySem L2
section
variable {P:Program} {w:World} {K:PySem.W.Frag} {mg:Str->Option Value} {base:Heap}
theorem rch_rr {rows:Om.Rows} {s:Nat} (h:Om.Rch (Om.nxR rows) s):∃ o c,Rr rows (s,o,c):=by
 induction h with
 | z=>exact ⟨_,_,.z⟩
 | @s a b _ hb ih=>
  obtain ⟨o,c,g⟩:=ih
  obtain ⟨r,hr,rfl⟩:=List.mem_map.mp hb
  exact ⟨_,_,g.s hr⟩
theorem rr_rch {rows:Om.Rows} {x:Nd} (h:Rr rows x):Om.Rch (Om.nxR rows) x.1:=by
 induction h with
 | z=>exact .z
 | @s x r _ hr ih=>exact .s ih (List.mem_map.mpr ⟨r,hr,rfl⟩)
theorem valV_none {kvs:List (List Key×V)} {k:List Key} (h:k ∉ kvs.map (·.1)):valV kvs k=none:=by
 induction kvs with
 | nil=>rfl
 | cons p r ih=>
  rw [List.map_cons,List.mem_cons,not_or] at h
  rw [valV_neg (fun z=>h.1 z.symm)]
  exact ih h.2
theorem updT_val:∀ {more kvs:List (List Key×V)} (k:List Key),(more.map (·.1)).Nodup->valV (updT kvs more) k=(valV more k).or (valV kvs k)
 | [],kvs,k,_=>rfl
 | p :: ps,kvs,k,nd=>by
  rw [List.map_cons,List.nodup_cons] at nd
  show valV (updT (putK kvs p.1 p.2) ps) k=_
  rw [updT_val k nd.2,valV_put]
  by_cases e:k=p.1
  ·subst e
   rw [if_pos rfl,valV_pos rfl,valV_none nd.1];rfl
  ·rw [if_neg e,valV_neg (fun z=>e z.symm)]
theorem RunV.upd {kvs okvs:List (List Key×V)} {ks oks:List Ky} {F G:Ky->Nat} (h:RunV kvs ks F) (h':RunV okvs oks G) (sub:∀ y∈oks,y∈ks):RunV (updT kvs okvs) ks (cur F oks G):=by
 have hk:∀ p∈okvs,p.1∈kvs.map (·.1):=fun p hp=>by
  have:p.1∈okvs.map (·.1):=List.mem_map.mpr ⟨p,hp,rfl⟩
  rw [h'.kz.ks] at this
  obtain ⟨y,hy,e⟩:=List.mem_map.mp this
  rw [h.kz.ks,<-e]
  exact List.mem_map.mpr ⟨y,sub y hy,rfl⟩
 refine ⟨⟨by rw [updT_len hk];exact h.kz.ks,h.kz.nd⟩,fun x hx=>?_⟩
 have ndk:(okvs.map (·.1)).Nodup:=by
  rw [h'.kz.ks]
  exact Om.nodup_on (fun a _ b _ e=>hkey_inj a b e) h'.kz.nd
 rw [updT_val _ ndk]
 unfold cur
 by_cases m:x∈oks
 ·rw [if_pos m,h'.vl x m];rfl
 ·rw [if_neg m,valV_none (fun z=>m ?_),h.vl x hx]
  ·rfl
  ·rw [h'.kz.ks] at z
   obtain ⟨y,hy,e⟩:=List.mem_map.mp z
   exact hkey_inj _ _ e ▸ hy
def Snd (rows:Om.Rows) (ks:List Ky) (F:Ky->Nat):Prop:=∀ x∈ks,F x=0\/∃ c,Rr rows (x.1,some x.2,c)/\F x<=c
theorem Snd.step {rows:Om.Rows} {ks oks:List Ky} {F G:Ky->Nat} (h:Snd rows ks F) (rr:∀ x∈ks,∃ o c,Rr rows (x.1,o,c)) (wne:∀ x∈ks,∀ r∈rows.getD x.1 [],r.1≠[]) (ov:Ov rows F (fun x _=>x∈ks) oks G):Snd rows ks (cur F oks G):=by
 intro y hy
 unfold cur
 by_cases m:y∈oks
 ·rw [if_pos m]
  obtain ⟨x,l,r,hx,hr,rfl,e⟩:=ov.src y m
  have hr:=List.mem_of_getElem? hr
  have hw:=wne x hx r hr
  right
  rw [e]
  have key:∀ o c,Rr rows (x.1,o,c)->Le (some x.2) (F x) o c->F x<=c->∃ c',Rr rows ((tgt r).1,some (tgt r).2,c')/\ctF F x r<=c':=fun o c g le lc=>by
   refine ⟨(pb o c r.1).2.1,?_,(pb_mono hw le lc).1⟩
   have:=g.s (r:=r) hr
   unfold nxt at this
   dsimp only at this
   rw [pb_last hw] at this
   exact this
  rcases h x hx with z | ⟨c,g,lc⟩
  ·obtain ⟨o,c,g⟩:=rr x hx
   exact key o c g (.inr z) (by omega)
  ·exact key _ c g (.inl ⟨rfl,lc⟩) lc
 ·rw [if_neg m]
  exact h y hy
def msr (B:Nat) (ks:List Ky) (F:Ky->Nat):Nat:=(ks.map fun x=>B - F x).sum
theorem msr_le {B:Nat} {F G:Ky->Nat}:∀ {ks:List Ky},(∀ x∈ks,F x<=G x)->msr B ks G<=msr B ks F
 | [],_=>Nat.le_refl _
 | x :: ks,h=>by
  have h1:=h x List.mem_cons_self
  have:=msr_le (B:=B) (F:=F) (G:=G) (ks:=ks) fun y hy=>h y (List.mem_cons_of_mem _ hy)
  unfold msr at *
  rw [List.map_cons,List.map_cons,List.sum_cons,List.sum_cons]
  omega
theorem msr_lt {B:Nat} {F G:Ky->Nat}:∀ {ks:List Ky},(∀ x∈ks,F x<=G x)->(∃ y∈ks,F y < G y/\F y < B)->msr B ks G < msr B ks F
 | [],_,⟨_,h,_⟩=>nomatch h
 | x :: ks,h,⟨y,hy,h1,h2⟩=>by
  have h3:=h x List.mem_cons_self
  have h4:∀ y∈ks,F y<=G y:=fun y hy=>h y (List.mem_cons_of_mem _ hy)
  rcases List.mem_cons.mp hy with e | hy
  ·subst e
   have:=msr_le (B:=B) h4
   unfold msr at *
   rw [List.map_cons,List.map_cons,List.sum_cons,List.sum_cons]
   omega
  ·have:=msr_lt (B:=B) h4 ⟨y,hy,h1,h2⟩
   unfold msr at *
   rw [List.map_cons,List.map_cons,List.sum_cons,List.sum_cons]
   omega
theorem cur_le {rows:Om.Rows} {F G:Ky->Nat} {S:Ky->Nat->Prop} {oks:List Ky} (h:Ov rows F S oks G) (y:Ky):F y<=cur F oks G y:=by
 unfold cur
 split
 ·rename_i m
  exact Nat.le_of_lt (h.up y m)
 ·exact Nat.le_refl _
theorem tab_but {P0 D:Addr} {pos:Pos} {q:Str} {H H':Hp} {kvs:List (List Key×V)} (t:Tab P0 pos q H) (hD:H D=some (.dT kvs)) (s:SameT D H H'):Tab P0 pos q H':=by
 rcases t with z | ⟨c,z1,z2⟩
 ·exact .inl (s _ _ (ne_of z hD (fun y=>nomatch y)) z)
 ·exact .inr ⟨c,s _ _ (ne_of z1 hD (fun y=>nomatch y)) z1,s _ _ (ne_of z2 hD (fun y=>nomatch y)) z2⟩
theorem take_adds {ks:List Ky} {i:Nat} {x:Ky} (nd:ks.Nodup) (h:ks[i]? = some x):Om.adds (ks.take i) x=ks.take (i+1):=by
 have hx:x ∉ ks.take i:=fun m=>by
  have hd:x∈ks.drop i:=by
   have:=List.mem_of_getElem? (l:=ks.drop i) (i:=0) (a:=x) (by rw [List.getElem?_drop];exact h)
   exact this
  rw [<-List.take_append_drop i ks] at nd
  exact (List.nodup_append.mp nd).2.2 x m x hd rfl
 unfold Om.adds
 rw [if_neg hx,List.take_add_one,h];rfl
abbrev sGR:Stmt:=top 17
def spGR (P0:Addr):Sp:=fun vs H Q _=>match vs with
 | [cv]=>∃ (n:Nat) (rows:Om.Rows),DV H cv (codeD 0 0 rows)/\WOk n rows/\Tab P0 (lamPos lamSt) qSt H/\(∀ x,Rr rows x->x.2.2 < n * rows.length) ∧
   ∀ D kvs qs F H',SameT P0 H H'->Tab P0 (lamPos lamSt) qSt H'->H D=none->H' D=some (.dT kvs)->RchL rows qs->RunV kvs (keysOf qs) F->Snd rows (keysOf qs) F->(∀ x∈keysOf qs,∀ r∈rows.getD x.1 [],ctF F x r<=F (tgt r))->Q (.ref D) H'
 | _=>False
theorem scGR:FnScope ["code","runs","key","over"] ["code"] (defScope sGR):=⟨rfl,rfl,rfl,by decide +kernel,rfl,by decide +kernel,by decide +kernel⟩
local macro_rules | `(tactic| walk_at "T.e")=>`(tactic| first | (with_reducible exact pe_dnewT) | ((with_reducible refine' m_updT ?a0 ?a1 ?a2);(case a0=>exact Room.units (by assumption));(case a1=>with_reducible exact vn "runs" 1);(case a2=>walk_at "T.a")) | fail "no")
local macro_rules | `(tactic| walk_at "T.t")=>`(tactic| ((with_reducible refine' t_truD ?a1);(case a1=>with_reducible exact vn "over" 3)))
local macro_rules | `(tactic| walk_at "T.g")=>`(tactic| ((with_reducible refine' g_subD ?a0 ?a1 ?a2);(case a0=>exact Room.units (by assumption));(case a1=>with_reducible exact vn "runs" 1);(case a2=>walk_at "T.e")))
theorem ok_gr {P0:Addr} (D:FnX K mg "greatest_runs" sGR ["code"]) (c1:Can P w K mg base "paper_keys" 5 ["code"] (spKeys P0)) (c2:Can P w K mg base "runs_over" 2 ["code","runs"] spOver):Can P w K mg base "greatest_runs" 6 ["code"] (spGR P0):=by
 refine can_fn (k:=5) D scGR (fun vs H Q E h=>?_) (fun f0 cdv A outer s H vs Q X hr h=>?_)
 all_goals
  unfold spGR at h
  split at h
 ·rfl
 ·exact h.elim
 ·rename_i cv
  obtain ⟨n,rows,hc,ok,tb,bd,q⟩:=h
  have nd:=scGR.nd
  have n1:=ok.n1
  have s1':=ok.s1
  obtain ⟨B,hB⟩ : ∃ B,B=n * rows.length:=⟨_,rfl⟩
  have B1:1<=B:=by rw [hB];exact Nat.mul_pos n1 s1'
  rw [<-hB] at bd
  refine ⟨_,(by walk_at "T.top"),?_⟩
  intro D hD
  have z0:=Same.upd (o:=.dT []) hD
  have hD0:upd H D (.dT []) D=some (.dT []):=upd_same
  have DP:D≠P0:=fun z=>by obtain ⟨ps,e⟩:=tb.tbl;rw [z,e] at hD;cases hD
  have t0:=tb.mono z0
  have hc0:=hc.mono z0
  generalize upd H D (.dT [])=H0 at z0 hD0 t0 hc0
  dsimp only [gName]
  refine ⟨n,rows,hc0,ok,t0,fun l bz qs H1 s1 t1 hl rc kl=>?_⟩
  have hD1:=s1 _ _ DP hD0
  have S1:SameT P0 H H1:=z0.t.trans s1
  obtain ⟨ks,hks⟩ : ∃ ks,ks=keysOf qs:=⟨_,rfl⟩
  have mk:∀ {x:Ky},x∈ks↔Om.Rch (Om.nxR rows) x.1:=fun {x}=>by rw [hks];exact mem_keysOf.trans (rc.2.1 _)
  have ndk:ks.Nodup:=by
   rw [hks]
   exact keysOf_nd (rc.1.imp fun h=>Nat.ne_of_lt h)
  have kl16:ks.length<=16:=by rw [hks,keysOf_len];have:=rc.2.2;omega
  have kb:∀ x∈ks,x.1 < rows.length:=fun x hx=>rch_okW ok _ (mk.mp hx)
  have cl:∀ x∈ks,∀ r∈rows.getD x.1 [],∀ b,((r.2,b):Ky)∈ks:=fun x hx r hr b=>mk.mpr (.s (mk.mp hx) (List.mem_map.mpr ⟨r,hr,rfl⟩))
  have wne:∀ x∈ks,∀ r∈rows.getD x.1 [],r.1≠[]:=fun x hx r hr z=>by
   have slt:=kb x hx
   rw [List.getD_eq_getElem?_getD,List.getElem?_eq_getElem slt] at hr
   have okr:=ok.row _ (List.getElem_mem slt) _ hr
   have:=congrArg List.length z
   rw [okr.1] at this
   simp at this
   omega
  rw [<-hks] at kl
  refine ⟨⟨_,SqL.of hl⟩,?_⟩
  have lD:l≠D:=ne_of hl hD1 (fun z=>nomatch z)
  refine for_by (it_list _ l bz) (fun i σ H2=>∃ (v2 v3:Option V) (kvs:List (List Key×V)),σ=[some cv,some (.ref D),v2,v3]/\SameT D H1 H2/\H2 D=some (.dT kvs)/\RunV kvs (ks.take i) (fun _=>0))
   ⟨none,none,[],rfl,SameT.refl _ _,hD1,⟨by simpa using KS.nil,fun x h=>by simp at h⟩⟩ (fun i σ H2 _ ⟨_,_,_,_,s2,_⟩=>SqL.of (s2 _ _ lD hl)) ?_ ?_
  ·rintro i x σ H2 hi hx ⟨v2,v3,kvs,rfl,s2,hD2,rv⟩
   have hi':i < ks.length:=by rw [<-kl.1];exact hi
   obtain ⟨b,b1,b2⟩:=kl.2 i ks[i] (List.getElem?_eq_getElem hi')
   have ta:=take_adds ndk (List.getElem?_eq_getElem hi')
   rw [hx] at b1
   cases b1
   have b2:=s2 _ _ (ne_of b2 hD1 (fun z=>nomatch z)) b2
   generalize ks[i]=y at b2 ta
   refine .inr ⟨D,_,rfl,DPut.t (k:=hkey y) hD2 b2 (lt_line (by have:=rv.kz.len;rw [List.length_take] at this;omega)),?_⟩
   have rp:=rv.put y 0
   rw [ta] at rp
   exact ⟨_,v3,_,rfl,fun b u nb e=>by rw [upd_ne nb];exact s2 _ _ nb e,upd_same,⟨rp.kz,fun x hx=>by have:=rp.vl x hx;simpa using this⟩⟩
  ·rintro σ H2 ⟨v2,v3,kvs,rfl,s2,hD2,rv⟩
   rw [kl.1,List.take_length] at rv
   have S2:SameT P0 H H2:=fun b u nb e=>s2 _ _ (ne_of_none e hD) (S1 _ _ nb e)
   have t2:=tab_but t1 hD1 s2
   clear s2 hD1 hl t1 S1 s1 kl lD
   refine ⟨n,rows,kvs,ks,fun _=>0,hc.monoT tb S2,ok,hD2,rv,kb,cl,fun L okvs oks G H3 s3 nL hL ov oo=>?_⟩
   have DL:D≠L:=ne_of_none hD2 nL
   refine ⟨fun mm σ H2=>∃ (kvs:List (List Key×V)) (F:Ky->Nat) (L:Addr) (okvs:List (List Key×V)) (oks:List Ky) (G:Ky->Nat),σ=[some cv,some (.ref D),v2,some (.ref L)]/\SameT P0 H H2/\Tab P0 (lamPos lamSt) qSt H2/\H2 D=some (.dT kvs)/\RunV kvs ks F/\Snd rows ks F/\D≠L/\H2 L=some (.dT okvs)/\RunV okvs oks G/\Ov rows F (fun x _=>x∈ks) oks G/\mm=msr B ks F,
    ⟨_,kvs,fun _=>0,L,okvs,oks,G,rfl,S2.trans s3.t,t2.mono s3,s3 _ _ hD2,rv,fun x _=>.inl rfl,DL,hL,ov,oo,rfl⟩,?_⟩
   clear S2 t2 hD2 rv s3 nL hL ov oo DL
   rintro mm σ H2 ⟨kvs,F,L,okvs,oks,G,rfl,S2,t2,hD2,rv,sd,DL,hL,ov,oo,rfl⟩
   have sub:∀ y∈oks,y∈ks:=fun y hy=>by
    obtain ⟨x,l,r,hx,hr,rfl,_⟩:=oo.src y hy
    exact cl x hx r (List.mem_of_getElem? hr) _
   have Fb:∀ x∈ks,F x < B:=fun x hx=>by
    rcases sd x hx with z | ⟨c,g,le⟩
    ·omega
    ·have:c < B:=bd _ g
     omega
   refine .inr (.inr ⟨okvs,.inl hL,?_⟩)
   refine ite2 (fun c=>?_) (fun c=>?_)
   ·have one:oks≠[]:=fun z=>by
     have h:=ov.kz.len
     rw [z] at h
     have h:okvs=[]:=List.length_eq_zero_iff.mp h
     rw [h] at c
     cases c
    obtain ⟨y,hy⟩:=List.exists_mem_of_ne_nil _ one
    refine ⟨fun σ' H'=>∃ (kvs:List (List Key×V)) (L:Addr) (okvs:List (List Key×V)) (oks':List Ky) (G':Ky->Nat),σ'=[some cv,some (.ref D),v2,some (.ref L)]/\SameT P0 H H'/\Tab P0 (lamPos lamSt) qSt H'/\H' D=some (.dT kvs)/\RunV kvs ks (cur F oks G)/\D≠L/\H' L=some (.dT okvs)/\RunV okvs oks' G'/\Ov rows (cur F oks G) (fun x _=>x∈ks) oks' G',?_,?_⟩
    ·rintro σ' H' ⟨kvs,L,okvs,oks',G',rfl,S',t',hD',rv',DL',hL',ov',oo'⟩
     refine ⟨msr B ks (cur F oks G),msr_lt (fun x _=>cur_le oo x) ⟨y,sub y hy,?_,Fb y (sub y hy)⟩,kvs,cur F oks G,L,okvs,oks',G',rfl,S',t',hD',rv',sd.step (fun x hx=>rch_rr (mk.mp hx)) wne oo,DL',hL',ov',oo',rfl⟩
     unfold cur
     rw [if_pos hy]
     exact oo.up y hy
    ·have kne:kvs≠[]:=fun z=>by
      have h:=rv.kz.len
      rw [z] at h
      have h:ks=[]:=List.length_eq_zero_iff.mp h.symm
      have:=sub y hy
      rw [h] at this
      cases this
     have hin:∀ p∈okvs,p.1∈kvs.map (·.1):=fun p hp=>by
      have:p.1∈okvs.map (·.1):=List.mem_map.mpr ⟨p,hp,rfl⟩
      rw [ov.kz.ks] at this
      obtain ⟨z,hz,e⟩:=List.mem_map.mp this
      rw [rv.kz.ks,<-e]
      exact List.mem_map.mpr ⟨z,sub z hz,rfl⟩
     refine ⟨.inr (.inr (.inl ⟨rfl,.inr ⟨_,hD2⟩⟩)),D,L,kvs,okvs,rfl,rfl,DL,hD2,.inl hL,kne,hin,?_⟩
     have s4:SameT D H2 (upd H2 D (.dT (updT kvs okvs))):=fun b u nb e=>by rw [upd_ne nb];exact e
     have hD4:upd H2 D (.dT (updT kvs okvs)) D=some (.dT (updT kvs okvs)):=upd_same
     generalize upd H2 D (.dT (updT kvs okvs))=H4 at s4 hD4
     have S4:SameT P0 H H4:=fun b u nb e=>s4 _ _ (ne_of_none e hD) (S2 _ _ nb e)
     have t4:=tab_but t2 hD2 s4
     have rv4:=rv.upd ov sub
     refine ⟨n,rows,updT kvs okvs,ks,cur F oks G,hc.monoT tb S4,ok,hD4,rv4,kb,cl,fun L' okvs' oks' G' H5 s5 nL' hL' ov' oo'=>?_⟩
     exact ⟨_,L',okvs',oks',G',rfl,S4.trans s5.t,t4.mono s5,s5 _ _ hD4,rv4,ne_of_none hD4 nL',hL',ov',oo'⟩
   ·have on:oks=[]:=by
     have h:okvs=[]:=by
      cases okvs with
      | nil=>rfl
      | cons _ _=>exact absurd rfl c
     have:=ov.kz.len
     rw [h] at this
     exact List.length_eq_zero_iff.mp this.symm
    subst on
    subst hks
    refine q D kvs qs F _ S2 t2 hD hD2 rc rv sd fun x hx r hr=>?_
    obtain ⟨l,hl⟩:=List.mem_iff_getElem?.mp hr
    have:=oo.all x l r hx hl
    unfold cur at this
    rwa [if_neg (fun z=>nomatch z)] at this
 ·exact h.elim
end
end K50
end
section
namespace K50
open PySem L2
theorem Lv.cat {E:Nat->Nat->Prop} {a:Nat} {s t:Nat} (h:Lv E [s] a t):∀ {b u:Nat},Lv E [t] b u->Lv E [s] (a+b) u
 | 0,u,h'=>by
  have:u=t:=by simpa [Lv] using h'
  subst this
  exact h
 | b+1,u,⟨v,h1,h2⟩=>⟨v,h.cat h1,h2⟩
theorem Lv.many {E:Nat->Nat->Prop} {d s:Nat} (h:Lv E [s] d s):∀ q,Lv E [s] (d * q) s
 | 0=>List.mem_singleton.mpr rfl
 | q+1=>by rw [Nat.mul_succ];exact (h.many q).cat h
theorem Lv.path {E:Nat->Nat->Prop} {qs:List Nat}:∀ {m t:Nat},Lv E qs m t->∃ f:Nat->Nat,f m=t/\f 0∈qs/\∀ i,i < m->E (f i) (f (i+1))
 | 0,t,h=>⟨fun _=>t,rfl,h,fun i hi=>absurd hi (Nat.not_lt_zero _)⟩
 | m+1,t,⟨s,h1,h2⟩=>by
  obtain ⟨f,f1,f2,f3⟩:=h1.path
  refine ⟨fun i=>if i<=m then f i else t,?_,?_,fun i hi=>?_⟩
  ·show (if m+1<=m then _ else _)=_
   rw [if_neg (by omega)]
  ·show (if 0<=m then _ else _)∈qs
   rw [if_pos (by omega)]
   exact f2
  ·show E (if i<=m then f i else t) (if i+1<=m then f (i+1) else t)
   rw [if_pos (by omega)]
   by_cases c:i+1<=m
   ·rw [if_pos c]
    exact f3 i (by omega)
   ·rw [if_neg c,show i=m by omega,f1]
    exact h2
theorem Lv.round {E:Nat->Nat->Prop} {qs:List Nat} {m t:Nat} (h:Lv E qs m t) (hm:qs.length<=m) (cl:∀ s t,s∈qs->E s t->t∈qs):∃ s∈qs,∃ d,1<=d/\Lv E [s] d s:=by
 obtain ⟨f,f1,f2,f3⟩:=h.path
 have fq:∀ i,i<=m->f i∈qs:=fun i=>by
  induction i with
  | zero=>exact fun _=>f2
  | succ i ih=>exact fun hi=>cl _ _ (ih (by omega)) (f3 i (by omega))
 have two:∃ i j,i < j/\j<=m/\f i=f j:=by
  refine Classical.byContradiction fun z=>?_
  have nd:((List.range (m+1)).map f).Nodup:=Om.nodup_on (fun a ha b hb e=>by
   rw [List.mem_range] at ha hb
   refine Classical.byContradiction fun ne=>?_
   rcases Nat.lt_or_gt_of_ne ne with l | l
   ·exact z ⟨a,b,l,by omega,e⟩
   ·exact z ⟨b,a,l,by omega,e.symm⟩) List.nodup_range
  have:=nodup_sub nd fun x hx=>by
   obtain ⟨i,hi,rfl⟩:=List.mem_map.mp hx
   rw [List.mem_range] at hi
   exact fq i (by omega)
  rw [List.length_map,List.length_range] at this
  omega
 obtain ⟨i,j,ij,jm,e⟩:=two
 have go:∀ d,i+d<=m->Lv E [f i] d (f (i+d)):=fun d=>by
  induction d with
  | zero=>exact fun _=>List.mem_singleton.mpr rfl
  | succ d ih=>exact fun hd=>⟨_,ih (by omega),f3 (i+d) (by omega)⟩
 refine ⟨f i,fq i (by omega),j - i,by omega,?_⟩
 have:=go (j - i) (by omega)
 rwa [show i+(j - i)=j by omega,<-e] at this
theorem none_zero {rows:Om.Rows} {x:Nd} (wne:∀ s,Om.Rch (Om.nxR rows) s->∀ r∈rows.getD s [],r.1≠[]) (h:Rr rows x):x.2.1=none->x.2.2=0:=by
 cases h with
 | z=>exact fun _=>rfl
 | @s x r g hr=>
  intro e
  have:=pb_last (wne _ (rr_rch g) r hr) x.2.1 x.2.2
  rw [show (nxt x r).2.1=(pb x.2.1 x.2.2 r.1).1 from rfl,this] at e
  cases e
theorem ed_len {rows:Om.Rows} {n:Nat} (ok:WOk n rows) {s:Nat} (hs:Om.Rch (Om.nxR rows) s) {r:List Bool×Nat} (hr:r∈rows.getD s []):r.1.length=n/\r.1≠[]:=by
 have slt:=rch_okW ok _ hs
 rw [List.getD_eq_getElem?_getD,List.getElem?_eq_getElem slt] at hr
 have okr:=ok.row _ (List.getElem_mem slt) _ hr
 refine ⟨okr.1,fun z=>?_⟩
 have h1:=okr.1
 rw [z] at h1
 have:=ok.n1
 simp at h1
 omega
theorem run_walk {rows:Om.Rows} {n:Nat} (ok:WOk n rows) {qs:List Nat} (rc:RchL rows qs) {x:Nd} (h:Rr rows x):∀ j b,x.2.1=some b->n * j<=x.2.2->Lv (Ed rows b) qs j x.1:=by
 induction h with
 | z=>exact fun j b e=>nomatch e
 | @s x r g hr ih=>
  intro j b e le
  obtain ⟨wl,wne⟩:=ed_len ok (rr_rch g) hr
  cases j with
  | zero=>exact (rc.2.1 _).mpr (.s (rr_rch g) (List.mem_map.mpr ⟨r,hr,rfl⟩))
  | succ i=>
   have le:n * (i+1)<=(pb x.2.1 x.2.2 r.1).2.1:=le
   rw [Nat.mul_succ] at le
   obtain ⟨b',b1,b2,b3⟩:=pbs_all (o:=x.2.1) (c:=x.2.2) (p:=x.2.2) wne (by rw [wl];exact Nat.le_trans (Nat.le_add_left _ _) le)
   have e:(pbs x.2.1 x.2.2 x.2.2 r.1).1=some b:=e
   rw [b2] at e
   cases e
   have le:n * i+n<=(pbs x.2.1 x.2.2 x.2.2 r.1).2.1:=le
   rw [b3,wl] at le
   refine ⟨x.1,?_,r,hr,rfl,b1⟩
   by_cases c:x.2.1=some b
   ·rw [if_pos c] at le
    exact ih i b c (by omega)
   ·rw [if_neg c] at le
    have z:n * i=0:=by omega
    have:=ok.n1
    have i0:i=0:=by
     rcases Nat.mul_eq_zero.mp z with h | h
     ·omega
     ·exact h
    subst i0
    exact (rc.2.1 _).mpr (rr_rch g)
theorem walk_run {rows:Om.Rows} {n:Nat} (ok:WOk n rows) {s:Nat} {b:Bool} (h0:∃ o c,Rr rows (s,o,c)):∀ {j t:Nat},Lv (Ed rows b) [s] j t->j=0\/∃ c,Rr rows (t,some b,c)/\n * j<=c
 | 0,_,_=>.inl rfl
 | j+1,t,⟨s',h1,r,hr,e,all⟩=>by
  subst e
  right
  have key:∀ o c,Rr rows (s',o,c)->n * j<=c->(j=0\/o=some b)->∃ c',Rr rows (r.2,some b,c')/\n * (j+1)<=c':=fun o c g le z=>by
   obtain ⟨wl,wne⟩:=ed_len ok (rr_rch g) hr
   have sm:=pbs_same all (c:=0) (p:=0)
   have lbb:lb r.1=b:=by
    have:=pb_last wne (some b) 0
    rw [show (pb (some b) 0 r.1).1=some b from sm.2] at this
    exact (Option.some.inj this).symm
   have gn:=g.s (r:=r) hr
   unfold nxt at gn
   dsimp only at gn
   rw [pb_last wne,lbb] at gn
   refine ⟨_,gn,?_⟩
   rcases z with z | z
   ·subst z
    have h1:=(pb_mono wne (o:=some b) (c:=0) (o':=o) (c':=c) (.inr rfl) (Nat.zero_le _)).1
    have h2:(pb (some b) 0 r.1).2.1=0+r.1.length:=sm.1
    rw [h2,wl] at h1
    omega
   ·subst z
    have h2:(pb (some b) c r.1).2.1=c+r.1.length:=(pbs_same all (c:=c) (p:=c)).1
    rw [h2,wl,Nat.mul_succ]
    omega
  rcases walk_run ok h0 h1 with z | ⟨c,g,le⟩
  ·subst z
   have:s'=s:=by simpa [Lv] using h1
   subst this
   obtain ⟨o,c,g⟩:=h0
   exact key o c g (by omega) (.inl rfl)
  ·exact key _ c g le (.inr rfl)
theorem no_long {rows:Om.Rows} {n:Nat} (ok:WOk n rows) {qs:List Nat} (rc:RchL rows qs) (h:∀ b t,¬ Lv (Ed rows b) qs qs.length t):∀ x,Rr rows x->x.2.2 < n * rows.length:=fun x g=>by
 refine Classical.byContradiction fun z=>?_
 have z:n * rows.length<=x.2.2:=by omega
 have ql:qs.length<=rows.length:=Om.nodup_len _ _ (rc.1.imp fun h=>Nat.ne_of_lt h) fun s hs=>rch_okW ok _ ((rc.2.1 s).mp hs)
 have:=Nat.mul_le_mul_left n ql
 have pos:0 < n * rows.length:=Nat.mul_pos ok.n1 ok.s1
 cases e:x.2.1 with
 | none=>
  have:=none_zero (fun s hs r hr=>(ed_len ok hs hr).2) g e
  omega
 | some b=>exact h b x.1 (run_walk ok rc g _ b e (by omega))
theorem long_run {rows:Om.Rows} {n:Nat} (ok:WOk n rows) {qs:List Nat} (rc:RchL rows qs) (h:∃ b t,Lv (Ed rows b) qs qs.length t):∃ x,Rr rows x/\n * rows.length<=x.2.2:=by
 obtain ⟨b,t,h⟩:=h
 obtain ⟨s,hs,d,d1,hd⟩:=h.round (Nat.le_refl _) fun s t hs ⟨r,hr,e,_⟩=>(rc.2.1 t).mpr (.s ((rc.2.1 s).mp hs) (List.mem_map.mpr ⟨r,hr,e⟩))
 have s1:=ok.s1
 rcases walk_run ok (rch_rr ((rc.2.1 s).mp hs)) (hd.many rows.length) with z | ⟨c,g,le⟩
 ·rcases Nat.mul_eq_zero.mp z with h | h<;>omega
 ·refine ⟨_,g,Nat.le_trans (Nat.mul_le_mul_left n ?_) le⟩
  have:=Nat.mul_le_mul_right rows.length d1
  omega
theorem over_all {rows:Om.Rows} {n:Nat} (ok:WOk n rows) {F:Ky->Nat} (fx:∀ x:Ky,Om.Rch (Om.nxR rows) x.1->∀ r∈rows.getD x.1 [],ctF F x r<=F (tgt r)) {x:Nd} (h:Rr rows x):∃ b,Le x.2.1 x.2.2 (some b) (F (x.1,b))/\x.2.2<=F (x.1,b)/\(x.2.1=none\/x.2.1=some b):=by
 induction h with
 | z=>exact ⟨false,.inr rfl,Nat.zero_le _,.inl rfl⟩
 | @s x r g hr ih=>
  obtain ⟨b,l1,l2,_⟩:=ih
  obtain ⟨_,wne⟩:=ed_len ok (rr_rch g) hr
  have h1:=(pb_mono wne l1 l2).1
  have h2:=fx (x.1,b) (rr_rch g) r hr
  have h3:(nxt x r).2.2<=F ((nxt x r).1,lb r.1):=Nat.le_trans h1 h2
  have h4:(nxt x r).2.1=some (lb r.1):=pb_last wne _ _
  exact ⟨lb r.1,.inl ⟨h4,h3⟩,h3,.inr h4⟩
theorem peak_most {rows:Om.Rows} {n:Nat} (ok:WOk n rows) {qs:List Nat} (rc:RchL rows qs) {F:Ky->Nat} {m B:Nat} (bd:∀ x,Rr rows x->x.2.2 < B) (sd:Snd rows (keysOf qs) F) (fx:∀ x∈keysOf qs,∀ r∈rows.getD x.1 [],ctF F x r<=F (tgt r)) (pk:Pk rows F (fun x _=>x∈keysOf qs) m):Mo rows B m:=by
 have mk:∀ {x:Ky},x∈keysOf qs↔Om.Rch (Om.nxR rows) x.1:=fun {x}=>mem_keysOf.trans (rc.2.1 _)
 have all:∀ x r,Rr rows x->r∈rows.getD x.1 []->topN x r<=m:=fun x r g hr=>by
  obtain ⟨b,l1,l2,_⟩:=over_all ok (fun x hx=>fx x (mk.mpr hx)) g
  obtain ⟨_,wne⟩:=ed_len ok (rr_rch g) hr
  obtain ⟨l,hl⟩:=List.mem_iff_getElem?.mp hr
  exact Nat.le_trans (pb_mono wne l1 l2).2 (pk.all (x.1,b) l r (mk.mpr (rr_rch g)) hl)
 refine ⟨bd,all,?_⟩
 rcases pk.src with z | ⟨x,l,r,hx,hl,e⟩
 ·exact .inl z
 ·have hr:=List.mem_of_getElem? hl
  have hR:=mk.mp hx
  obtain ⟨_,wne⟩:=ed_len ok hR hr
  right
  have key:∀ o c,Rr rows (x.1,o,c)->Le (some x.2) (F x) o c->F x<=c->∃ x r,Rr rows x/\r∈rows.getD x.1 []/\m=topN x r:=fun o c g l1 l2=>by
   refine ⟨(x.1,o,c),r,g,hr,?_⟩
   have h1:=all _ _ g hr
   have h2:tpF F x r<=topN (x.1,o,c) r:=(pb_mono wne l1 l2).2
   omega
  rcases sd x hx with z | ⟨c,g,le⟩
  ·obtain ⟨o,c,g⟩:=rch_rr hR
   exact key o c g (.inr z) (by omega)
  ·exact key _ c g (.inl ⟨rfl,le⟩) le
end K50
end
section
namespace K50
open PySem L2
section
variable {P:Program} {w:World} {K:PySem.W.Frag} {mg:Str->Option Value} {base:Heap}
abbrev sStill:Stmt:=top 12
def spStill (P0:Addr):Sp:=fun vs H Q _=>match vs with
 | [cv]=>∃ (n:Nat) (rows:Om.Rows),DV H cv (codeD 0 0 rows)/\WOk n rows/\Tab P0 (lamPos lamSt) qSt H ∧
   (∀ H',SameT P0 H H'->Tab P0 (lamPos lamSt) qSt H'->(∃ x,Rr rows x/\n * rows.length<=x.2.2)->Q .non H') ∧
   ∀ (most:Nat) H',SameT P0 H H'->Tab P0 (lamPos lamSt) qSt H'->Mo rows (n * rows.length) most->Q (.int (most:Nat)) H'
 | _=>False
theorem scStill:FnScope ["code"] ["code"] (defScope sStill):=⟨rfl,rfl,rfl,by decide +kernel,rfl,by decide +kernel,by decide +kernel⟩
theorem ok_still {P0:Addr} (D:FnX K mg "still" sStill ["code"]) (c1:Can P w K mg base "standing_loop" 5 ["code"] (spStand P0)) (c2:Can P w K mg base "greatest_peak" 2 ["code","runs"] spPeak) (c3:Can P w K mg base "greatest_runs" 6 ["code"] (spGR P0)):Can P w K mg base "still" 7 ["code"] (spStill P0):=by
 refine can_fn (k:=6) D scStill (fun vs H Q E h=>?_) (fun f0 cdv A outer s H vs Q X hr h=>?_)
 all_goals
  unfold spStill at h
  split at h
 ·rfl
 ·exact h.elim
 ·rename_i cv
  obtain ⟨n,rows,hc,ok,tb,qn,qt⟩:=h
  have nd:=scStill.nd
  refine ⟨_,(by walk_at "T.top"),?_⟩
  refine ⟨n,rows,hc,ok,tb,fun qs H1 s1 t1 rc no=>?_,fun p qs H1 s1 t1 rc yes=>?_⟩
  ·refine ⟨n,rows,hc.monoT tb s1,ok,t1,no_long ok rc no,fun D kvs qs' F H2 s2 t2 nD hD rc' rv sd fx=>?_⟩
   have qe:=rc'.uniq rc
   subst qe
   have S2:=s1.trans s2
   refine ⟨n,rows,kvs,keysOf qs',F,hc.monoT tb S2,ok,hD,rv,fun x hx=>rch_okW ok _ ((rc.2.1 _).mp (mem_keysOf.mp hx)),fun m H3 s3 pk=>?_⟩
   refine qt m H3 (fun b u nb e=>s3 _ _ (ne_of_none (s1 _ _ nb e) nD) (S2 _ _ nb e)) (tab_but t2 hD s3) (peak_most ok rc (no_long ok rc no) sd fx pk)
  ·exact qn _ s1 t1 (long_run ok rc yes)
 ·exact h.elim
end
end K50
end
section
namespace K50
open PySem L2
section
variable {P:Program} {w:World} {K:PySem.W.Frag} {mg:Str->Option Value} {base:Heap}
def rowsQ (ws:List (List Bool)):Om.Rows:=[ws.map fun w=>(w,0)]
structure Wds (n:Nat) (ws:List (List Bool)):Prop where
 n1:1<=n
 n6:n<=6
 l:ws.length<=128
 w:∀ w∈ws,w.length=n
theorem Wds.ok {n:Nat} {ws:List (List Bool)} (h:Wds n ws):WOk n (rowsQ ws):=by
 refine ⟨h.n1,h.n6,Nat.le_refl _,(show 1<=8 by decide),fun st hst=>?_,fun st hst r hr=>?_⟩
 ·rw [List.mem_singleton.mp hst,List.length_map];exact h.l
 ·rw [List.mem_singleton.mp hst] at hr
  obtain ⟨w,hw,rfl⟩:=List.mem_map.mp hr
  exact ⟨h.w w hw,Nat.zero_lt_one⟩
def Qt (ws:List (List Bool)) (r:Nat):Prop:=∀ x ρ,Rr (rowsQ ws) x->ρ∈(rowsQ ws).getD x.1 []->topN x ρ<=r
theorem pbs_top {ws:List Bool}:∀ {o:Option Bool} {c p:Nat},c<=p->(pbs o c p ws).2.1<=(pbs o c p ws).2.2:=by
 induction ws with
 | nil=>exact fun h=>h
 | cons x ws ih=>exact fun _=>ih (Nat.le_max_right _ _)
theorem one_rch {ws:List (List Bool)} {n:Nat} (h:Wds n ws):RchL (rowsQ ws) [0]:=by
 refine ⟨List.pairwise_singleton _ _,fun s=>⟨fun z=>?_,fun z=>?_⟩,by decide⟩
 ·rw [List.mem_singleton.mp z];exact .z
 ·have:s < 1:=rch_okW h.ok s z
  exact List.mem_singleton.mpr (by omega)
theorem any_long {ws:List (List Bool)} {n:Nat} (h:Wds n ws) (hx:∃ x,Rr (rowsQ ws) x/\n * (rowsQ ws).length<=x.2.2) (N:Nat):∃ x,Rr (rowsQ ws) x/\N<=x.2.2:=by
 obtain ⟨x,g,le⟩:=hx
 have n1:=h.n1
 have le:n * 1<=x.2.2:=le
 have rc:=one_rch h
 cases e:x.2.1 with
 | none=>
  have:=none_zero (fun s hs r hr=>(ed_len h.ok hs hr).2) g e
  omega
 | some b=>
  have lv:=run_walk h.ok rc g 1 b e le
  obtain ⟨s,hs,d,d1,hd⟩:=lv.round (Nat.le_refl _) fun s t hs ⟨r,hr,e,_⟩=>(rc.2.1 t).mpr (.s ((rc.2.1 s).mp hs) (List.mem_map.mpr ⟨r,hr,e⟩))
  rcases walk_run h.ok (rch_rr ((rc.2.1 s).mp hs)) (hd.many (N+1)) with z | ⟨c,g,le⟩
  ·rcases Nat.mul_eq_zero.mp z with h | h<;>omega
  ·refine ⟨_,g,Nat.le_trans ?_ le⟩
   have h1:=Nat.mul_le_mul_right (N+1) d1
   have h2:=Nat.mul_le_mul_right (d * (N+1)) n1
   omega
theorem not_quiet {ws:List (List Bool)} {n r:Nat} (h:Wds n ws) (hx:∃ x,Rr (rowsQ ws) x/\n * (rowsQ ws).length<=x.2.2):¬ Qt ws r:=fun q=>by
 obtain ⟨x,g,le⟩:=any_long h hx (r+1)
 cases g with
 | z=>exact absurd le (Nat.not_succ_le_zero _)
 | @s y ρ g hr=>
  have h1:=q y ρ g hr
  have h2:(nxt y ρ).2.2<=topN y ρ:=pbs_top (Nat.le_refl _)
  omega
theorem quiet_iff {ws:List (List Bool)} {B m r:Nat} (h:Mo (rowsQ ws) B m):Qt ws r↔m<=r:=by
 refine ⟨fun q=>?_,fun le x ρ g hr=>Nat.le_trans (h.all x ρ g hr) le⟩
 rcases h.src with z | ⟨x,ρ,g,hr,e⟩
 ·omega
 ·rw [e];exact q x ρ g hr
def RwL (H:Hp) (ys:List V) (ws:List (List Bool)):Prop:=ys.length=ws.length/\∀ (i:Nat) w,ws[i]? = some w->∃ b,ys[i]? = some (.ref b)/\H b=some (.tup [.str (bs w),.int 0])
theorem RwL.mono {H H':Hp} {ys:List V} {ws:List (List Bool)} (h:RwL H ys ws) (s:∀ b zs,H b=some (.tup zs)->H' b=some (.tup zs)):RwL H' ys ws:=⟨h.1,fun i w e=>let ⟨b,a,c⟩:=h.2 i w e;⟨b,a,s _ _ c⟩⟩
theorem RwL.add {H:Hp} {ys:List V} {ws:List (List Bool)} {b:Addr} {w:List Bool} (h:RwL H ys ws) (hb:H b=some (.tup [.str (bs w),.int 0])):RwL H (ys++[.ref b]) (ws++[w]):=by
 refine ⟨by rw [List.length_append,List.length_append,h.1];rfl,fun i y hy=>?_⟩
 by_cases il:i < ws.length
 ·rw [List.getElem?_append_left il] at hy
  obtain ⟨b',a,c⟩:=h.2 i y hy
  exact ⟨b',by rw [List.getElem?_append_left (by rw [h.1];exact il)];exact a,c⟩
 ·have ie:i=ws.length:=by
   have:=(List.getElem?_eq_some_iff.mp hy).1
   rw [List.length_append] at this
   simp at this
   omega
  subst ie
  rw [List.getElem?_append_right (Nat.le_refl _)] at hy
  simp at hy
  subst hy
  exact ⟨b,by rw [List.getElem?_append_right (by rw [h.1];exact Nat.le_refl _),h.1];simp,hb⟩
theorem RwL.dvs {H:Hp} {ys:List V} {ws:List (List Bool)} (h:RwL H ys ws):DVs H ys ((ws.map fun w=>((w,0):List Bool×Nat)).map rowD):=by
 refine DVs.of_get (by rw [List.length_map,List.length_map,h.1]) fun i d hd=>?_
 rw [List.getElem?_map,List.getElem?_map] at hd
 cases e:ws[i]? with
 | none=>rw [e] at hd;cases hd
 | some w=>
  rw [e] at hd
  cases hd
  obtain ⟨b,a,c⟩:=h.2 i w e
  exact ⟨_,a,.tup c (.cons (.str _) (.cons (.int _) .nil))⟩
abbrev sQuiet:Stmt:=top 22
def spQuiet (P0:Addr):Sp:=fun vs H Q _=>match vs with
 | [.ref l,.int r0]=>∃ (ws:List (List Bool)) (n r:Nat),H l=some (.lst (ws.map fun w=>V.str (bs w)))/\Wds n ws/\r0=(r:Nat)/\Tab P0 (lamPos lamSt) qSt H ∧
   ∀ (b:Bool) H',SameT P0 H H'->Tab P0 (lamPos lamSt) qSt H'->(b=true↔Qt ws r)->Q (.bl b) H'
 | _=>False
theorem scQuiet:FnScope ["words","r","longest"] ["words","r"] (defScope sQuiet):=⟨rfl,rfl,rfl,by decide +kernel,rfl,by decide +kernel,by decide +kernel⟩
local macro_rules | `(tactic| walk_at "T.c")=>`(tactic| (have ndc:(["word"]:List Str).Nodup:=(by decide +kernel));((with_reducible refine' c_comp ["word"] [] ?b1 ?b2 (fun cl C s H fp=>?b3) (fun cl C s H fp=>?b4) (fun cl C s H fp=>?b5));(case b1=>exact ndc);(case b2=>walk_at "T.i");(case b3=>walk_at "T.g");(case b4=>walk_at "T.pf");(case b5=>walk_at "T.e")))
theorem ok_quiet {P0:Addr} (D:FnX K mg "is_quiet" sQuiet ["words","r"]) (c1:Can P w K mg base "still" 7 ["code"] (spStill P0)):Can P w K mg base "is_quiet" 8 ["words","r"] (spQuiet P0):=by
 refine can_fn (k:=7) D scQuiet (fun vs H Q E h=>?_) (fun f0 cdv A outer s H vs Q X hr h=>?_)
 all_goals
  unfold spQuiet at h
  split at h
 ·rfl
 ·exact h.elim
 ·rename_i l r0
  obtain ⟨ws,n,r,hl,wd,rfl,tb,q⟩:=h
  have nd:=scQuiet.nd
  have l128:=wd.l
  refine ⟨_,(by walk_at "T.top"),?_⟩
  refine ⟨⟨_,SqL.of hl⟩,fun R hR=>?_⟩
  refine comp_by (it_list _ l (ws.map fun w=>V.str (bs w))) (fun i τ H2 ys=>(∃ v,τ=[v])/\Same H H2/\H2 R=some (.lst ys)/\RwL H2 ys (ws.take i)) (le_line (by rw [List.length_map];omega)) ⟨⟨none,rfl⟩,Same.upd hR,upd_same,rfl,fun i w h=>by simp at h⟩ ?_ ?_ ?_
  ·rintro i τ H2 ys hi ⟨_,s2,hR2,rl⟩
   rw [List.length_map] at hi
   exact ⟨SqL.of (s2 _ _ hl),hR2,by rw [rl.1,List.length_take];omega⟩
  ·rintro i v τ H2 ys hi hv ⟨⟨v0,rfl⟩,s2,hR2,rl⟩
   rw [List.length_map] at hi
   rw [List.getElem?_map,List.getElem?_eq_getElem hi] at hv
   cases hv
   refine ⟨le_line (Nat.le_of_ble_eq_true rfl),fun p hp=>?_⟩
   have s4:=Same.upd (o:=.tup [.str (bs ws[i]),.int 0]) hp
   have tp:∀ b zs,upd H2 p (.tup [.str (bs ws[i]),.int 0]) b=some (.tup zs)->upd (upd H2 p (.tup [.str (bs ws[i]),.int 0])) R (.lst (ys++[.ref p])) b=some (.tup zs):=fun b zs h=>by rw [upd_ne (ne_of h (s4 _ _ hR2) (fun z=>nomatch z))];exact h
   refine ⟨s4 _ _ hR2,⟨_,rfl⟩,(s2.trans s4).own hR,upd_same,?_⟩
   rw [List.take_add_one,List.getElem?_eq_getElem hi]
   exact (rl.mono fun b zs h=>tp b zs (s4 _ _ h)).add (tp p _ upd_same)
  ·rintro τ H2 ys ⟨_,s2,hR2,rl⟩
   rw [List.length_map,List.take_length] at rl
   refine ⟨le_line (Nat.le_of_ble_eq_true rfl),fun B hB=>⟨le_line (Nat.le_of_ble_eq_true rfl),fun C hC=>?_⟩⟩
   have z1:=Same.upd (o:=.lst [.ref R]) hB
   have z2:=Same.upd (o:=.tup [.int 0,.int 0,.ref B]) hC
   have dv:DV (upd (upd H2 B (.lst [.ref R])) C (.tup [.int 0,.int 0,.ref B])) (.ref C) (codeD 0 0 (rowsQ ws)):=by
    refine .tup upd_same (.cons (.int _) (.cons (.int _) (.cons (.lst (z2 _ _ upd_same) (.cons (.lst (z2 _ _ (z1 _ _ hR2)) ?_) .nil)) .nil)))
    exact (rl.mono fun b zs h=>z2 _ _ (z1 _ _ h)).dvs
   have S3:=(s2.trans z1).trans z2
   have t3:=tb.mono S3
   generalize upd (upd H2 B (.lst [.ref R])) C (.tup [.int 0,.int 0,.ref B])=H3 at dv S3 t3
   refine ⟨n,rowsQ ws,dv,wd.ok,t3,fun H4 s4 t4 long=>?_,fun most H4 s4 t4 mo=>?_⟩
   ·dsimp only [tSeq,tIfS,tAnd,tOr,tBU,tOp,tV,tC,rIsU,rIsNotU,tNext,gName]
    exact q false H4 (S3.t.trans s4) t4 ⟨(fun z=>nomatch z),fun z=>absurd z (not_quiet wd long)⟩
   ·dsimp only [tSeq,tIfS,tAnd,tOr,tBU,tOp,tV,tC,rIsU,rIsNotU,tNext,gName]
    refine q (decide (((most:Nat):Int)<=((r:Nat):Int))) H4 (S3.t.trans s4) t4 ?_
    rw [decide_eq_true_eq,quiet_iff mo]
    omega
 ·exact h.elim
end
end K50
end
section
namespace K50
open PySem L2
section
variable {P:Program} {w:World} {K:PySem.W.Frag} {mg:Str->Option Value} {base:Heap}
theorem pbs_peak {ws:List Bool}:∀ {o:Option Bool} {c p:Nat},p<=(pbs o c p ws).2.2:=by
 induction ws with
 | nil=>exact Nat.le_refl _
 | cons x ws ih=>exact Nat.le_trans (Nat.le_max_left _ _) ih
theorem pbs_peak_take {o:Option Bool} {c p i:Nat} {ws:List Bool}:(pbs o c p (ws.take i)).2.2<=(pbs o c p ws).2.2:=by
 have h:=pbs_app o c p (ws.take i) (ws.drop i)
 rw [List.take_append_drop] at h
 rw [h]
 exact pbs_peak
abbrev sLBeh:Stmt:=top 30
def spLBeh:Sp:=fun vs H Q _=>match vs with
 | [.ref e,.str zs,.int r0]=>∃ (o:Option Bool) (c r:Nat) (ws:List Bool),H e=some (.tup [.str (sgn o),.int (c:Nat)])/\zs=bs ws/\r0=(r:Nat)/\c<=r ∧
   (r < (pb o c ws).2.2->Q .non H)/\∀ p H',Same H H'->H p=none->H' p=some (.tup [.str (sgn (pb o c ws).1),.int ((pb o c ws).2.1:Nat)])->(pb o c ws).2.2<=r->Q (.ref p) H'
 | _=>False
theorem scLBeh:FnScope ["end","word","r","sign","many","one"] ["end","word","r"] (defScope sLBeh):=⟨rfl,rfl,rfl,by decide +kernel,rfl,by decide +kernel,by decide +kernel⟩
local macro_rules | `(tactic| walk_at "T.i")=>`(tactic| ((with_reducible refine' pi_txt ?a1);(case a1=>walk_at "T.e")))
theorem ok_lbeh (D:FnX K mg "_law_behind" sLBeh ["end","word","r"]):Can P w K mg base "_law_behind" 1 ["end","word","r"] spLBeh:=by
 refine can_fn (k:=0) D scLBeh (fun vs H Q E h=>?_) (fun f cdv A outer s H vs Q E hr h=>?_)
 all_goals
  unfold spLBeh at h
  split at h
 ·rfl
 ·exact h.elim
 ·rename_i e zs r0
  obtain ⟨o,c,r,ws,he,rfl,rfl,cr,qn,qt⟩:=h
  have nd:=scLBeh.nd
  refine ⟨_,(by walk_at "T.top"),?_⟩
  refine ⟨_,.inl he,rfl,rfl,?_⟩
  refine ⟨ws,rfl,?_⟩
  refine for_by (it_txt ws) (fun i σ H2=>∃ (v5:Option V),σ=[some (.ref e),some (.str (bs ws)),some (.int (r:Nat)),some (.str (sgn (pbs o c c (ws.take i)).1)),some (.int ((pbs o c c (ws.take i)).2.1:Nat)),v5]/\H2=H/\(pbs o c c (ws.take i)).2.2<=r)
   ⟨none,rfl,rfl,cr⟩ (fun _ _ _ _ _=>trivial) ?_ ?_
  ·rintro i x σ H2 hi hx ⟨v5,rfl,rfl,le⟩
   rw [List.length_map] at hi
   rw [List.getElem?_map,List.getElem?_eq_getElem hi] at hx
   cases hx
   have pk:=pbs_peak_take (o:=o) (c:=c) (p:=c) (i:=i+1) (ws:=ws)
   rw [pbs_take hi] at pk ⊢
   generalize ws[i]=b at pk ⊢
   generalize pbs o c c (ws.take i)=S at pk le ⊢
   dsimp only [gName]
   have e1:(pbs S.1 S.2.1 S.2.2 [b])=(some b,(if S.1=some b then S.2.1+1 else 1),max S.2.2 (if S.1=some b then S.2.1+1 else 1)):=rfl
   rw [e1] at pk ⊢
   dsimp only at pk ⊢
   refine seq_by (fun σ H3=>σ=[some (.ref e),some (.str (bs ws)),some (.int (r:Nat)),some (.str (sgn (some b))),some (.int ((if S.1=some b then S.2.1+1 else 1:Nat):Int)),some (.str (bs [b]))]/\H3=H2) ?_ (fun fin=>?_)
   ·rintro σ H3 ⟨rfl,rfl⟩
    refine ite2 (fun k=>?_) (fun k=>?_)
    ·have k:=of_decide_eq_true k
     refine qn ?_
     show r < (pbs o c c ws).2.2
     have k:((r:Nat):Int) < ((if S.1=some b then S.2.1+1 else 1:Nat):Int):=k
     omega
    ·have k:¬ ((r:Nat):Int) < ((if S.1=some b then S.2.1+1 else 1:Nat):Int):=fun z=>k (decide_eq_true z)
     exact ⟨_,rfl,rfl,by omega⟩
   ·refine ite2 (fun k=>?_) (fun k=>?_)
    ·have k:decide (bs [b]=sgn S.1)=true:=k
     rw [sgn_eq] at k
     have k:=of_decide_eq_true k
     exact fin [some (.ref e),some (.str (bs ws)),some (.int (r:Nat)),some (.str (sgn S.1)),some (.int ((S.2.1:Nat)+1)),some (.str (bs [b]))] H2 ⟨by rw [if_pos k,k];rfl,rfl⟩
    ·have k:¬ decide (bs [b]=sgn S.1)=true:=k
     rw [sgn_eq] at k
     have k:¬ S.1=some b:=fun z=>k (decide_eq_true z)
     exact fin [some (.ref e),some (.str (bs ws)),some (.int (r:Nat)),some (.str (bs [b])),some (.int 1),some (.str (bs [b]))] H2 ⟨by rw [if_neg k];rfl,rfl⟩
  ·rintro σ H2 ⟨v5,rfl,rfl,le⟩
   rw [List.length_map,List.take_length] at le ⊢
   refine ⟨le_line (Nat.le_of_ble_eq_true rfl),fun p hp=>?_⟩
   exact qt p _ (Same.upd hp) hp upd_same le
 ·exact h.elim
end
end K50
end
section
namespace L2
open PySem PySem.Spec PyProof.Rows
section
variable {X:Cx} {pos apos:Pos} {o:Expr} {to:TE}
theorem m_pop0 {cpos:Pos} (ho:PE X o to) (hbase:attributeBase o "pop" X.env (eval o X.env)=eval o X.env:=by kernel_rfl) (hline:(apos.endLine == cpos.line)=true:=by kernel_rfl):PE X (.Call (.Attribute o "pop" apos) [] [] cpos) (tMt "list" rPop to tNil):=pe_mt0 PySem.F.plainAttrs_list PySem.F.slot_list_pop PySem.F.type_list_pop mt_pop ho hbase hline
end
end L2
end
section
namespace K50
open PySem L2
section
variable {P:Program} {w:World} {K:PySem.W.Frag} {mg:Str->Option Value} {base:Heap}
abbrev NdQ:=Option Bool×Nat
def qkey (x:NdQ):List Key:=[Sum.inr (sgn x.1),Sum.inl ((x.2:Nat):Int)]
theorem qkey_inj (a b:NdQ) (h:qkey a=qkey b):a=b:=by
 unfold qkey at h
 injection h with h1 h2
 injection h2 with h2 _
 have e:((a.2:Nat):Int)=((b.2:Nat):Int):=Sum.inl.inj h2
 exact Prod.ext (sgn_inj (Sum.inr.inj h1)) (by omega)
def qD (x:NdQ):PyData:=.tuple [.str (sgn x.1),.int ((x.2:Nat):Int)]
theorem sgn_bs (o:Option Bool):sgn o=bs o.toList:=by
 cases o with
 | none=>decide +kernel
 | some b=>rfl
theorem qD_row (x:NdQ):qD x=rowD (x.1.toList,x.2):=by unfold qD rowD;rw [sgn_bs]
theorem qD_shaped (zs:List NdQ):SeqAt.shaped (.list (zs.map qD))=true:=by
 refine shaped_list (k:=1) (fun d hd=>?_) (fun d hd=>?_) (by decide)
 ·obtain ⟨z,_,rfl⟩:=List.mem_map.mp hd
  rw [qD_row];exact rowD_lay _
 ·obtain ⟨z,_,rfl⟩:=List.mem_map.mp hd
  rw [qD_row];exact rowD_depth _
structure Fq (H0 H:Hp) (D Q:Addr) (kvs:List (List Key×V)) (xs:List NdQ) (bz:List Addr) (zs:List NdQ):Prop where
 s:Same H0 H
 nD:H0 D=none
 nQ:H0 Q=none
 hD:H D=some (.dT kvs)
 hQ:H Q=some (.lst (bz.map V.ref))
 kz:KS qkey kvs xs
 ql:bz.length=zs.length
 qt:∀ (i:Nat) x,zs[i]? = some x->∃ b,bz[i]? = some b/\H b=some (.tup ((qkey x).map kV))
theorem Fq.mono {H0 H H1:Hp} {D Q:Addr} {kvs:List (List Key×V)} {xs:List NdQ} {bz:List Addr} {zs:List NdQ} (g:Fq H0 H D Q kvs xs bz zs) (s:Same H H1):Fq H0 H1 D Q kvs xs bz zs:=
 ⟨g.s.trans s,g.nD,g.nQ,s _ _ g.hD,s _ _ g.hQ,g.kz,g.ql,fun i x e=>let ⟨b,a,c⟩:=g.qt i x e;⟨b,a,s _ _ c⟩⟩
theorem Fq.dv {H0 H:Hp} {D Q:Addr} {kvs:List (List Key×V)} {xs:List NdQ} {bz:List Addr} {zs:List NdQ} (g:Fq H0 H D Q kvs xs bz zs):DV H (.ref Q) (.list (zs.map qD)):=by
 refine .lst g.hQ (DVs.of_get (by rw [List.length_map,List.length_map,g.ql]) fun i d hd=>?_)
 rw [List.getElem?_map] at hd
 cases e:zs[i]? with
 | none=>rw [e] at hd;cases hd
 | some z=>
  rw [e] at hd
  cases hd
  obtain ⟨b,a,c⟩:=g.qt i z e
  exact ⟨.ref b,by rw [List.getElem?_map,a];rfl,.tup c (.cons (.str _) (.cons (.int _) .nil))⟩
theorem Fq.put {H0 H:Hp} {D Q:Addr} {kvs:List (List Key×V)} {xs:List NdQ} {bz:List Addr} {zs:List NdQ} (g:Fq H0 H D Q kvs xs bz zs) {p:Addr} {v:V} {x:NdQ} (nx:x ∉ xs) (hp:H p=some (.tup ((qkey x).map kV))) :
  Fq H0 (upd (upd H D (.dT (putK kvs (qkey x) v))) Q (.lst (bz.map V.ref++[.ref p]))) D Q (putK kvs (qkey x) v) (xs++[x]) (bz++[p]) (zs++[x]):=by
 have DQ:D≠Q:=ne_of g.hD g.hQ (fun z=>nomatch z)
 have kp:=g.kz.put qkey_inj x v
 unfold Om.adds at kp
 rw [if_neg nx] at kp
 have tp:∀ {b:Addr} {ys:List V},H b=some (.tup ys)->upd (upd H D (.dT (putK kvs (qkey x) v))) Q (.lst (bz.map V.ref++[.ref p])) b=some (.tup ys):=fun {b ys} h=>by rw [upd_ne (ne_of h g.hQ (fun z=>nomatch z)),upd_ne (ne_of h g.hD (fun z=>nomatch z))];exact h
 refine ⟨fun b o e=>?_,g.nD,g.nQ,by rw [upd_ne DQ,upd_same],by rw [upd_same,List.map_append];rfl,kp,by rw [List.length_append,List.length_append,g.ql];rfl,fun i y hy=>?_⟩
 ·rw [upd_ne (ne_of_none e g.nQ),upd_ne (ne_of_none e g.nD)]
  exact g.s _ _ e
 ·by_cases il:i < zs.length
  ·rw [List.getElem?_append_left il] at hy
   obtain ⟨b,a1,a2⟩:=g.qt i y hy
   exact ⟨b,by rw [List.getElem?_append_left (by rw [g.ql];exact il)];exact a1,tp a2⟩
  ·have ie:i=zs.length:=by
    have:=(List.getElem?_eq_some_iff.mp hy).1
    rw [List.length_append] at this
    simp at this
    omega
   subst ie
   rw [List.getElem?_append_right (Nat.le_refl _)] at hy
   simp at hy
   subst hy
   exact ⟨p,by rw [List.getElem?_append_right (by rw [g.ql];exact Nat.le_refl _),g.ql];simp,tp hp⟩
theorem Fq.pop {H0 H:Hp} {D Q:Addr} {kvs:List (List Key×V)} {xs:List NdQ} {bz:List Addr} {zs:List NdQ} {b:Addr} {x:NdQ} (g:Fq H0 H D Q kvs xs (bz++[b]) (zs++[x])):Fq H0 (upd H Q (.lst (bz.map V.ref))) D Q kvs xs bz zs:=by
 have DQ:D≠Q:=ne_of g.hD g.hQ (fun z=>nomatch z)
 have l:bz.length=zs.length:=by
  have:=g.ql
  rw [List.length_append,List.length_append] at this
  exact Nat.add_right_cancel this
 refine ⟨fun c o e=>by rw [upd_ne (ne_of_none e g.nQ)];exact g.s _ _ e,g.nD,g.nQ,by rw [upd_ne DQ];exact g.hD,upd_same,g.kz,l,fun i y hy=>?_⟩
 have il:=(List.getElem?_eq_some_iff.mp hy).1
 obtain ⟨c,a1,a2⟩:=g.qt i y (by rw [List.getElem?_append_left il];exact hy)
 rw [List.getElem?_append_left (by omega)] at a1
 exact ⟨c,a1,by rw [upd_ne (ne_of a2 g.hQ (fun z=>nomatch z))];exact a2⟩
def nxQ (x:NdQ) (w:List Bool):NdQ:=((pb x.1 x.2 w).1,(pb x.1 x.2 w).2.1)
def ClQ (xs:List NdQ) (r:Nat) (x:NdQ) (w:List Bool):Prop:=(pb x.1 x.2 w).2.2<=r/\nxQ x w∈xs
structure Sq (ws:List (List Bool)) (r:Nat) (xs zs:List NdQ) (ex:NdQ->Nat->Prop):Prop where
 go:∀ x∈xs,Rr (rowsQ ws) (0,x.1,x.2)/\x.2<=r
 sub:∀ z∈zs,z∈xs
 z0:((none,0):NdQ)∈xs
 cl:∀ x∈xs,x∈zs\/∀ j w,ws[j]? = some w->ex x j->ClQ xs r x w
theorem Sq.put {ws:List (List Bool)} {r:Nat} {xs zs:List NdQ} {x0:NdQ} {i:Nat} {w0:List Bool} (h:Sq ws r xs zs (fun x j=>x=x0->j < i)) (hx:x0∈xs) (hw:ws[i]? = some w0) (le:(pb x0.1 x0.2 w0).2.2<=r) :
  Sq ws r (Om.adds xs (nxQ x0 w0)) (if nxQ x0 w0∈xs then zs else zs++[nxQ x0 w0]) (fun x j=>x=x0->j < i+1):=by
 have sz:∀ z∈zs,z∈(if nxQ x0 w0∈xs then zs else zs++[nxQ x0 w0]):=fun z hz=>by
  split
  ·exact hz
  ·exact List.mem_append_left _ hz
 have wm:=List.mem_of_getElem? hw
 refine ⟨fun x hx'=>?_,fun z hz=>?_,Om.mem_adds.mpr (.inl h.z0),fun x hx'=>?_⟩
 ·rcases Om.mem_adds.mp hx' with z | rfl
  ·exact h.go x z
  ·refine ⟨(h.go x0 hx).1.s (r:=(w0,0)) (List.mem_map.mpr ⟨w0,wm,rfl⟩),?_⟩
   exact Nat.le_trans (pbs_top (Nat.le_refl _)) le
 ·split at hz
  ·exact Om.mem_adds.mpr (.inl (h.sub z hz))
  ·rcases List.mem_append.mp hz with z' | z'
   ·exact Om.mem_adds.mpr (.inl (h.sub z z'))
   ·exact Om.mem_adds.mpr (.inr (List.mem_singleton.mp z'))
 ·have old:x∈xs->x∈(if nxQ x0 w0∈xs then zs else zs++[nxQ x0 w0])\/∀ j w,ws[j]? = some w->(x=x0->j < i+1)->ClQ (Om.adds xs (nxQ x0 w0)) r x w:=fun z=>by
   rcases h.cl x z with a | a
   ·exact .inl (sz x a)
   ·refine .inr fun j w hj ex=>?_
    by_cases e:x=x0/\j=i
    ·obtain ⟨rfl,rfl⟩:=e
     rw [hw] at hj
     cases hj
     exact ⟨le,Om.mem_adds.mpr (.inr rfl)⟩
    ·obtain ⟨b1,b2⟩:=a j w hj fun e1=>by
      have:=ex e1
      have:j≠i:=fun e2=>e ⟨e1,e2⟩
      omega
     exact ⟨b1,Om.mem_adds.mpr (.inl b2)⟩
  rcases Om.mem_adds.mp hx' with z | e
  ·exact old z
  ·by_cases z:nxQ x0 w0∈xs
   ·exact old (e ▸ z)
   ·rw [if_neg z,e]
    exact .inl (List.mem_append_right _ (List.mem_singleton.mpr rfl))
theorem Sq.end {ws:List (List Bool)} {r n:Nat} {xs:List NdQ} {ex:NdQ->Nat->Prop} (wd:Wds n ws) (h:Sq ws r xs [] ex) (al:∀ x j,ex x j):Qt ws r:=by
 have mem:∀ {x},Rr (rowsQ ws) x->((x.2.1,x.2.2):NdQ)∈xs:=by
  intro x g
  induction g with
  | z=>exact h.z0
  | @s x ρ g hr ih=>
   have x0:x.1=0:=by
    have:x.1 < 1:=rch_okW wd.ok _ (rr_rch g)
    omega
   rw [x0] at hr
   obtain ⟨w,hw,rfl⟩:=List.mem_map.mp (show ρ∈ws.map fun w=>((w,0):List Bool×Nat) from hr)
   obtain ⟨j,hj⟩:=List.mem_iff_getElem?.mp hw
   exact ((h.cl _ ih).resolve_left (fun z=>nomatch z) j w hj (al _ _)).2
 intro x ρ g hr
 have x0:x.1=0:=by
  have:x.1 < 1:=rch_okW wd.ok _ (rr_rch g)
  omega
 rw [x0] at hr
 obtain ⟨w,hw,rfl⟩:=List.mem_map.mp (show ρ∈ws.map fun w=>((w,0):List Bool×Nat) from hr)
 obtain ⟨j,hj⟩:=List.mem_iff_getElem?.mp hw
 exact ((h.cl _ (mem g)).resolve_left (fun z=>nomatch z) j w hj (al _ _)).1
def ocodeQ:Option Bool->Nat | none=>0 | some false=>1 | some true=>2
theorem few_q {xs:List NdQ} (nd:xs.Nodup) (h:∀ x∈xs,x.2<=8):xs.length<=27:=by
 have oc:∀ o,ocodeQ o < 3:=fun o=>by cases o with | none=>decide | some b=>cases b<;>decide
 have oi:∀ a b,ocodeQ a=ocodeQ b->a=b:=fun a b e=>by
  cases a with
  | none=>cases b with
   | none=>rfl
   | some y=>cases y<;>exact absurd e (by decide)
  | some x=>cases b with
   | none=>cases x<;>exact absurd e (by decide)
   | some y=>cases x<;>cases y<;>first | rfl | exact absurd e (by decide)
 have:=Om.nodup_len 27 (xs.map fun x=>ocodeQ x.1 * 9+x.2) ?_ fun s hs=>?_
 ·rwa [List.length_map] at this
 ·refine Om.nodup_on (fun x hx y hy e=>?_) nd
  have h1:=h x hx
  have h2:=h y hy
  have e2:ocodeQ x.1=ocodeQ y.1:=by omega
  exact Prod.ext (oi _ _ e2) (by omega)
 ·obtain ⟨x,hx,rfl⟩:=List.mem_map.mp hs
  have h1:=h x hx
  have o1:=oc x.1
  omega
abbrev sLQ:Stmt:=top 31
def spLQ:Sp:=fun vs H Q _=>match vs with
 | [.ref l,.int r0]=>∃ (ws:List (List Bool)) (n r:Nat),H l=some (.lst (ws.map fun w=>V.str (bs w)))/\Wds n ws/\r0=(r:Nat)/\r<=8 ∧
   ∀ (b:Bool) H',Same H H'->(b=true↔Qt ws r)->Q (.bl b) H'
 | _=>False
theorem scLQ:FnScope ["words","r","been","waiting","end","word","later"] ["words","r"] (defScope sLQ):=⟨rfl,rfl,rfl,by decide +kernel,rfl,by decide +kernel,by decide +kernel⟩
local macro_rules | `(tactic| walk_at "T.e")=>`(tactic| first | ((with_reducible refine' pe_dispT ?a0 ?a1 ?a2);(case a0=>exact Room.units (by assumption));(case a1=>walk_at "T.e");(case a2=>walk_at "T.e")) | ((with_reducible refine' m_pop0 ?a1);(case a1=>with_reducible exact vn "waiting" 3)) | fail "no")
local macro_rules | `(tactic| walk_at "T.g")=>`(tactic| ((with_reducible refine' g_subD ?a0 ?a1 ?a2);(case a0=>exact Room.units (by assumption));(case a1=>walk_at "T.e");(case a2=>walk_at "T.e")))
local macro_rules | `(tactic| walk_at "T.cmp")=>`(tactic| ((with_reducible refine' op_notInDict ?a0);(case a0=>exact Room.units (by assumption))))
theorem ok_lq (D:FnX K mg "_law_quiet" sLQ ["words","r"]) (c1:Can P w K mg base "_law_behind" 1 ["end","word","r"] spLBeh):Can P w K mg base "_law_quiet" 2 ["words","r"] spLQ:=by
 refine can_fn (k:=1) D scLQ (fun vs H Q E h=>?_) (fun f0 cdv A outer s H vs Q E hr h=>?_)
 all_goals
  unfold spLQ at h
  split at h
 ·rfl
 ·exact h.elim
 ·rename_i l r0
  obtain ⟨ws,n,r,hl,wd,rfl,r8,q⟩:=h
  have nd:=scLQ.nd
  have l128:=wd.l
  refine ⟨_,(by walk_at "T.top"),?_⟩
  intro D hD
  refine ⟨le_line (Nat.le_of_ble_eq_true rfl),fun B0 hB0=>?_⟩
  refine ⟨by rw [upd_ne (Ne.symm (upd_nn hB0).1)];exact upd_same,B0,qkey (none,0),rfl,upd_same,?_⟩
  refine ⟨le_line (Nat.le_of_ble_eq_true rfl),fun B1' hB1=>⟨le_line (Nat.le_of_ble_eq_true rfl),fun Qa hQ=>?_⟩⟩
  have G0:Fq H (upd (upd (upd (upd (upd H D (.dT [])) B0 (.tup [.str "",.int 0])) D (.dT [(qkey (none,0),.bl true)])) B1' (.tup [.str "",.int 0])) Qa (.lst [.ref B1'])) D Qa [(qkey (none,0),.bl true)] [(none,0)] [B1'] [(none,0)]:=by
   obtain ⟨QB,q1⟩:=upd_nn hQ
   obtain ⟨QD,q2⟩:=upd_nn q1
   obtain ⟨QB0,q3⟩:=upd_nn q2
   obtain ⟨_,q4⟩:=upd_nn q3
   obtain ⟨BD,b1⟩:=upd_nn hB1
   obtain ⟨BB,b2⟩:=upd_nn b1
   obtain ⟨_,b3⟩:=upd_nn b2
   obtain ⟨B0D,c1⟩:=upd_nn hB0
   refine ⟨fun c o e=>?_,hD,q4,by rw [upd_ne (Ne.symm QD),upd_ne (Ne.symm BD),upd_same],upd_same,⟨rfl,by simp⟩,rfl,fun i x hx=>?_⟩
   ·rw [upd_ne (ne_of_none e q4),upd_ne (ne_of_none e b3),upd_ne (ne_of_none e hD),upd_ne (ne_of_none e c1),upd_ne (ne_of_none e hD)]
    exact e
   ·cases i with
    | zero=>
     cases hx
     exact ⟨B1',rfl,by rw [upd_ne (Ne.symm QB),upd_same];rfl⟩
    | succ i=>simp at hx
  have L0:Sq ws r [(none,0)] [(none,0)] (fun _ _=>True):=by
   refine ⟨fun x hx=>?_,fun z hz=>hz,List.mem_singleton.mpr rfl,fun x hx=>.inl hx⟩
   rw [List.mem_singleton.mp hx]
   exact ⟨.z,Nat.zero_le _⟩
  generalize upd (upd (upd (upd (upd H D (.dT [])) B0 (.tup [.str "",.int 0])) D (.dT [(qkey (none,0),.bl true)])) B1' (.tup [.str "",.int 0])) Qa (.lst [.ref B1'])=H1 at G0
  refine ⟨fun mm σ H2=>∃ (v4 v5 v6:Option V) (kvs:List (List Key×V)) (xs:List NdQ) (bz:List Addr) (zs:List NdQ),σ=[some (.ref l),some (.int (r:Nat)),some (.ref D),some (.ref Qa),v4,v5,v6]/\mm=2 * (27 - xs.length)+zs.length/\2 * (27 - xs.length)+zs.length<=53/\Fq H H2 D Qa kvs xs bz zs/\Sq ws r xs zs (fun _ _=>True),
   ⟨_,none,none,none,_,[(none,0)],[B1'],[(none,0)],rfl,rfl,by decide,G0,L0⟩,?_⟩
  clear G0 L0
  rintro mm σ H2 ⟨v4,v5,v6,kvs,xs,bz,zs,rfl,rfl,m53,G,L⟩
  have few:∀ {ys zs:List NdQ} {ex:NdQ->Nat->Prop},ys.Nodup->Sq ws r ys zs ex->ys.length<=27:=fun nd h=>few_q nd fun x hx=>Nat.le_trans (h.go x hx).2 r8
  refine ⟨Nat.zero_le _,fun Ea hE=>?_⟩
  have G:=G.mono (Same.upd (o:=.lst []) hE)
  refine ⟨_,_,G.dv,.lst upd_same .nil,qD_shaped zs,rfl,?_⟩
  generalize upd H2 Ea (.lst [])=H3 at G
  rw [eqv_nil]
  refine ite2 (fun c=>?_) (fun c=>?_)
  ·have zne:zs≠[]:=fun z=>by rw [z] at c;cases c
   obtain ⟨zs',x0,rfl⟩ : ∃ l a,zs=l++[a]:=⟨_,_,(List.dropLast_concat_getLast zne).symm⟩
   have bne:bz≠[]:=fun z=>by have:=G.ql;rw [z,List.length_append] at this;simp at this
   obtain ⟨bz',b0,rfl⟩ : ∃ l a,bz=l++[a]:=⟨_,_,(List.dropLast_concat_getLast bne).symm⟩
   have ll:bz'.length=zs'.length:=by
    have:=G.ql
    rw [List.length_append,List.length_append] at this
    exact Nat.add_right_cancel this
   have x0m:x0∈xs:=L.sub x0 (List.mem_append_right _ (List.mem_singleton.mpr rfl))
   obtain ⟨b,hb1,hb2⟩:=G.qt zs'.length x0 (by simp)
   rw [<-ll] at hb1
   have:b=b0:=by simpa using hb1.symm
   subst this
   refine ⟨fun σ' H'=>∃ (v4 v5 v6:Option V) (kvs:List (List Key×V)) (xs':List NdQ) (bz:List Addr) (zs'':List NdQ),σ'=[some (.ref l),some (.int (r:Nat)),some (.ref D),some (.ref Qa),v4,v5,v6]/\2 * (27 - xs'.length)+zs''.length < 2 * (27 - xs.length)+(zs'++[x0]).length/\Fq H H' D Qa kvs xs' bz zs''/\Sq ws r xs' zs'' (fun _ _=>True),?_,?_⟩
   ·rintro σ' H' ⟨v4,v5,v6,kvs,xs',bz,zs'',rfl,lt,G',L'⟩
    exact ⟨_,lt,v4,v5,v6,kvs,xs',bz,zs'',rfl,rfl,by omega,G',L'⟩
   ·refine ⟨⟨_,rfl,G.hQ⟩,Qa,_,.ref b,rfl,rfl,G.hQ,by simp,?_⟩
    have ed:((bz'++[b]).map V.ref).dropLast=bz'.map V.ref:=by rw [List.map_append];simp
    rw [ed]
    have hb3:upd H3 Qa (.lst (bz'.map V.ref)) b=some (.tup ((qkey x0).map kV)):=by rw [upd_ne (ne_of hb2 G.hQ (fun z=>nomatch z))];exact hb2
    have G4:=G.pop
    have L4:Sq ws r xs zs' (fun x j=>x=x0->j < 0):=by
     refine ⟨L.go,fun z hz=>L.sub z (List.mem_append_left _ hz),L.z0,fun x hx=>?_⟩
     rcases L.cl x hx with z | z
     ·rcases List.mem_append.mp z with z | z
      ·exact .inl z
      ·exact .inr fun j w _ ex=>absurd (ex (List.mem_singleton.mp z)) (Nat.not_lt_zero _)
     ·exact .inr fun j w hj _=>z j w hj trivial
    generalize upd H3 Qa (.lst (bz'.map V.ref))=H4 at hb3 G4
    clear G L
    dsimp only [gName]
    refine ⟨⟨_,SqL.of (G4.s _ _ hl)⟩,?_⟩
    refine for_by (it_list _ l (ws.map fun w=>V.str (bs w))) (fun j σ H5=>∃ (v5 v6:Option V) (kvs:List (List Key×V)) (xs':List NdQ) (bz:List Addr) (zs'':List NdQ),σ=[some (.ref l),some (.int (r:Nat)),some (.ref D),some (.ref Qa),some (.ref b),v5,v6]/\H5 b=some (.tup ((qkey x0).map kV))/\x0∈xs'/\2 * (27 - xs'.length)+zs''.length<=2 * (27 - xs.length)+zs'.length/\Fq H H5 D Qa kvs xs' bz zs''/\Sq ws r xs' zs'' (fun x i=>x=x0->i < j))
     ⟨v5,v6,kvs,xs,bz',zs',rfl,hb3,x0m,Nat.le_refl _,G4,L4⟩ (fun j σ H5 _ ⟨_,_,_,_,_,_,_,_,_,_,g,_⟩=>SqL.of (g.s _ _ hl)) ?_ ?_
    ·clear G4 L4 hb3
     rintro j v σ H5 hj hv ⟨v5,v6,kvs,xs',bz,zs'',rfl,hb5,x0m,ml,G5,L5⟩
     rw [List.length_map] at hj
     rw [List.getElem?_map,List.getElem?_eq_getElem hj] at hv
     cases hv
     have hw:ws[j]? = some ws[j]:=List.getElem?_eq_getElem hj
     generalize ws[j]=w0 at hw
     obtain ⟨go0,cr⟩:=L5.go x0 x0m
     refine ⟨x0.1,x0.2,r,w0,hb5,rfl,rfl,cr,fun big=>?_,fun p H6 s6 np hp le=>?_⟩
     ·dsimp only [tSeq,tIfS,tAnd,tOr,tBU,tOp,tV,tC,rIsU,rIsNotU,tNext,gName]
      refine iteP (c:=decide (V.non=V.non)=true) (by simp) ?_
      refine q false _ G5.s ⟨(fun z=>nomatch z),fun z=>?_⟩
      have:=z (0,x0.1,x0.2) (w0,0) go0 (List.mem_map.mpr ⟨w0,List.mem_of_getElem? hw,rfl⟩)
      exact absurd this (Nat.not_le.mpr big)
     ·have G6:=G5.mono s6
      have hb6:=s6 _ _ hb5
      have L6:=L5.put x0m hw le
      have f6:=few G6.kz.nd L5
      dsimp only [tSeq,tIfS,tAnd,tOr,tBU,tOp,tV,tC,rIsU,rIsNotU,tNext,gName]
      refine if_negP (c:=decide (V.ref p=V.non)=true) (by simp) ?_
      refine ⟨D,_,rfl,DGet.t (k:=qkey (nxQ x0 w0)) G6.hD hp,?_⟩
      rw [G6.kz.has qkey_inj (nxQ x0 w0)]
      refine ite2 (fun c1=>?_) (fun c1=>?_)
      ·have nin:nxQ x0 w0 ∉ xs':=by simpa using c1
       refine .inr ⟨D,_,rfl,DPut.t (k:=qkey (nxQ x0 w0)) G6.hD hp (lt_line (by have:=G6.kz.len;omega)),?_⟩
       have DQ:D≠Qa:=ne_of G6.hD G6.hQ (fun z=>nomatch z)
       have hQ8:upd H6 D (.dT (putK kvs (qkey (nxQ x0 w0)) (.bl true))) Qa=some (.lst (bz.map V.ref)):=by rw [upd_ne (Ne.symm DQ)];exact G6.hQ
       have zl:zs''.length<=100:=by
        rw [List.length_append] at m53
        omega
       refine ⟨⟨_,rfl,hQ8⟩,_,hQ8,lt_line (by rw [List.length_map,G6.ql];omega),?_⟩
       rw [if_neg nin] at L6
       have ad:Om.adds xs' (nxQ x0 w0)=xs'++[nxQ x0 w0]:=by unfold Om.adds;rw [if_neg nin]
       rw [ad] at L6
       have f7:=few (G6.put (v:=.bl true) nin hp).kz.nd L6
       rw [List.length_append] at f7
       have f7:xs'.length+1<=27:=f7
       refine ⟨_,_,_,xs'++[nxQ x0 w0],bz++[p],zs''++[nxQ x0 w0],rfl,?_,List.mem_append_left _ x0m,?_,G6.put nin hp,L6⟩
       ·rw [upd_ne (ne_of hb6 G6.hQ (fun z=>nomatch z)),upd_ne (ne_of hb6 G6.hD (fun z=>nomatch z))]
        exact hb6
       ·rw [List.length_append,List.length_append]
        show 2 * (27 - (xs'.length+1))+(zs''.length+1)<=_
        omega
      ·have nin:nxQ x0 w0∈xs':=by
        by_cases z:nxQ x0 w0∈xs'
        ·exact z
        ·exact absurd (by simpa using z) c1
       rw [if_pos nin] at L6
       have ad:Om.adds xs' (nxQ x0 w0)=xs':=by unfold Om.adds;rw [if_pos nin]
       rw [ad] at L6
       exact ⟨_,_,_,xs',bz,zs'',rfl,hb6,x0m,ml,G6,L6⟩
    ·rintro σ H5 ⟨v5,v6,kvs,xs',bz,zs'',rfl,hb5,x0m,ml,G5,L5⟩
     rw [List.length_map] at L5
     refine ⟨_,v5,v6,kvs,xs',bz,zs'',rfl,by rw [List.length_append];show _ < _+(zs'.length+1);omega,G5,⟨L5.go,L5.sub,L5.z0,fun x hx=>(L5.cl x hx).imp id fun z j w hj _=>z j w hj fun _=>(List.getElem?_eq_some_iff.mp hj).1⟩⟩
  ·have zn:zs=[]:=by
    cases zs with
    | nil=>rfl
    | cons _ _=>exact absurd rfl c
   subst zn
   exact q true _ G.s ⟨fun _=>L.end wd fun _ _=>trivial,fun _=>rfl⟩
 ·exact h.elim
end
end K50
end
section
namespace K50
open PySem L2
section
variable {P:Program} {w:World} {K:PySem.W.Frag} {mg:Str->Option Value} {base:Heap}
abbrev sCell:Stmt:=top 29
def spCell (K:PySem.W.Frag):Sp:=fun vs H Q _=>match vs with
 | [.ref a,.int k]=>∃ ns:List Int,SqL K H a (ns.map V.int)/\0<=k/\k<=1000/\∀ c,Q (.int c) H
 | _=>False
theorem scCell:FnScope ["script","k"] ["script","k"] (defScope sCell):=⟨rfl,rfl,rfl,by decide +kernel,rfl,by decide +kernel,by decide +kernel⟩
local macro_rules | `(tactic| walk_at "T.b")=>`(tactic| ((with_reducible refine' fn_lenS ?a0 ?a9 ?a1);(case a0=>with_reducible assumption);(case a9=>rfl);(case a1=>walk_at "T.a")))
local macro_rules | `(tactic| walk_at "T.ty")=>`(tactic| ((with_reducible refine' ix_atS ?a1 ?a2);(case a1=>walk_at "T.e");(case a2=>walk_at "T.e")))
theorem ok_cell (D:FnX K mg "_law_cell" sCell ["script","k"]) (g1:mg "len" = none):Can P w K mg base "_law_cell" 1 ["script","k"] (spCell K):=by
 refine can_fn (k:=0) D scCell (fun vs H Q E h=>?_) (fun f cdv A outer s H vs Q E hr h=>?_)
 all_goals
  unfold spCell at h
  split at h
 ·rfl
 ·exact h.elim
 ·rename_i a k
  obtain ⟨ns,hS,h0,h1,q⟩:=h
  have nd:=scCell.nd
  refine ⟨_,(by walk_at "T.top"),?_⟩
  refine ⟨_,hS,ite2 (fun h2=>?_) (fun h2=>?_)⟩
  ·have h2':k < ((ns.map V.int).length:Int):=of_decide_eq_true h2
   rw [List.length_map] at h2'
   have h3:k.toNat < ns.length:=by omega
   exact ⟨_,.int ns[k.toNat],hS,atI_int h0 (by rw [List.getElem?_map,List.getElem?_eq_getElem h3];rfl),q _⟩
  ·exact ⟨.inl ⟨by decide,by decide⟩,.inr ⟨by omega,by omega⟩,.inl ⟨by decide,by decide⟩,q _⟩
 ·exact h.elim
end
end K50
end
section
namespace L2
open PySem PySem.Spec PyProof.Rows PySem.W PySem.Calls
noncomputable def isOne (k:SortKind):Bool:=(sortPriv% PySem.Builtin.KeyKind.rec) (motive:=fun _=>Bool) false true (fun _=>false) k
theorem isOne_eq {k:SortKind} (h:isOne k=true):k=oneType':=by
 cases k<;>first | rfl | cases h
structure SimD (prog:Program) (w:World) (A:Around) (E:Value->Shared->Prop) (s:Shared) {a:Type} (p:StateT SortSt Sem a):Type where
 t:SortSt->Option (a×SortSt)
 h:∀ (st:SortSt) (Q:a->SortSt->Prop) (v:a) (st':SortSt),t st=some (v,st')->Q v st'->wpS (model prog w) A E s p Q st
section
variable {prog:Program} {w:World} {A:Around} {E:Value->Shared->Prop} {s:Shared} {a b:Type}
abbrev twB (x:SortSt->Option (a×SortSt)) (f:a->SortSt->Option (b×SortSt)):SortSt->Option (b×SortSt):=fun st=>match x st with
 | some r=>f r.1 r.2
 | none=>none
def sd_bind {m:StateT SortSt Sem a} {k:a->StateT SortSt Sem b} (x:SimD prog w A E s m) (f:∀ v,SimD prog w A E s (k v)):SimD prog w A E s (m >>= k) where
 t:=twB x.t fun v=>(f v).t
 h:=fun st Q v st' e q=>by
  unfold twB at e
  split at e
  ·rename_i r hr
   exact wpS_bind (x.h st _ r.1 r.2 hr ((f r.1).h r.2 Q v st' e q))
  ·cases e
def sd_pure (v:a):SimD prog w A E s (pure v:StateT SortSt Sem a) where
 t:=fun st=>some (v,st)
 h:=fun st Q v' st' e q=>by cases e;exact wpS_pure q
def sd_get:SimD prog w A E s (get:StateT SortSt Sem SortSt) where
 t:=fun st=>some (st,st)
 h:=fun st Q v' st' e q=>by cases e;exact wpS_get q
def sd_modify (f:SortSt->SortSt):SimD prog w A E s (modify f:StateT SortSt Sem PUnit) where
 t:=fun st=>some (⟨⟩,f st)
 h:=fun st Q v' st' e q=>by cases e;exact wpS_modify q
def sd_set (x:SortSt):SimD prog w A E s (set x:StateT SortSt Sem PUnit) where
 t:=fun st=>some (⟨⟩,x)
 h:=fun st Q v' st' e q=>by
  cases e
  unfold wpS
  rw [StateT.run_set]
  exact wpAny_pure ⟨rfl,q⟩
def sd_rule (x:String):SimD prog w A E s (liftM (rule x):StateT SortSt Sem Unit) where
 t:=fun st=>some ((),st)
 h:=fun st Q v' st' e q=>by cases e;exact wpS_lift (wpAny_rule ⟨rfl,q⟩)
def sd_none {m:StateT SortSt Sem a}:SimD prog w A E s m where
 t:=fun _=>none
 h:=fun st Q v' st' e q=>by cases e
def sd_ite {c:Prop} [d:Decidable c] {m n:StateT SortSt Sem a} (x:SimD prog w A E s m) (y:SimD prog w A E s n):SimD prog w A E s (if c then m else n) where
 t:=fun st=>if c then x.t st else y.t st
 h:=fun st Q v' st' e q=>by
  by_cases hc:c
  ·rw [if_pos hc] at e ⊢;exact x.h _ _ _ _ e q
  ·rw [if_neg hc] at e ⊢;exact y.h _ _ _ _ e q
def twF {c:Type} (f:Nat->c->SortSt->Option (ForInStep c×SortSt)):List Nat->c->SortSt->Option (c×SortSt)
 | [],v,st=>some (v,st)
 | i :: l,v,st=>match f i v st with
  | some (.done v',st')=>some (v',st')
  | some (.yield v',st')=>twF f l v' st'
  | none=>none
theorem twF_ok {c:Type} {f:Nat->c->StateT SortSt Sem (ForInStep c)} (x:∀ i v,SimD prog w A E s (f i v)):∀ (l:List Nat) (v:c) (st:SortSt) (Q:c->SortSt->Prop) (v':c) (st':SortSt),twF (fun i v=>(x i v).t) l v st=some (v',st')->Q v' st'->wpS (model prog w) A E s (forIn l v f) Q st
 | [],v,st,Q,v',st',e,q=>by
  cases e
  rw [List.forIn_nil];exact wpS_pure q
 | i :: l,v,st,Q,v',st',e,q=>by
  rw [List.forIn_cons]
  unfold twF at e
  split at e
  ·rename_i v1 st1 h1
   cases e
   exact wpS_bind ((x i v).h _ _ _ _ h1 (wpS_pure q))
  ·rename_i v1 st1 h1
   exact wpS_bind ((x i v).h _ _ _ _ h1 (twF_ok x l v1 st1 Q v' st' e q))
  ·cases e
def sd_for {c:Type} {i j:Nat} {v:c} {f:Nat->c->StateT SortSt Sem (ForInStep c)} (x:∀ i v,SimD prog w A E s (f i v)):SimD prog w A E s (forIn [i:j] v f) where
 t:=twF (fun i v=>(x i v).t) (List.range' i (j - i)) v
 h:=fun st Q v' st' e q=>by
  rw [Std.Legacy.Range.forIn_eq_forIn_range',show ([i:j]:Std.Legacy.Range).size=j - i by simp [Std.Legacy.Range.size]]
  exact twF_ok x _ _ _ _ _ _ e q
def ltV (x y:Value):Option Bool:=match x,y with
 | .str x _,.str y _=>some (ltCps x.cps.toList y.cps.toList)
 | _,_=>none
noncomputable def sd_lt (x y:Keyed):SimD prog w A E s (lt' x y) where
 t:=fun st=>if isOne (kindOf st) then (match ltV x.1 y.1 with
  | some r=>some (some r,st)
  | none=>none) else none
 h:=fun st Q v' st' e q=>by
  split at e
  ·rename_i h1
   split at e
   ·rename_i r hr
    cases e
    unfold ltV at hr
    split at hr
    ·rename_i x' tx y' ty ex ey
     cases hr
     rw [ltCps_eq] at q
     rw [lt'_eq]
     refine wpS_bind (wpS_get ?_)
     rw [isOne_eq h1,keyLt'_oneType,ex,ey]
     refine wpS_bind (wpS_lift (wpAny_attempt (oneLt_str ⟨rfl,?_⟩)))
     exact wpS_pure q
    ·cases hr
   ·cases e
  ·cases e
def sd_elem (xs:Array Keyed) (i:Nat):SimD prog w A E s (elem' xs i) where
 t:=fun st=>match xs.toList[i]? with
  | some v=>some (v,st)
  | none=>none
 h:=fun st Q v' st' e q=>by
  rw [elem'_eq]
  split at e
  ·rename_i v hv
   cases e
   rw [Array.getElem?_toList] at hv
   rw [hv]
   exact wpS_pure q
  ·cases e
end
end L2
end
section
namespace L2
open PySem PySem.Spec PyProof.Rows PySem.W PySem.Calls
noncomputable section
variable {prog:Program} {w:World} {A:Around} {E:Value->Shared->Prop} {s:Shared} {a b c:Type}
def sd_bindO {m:StateT SortSt Sem (Option a)} {k:Option a->StateT SortSt Sem b} (x:SimD prog w A E s m) (f0:SimD prog w A E s (k none)) (f1:∀ v,SimD prog w A E s (k (some v))):SimD prog w A E s (m >>= k):=
 sd_bind x fun o=>match o with
  | none=>f0
  | some v=>f1 v
def sd_bindR {m:StateT SortSt Sem (Option a×c)} {k:Option a×c->StateT SortSt Sem b} (x:SimD prog w A E s m) (f0:∀ v,SimD prog w A E s (k (none,v))) (f1:∀ r v,SimD prog w A E s (k (some r,v))):SimD prog w A E s (m >>= k):=
 sd_bind x fun o=>match o with
  | (none,v)=>f0 v
  | (some r,v)=>f1 r v
def galX:Bool->Keyed->Array Keyed->Nat->Nat->Nat->StateT SortSt Sem (Option Nat):=sortPriv% PySem.Builtin.gallop
def setX:Nat->StateT SortSt Sem Unit:=sortPriv% PySem.Builtin.setMinGallop
def mLoX:Array Keyed->Array Keyed->StateT SortSt Sem (Array Keyed):=sortPriv% PySem.Builtin.mergeLo
def mHiX:Array Keyed->Array Keyed->StateT SortSt Sem (Array Keyed):=sortPriv% PySem.Builtin.mergeHi
def sd_ltAt (i j:Nat):SimD prog w A E s (ltAt' i j):=by
 refine sd_bind sd_get fun st=>?_
 refine sd_bind (sd_elem _ _) fun x=>?_
 refine sd_bind (sd_elem _ _) fun y=>?_
 exact sd_lt x y
def sd_rev (i j:Nat):SimD prog w A E s (reverseSlice' i j):=sd_modify _
def rotL {x:Type}:Nat->Nat->List x->List x
 | 0,d,l=>match l.drop d with
  | v :: r=>v :: (l.take d++r)
  | []=>l
 | k+1,d,y :: l=>y :: rotL k d l
 | _+1,_,[]=>[]
theorem rotL_get {x:Type}:∀ (k d:Nat) (l:List x),k+d < l.length->∀ i:Nat,(rotL k d l)[i]? = if i=k then l[k+d]? else if k < i/\i<=k+d then l[i - 1]? else l[i]?
 | 0,d,l,h,i=>by
  have e:l.drop d=l[d]'(by omega) :: l.drop (d+1):=List.drop_eq_getElem_cons (by omega)
  unfold rotL
  rw [e]
  simp only [Nat.zero_add]
  cases i with
  | zero=>rw [if_pos rfl,List.getElem?_cons_zero,List.getElem?_eq_getElem (by omega)]
  | succ i=>
   rw [if_neg (by omega),List.getElem?_cons_succ,List.getElem?_append]
   simp only [List.length_take,Nat.add_sub_cancel]
   by_cases hi:i < d
   ·rw [if_pos (by omega),if_pos (by omega),List.getElem?_take,if_pos hi]
   ·rw [if_neg (by omega),if_neg (by omega),List.getElem?_drop]
    congr 1;omega
 | k+1,d,[],h,i=>by simp at h
 | k+1,d,y :: l,h,i=>by
  have hl:k+d < l.length:=by simp at h;omega
  unfold rotL
  cases i with
  | zero=>rw [if_neg (by omega),if_neg (by omega)];rfl
  | succ i=>
   rw [List.getElem?_cons_succ,rotL_get k d l hl i]
   by_cases h1:i=k
   ·rw [if_pos h1,if_pos (show i+1=k+1 by omega),show k+1+d=(k+d)+1 by omega,List.getElem?_cons_succ]
   ·rw [if_neg h1,if_neg (show ¬ i+1=k+1 by omega)]
    by_cases h2:k < i/\i<=k+d
    ·rw [if_pos h2,if_pos (show k+1 < i+1/\i+1<=k+1+d by omega)]
     obtain ⟨j,rfl⟩ : ∃ j,i=j+1:=⟨i - 1,by omega⟩
     rfl
    ·rw [if_neg h2,if_neg (show ¬ (k+1 < i+1/\i+1<=k+1+d) by omega),List.getElem?_cons_succ]
theorem rotL_bubble {x:Type} (xs:Array x) {i j:Nat} (h1:j<=i) (h2:i < xs.toList.length):bubble xs i (i - j)=(rotL j (i - j) xs.toList).toArray:=by
 apply Array.ext_getElem?
 intro k
 have e:=rotL_get j (i - j) xs.toList (by omega) k
 have e2:((rotL j (i - j) xs.toList).toArray)[k]? = (rotL j (i - j) xs.toList)[k]?:=by simp
 rw [getElem?_bubble (by simpa using h2) _ (by omega),e2,e,show i - (i - j)=j by omega,show j+(i - j)=i by omega]
 simp only [Array.getElem?_toList]
def sd_move (i j:Nat):SimD prog w A E s (moveDown' i j) where
 t:=fun st=>if j<=i then (if i < (arrOf st).toList.length then some ((),setArr st (rotL j (i - j) (arrOf st).toList).toArray) else none) else none
 h:=fun st Q v st' e q=>by
  split at e
  ·rename_i h1
   split at e
   ·rename_i h2
    cases e
    rw [<-rotL_bubble _ h1 h2] at q
    rw [moveDown'_eq]
    exact wpS_modify q
   ·cases e
  ·cases e
def putL {x:Type}:Nat->List x->List x->List x
 | 0,m :: ms,_ :: l=>m :: putL 0 ms l
 | 0,_,l=>l
 | k+1,ms,y :: l=>y :: putL k ms l
 | _+1,_,[]=>[]
theorem putL_nil {x:Type}:∀ (k:Nat) (l:List x),putL k [] l=l
 | 0,l=>by unfold putL;rfl
 | k+1,[]=>rfl
 | k+1,y :: l=>by unfold putL;rw [putL_nil k l]
theorem putL_set {x:Type} (m:x) (ms:List x):∀ (k:Nat) (l:List x),putL (k+1) ms (l.set k m)=putL k (m :: ms) l
 | 0,[]=>rfl
 | 0,y :: l=>by cases ms<;>rfl
 | k+1,[]=>rfl
 | k+1,y :: l=>by
  show y :: putL (k+1) ms (l.set k m)=y :: putL k (m :: ms) l
  rw [putL_set m ms k l]
theorem putL_fold {x:Type} (sa:Nat):∀ (ms:List x) (n:Nat) (xs:Array x),(ms.zipIdx n).foldl (fun a (p,j)=>a.setIfInBounds (sa+j) p) xs=(putL (sa+n) ms xs.toList).toArray
 | [],n,xs=>by rw [putL_nil];rfl
 | m :: ms,n,xs=>by
  rw [List.zipIdx_cons,List.foldl_cons]
  rw [putL_fold sa ms (n+1),Array.toList_setIfInBounds]
  rw [<-putL_set m ms (sa+n)]
  rfl
def sd_write (sa:Nat) (ys:Array Keyed):SimD prog w A E s (modify fun st:SortSt=>setArr st (ys.toList.zipIdx.foldl (fun a (p,j)=>a.setIfInBounds (sa+j) p) (arrOf st)):StateT SortSt Sem PUnit) where
 t:=fun st=>some (⟨⟩,setArr st (putL sa ys.toList (arrOf st).toList).toArray)
 h:=fun st Q v st' e q=>by
  cases e
  refine wpS_modify ?_
  rw [putL_fold]
  exact q
def sd_setG (g:Nat):SimD prog w A E s (setX g):=sd_modify _
def sd_bey (l:Bool) (key:Keyed) (xs:Array Keyed) (i:Nat):SimD prog w A E s (do let x <-elem' xs i;if l then lt' x key else return (<-lt' key x).map (!·)):=by
 refine sd_bind (sd_elem _ _) fun x=>?_
 refine sd_ite (sd_lt _ _) (sd_bind (sd_lt _ _) fun _=>sd_pure _)
def sd_gallop (l:Bool) (key:Keyed) (xs:Array Keyed) (base n hint:Nat):SimD prog w A E s (galX l key xs base n hint):=by
 refine sd_bindO (sd_bey _ _ _ _) (sd_pure _) fun right=>?_
 repeat' (first
  | with_reducible exact sd_pure _
  | with_reducible refine sd_bindR (sd_for fun i c=>?_) (fun v=>?_) (fun r v=>?_)
  | with_reducible refine sd_ite ?_ ?_
  | refine sd_bindO (sd_bey _ _ _ _) ?_ (fun v=>?_))
def sd_mLo (x y:Array Keyed):SimD prog w A E s (mLoX x y):=by
 refine sd_bind (sd_rule _) fun _=>?_
 repeat' (first
  | with_reducible exact sd_pure _
  | with_reducible refine sd_bindR (sd_for fun i c=>?_) (fun v=>?_) (fun r v=>?_)
  | with_reducible refine sd_bind (sd_for fun i c=>?_) (fun v=>?_)
  | with_reducible refine sd_ite ?_ ?_
  | with_reducible refine sd_bind (sd_rule _) fun _=>?_
  | with_reducible refine sd_bind sd_get fun _=>?_
  | refine sd_bind (sd_elem _ _) fun x=>?_
  | refine sd_bindO (sd_lt _ _) ?_ (fun v=>?_)
  | refine sd_bind (sd_setG _) (fun v=>?_)
  | refine sd_bindO (sd_gallop _ _ _ _ _ _) ?_ (fun v=>?_))
 exact sd_none
def sd_mHi (x y:Array Keyed):SimD prog w A E s (mHiX x y):=by
 refine sd_bind (sd_rule _) fun _=>?_
 repeat' (first
  | with_reducible exact sd_pure _
  | with_reducible refine sd_bindR (sd_for fun i c=>?_) (fun v=>?_) (fun r v=>?_)
  | with_reducible refine sd_bind (sd_for fun i c=>?_) (fun v=>?_)
  | with_reducible refine sd_ite ?_ ?_
  | with_reducible refine sd_bind (sd_rule _) fun _=>?_
  | with_reducible refine sd_bind sd_get fun _=>?_
  | refine sd_bind (sd_elem _ _) fun x=>?_
  | refine sd_bindO (sd_lt _ _) ?_ (fun v=>?_)
  | refine sd_bind (sd_setG _) (fun v=>?_)
  | refine sd_bindO (sd_gallop _ _ _ _ _ _) ?_ (fun v=>?_))
 exact sd_none
def sd_count (lo n:Nat):SimD prog w A E s (countRun' lo n):=by
 refine sd_bindR (sd_for fun i c=>?_) (fun v=>?_) (fun r v=>?_)
 all_goals repeat' (first
  | with_reducible exact sd_pure _
  | with_reducible refine sd_bindR (sd_for fun i c=>?_) (fun v=>?_) (fun r v=>?_)
  | with_reducible refine sd_ite ?_ ?_
  | with_reducible refine sd_bind (sd_rule _) fun _=>?_
  | refine sd_bindO (sd_ltAt _ _) ?_ (fun v=>?_)
  | refine sd_bind (sd_rev _ _) (fun v=>?_))
def sd_bin (lo n ok:Nat):SimD prog w A E s (binarySort' lo n ok):=by
 refine sd_bindR (sd_for fun i c=>?_) (fun v=>?_) (fun r v=>?_)
 all_goals repeat' (first
  | with_reducible exact sd_pure _
  | with_reducible refine sd_bindR (sd_for fun i c=>?_) (fun v=>?_) (fun r v=>?_)
  | with_reducible refine sd_ite ?_ ?_
  | refine sd_bindO (sd_ltAt _ _) ?_ (fun v=>?_)
  | refine sd_bind (sd_move _ _) (fun v=>?_))
def sd_at (i:Nat):SimD prog w A E s (mergeAt' i):=by
 refine sd_bind sd_get fun st=>?_
 generalize (pendingOf st)[i]? = o1
 generalize (pendingOf st)[i+1]? = o2
 cases o1 with
 | none=>exact sd_none
 | some q1=>
  cases o2 with
  | none=>exact sd_none
  | some q2=>
   obtain ⟨sa,na,pw⟩:=q1
   obtain ⟨sb,nb,pv⟩:=q2
   refine sd_bind (sd_set _) fun _=>?_
   refine sd_bind (sd_elem _ _) fun x=>?_
   refine sd_bindO (sd_gallop _ _ _ _ _ _) (sd_pure _) (fun k=>?_)
   refine sd_ite (sd_pure _) ?_
   refine sd_bind (sd_elem _ _) fun x=>?_
   refine sd_bindO (sd_gallop _ _ _ _ _ _) (sd_pure _) (fun nb'=>?_)
   refine sd_ite (sd_pure _) ?_
   refine sd_ite (sd_bind (sd_mLo _ _) fun y=>sd_bind (sd_write _ _) fun _=>sd_bind sd_get fun _=>sd_pure _) (sd_bind (sd_mHi _ _) fun y=>sd_bind (sd_write _ _) fun _=>sd_bind sd_get fun _=>sd_pure _)
def sd_sort:SimD prog w A E s sortRuns':=by
 refine sd_bind sd_get fun st=>?_
 refine sd_bindR (sd_for fun i c=>?_) (fun v=>?_) (fun r v=>sd_pure _)
 ·refine sd_ite (sd_pure _) ?_
  refine sd_bindO (sd_count _ _) (sd_pure _) fun n=>?_
  refine sd_ite (sd_bind (sd_rule _) fun _=>sd_bind (sd_bin _ _ _) fun o=>sd_ite (sd_pure _) ?_) ?_
  all_goals
   refine sd_bind sd_get fun st2=>?_
   try dsimp only
   generalize (pendingOf st2).back? = o2
   cases o2 with
   | none=>exact sd_bind (sd_modify _) fun _=>sd_pure _
   | some q=>
    obtain ⟨s1,n1,p1⟩:=q
    refine sd_bindR (sd_for fun i c=>?_) (fun v=>sd_bind (sd_modify _) fun _=>sd_bind (sd_modify _) fun _=>sd_pure _) (fun r v=>sd_pure _)
    refine sd_bind sd_get fun st3=>?_
    try dsimp only
    generalize (if (pendingOf st3).size > 1 then (pendingOf st3)[(pendingOf st3).size - 2]? else none)=o3
    cases o3 with
    | none=>exact sd_pure _
    | some q3=>
     obtain ⟨a3,b3,c3⟩:=q3
     exact sd_ite (sd_pure _) (sd_bind (sd_at _) fun o=>sd_ite (sd_pure _) (sd_pure _))
 ·refine sd_bindR (sd_for fun i c=>?_) (fun v=>sd_pure _) (fun r v=>sd_pure _)
  refine sd_bind sd_get fun st3=>?_
  exact sd_ite (sd_pure _) (sd_bind (sd_at _) fun o=>sd_ite (sd_pure _) (sd_pure _))
end
end L2
end
section
namespace L2
open PySem PySem.Spec PyProof.Rows PySem.W PySem.Calls
def allS:Nat->List (List Bool)
 | 0=>[[]]
 | L+1=>(allS L).map (false :: ·)++(allS L).map (true :: ·)
def revS:Nat->List (List Bool)
 | 0=>[[]]
 | L+1=>(revS L).map (·++[false])++(revS L).map (·++[true])
theorem allS_mem:∀ (L:Nat) (u:List Bool),u∈allS L↔u.length=L
 | 0,u=>by simp [allS,List.length_eq_zero_iff]
 | L+1,u=>by
  unfold allS
  rw [List.mem_append,List.mem_map,List.mem_map]
  constructor
  ·rintro (⟨x,hx,rfl⟩ | ⟨x,hx,rfl⟩)
   ·simp [(allS_mem L x).mp hx]
   ·simp [(allS_mem L x).mp hx]
  ·intro h
   cases u with
   | nil=>cases h
   | cons b x=>
    have hx:=(allS_mem L x).mpr (by simpa using h)
    cases b
    ·exact .inl ⟨x,hx,rfl⟩
    ·exact .inr ⟨x,hx,rfl⟩
theorem allS_len:∀ L,(allS L).length=2 ^ L
 | 0=>rfl
 | L+1=>by unfold allS;rw [List.length_append,List.length_map,List.length_map,allS_len L,Nat.pow_succ];omega
theorem revS_len:∀ L,(revS L).length=2 ^ L
 | 0=>rfl
 | L+1=>by unfold revS;rw [List.length_append,List.length_map,List.length_map,revS_len L,Nat.pow_succ];omega
theorem revS_nodup:∀ L,(revS L).Nodup
 | 0=>by simp [revS]
 | L+1=>by
  have inj:∀ b:Bool,Function.Injective (fun x:List Bool=>x++[b]):=fun b x y h=>(List.append_inj' h rfl).1
  have nd:∀ b:Bool,((revS L).map (·++[b])).Nodup:=fun b=>by
   unfold List.Nodup
   rw [List.pairwise_map]
   exact (revS_nodup L).imp fun h z=>h (inj b z)
  unfold revS
  rw [List.nodup_append]
  refine ⟨nd _,nd _,?_⟩
  intro x hx y hy z
  obtain ⟨x',_,rfl⟩:=List.mem_map.mp hx
  obtain ⟨y',_,rfl⟩:=List.mem_map.mp hy
  have:=(List.append_inj' z rfl).2
  simp at this
theorem revS_all:∀ (L:Nat) (u:List Bool),u∈revS L->u.length=L
 | 0,u,h=>by simp [revS] at h;simp [h]
 | L+1,u,h=>by
  unfold revS at h
  rcases List.mem_append.mp h with z | z
  all_goals
   obtain ⟨x,hx,rfl⟩:=List.mem_map.mp z
   simp [revS_all L x hx]
end L2
end
section
namespace L2
open PySem PySem.Spec PyProof.Rows PySem.W PySem.Calls
abbrev itS (tk:List Bool->Tok) (u:List Bool):Value:=.str (bs u) (tk u)
theorem toks_of:∀ (us:List (List Bool)) (vs:List Value),us.Nodup->Vals (us.map fun u=>V.str (bs u)) vs->∃ tk:List Bool->Tok,vs=us.map (itS tk)
 | [],vs,_,h=>by cases h;exact ⟨fun _=>default,rfl⟩
 | u :: us,vs,nd,h=>by
  cases h with
  | cons h r=>
   obtain ⟨t,rfl⟩:=h
   have nd':=List.nodup_cons.mp nd
   obtain ⟨tk,rfl⟩:=toks_of us _ nd'.2 r
   refine ⟨fun x=>if x=u then t else tk x,?_⟩
   rw [List.map_cons]
   congr 1
   ·show Value.str (bs u) t=Value.str (bs u) (if u=u then t else tk u)
    rw [if_pos rfl]
   ·refine List.map_congr_left fun x hx=>?_
    show Value.str (bs x) (tk x)=Value.str (bs x) (if x=u then t else tk x)
    rw [if_neg (fun z:x=u=>nd'.1 (z ▸ hx))]
abbrev stS (L:Nat) (tk:List Bool->Tok):SortSt:=SortSt.mk' oneType' ((revS L).map fun u=>(itS tk u,itS tk u)).toArray #[] 7 none
def EvS (L:Nat):Prop:=∀ (prog:Program) (w:World) (A:Around) (E:Value->Shared->Prop) (s:Shared) (tk:List Bool->Tok),((sd_sort (prog:=prog) (w:=w) (A:=A) (E:=E) (s:=s)).t (stS L tk)).map (fun r=>((arrOf r.2).toList.map (·.2),failedOf r.2))=some ((allS L).map (itS tk),none)
theorem ev1:EvS 1:=fun prog w A E s tk=>by kernel_rfl
theorem ev2:EvS 2:=fun prog w A E s tk=>by kernel_rfl
theorem ev3:EvS 3:=fun prog w A E s tk=>by kernel_rfl
theorem ev4:EvS 4:=fun prog w A E s tk=>by kernel_rfl
theorem ev5:EvS 5:=fun prog w A E s tk=>by kernel_rfl
theorem ev6:EvS 6:=fun prog w A E s tk=>by kernel_rfl
theorem ev7:EvS 7:=fun prog w A E s tk=>by kernel_rfl
theorem ev8:EvS 8:=fun prog w A E s tk=>by kernel_rfl
theorem ev_all {L:Nat} (h1:1<=L) (h8:L<=8):EvS L:=by
 match L,h1,h8 with
 | 1,_,_=>exact ev1
 | 2,_,_=>exact ev2
 | 3,_,_=>exact ev3
 | 4,_,_=>exact ev4
 | 5,_,_=>exact ev5
 | 6,_,_=>exact ev6
 | 7,_,_=>exact ev7
 | 8,_,_=>exact ev8
end L2
end
section
namespace L2
open PySem PySem.Spec PyProof.Rows PySem.W PySem.Calls
section
variable {prog:Program} {w:World} {A:Around} {E:Value->Shared->Prop} {s:Shared} {L:Nat} {tk:List Bool->Tok}
theorem strsAre_it:∀ us:List (List Bool),StrsAre (us.map (itS tk)) (us.map bs)
 | []=>.nil
 | u :: us=>.cons _ _ (strsAre_it us)
theorem kind_it {v1 v2:Value} {vs:List Value} {us:List (List Bool)} (e:us.map (itS tk)=v1 :: v2 :: vs):keyKind' (v1 :: v2 :: vs).toArray=pure oneType':=keyKind_strs (e ▸ strsAre_it us)
theorem zip_it (us:List (List Bool)):(us.map (itS tk)).toArray.zip (us.map (itS tk)).toArray=(us.map fun u=>(itS tk u,itS tk u)).toArray:=by
 apply Array.toList_inj.mp
 simp [List.zip_map']
theorem runs_it (h1:1<=L) (h8:L<=8):wpAny (model prog w) A ((sortRuns').run (SortSt.mk' oneType' (((revS L).map (itS tk)).toArray.zip ((revS L).map (itS tk)).toArray) #[] 7 none))
  (fun r s'=>s'=s/\(arrOf r.2).map (·.2)=((allS L).map (itS tk)).toArray/\failedOf r.2=none) E s:=by
 have ev:=ev_all h1 h8 prog w A E s tk
 rw [zip_it]
 cases e:(sd_sort (prog:=prog) (w:=w) (A:=A) (E:=E) (s:=s)).t (stS L tk) with
 | none=>rw [e] at ev;cases ev
 | some r=>
  rw [e] at ev
  have ev:=Option.some.inj ev
  have e1:=congrArg Prod.fst ev
  have e2:=congrArg Prod.snd ev
  refine sd_sort.h _ (fun _ st'=>(arrOf st').map (·.2)=((allS L).map (itS tk)).toArray/\failedOf st'=none) r.1 r.2 e ⟨?_,e2⟩
  apply Array.toList_inj.mp
  rw [Array.toList_map]
  exact e1
theorem strs_sort {a:Addr} {n:Nat} {P:PySem.Fin->Shared->Prop} (h1:1<=L) (h8:L<=8) (ho:s.heap.get? a=some (seqObj "list" ((revS L).map (itS tk)).toArray n))
  (h:∀ (h':Heap) (e:Nat),(∀ b o,b≠a->s.heap.get? b=some o->h'.get? b=some o)->h'.get? a=some (seqObj "list" ((allS L).map (itS tk)).toArray e)->P (.done (.ret .none)) { s with heap:=h' }) :
  wpAny (model prog w) A (Builtin.«list.sort» ⟨[.ref a],[]⟩) P E s:=by
 have p8:2 ^ L<=2 ^ 8:=Nat.pow_le_pow_right (by decide) h8
 have p1:2 ^ 1<=2 ^ L:=Nat.pow_le_pow_right (by decide) h1
 have vl:((revS L).map (itS tk)).length=2 ^ L:=by rw [List.length_map,revS_len]
 have runs:=fun s=>runs_it (prog:=prog) (w:=w) (A:=A) (E:=E) (s:=s) (tk:=tk) h1 h8
 have kind:∀ v1 v2 r,(revS L).map (itS tk)=v1 :: v2 :: r->keyKind' (v1 :: v2 :: r).toArray=pure oneType':=fun v1 v2 r e=>kind_it e
 generalize (revS L).map (itS tk)=vs at ho vl runs kind
 have ol:((allS L).map (itS tk)).length=2 ^ L:=by rw [List.length_map,allS_len]
 generalize (allS L).map (itS tk)=out at h ol runs
 have ha:a < s.heap.objs.size:=Heap.lt_size ho
 have s1:=Heap.SameBut.update s.heap a (Obj.mapSeq fun _=>(#[]:Array Value))
 obtain ⟨e1,ho1⟩ : ∃ e1,(s.heap.update a (Obj.mapSeq fun _=>(#[]:Array Value))).get? a=some (seqObj "list" #[] e1):=⟨_,get?_update_seq ho fun _=>#[]⟩
 have kp:∀ b o,b≠a->s.heap.get? b=some o->(((s.heap.update a (Obj.mapSeq fun _=>(#[]:Array Value))).push (seqObj "tuple" vs.toArray 0)).push (seqObj "list" #[] 0)).get? b=some o:=fun b o n e=>Heap.get?_push_of_some _ (Heap.get?_push_of_some _ ((s1.2 b n).trans e))
 have ho3:(((s.heap.update a (Obj.mapSeq fun _=>(#[]:Array Value))).push (seqObj "tuple" vs.toArray 0)).push (seqObj "list" #[] 0)).get? a=some (seqObj "list" #[] e1):=Heap.get?_push_of_some _ (Heap.get?_push_of_some _ ho1)
 rw [list_sort_plain]
 refine wpAny_bind (listItems_at ho rfl ?_)
 refine wpAny_bind (listUpdate_at ho rfl ?_ (by rw [List.size_toArray,sizeLine_eq];omega) (Nat.zero_le _))
 refine wpAny_bind (seqEpoch_at ho1 rfl ?_)
 refine wpAny_bind (wpAny_newTuple ?_ (by show vs.length<=_;rw [sizeLine_eq];omega))
 refine wpAny_bind (wpAny_newList ?_ (Nat.zero_le _))
 refine wpAny_holding ?_
 show wpAny (model prog w) A _ P E { s with heap:=((s.heap.update a (Obj.mapSeq fun _=>(#[]:Array Value))).push (seqObj "tuple" vs.toArray 0)).push (seqObj "list" #[] 0) }
 dsimp only
 have hn2:¬ vs.toArray.size < 2:=by rw [List.size_toArray];omega
 rw [if_neg hn2,if_neg hn2]
 generalize ((s.heap.update a (Obj.mapSeq fun _=>(#[]:Array Value))).push (seqObj "tuple" vs.toArray 0)).push (seqObj "list" #[] 0)=h3 at kp ho3 ⊢
 have ek:keyKind' vs.toArray=pure oneType':=by
  match vs,vl,kind with
  | [],vl,_=>simp at vl;omega
  | [_],vl,_=>simp at vl;omega
  | v1 :: v2 :: r,_,kind=>exact kind v1 v2 r rfl
 rw [ek]
 refine wpAny_bind (wpAny_pure ?_)
 refine wpAny_bind (wpAny_mono (runs { s with heap:=h3 }) ?_ fun _ _ e=>e)
 rintro ⟨⟨⟩,st'⟩ s' ⟨rfl,har,hf⟩
 dsimp only at har hf ⊢
 rw [har]
 have s2:=Heap.SameBut.update h3 a (Obj.mapSeq fun _=>out.toArray)
 obtain ⟨c2,hc2⟩ : ∃ c2,(h3.update a (Obj.mapSeq fun _=>out.toArray)).get? a=some (seqObj "list" out.toArray c2):=⟨_,get?_update_seq ho3 fun _=>out.toArray⟩
 refine wpAny_bind (seqEpoch_at ho3 rfl ?_)
 refine wpAny_bind (listUpdate_at ho3 rfl ?_ (Nat.zero_le _) (by rw [List.size_toArray,sizeLine_eq];omega))
 rw [hf]
 simp only [bne_self_eq_false,Bool.false_eq_true,if_false]
 exact wpAny_pure (h _ c2 (fun b o n e=>(s2.2 b n).trans (kp b o n e)) hc2)
theorem strs_sorted {l:Addr} {Q:Value->Shared->Prop} (h1:1<=L) (h8:L<=8) (hl:s.heap.IsList l ((revS L).map (itS tk)).toArray)
  (h:∀ (h':Heap) (l':Addr) (e:Nat),(∀ b o,s.heap.get? b=some o->h'.get? b=some o)->s.heap.objs.size<=l'->h'.get? l'=some (seqObj "list" ((allS L).map (itS tk)).toArray e)->Q (.ref l') { s with heap:=h' }) :
  wpAny (model prog w) A (call (.builtin "sorted") [.ref l]) Q E s:=by
 have p8:2 ^ L<=2 ^ 8:=Nat.pow_le_pow_right (by decide) h8
 have vl:((revS L).map (itS tk)).length=2 ^ L:=by rw [List.length_map,revS_len]
 refine Calls.call_function_entry kind_sorted plain_sorted entry_sorted (args_sorted1 _) ?_
 unfold Builtin.«sorted»
 refine wpAny_bind (m:=checkCount "sorted" 1 1 _) (wpAny_pure ?_)
 refine wpAny_bind (collect_list hl ?_ (by rw [sizeLine_eq];omega))
 refine wpAny_bind (wpAny_newList ?_ (by rw [sizeLine_eq];omega))
 have hsz:((s.heap.push (seqObj "list" #[] 0)).update s.heap.objs.size (Obj.mapSeq (·++((revS L).map (itS tk)).toArray))).objs.size=s.heap.objs.size+1:=by
  rw [Heap.size_update,size_push']
 have hoL:(((s.heap.push (seqObj "list" #[] 0)).update s.heap.objs.size (Obj.mapSeq (·++((revS L).map (itS tk)).toArray))).push (seqObj "list" ((revS L).map (itS tk)).toArray 0)).get? (s.heap.objs.size+1)=some (seqObj "list" ((revS L).map (itS tk)).toArray 0):=by
  rw [<-hsz];exact Heap.get?_push_size _ rfl
 have keep:∀ b o,s.heap.get? b=some o->(((s.heap.push (seqObj "list" #[] 0)).update s.heap.objs.size (Obj.mapSeq (·++((revS L).map (itS tk)).toArray))).push (seqObj "list" ((revS L).map (itS tk)).toArray 0)).get? b=some o:=fun b o q=>by
  have hlt:b < s.heap.objs.size:=Heap.lt_size q
  rw [Heap.get?_push_ne _ _ _ (by rw [hsz];exact Nat.ne_of_lt (Nat.lt_succ_of_lt hlt)),Heap.get?_update_ne _ _ _ _ (Nat.ne_of_lt hlt),Heap.get?_push_ne _ _ _ (Nat.ne_of_lt hlt)]
  exact q
 show wpAny _ _ _ _ _ { s with heap:=((s.heap.push (seqObj "list" #[] 0)).update s.heap.objs.size (Obj.mapSeq (·++((revS L).map (itS tk)).toArray))).push (seqObj "list" ((revS L).map (itS tk)).toArray 0) }
 rw [hsz]
 refine wpAny_bind (wpAny_holding (wpAny_call_entry slot_list_sort ⟨_,hoL,rfl⟩ entry_list_sort ?body (args_list_sort _)))
 case body=>
  refine strs_sort (s:={ s with heap:=((s.heap.push (seqObj "list" #[] 0)).update s.heap.objs.size (Obj.mapSeq (·++((revS L).map (itS tk)).toArray))).push (seqObj "list" ((revS L).map (itS tk)).toArray 0) }) h1 h8 hoL fun h' e kp hh=>?_
  refine ⟨_,rfl,wpAny_pure ⟨_,rfl,h h' _ e (fun b o q=>kp b o (Nat.ne_of_lt (Nat.lt_succ_of_lt (Heap.lt_size q))) (keep b o q)) (Nat.le_succ _) hh⟩⟩
end
section
variable {X:Cx} {p pos:Pos}
abbrev txV (u:List Bool):V:=.str (bs u)
def rSortS:List V->Hp->VK->Prop:=fun vs H Q=>match vs with
 | [.ref q]=>∃ L:Nat,H q=some (WS (revS L))/\1<=L/\L<=8/\∀ l,H l=none->Q (.ref l) (upd H l (WS (allS L)))
 | _=>False
theorem vals_it {tk:List Bool->Tok}:∀ us:List (List Bool),Vals (us.map txV) (us.map (itS tk))
 | []=>.nil
 | u :: us=>.cons ⟨_,rfl⟩ (vals_it us)
theorem call_sortS:CallR X (.builtin "sorted") rSortS:=by
 intro pins s σ H xs us Q I r h
 unfold rSortS at h
 split at h
 ·obtain ⟨L,hH,h1,h8,q⟩:=h
  obtain ⟨u,rfl,rx⟩:=vals1 r
  cases rx
  obtain ⟨z,its,n,rv,e⟩:=I.hok _ _ hH
  obtain ⟨tk,rfl⟩:=toks_of _ _ (revS_nodup L) rv
  have p8:2 ^ L<=2 ^ 8:=Nat.pow_le_pow_right (by decide) h8
  refine strs_sorted (tk:=tk) h1 h8 ⟨_,e,rfl,_,rfl⟩ fun h' l' ee kp hl he=>?_
  exact ⟨.ref l',upd H l' (WS (allS L)),I.laid (t':=s.toks) kp hl ⟨by rw [List.length_map,allS_len,sizeLine_eq];omega,_,ee,vals_it _,he⟩,rfl,q _ (I.hok.fresh hl)⟩
 ·exact h.elim
theorem fn_sortS {e:Expr} {es:List Expr} {t:TA} {mg':Str->Option Value} (hm:mg' "sorted" = none) (hX:X.mg=mg') (ha:PA X (e :: es) t) (hg:gB X "sorted" = true:=by kernel_rfl) (he:starEach (e :: es) X.env=(false,eval e X.env) :: starEach es X.env:=by kernel_rfl) (hpl:(backTo pos (starEach es X.env)).any (·.1)=false:=by kernel_rfl) :
  PE X (.Call (.Name "sorted" p) (e :: es) [] pos) (tCB rSortS t):=pe_callB call_sortS (gl_of hg) (by rw [hX];exact hm) PyProof.Rows.boot_sorted ha (he:=he) (hpl:=hpl)
end
end L2
end
section
namespace K50
open PySem L2
section
variable {P:Program} {w:World} {K:PySem.W.Frag} {mg:Str->Option Value} {base:Heap}
abbrev sAll:Stmt:=top 1
def spAll:Sp:=fun vs H Q _=>match vs with
 | [.int len]=>∃ L:Nat,len=(L:Nat)/\L<=8/\∀ l H',Same H H'->H l=none->H' l=some (WS (allS L))->Q (.ref l) H'
 | _=>False
theorem scAll:FnScope ["length","found","place"] ["length"] (defScope sAll):=⟨rfl,rfl,rfl,by decide +kernel,rfl,by decide +kernel,by decide +kernel⟩
local macro_rules | `(tactic| walk_at "T.c")=>`(tactic| (have ndc:(["signs"]:List Str).Nodup:=(by decide +kernel));((with_reducible refine' c_comp ["signs"] [] ?b1 ?b2 (fun cl C s H fp=>?b3) (fun cl C s H fp=>?b4) (fun cl C s H fp=>?b5));(case b1=>exact ndc);(case b2=>walk_at "T.i");(case b3=>walk_at "T.g");(case b4=>walk_at "T.pf");(case b5=>walk_at "T.e")))
theorem ok_all (D:FnX K mg "all_signs" sAll ["length"]) (g1:mg "range" = none):Can P w K mg base "all_signs" 1 ["length"] spAll:=by
 refine can_fn (k:=0) D scAll (fun vs H Q E h=>?_) (fun f cdv A outer s H vs Q E hr h=>?_)
 all_goals
  unfold spAll at h
  split at h
 ·rfl
 ·exact h.elim
 ·rename_i len
  obtain ⟨L,rfl,l8,q⟩:=h
  have nd:=scAll.nd
  refine ⟨_,(by walk_at "T.top"),?_⟩
  refine ⟨le_line (Nat.le_of_ble_eq_true rfl),fun ev0 hev0=>?_⟩
  try dsimp only [gName,tNext]
  refine ⟨by omega,by omega,for_by (it_range 0 _) (fun i σ H2=>∃ v2 ev,σ=[some (.int (L:Nat)),some (.ref ev),v2]/\Same H H2/\H ev=none/\H2 ev=some (WS (allS i))/\i<=L)
   ⟨none,ev0,rfl,Same.upd hev0,hev0,by rw [upd_same,bs_nil];rfl,Nat.zero_le _⟩ (fun _ _ _ _ _=>trivial) ?_ ?_⟩
  ·rintro i x σ H2 hi hx ⟨v2,ev,rfl,s2,nev,hev,him⟩
   have hi':i < L:=by simpa using hi
   have evw:∀ w∈allS i,w.length=i:=fun w hw=>(allS_mem i w).mp hw
   have p256:(allS i).length<=256:=by
    rw [allS_len]
    calc 2 ^ i<=2 ^ 8:=Nat.pow_le_pow_right (by decide) (by omega)
     _<=256:=by decide
   have e1:allS (i+1)=(allS i).map (fun w=>[false]++w)++(allS i).map (fun w=>[true]++w):=rfl
   generalize allS i=evs at hev evw p256 e1
   have step:∀ (b:Bool) (sgn:Str),sgn=bs [b]->∀ (H3:Hp) (D1:Addr) (ys:List V) (i':Nat) (x:V),(evs.map fun w=>V.str (bs w))[i']? = some x->∀ C:VK,C ((fun x=>match x with | V.str z=>V.str (sgn++z) | _=>x) x) (upd H3 D1 (.lst ys))->rAddU (.str sgn) x (upd H3 D1 (.lst ys)) C:=by
    intro b sgn hb H3 D1 ys i' x hx C c
    rw [List.getElem?_map] at hx
    obtain ⟨w0,hw0,rfl⟩:=Option.map_eq_some_iff.mp hx
    refine ⟨?_,c⟩
    rw [hb,bs_len,bs_len,evw _ (List.mem_of_getElem? hw0)]
    exact le_line (by simp;omega)
   have outl:∀ (b:Bool) (sgn:Str),sgn=bs [b]->(evs.map fun w=>V.str (bs w)).map (fun x=>match x with | V.str z=>V.str (sgn++z) | _=>x)=(evs.map fun w=>[b]++w).map fun w=>V.str (bs w):=by
    intro b sgn hb
    rw [List.map_map,List.map_map]
    apply List.map_congr_left
    intro w0 _
    show V.str (sgn++bs w0)=V.str (bs ([b]++w0))
    rw [hb,bs_app]
   refine ⟨⟨_,SqL.of hev⟩,fun D1 hD1=>?_⟩
   refine comp_map1 (it_list _ ev (evs.map fun w=>V.str (bs w))) (fun x=>match x with | V.str z=>V.str (("0" : Str)++z) | _=>x) (by rw [ws_len];exact le_line (by omega)) (fun o=>SqL.upd hev hD1) (fun i' x ys hx C c=>step false _ bs_0 _ _ _ _ _ hx C c) ?_
   have hev1:∀ o,upd H2 D1 o ev=some (WS evs):=fun o=>Same.upd hD1 _ _ hev
   refine ⟨⟨_,SqL.of (hev1 _)⟩,fun D2 hD2=>?_⟩
   refine comp_map1 (it_list _ ev (evs.map fun w=>V.str (bs w))) (fun x=>match x with | V.str z=>V.str (("1" : Str)++z) | _=>x) (by rw [ws_len];exact le_line (by omega)) (fun o=>SqL.upd (hev1 _) hD2) (fun i' x ys hx C c=>step true _ bs_1 _ _ _ _ _ hx C c) ?_
   rw [outl false _ bs_0,outl true _ bs_1]
   have xD:D1≠D2:=ne_of_none (H:=upd H2 D1 (HO.lst ((evs.map fun w=>[false]++w).map fun w=>V.str (bs w)))) upd_same (by rw [outl false _ bs_0] at hD2;exact hD2)
   refine ⟨_,_,by rw [upd_ne xD,upd_same],upd_same,?_,fun ev2 hev2=>?_⟩
   ·rw [ws_len,ws_len,List.length_map,List.length_map];exact le_line (by omega)
   ·rw [outl false _ bs_0] at hD2
    have sx:Same H (upd (upd H2 D1 (HO.lst ((evs.map fun w=>[false]++w).map fun w=>V.str (bs w)))) D2 (HO.lst ((evs.map fun w=>[true]++w).map fun w=>V.str (bs w)))):=s2.trans ((Same.upd hD1).trans (Same.upd hD2))
    exact ⟨some x,ev2,rfl,sx.trans (Same.upd hev2),sx.free hev2,by rw [upd_same,e1];unfold WS;rw [List.map_append],hi'⟩
  ·rintro σ H2 ⟨v2,ev,rfl,s2,nev,hev,him⟩
   have hn:((List.range ((L:Int)).toNat).map fun i:Nat=>V.int (0+(i:Nat))).length=L:=by simp
   rw [hn] at hev
   exact q ev H2 s2 nev hev
 ·exact h.elim
end
end K50
end
section
namespace K50
open PySem L2
section
variable {P:Program} {w:World} {K:PySem.W.Frag} {mg:Str->Option Value} {base:Heap}
abbrev sLAll:Stmt:=top 32
def spLAll:Sp:=fun vs H Q _=>match vs with
 | [.int len]=>∃ L:Nat,len=(L:Nat)/\1<=L/\L<=8/\∀ l H',Same H H'->H l=none->H' l=some (WS (allS L))->Q (.ref l) H'
 | _=>False
theorem scLAll:FnScope ["n","found","k"] ["n"] (defScope sLAll):=⟨rfl,rfl,rfl,by decide +kernel,rfl,by decide +kernel,by decide +kernel⟩
local macro_rules | `(tactic| walk_at "T.c")=>`(tactic| (have ndc:(["text"]:List Str).Nodup:=(by decide +kernel));((with_reducible refine' c_comp ["text"] [] ?b1 ?b2 (fun cl C s H fp=>?b3) (fun cl C s H fp=>?b4) (fun cl C s H fp=>?b5));(case b1=>exact ndc);(case b2=>walk_at "T.i");(case b3=>walk_at "T.g");(case b4=>walk_at "T.pf");(case b5=>walk_at "T.e")))
local macro_rules | `(tactic| walk_at "T.b")=>`(tactic| ((with_reducible refine' fn_sortS ?a0 ?a9 ?a1);(case a0=>with_reducible assumption);(case a9=>rfl);(case a1=>walk_at "T.a")))
theorem ok_lall (D:FnX K mg "_law_all" sLAll ["n"]) (g1:mg "range" = none) (g2:mg "sorted" = none):Can P w K mg base "_law_all" 1 ["n"] spLAll:=by
 refine can_fn (k:=0) D scLAll (fun vs H Q E h=>?_) (fun f cdv A outer s H vs Q E hr h=>?_)
 all_goals
  unfold spLAll at h
  split at h
 ·rfl
 ·exact h.elim
 ·rename_i len
  obtain ⟨L,rfl,l1,l8,q⟩:=h
  have nd:=scLAll.nd
  refine ⟨_,(by walk_at "T.top"),?_⟩
  refine ⟨le_line (Nat.le_of_ble_eq_true rfl),fun ev0 hev0=>?_⟩
  try dsimp only [gName,tNext]
  refine ⟨by omega,by omega,for_by (it_range 0 _) (fun i σ H2=>∃ v2 ev,σ=[some (.int (L:Nat)),some (.ref ev),v2]/\Same H H2/\H ev=none/\H2 ev=some (WS (revS i))/\i<=L)
   ⟨none,ev0,rfl,Same.upd hev0,hev0,by rw [upd_same,bs_nil];rfl,Nat.zero_le _⟩ (fun _ _ _ _ _=>trivial) ?_ ?_⟩
  ·rintro i x σ H2 hi hx ⟨v2,ev,rfl,s2,nev,hev,him⟩
   have hi':i < L:=by simpa using hi
   have evw:∀ w∈revS i,w.length=i:=fun w hw=>revS_all i w hw
   have p256:(revS i).length<=256:=by
    rw [revS_len]
    calc 2 ^ i<=2 ^ 8:=Nat.pow_le_pow_right (by decide) (by omega)
     _<=256:=by decide
   have e1:revS (i+1)=(revS i).map (fun w=>w++[false])++(revS i).map (fun w=>w++[true]):=rfl
   generalize revS i=evs at hev evw p256 e1
   have step:∀ (b:Bool) (sgn:Str),sgn=bs [b]->∀ (H3:Hp) (D1:Addr) (ys:List V) (i':Nat) (x:V),(evs.map fun w=>V.str (bs w))[i']? = some x->∀ C:VK,C ((fun x=>match x with | V.str z=>V.str (z++sgn) | _=>x) x) (upd H3 D1 (.lst ys))->rAddU x (.str sgn) (upd H3 D1 (.lst ys)) C:=by
    intro b sgn hb H3 D1 ys i' x hx C c
    rw [List.getElem?_map] at hx
    obtain ⟨w0,hw0,rfl⟩:=Option.map_eq_some_iff.mp hx
    refine ⟨?_,c⟩
    rw [hb,bs_len,bs_len,evw _ (List.mem_of_getElem? hw0)]
    exact le_line (by simp;omega)
   have outl:∀ (b:Bool) (sgn:Str),sgn=bs [b]->(evs.map fun w=>V.str (bs w)).map (fun x=>match x with | V.str z=>V.str (z++sgn) | _=>x)=(evs.map fun w=>w++[b]).map fun w=>V.str (bs w):=by
    intro b sgn hb
    rw [List.map_map,List.map_map]
    apply List.map_congr_left
    intro w0 _
    show V.str (bs w0++sgn)=V.str (bs (w0++[b]))
    rw [hb,bs_app]
   refine ⟨⟨_,SqL.of hev⟩,fun D1 hD1=>?_⟩
   refine comp_map1 (it_list _ ev (evs.map fun w=>V.str (bs w))) (fun x=>match x with | V.str z=>V.str (z++("0" : Str)) | _=>x) (by rw [ws_len];exact le_line (by omega)) (fun o=>SqL.upd hev hD1) (fun i' x ys hx C c=>step false _ bs_0 _ _ _ _ _ hx C c) ?_
   have hev1:∀ o,upd H2 D1 o ev=some (WS evs):=fun o=>Same.upd hD1 _ _ hev
   refine ⟨⟨_,SqL.of (hev1 _)⟩,fun D2 hD2=>?_⟩
   refine comp_map1 (it_list _ ev (evs.map fun w=>V.str (bs w))) (fun x=>match x with | V.str z=>V.str (z++("1" : Str)) | _=>x) (by rw [ws_len];exact le_line (by omega)) (fun o=>SqL.upd (hev1 _) hD2) (fun i' x ys hx C c=>step true _ bs_1 _ _ _ _ _ hx C c) ?_
   rw [outl false _ bs_0,outl true _ bs_1]
   have xD:D1≠D2:=ne_of_none (H:=upd H2 D1 (HO.lst ((evs.map fun w=>w++[false]).map fun w=>V.str (bs w)))) upd_same (by rw [outl false _ bs_0] at hD2;exact hD2)
   refine ⟨_,_,by rw [upd_ne xD,upd_same],upd_same,?_,fun ev2 hev2=>?_⟩
   ·rw [ws_len,ws_len,List.length_map,List.length_map];exact le_line (by omega)
   ·rw [outl false _ bs_0] at hD2
    have sx:Same H (upd (upd H2 D1 (HO.lst ((evs.map fun w=>w++[false]).map fun w=>V.str (bs w)))) D2 (HO.lst ((evs.map fun w=>w++[true]).map fun w=>V.str (bs w)))):=s2.trans ((Same.upd hD1).trans (Same.upd hD2))
    exact ⟨some x,ev2,rfl,sx.trans (Same.upd hev2),sx.free hev2,by rw [upd_same,e1];unfold WS;rw [List.map_append],hi'⟩
  ·rintro σ H2 ⟨v2,ev,rfl,s2,nev,hev,him⟩
   have hn:((List.range ((L:Int)).toNat).map fun i:Nat=>V.int (0+(i:Nat))).length=L:=by simp
   rw [hn] at hev
   exact ⟨L,hev,l1,l8,fun l hl=>q l _ (s2.trans (Same.upd hl)) (s2.free hl) upd_same⟩
 ·exact h.elim
end
end K50
end
section
namespace L2
open PySem PySem.Spec PyProof.Rows
theorem orStand_keep (t:SetTable) (n:Nat):(t.orStandIn n).led=t.led:=by unfold SetTable.orStandIn;split<;>rfl
theorem layNew_led (t:SetTable) (es:Array (Int×Value)) (h:Int) (x:Value):(layNew t es h x).2.1.led=t.led:=by
 unfold layNew
 split
 ·exact orStand_keep _ _
 ·rfl
theorem relaid_keep {t t':SetTable} {hs:Array Int} {n:Nat} {o:Array Nat} (h:t.relaid hs n=some (t',o)):t'.led=t.led/\t'.plain=t.plain:=by
 unfold SetTable.relaid SetTable.laid at h
 cases e:SetTable.layClean (SetTable.sizeAbove n - 1) hs with
 | none=>rw [e] at h;cases h
 | some z=>
  rw [e] at h
  cases h
  exact ⟨rfl,rfl⟩
theorem relay_keep (t:SetTable) (es:Array (Int×Value)) (n:Nat):(relayAll t es n).2.1.led=t.led/\(t.plain=false->(relayAll t es n).2.1.plain=false):=by
 unfold relayAll
 split
 ·rename_i t' o e
  have k:=relaid_keep e
  dsimp only
  split
  ·exact ⟨k.1,fun p=>k.2.trans p⟩
  ·exact ⟨rfl,fun _=>rfl⟩
 ·exact ⟨rfl,fun _=>rfl⟩
section
variable {prog:Program} {w:World} {A:Around} {E:Value->Shared->Prop} {s:Shared}
def SetX (prog:Program) (w:World) (h:Heap) (a:Addr) (S:Str->Bool) (n:Nat) (L:Bool):Prop:=
 ∃ (o:Obj) (es:Array (Int×Value)) (ep:Nat) (t:SetTable),h.get? a=some o/\o.ExactSet/\o.data = .set es ep t/\ElemsOf (strKind prog w) es.toList/\(∀ k,S k=true↔∃ e∈es.toList,(strKind prog w).is k e.2=true)/\es.size < scanBound/\t.fits es.size=true/\es.size=n/\t.led=L/\(0 < n->t.plain=false)
theorem setX_store {h:Heap} {a:Addr} {o:Obj} {es es':Array (Int×Value)} {ep:Nat} {t t':SetTable} {S:Str->Bool} (ho:h.get? a=some o) (ex:o.ExactSet) (hd:o.data = .set es ep t) (el:ElemsOf (strKind prog w) es'.toList) (mm:∀ k,S k=true↔∃ e∈es'.toList,(strKind prog w).is k e.2=true) (sb:es'.size < scanBound) (ft:t'.fits es'.size=true) (np:t'.plain=false) :
  (h.update a (Obj.putSet es' t')).get? a=some { o with data:=.set es' (ep+1) t' }/\SetX prog w (h.update a (Obj.putSet es' t')) a S es'.size t'.led:=
 have z:=(SetOf_store (knd:=strKind prog w) ho ex hd el mm sb ft).1
 ⟨z,_,es',_,t',z,ex,rfl,el,mm,sb,ft,rfl,rfl,fun _=>np⟩
theorem add_tail {g:Bool->Sem Unit} (hg:∀ (b:Bool) (s1:Shared) (R:Unit->Shared->Prop),R () s1->wpAny (model prog w) A (g b) R E s1) {a:Addr} {o:Obj} {es es1:Array (Int×Value)} {ep:Nat} {t t2:SetTable} {S:Str->Bool} {wd:Bool} {R:Option Bool->Shared->Prop}
  (ho:s.heap.get? a=some o) (ex:o.ExactSet) (hd:o.data = .set es ep t) (el:ElemsOf (strKind prog w) es1.toList) (mm:∀ k,S k=true↔∃ e∈es1.toList,(strKind prog w).is k e.2=true) (sb:es1.size < scanBound) (ft:t2.fits es1.size=true) (np:t2.plain=false)
  (k:∀ h',Heap.SameBut a s.heap h'->SetX prog w h' a S es1.size t2.led->R (some true) { s with heap:=h' }) :
  wpAny (model prog w) A (storeSet a es1 t2 >>= fun _=>if (!wd && t2.tooFull)=true then (g (relayAll t2 es1 (SetTable.grown es1.size)).2.2 >>= fun _=>storeSet a (relayAll t2 es1 (SetTable.grown es1.size)).1 (relayAll t2 es1 (SetTable.grown es1.size)).2.1 >>= fun _=>pure (some true)) else pure (some true)) R E s:=by
 obtain ⟨o1,x1⟩:=setX_store ho ex hd el mm sb ft np
 have b1:=Heap.SameBut.update s.heap a (Obj.putSet es1 t2)
 refine wpAny_bind (wpAny_storeSet_of ho hd ?_ (fits_of_scanBound sb))
 cases (!wd && t2.tooFull) with
 | false=>exact wpAny_pure (k _ b1 x1)
 | true=>
  have pm:=relayAll_perm t2 es1 (SetTable.grown es1.size)
  have ff:=relayAll_fits t2 es1 (SetTable.grown es1.size)
  have kk:=relay_keep t2 es1 (SetTable.grown es1.size)
  rw [if_pos rfl]
  generalize relayAll t2 es1 (SetTable.grown es1.size)=Z at pm ff kk ⊢
  obtain ⟨es3,t3,gv⟩:=Z
  dsimp only at pm ff kk ⊢
  have sz:es3.size=es1.size:=by
   have:=pm.length_eq
   rwa [Array.length_toList,Array.length_toList] at this
  refine wpAny_bind (hg _ _ _ (wpAny_bind (wpAny_storeSet_of o1 rfl ?_ (fits_of_scanBound (by rw [sz];exact sb)))))
  have x3:=(setX_store (prog:=prog) (w:=w) (S:=S) o1 ex rfl (el.perm pm) (fun y=>(mm y).trans ⟨fun ⟨e,he,q⟩=>⟨e,pm.mem_iff.mpr he,q⟩,fun ⟨e,he,q⟩=>⟨e,pm.mem_iff.mp he,q⟩⟩) (by rw [sz];exact sb) ff (kk.2 np)).2
  rw [sz,kk.1] at x3
  exact wpAny_pure (k _ (b1.trans (Heap.SameBut.update _ a _)) x3)
theorem add_str {a:Addr} {S:Str->Bool} {n:Nat} {L:Bool} {z:Str} {tk:Tok} {Q:Bool->Shared->Prop} (x:SetX prog w s.heap a S n L) (room:n+1 < scanBound)
  (q:∀ h',Heap.SameBut a s.heap h'->SetX prog w h' a (fun y=>S y || decide (y=z)) (if S z then n else n+1) L->Q (!S z) { s with heap:=h' }) :
  wpAny (model prog w) A (setAddHashed a (.str z tk) ((strKind prog w).hash z)) Q E s:=by
 obtain ⟨o,es,ep,t,ho,ex,hd,el,mm,sb,ft,en,ld,pl⟩:=x
 have ky:(strKind prog w).is z (.str z tk)=true:=by simp [PySem.strKind,Value.isStrOf]
 have sc:(Value.str z tk).scannable=true:=rfl
 unfold setAddHashed setAddHashedIn
 refine wpAny_holding (wpAny_bind (wpAny_setState_of ho hd ft ?_))
 dsimp only
 rw [byScan_of sc sb el,if_pos rfl]
 unfold setAddByScan
 refine wpAny_bind (wpAny_bind (wpAny_rule (wpAny_bind (wpAny_setScan_of ky ho hd ft el ?_))))
 cases hr:List.findIdx? (fun e=>(strKind prog w).is z e.2) es.toList with
 | some j=>
  obtain ⟨hj,hp,_⟩:=List.findIdx?_eq_some_iff_getElem.mp hr
  have sz:S z=true:=(mm z).mpr ⟨_,List.getElem_mem hj,hp⟩
  have q:=q s.heap (Heap.SameBut.refl a s.heap) ⟨o,es,ep,t,ho,ex,hd,el,fun y=>by
   rw [<-mm y,Bool.or_eq_true,decide_eq_true_eq]
   exact ⟨fun u=>u.elim id fun e=>e ▸ sz,.inl⟩,sb,ft,by rw [if_pos sz];exact en,ld,by rw [if_pos sz];exact pl⟩
  rw [sz] at q
  exact wpAny_pure (wpAny_pure q)
 | none=>
  have sz:S z=false:=by
   cases e:S z with
   | false=>rfl
   | true=>
    obtain ⟨e',he,hp⟩:=(mm z).mp e
    rw [List.findIdx?_eq_none_iff.mp hr e' he] at hp
    cases hp
  have way:∀ (b:Bool) (s1:Shared) (R:Unit->Shared->Prop),R () s1->wpAny (model prog w) A (match b with | true=>rule "set.scan.the-table-gave-way" | false=>pure ()) R E s1:=fun b s1 R h=>by
   cases b
   ·exact wpAny_pure h
   ·exact wpAny_rule h
  have pm:=layNew_perm t es ((strKind prog w).hash z) (.str z tk)
  have ff:=layNew_fits t es ((strKind prog w).hash z) (.str z tk)
  have kl:=layNew_led t es ((strKind prog w).hash z) (.str z tk)
  dsimp only
  generalize layNew t es ((strKind prog w).hash z) (.str z tk)=Z at pm ff kl ⊢
  obtain ⟨es1,t1,wd,gv⟩:=Z
  dsimp only at pm ff kl ⊢
  rw [Array.toList_push] at pm
  have s1:es1.size=n+1:=by
   have:=pm.length_eq
   rw [Array.length_toList,List.length_append,Array.length_toList] at this
   simp at this
   omega
  have el1:=(el.push ky sc).perm pm
  have mm1:=mem_push_iff ky mm pm
  refine wpAny_bind (way _ _ _ ?_)
  have fin:∀ h',Heap.SameBut a s.heap h'->SetX prog w h' a (fun y=>S y || decide (y=z)) es1.size L->Q true { s with heap:=h' }:=fun h' b x=>by
   have:=q h' b
   rw [sz,if_neg (by decide)] at this
   rw [s1] at x
   exact this x
  cases ep1:t1.plain with
  | true=>
   simp only [if_true]
   refine wpAny_bind (wpAny_pure ?_)
   simp only [Bool.false_eq_true,if_false]
   refine add_tail (t2:={ t1 with plain:=false }) (way) ho ex hd el1 mm1 (by omega) ff rfl fun h' b x=>?_
   rw [show ({ t1 with plain:=false }:SetTable).led=t1.led from rfl,kl,ld] at x
   exact wpAny_pure (fin h' b x)
  | false=>
   simp only [Bool.false_eq_true,if_false]
   refine wpAny_bind (wpAny_pure ?_)
   simp only [if_true]
   refine add_tail (way) ho ex hd el1 mm1 (by omega) ff ep1 fun h' b x=>?_
   rw [kl,ld] at x
   exact wpAny_pure (fin h' b x)
end
end L2
end
section
namespace L2
open PySem PySem.Spec PyProof.Rows
theorem slot_setit_next:Slot "set_iterator" "__next__" "set_iterator.__next__" :=
 .of (owner:= "set_iterator") (n:= "__next__") (by rw [typeLookup_type,builtinLookup_eq_fast];kernel_rfl) (by decide +kernel) (by decide +kernel) (by decide +kernel) (by first | exact .inl (by decide +kernel) | exact .inr (by decide +kernel)) (by rw [isSubtype_type];kernel_rfl)
theorem ent_setit_next:entryFor table "set_iterator.__next__" = some Builtin.«set_iterator.__next__» := entryFor_of_tree (by kernel_rfl)
theorem ent_set_iter:entryFor table "set.__iter__" = some Builtin.«frozenset.__iter__» := entryFor_alias (id':= "frozenset.__iter__") (by kernel_rfl) rfl (by decide +kernel) (by kernel_rfl)
theorem own_setit:Manifest.owners.lookup (String.ofList ['r','o','t','a','r','e','t','i','_','t','e','s'].reverse)=some Manifest.sig_set_iterator:=by kernel_rfl
theorem args_setit_next (a:Value):argsOk "set_iterator.__next__" ⟨[a],[]⟩:=by
 unfold argsOk
 rw [signature?_of (id:= "set_iterator.__next__") (n:=['_','_','t','x','e','n','_','_']) (o:=['r','o','t','a','r','e','t','i','_','t','e','s']) (by kernel_rfl) own_setit]
 kernel_rfl
theorem erase_perm {α:Type}:∀ {l:List α} {i:Nat} (h:i < l.length),(l[i] :: l.eraseIdx i).Perm l
 | x :: l,0,_=>List.Perm.refl _
 | x :: l,i+1,h=>(List.Perm.swap x _ _).trans ((erase_perm (l:=l) (i:=i) (by simpa using h)).cons x)
section
variable {prog:Program} {w:World} {A:Around} {E:Value->Shared->Prop} {s:Shared}
theorem wp_draw {src:Source} {n:Nat} {Q:Nat->Shared->Prop} (hn:n≠0) (h:∀ i d,i < n->Q i { s with drawn:=d }):wpAny (model prog w) A (choose src n) Q E s:=fun Γ p hΓ=>by
 unfold choose
 rw [Sem.wp_choose]
 exact ⟨hn,h _ _ (Nat.mod_lt _ (Nat.pos_of_ne_zero hn))⟩
theorem wp_order {α:Type}:∀ (n:Nat) (xs:List α) (s:Shared) {Q:List α->Shared->Prop},xs.length=n->(∀ ys d,ys.Perm xs->Q ys { s with drawn:=d })->wpAny (model prog w) A (drawOrder n xs) Q E s
 | 0,xs,s,Q,hl,h=>by
  have:xs=[]:=List.length_eq_zero_iff.mp hl
  subst this
  exact wpAny_pure (h [] s.drawn (List.Perm.refl _))
 | n+1,[],s,Q,hl,h=>by cases hl
 | n+1,x :: xs,s,Q,hl,h=>by
  unfold drawOrder
  refine wpAny_bind (wp_draw (by simp) fun i d hi=>?_)
  rw [List.getElem?_eq_getElem hi]
  refine wpAny_bind (wp_order n ((x :: xs).eraseIdx i) _ (by rw [List.length_eraseIdx,if_pos hi,hl];rfl) fun ys d' p=>wpAny_pure ?_)
  refine h _ d' ?_
  exact (List.Perm.cons _ p).trans (erase_perm hi)
abbrev byT (w:World):Bool:=w.params.followText "set-order"
theorem wp_byText {Q:Bool->Shared->Prop} (h:Q (byT w) s):wpAny (model prog w) A setsByText Q E s:=by
 unfold setsByText
 exact wpAny_bind (wpAny_askSetting (wpAny_pure h))
def itO (f:Value) (i:Nat) (S:Addr) (n ep:Nat):Array Value:=#[f,rawInt i,.ref S,rawInt n,rawInt ep]
def SIt (h:Heap) (I:Addr) (f:Value) (i:Nat) (S:Addr) (n ep:Nat):Prop:=∃ o,h.get? I=some o/\o.cls = .type "set_iterator"/\o.data = .fields (itO f i S n ep)
def SAt (h:Heap) (S:Addr) (es:Array (Int×Value)) (ep:Nat) (t:SetTable):Prop:=∃ o,h.get? S=some o/\o.cls = .type "set"/\o.data = .set es ep t/\t.fits es.size=true
theorem SIt.ty {I:Addr} {f:Value} {i:Nat} {S:Addr} {n ep:Nat} (h:SIt s.heap I f i S n ep):s.TypeIs (.ref I) "set_iterator" := let ⟨o,a,b,_⟩:=h;⟨o,a,b⟩
theorem set_iter {S:Addr} {es:Array (Int×Value)} {ep:Nat} {t:SetTable} {Q:Value->Shared->Prop} (x:SAt s.heap S es ep t) (sz:es.size<=sizeLine)
  (q1:(!byT w && (!t.plain && decide (es.size > 1)))=false->Q (.ref s.heap.objs.size) { s with heap:=s.heap.push { cls:=.type "set_iterator",data:=.fields (itO (rawInt 0) 0 S es.size ep) } })
  (q2:∀ (ps:List Nat) d,(!byT w && (!t.plain && decide (es.size > 1)))=true->ps.Perm (List.range es.size)->Q (.ref (s.heap.push { cls:=.type "tuple",data:=.seq (ps.map fun (i:Nat)=>rawInt i).toArray }).objs.size) { s with heap:=(s.heap.push { cls:=.type "tuple",data:=.seq (ps.map fun (i:Nat)=>rawInt i).toArray }).push { cls:=.type "set_iterator",data:=.fields (itO (.ref s.heap.objs.size) 0 S es.size ep) },drawn:=d }) :
  wpAny (model prog w) A (pyIter (.ref S)) Q E s:=by
 obtain ⟨o,ho,hc,hd,hf⟩:=x
 have hT:s.TypeIs (.ref S) "set" := ⟨o,ho,hc⟩
 refine wpAny_pyIter_slot hT F.slot_set_iter (wpAny_call_entry F.slot_set_iter hT ent_set_iter ?_ (F.args_set_iter_1 _))
 unfold Builtin.«frozenset.__iter__» Builtin.Frozenset.slot0
 refine wpAny_bind (wpAny_bind (wpAny_pure (wpAny_pure ?_)))
 unfold Builtin.Frozenset.sizeOf
 refine wpAny_bind (wpAny_bind (wpAny_setEntries_of ho hd hf (wpAny_pure ?_)))
 refine wpAny_bind ?_
 unfold setDrawn
 refine wpAny_bind (wpAny_setState_of ho hd hf (wpAny_bind (wp_byText (wpAny_pure ?_))))
 refine wpAny_ite_split (fun c=>?_) (fun c=>?_)
 ·refine wpAny_bind (wp_order _ _ _ (by simp) fun ys d pm=>?_)
  have yl:ys.length=es.size:=by rw [pm.length_eq,List.length_range]
  refine wpAny_bind (wpAny_newTuple ?_ (by rw [List.length_map,yl];exact sz))
  refine wpAny_bind (wpAny_setEpoch_of (o:=o) (Heap.get?_push_of_some _ ho) hd hf ?_)
  unfold newFields
  refine wpAny_bind (wpAny_newObj_type (wpAny_pure ⟨_,rfl,"set_iterator",_,⟨_,Heap.get?_push_size _ rfl,rfl⟩,slot_setit_next.lookup,?_⟩))
  exact q2 ys d c pm
 ·have c:(!byT w && (!t.plain && decide (es.size > 1)))=false:=Bool.eq_false_iff.mpr c
  refine wpAny_bind (wpAny_pure (wpAny_bind (wpAny_setEpoch_of ho hd hf ?_)))
  unfold newFields
  refine wpAny_bind (wpAny_newObj_type (wpAny_pure ⟨_,rfl,"set_iterator",_,⟨_,Heap.get?_push_size _ rfl,rfl⟩,slot_setit_next.lookup,?_⟩))
  exact q1 c
theorem set_next_i {I S:Addr} {sl i nx:Nat} {es:Array (Int×Value)} {ep:Nat} {t:SetTable} {v:Value} {Q:Option Value->Shared->Prop} (it:SIt s.heap I (rawInt sl) i S es.size ep) (x:SAt s.heap S es ep t)
  (nxt:∀ {A':Around} {E':Value->Shared->Prop} {R:Option (Value×Nat)->Shared->Prop},R (some (v,nx)) s->wpAny (model prog w) A' (setNext S sl i ep) R E' s)
  (q:∀ h',SIt h' I (rawInt nx) (i+1) S es.size ep->Heap.SameBut I s.heap h'->Q (some v) { s with heap:=h' }):wpAny (model prog w) A (pyNext (.ref I)) Q E s:=by
 obtain ⟨o,ho,hc,hd⟩:=id it
 obtain ⟨o',ho',hc',hd',hf'⟩:=id x
 unfold pyNext
 refine wpAny_bind (wpAny_attempt (wpAny_callSpecial?_slot (name:=Str.ofString "__next__") it.ty slot_setit_next (wpAny_call_entry slot_setit_next it.ty ent_setit_next ?_ (args_setit_next _))))
 unfold Builtin.«set_iterator.__next__»
 refine wpAny_bind (wpAny_pure (wpAny_bind (wpAny_fieldsOf ho hd ?_)))
 show wpAny _ _ (setEntries S >>= _) _ _ s
 refine wpAny_bind (wpAny_setEntries_of ho' hd' hf' ?_)
 refine wpAny_ite_split (fun c=>absurd c (by simp)) (fun _=>?_)
 show wpAny _ _ (setNext S (sl:Int).toNat (i:Int).toNat (ep:Int).toNat >>= _) _ _ s
 rw [Int.toNat_natCast,Int.toNat_natCast,Int.toNat_natCast]
 refine wpAny_bind (nxt ?_)
 show wpAny _ _ (setField (.ref I) 0 (rawInt nx) >>= fun _=>setField (.ref I) 1 (rawInt ((i:Int)+1)) >>= fun _=>ret v) _ _ s
 refine wpAny_bind (wpAny_setField ho hd (by simp [itO]) ?_)
 have g1:=Heap.get?_update_self (Obj.mapFields (·.setIfInBounds 0 (rawInt nx))) ho (Obj.isFreed_of_fields (Obj.data_mapFields hd _))
 have d1:=Obj.data_mapFields hd (·.setIfInBounds 0 (rawInt nx))
 refine wpAny_bind (wpAny_setField g1 d1 (by simp [itO]) (wpAny_pure ⟨_,rfl,wpAny_pure (q _ ⟨_,Heap.get?_update_self _ g1 (Obj.isFreed_of_fields (Obj.data_mapFields d1 _)),?_,?_⟩ ((Heap.SameBut.update ..).trans (Heap.SameBut.update ..)))⟩))
 ·rw [Obj.cls_mapFields,Obj.cls_mapFields];exact hc
 ·rw [Obj.data_mapFields d1];simp [itO]
theorem stop_tail {I:Addr} {h1:Heap} {Q:Option Value->Shared->Prop} (hh:A.handled=none) (e1:Heap.ExtBut I s.heap h1) (q:∀ h',Heap.ExtBut I s.heap h'->Q none { s with heap:=h' }) {R:PySem.Fin->Shared->Prop} :
  wpAny (model prog w) A.in1 (newExc (.type "StopIteration") [] >>= fun v=>raiseNew v) R (fun e s'=>wpAny (model prog w) A (isInstance e (.type "StopIteration") >>= fun b=>if b=true then pure none else throw e) Q E s') { s with heap:=h1 }:=by
 refine wpAny_bind ?_
 simp only [newExc,newTuple]
 refine wpAny_bind (wpAny_newObj_type ?_ (by size_fits))
 refine wpAny_bind (m:=firstArgMember _ _) (wpAny_of_eq (a:=Value.none) (by first | rfl | (simp only [firstArgMember];rfl)) ?_)
 refine wpAny_newObj_type ?_ (by size_fits)
 simp only [raiseNew]
 refine wpAny_bind (wpAny_handled ?_)
 rw [show A.in1.handled=none from hh]
 refine wpAny_bind (wpAny_pure (wpAny_throw ?_))
 refine wpAny_bind (wpAny_isInstance (T:= "StopIteration") (b:=true) ⟨_,Heap.get?_push_size _ rfl,rfl⟩ isSubtype_stop ?_)
 exact wpAny_pure (q _ ((e1.push _).push _))
theorem set_end_i {I S:Addr} {sl i:Nat} {es:Array (Int×Value)} {ep:Nat} {t:SetTable} {Q:Option Value->Shared->Prop} (hh:A.handled=none) (it:SIt s.heap I (rawInt sl) i S es.size ep) (x:SAt s.heap S es ep t)
  (nxt:∀ {A':Around} {E':Value->Shared->Prop} {R:Option (Value×Nat)->Shared->Prop},R none s->wpAny (model prog w) A' (setNext S sl i ep) R E' s)
  (q:∀ h',Heap.ExtBut I s.heap h'->Q none { s with heap:=h' }):wpAny (model prog w) A (pyNext (.ref I)) Q E s:=by
 obtain ⟨o,ho,hc,hd⟩:=id it
 obtain ⟨o',ho',hc',hd',hf'⟩:=id x
 unfold pyNext
 refine wpAny_bind (wpAny_attempt (wpAny_callSpecial?_slot (name:=Str.ofString "__next__") it.ty slot_setit_next (wpAny_call_entry slot_setit_next it.ty ent_setit_next ?_ (args_setit_next _))))
 unfold Builtin.«set_iterator.__next__»
 refine wpAny_bind (wpAny_pure (wpAny_bind (wpAny_fieldsOf ho hd ?_)))
 show wpAny _ _ (setEntries S >>= _) _ _ s
 refine wpAny_bind (wpAny_setEntries_of ho' hd' hf' ?_)
 refine wpAny_ite_split (fun c=>absurd c (by simp)) (fun _=>?_)
 show wpAny _ _ (setNext S (sl:Int).toNat (i:Int).toNat (ep:Int).toNat >>= _) _ _ s
 rw [Int.toNat_natCast,Int.toNat_natCast,Int.toNat_natCast]
 refine wpAny_bind (nxt ?_)
 show wpAny _ _ (setField (.ref I) 2 .none >>= fun _=>newExc (.type "StopIteration") [] >>= fun v=>raiseNew v) _ _ s
 refine wpAny_bind (wpAny_setField ho hd (by simp [itO]) ?_)
 exact stop_tail hh (Heap.SameBut.update ..).extBut q
def TupN (h:Heap) (T:Addr) (ps:List Nat):Prop:=∃ o n,h.get? T=some o/\o.data = .seq (ps.map fun (i:Nat)=>rawInt i).toArray n
theorem set_next_t {I S T:Addr} {i p:Nat} {ps:List Nat} {es:Array (Int×Value)} {ep:Nat} {t:SetTable} {v:Int×Value} {Q:Option Value->Shared->Prop} (it:SIt s.heap I (.ref T) i S es.size ep) (x:SAt s.heap S es ep t) (tp:TupN s.heap T ps) (hp:ps[i]? = some p) (hv:es[p]? = some v)
  (q:∀ h',SIt h' I (.ref T) (i+1) S es.size ep->Heap.SameBut I s.heap h'->Q (some v.2) { s with heap:=h' }):wpAny (model prog w) A (pyNext (.ref I)) Q E s:=by
 obtain ⟨o,ho,hc,hd⟩:=id it
 obtain ⟨o',ho',hc',hd',hf'⟩:=id x
 obtain ⟨o2,n2,ho2,hd2⟩:=tp
 unfold pyNext
 refine wpAny_bind (wpAny_attempt (wpAny_callSpecial?_slot (name:=Str.ofString "__next__") it.ty slot_setit_next (wpAny_call_entry slot_setit_next it.ty ent_setit_next ?_ (args_setit_next _))))
 unfold Builtin.«set_iterator.__next__»
 refine wpAny_bind (wpAny_pure (wpAny_bind (wpAny_fieldsOf ho hd ?_)))
 show wpAny _ _ (setEntries S >>= _) _ _ s
 refine wpAny_bind (wpAny_setEntries_of ho' hd' hf' ?_)
 refine wpAny_ite_split (fun c=>absurd c (by simp)) (fun _=>?_)
 show wpAny _ _ (seqItems? (.ref T) >>= _) _ _ s
 unfold seqItems?
 refine wpAny_bind (wpAny_bind (wpAny_load ho2 ?_))
 rw [hd2]
 refine wpAny_pure ?_
 have e1:((ps.map fun (i:Nat)=>rawInt i).toArray)[((i:Nat):Int).toNat]? = some (rawInt p):=by
  rw [Int.toNat_natCast,List.getElem?_toArray,List.getElem?_map,hp]
  rfl
 dsimp only
 rw [e1]
 show wpAny _ _ (setNextDrawn S (p:Int).toNat (ep:Int).toNat >>= fun y=>setField (.ref I) 1 (rawInt ((i:Int)+1)) >>= fun _=>ret y) _ _ s
 unfold setNextDrawn
 refine wpAny_bind (wpAny_bind (wpAny_setState_of ho' hd' hf' ?_))
 dsimp only
 refine wpAny_ite_split (fun c=>absurd c (by simp)) (fun _=>?_)
 rw [Int.toNat_natCast,hv]
 refine wpAny_pure ?_
 refine wpAny_bind (wpAny_setField ho hd (by simp [itO]) (wpAny_pure ⟨_,rfl,wpAny_pure (q _ ⟨_,Heap.get?_update_self _ ho (Obj.isFreed_of_fields (Obj.data_mapFields hd _)),?_,?_⟩ (Heap.SameBut.update ..))⟩))
 ·rw [Obj.cls_mapFields];exact hc
 ·rw [Obj.data_mapFields hd];simp [itO]
theorem set_end_t {I S T:Addr} {i:Nat} {ps:List Nat} {es:Array (Int×Value)} {ep:Nat} {t:SetTable} {Q:Option Value->Shared->Prop} (hh:A.handled=none) (it:SIt s.heap I (.ref T) i S es.size ep) (x:SAt s.heap S es ep t) (tp:TupN s.heap T ps) (hp:ps[i]? = none)
  (q:∀ h',Heap.ExtBut I s.heap h'->Q none { s with heap:=h' }):wpAny (model prog w) A (pyNext (.ref I)) Q E s:=by
 obtain ⟨o,ho,hc,hd⟩:=id it
 obtain ⟨o',ho',hc',hd',hf'⟩:=id x
 obtain ⟨o2,n2,ho2,hd2⟩:=tp
 unfold pyNext
 refine wpAny_bind (wpAny_attempt (wpAny_callSpecial?_slot (name:=Str.ofString "__next__") it.ty slot_setit_next (wpAny_call_entry slot_setit_next it.ty ent_setit_next ?_ (args_setit_next _))))
 unfold Builtin.«set_iterator.__next__»
 refine wpAny_bind (wpAny_pure (wpAny_bind (wpAny_fieldsOf ho hd ?_)))
 show wpAny _ _ (setEntries S >>= _) _ _ s
 refine wpAny_bind (wpAny_setEntries_of ho' hd' hf' ?_)
 refine wpAny_ite_split (fun c=>absurd c (by simp)) (fun _=>?_)
 show wpAny _ _ (seqItems? (.ref T) >>= _) _ _ s
 unfold seqItems?
 refine wpAny_bind (wpAny_bind (wpAny_load ho2 ?_))
 rw [hd2]
 refine wpAny_pure ?_
 have e1:((ps.map fun (i:Nat)=>rawInt i).toArray)[((i:Nat):Int).toNat]? = none:=by
  rw [Int.toNat_natCast,List.getElem?_toArray,List.getElem?_map,hp]
  rfl
 dsimp only
 rw [e1]
 show wpAny _ _ (setField (.ref I) 0 (rawInt 0) >>= fun _=>setField (.ref I) 2 .none >>= fun _=>newExc (.type "StopIteration") [] >>= fun v=>raiseNew v) _ _ s
 refine wpAny_bind (wpAny_setField ho hd (by simp [itO]) ?_)
 have g1:=Heap.get?_update_self (Obj.mapFields (·.setIfInBounds 0 (rawInt 0))) ho (Obj.isFreed_of_fields (Obj.data_mapFields hd _))
 have d1:=Obj.data_mapFields hd (·.setIfInBounds 0 (rawInt 0))
 refine wpAny_bind (wpAny_setField g1 d1 (by simp [itO]) ?_)
 exact stop_tail hh ((Heap.SameBut.update ..).trans (Heap.SameBut.update ..)).extBut q
theorem pick_perm {α:Type} (nx:Nat->Nat):∀ (fuel k:Nat) (left:List α) (out:Array α),left.length=fuel->(pickOrder.go nx fuel k left out).toList.Perm (out.toList++left)
 | 0,k,left,out,h=>by
  have:left=[]:=List.length_eq_zero_iff.mp h
  subst this
  unfold pickOrder.go
  rw [List.append_nil]
 | fuel+1,k,left,out,h=>by
  have lt:nx k % left.length < left.length:=Nat.mod_lt _ (by omega)
  unfold pickOrder.go
  rw [List.getElem?_eq_getElem lt]
  dsimp only
  refine (pick_perm nx fuel (k+1) _ _ (by rw [List.length_eraseIdx,if_pos lt,h];rfl)).trans ?_
  rw [Array.toList_push,List.append_assoc]
  exact (erase_perm lt).append_left _
theorem wp_next_text {S:Addr} {sl i:Nat} {es:Array (Int×Value)} {ep:Nat} {t:SetTable} (b:byT w=true) (x:SAt s.heap S es ep t) {A':Around} {E':Value->Shared->Prop} {R:Option (Value×Nat)->Shared->Prop} (r:R (((pickOrder (w.params.setOrder S ep) es)[i]?).map fun e=>(e.2,sl)) s):wpAny (model prog w) A' (setNext S sl i ep) R E' s:=by
 obtain ⟨o',ho',hc',hd',hf'⟩:=id x
 unfold setNext
 refine wpAny_bind (wpAny_setState_of ho' hd' hf' (wpAny_bind (wp_byText ?_)))
 rw [b]
 refine wpAny_ite_split (fun _=>?_) (fun c=>absurd rfl c)
 refine wpAny_ite_split (fun c=>absurd c (by simp)) (fun _=>?_)
 unfold setWalk
 refine wpAny_bind (wpAny_bind (wpAny_setState_of ho' hd' hf' (wpAny_bind (wp_byText ?_))))
 rw [b]
 refine wpAny_ite_split (fun _=>?_) (fun c=>absurd rfl c)
 refine wpAny_bind (wpAny_askSetting (wpAny_pure (wpAny_pure r)))
theorem wp_next_led {S:Addr} {sl i:Nat} {es:Array (Int×Value)} {ep:Nat} {t:SetTable} (b:byT w=false) (ld:t.led=true) (sm:es.size<=1) (x:SAt s.heap S es ep t) {A':Around} {E':Value->Shared->Prop} {R:Option (Value×Nat)->Shared->Prop}
  (r:R (match es[SetTable.below t.place sl]?,t.place[SetTable.below t.place sl]? with | some (_,y),some j=>some (y,j+1) | _,_=>none) s):wpAny (model prog w) A' (setNext S sl i ep) R E' s:=by
 obtain ⟨o',ho',hc',hd',hf'⟩:=id x
 unfold setNext
 refine wpAny_bind (wpAny_setState_of ho' hd' hf' (wpAny_bind (wp_byText ?_)))
 rw [b]
 refine wpAny_ite_split (fun c=>absurd c (by simp)) (fun _=>?_)
 refine wpAny_ite_split (fun c=>absurd (show (!t.plain && decide (es.size > 1))=true from c) (by rw [decide_eq_false (by omega)];simp)) (fun _=>?_)
 refine wpAny_bind ?_
 show wpAny _ _ (if (!t.led && !es.isEmpty)=true then _ else _) _ _ s
 rw [if_neg (by rw [ld];simp)]
 refine wpAny_pure (wpAny_pure ?_)
 exact r
end
end L2
end
section
namespace L2
open PySem PySem.Spec PyProof.Rows
theorem slot_setit_iter:Slot "set_iterator" "__iter__" "set_iterator.__iter__" :=
 .of (owner:= "set_iterator") (n:= "__iter__") (by rw [typeLookup_type,builtinLookup_eq_fast];kernel_rfl) (by decide +kernel) (by decide +kernel) (by decide +kernel) (by first | exact .inl (by decide +kernel) | exact .inr (by decide +kernel)) (by rw [isSubtype_type];kernel_rfl)
theorem ent_setit_iter:entryFor table "set_iterator.__iter__" = some Builtin.«dict_keyiterator.__iter__» := entryFor_alias (id':= "dict_keyiterator.__iter__") (by kernel_rfl) rfl (by decide +kernel) (by kernel_rfl)
theorem args_setit_iter (a:Value):argsOk "set_iterator.__iter__" ⟨[a],[]⟩:=by
 unfold argsOk
 rw [signature?_of (id:= "set_iterator.__iter__") (n:=['_','_','r','e','t','i','_','_']) (o:=['r','o','t','a','r','e','t','i','_','t','e','s']) (by kernel_rfl) own_setit]
 kernel_rfl
theorem pick_all {α:Type} (nx:Nat->Nat) (xs:Array α):(pickOrder nx xs).toList.Perm xs.toList:=by
 have:=pick_perm nx xs.size 0 xs.toList #[] (by simp)
 unfold pickOrder
 simpa using this
theorem pick_size {α:Type} (nx:Nat->Nat) (xs:Array α):(pickOrder nx xs).size=xs.size:=by
 have:=(pick_all nx xs).length_eq
 rwa [Array.length_toList,Array.length_toList] at this
section
variable {prog:Program} {w:World} {A:Around} {E:Value->Shared->Prop} {s:Shared}
theorem self_setit {I:Addr} {f:Value} {i:Nat} {S:Addr} {n ep:Nat} {Q:Value->Shared->Prop} (it:SIt s.heap I f i S n ep) (h:Q (.ref I) s):wpAny (model prog w) A (pyIter (.ref I)) Q E s:=by
 refine wpAny_pyIter_slot it.ty slot_setit_iter (wpAny_call_entry slot_setit_iter it.ty ent_setit_iter ?_ (args_setit_iter _))
 show wpAny _ _ (ret (.ref I)) _ _ s
 exact wpAny_pure ⟨_,rfl,"set_iterator",_,it.ty,slot_setit_next.lookup,h⟩
theorem SIt.at {h h':Heap} {I:Addr} {f:Value} {i:Nat} {S:Addr} {n ep:Nat} (x:SIt h I f i S n ep) (k:∀ o,h.get? I=some o->h'.get? I=some o):SIt h' I f i S n ep:=let ⟨o,a,b⟩:=x;⟨o,k o a,b⟩
theorem SAt.at {h h':Heap} {S:Addr} {es:Array (Int×Value)} {ep:Nat} {t:SetTable} (x:SAt h S es ep t) (k:∀ o,h.get? S=some o->h'.get? S=some o):SAt h' S es ep t:=let ⟨o,a,b⟩:=x;⟨o,k o a,b⟩
theorem TupN.at {h h':Heap} {T:Addr} {ps:List Nat} (x:TupN h T ps) (k:∀ o,h.get? T=some o->h'.get? T=some o):TupN h' T ps:=let ⟨o,n,a,b⟩:=x;⟨o,n,k o a,b⟩
theorem walksT (hh:A.handled=none) (I S:Addr) (ne:S≠I) {es:Array (Int×Value)} {ep:Nat} {t:SetTable} (b:byT w=true) :
  Walks prog w A I [I,S,S] [I] es.size (fun i v=>((pickOrder (w.params.setOrder S ep) es).toList.map (·.2))[i]? = some v) (fun i h=>SIt h I (rawInt 0) i S es.size ep/\SAt h S es ep t) where
 sub:=fun c hc=>by simp at hc;simp [hc]
 frame:=fun _ _ _ st hk=>⟨st.1.at fun o e=>hk I (by simp) o e,st.2.at fun o e=>hk S (by simp) o e⟩
 item:=fun i s Q E hi st hQ=>by
  have pl:=pick_size (w.params.setOrder S ep) es
  have hi':i < (pickOrder (w.params.setOrder S ep) es).size:=by omega
  refine set_next_i (sl:=0) (nx:=0) (v:=(pickOrder (w.params.setOrder S ep) es)[i].2) st.1 st.2 (fun r=>wp_next_text b st.2 (by rw [Array.getElem?_eq_getElem hi'];exact r)) fun h' it' sb=>?_
  exact hQ _ h' s.toks (by rw [List.getElem?_map,Array.getElem?_toList,Array.getElem?_eq_getElem hi'];rfl) ⟨it',st.2.at fun o e=>sb.extBut S o ne e⟩ fun c o hc e=>sb.extBut c o (fun z=>hc (by simp [z])) e
 done:=fun s Q E st hQ=>by
  have pl:=pick_size (w.params.setOrder S ep) es
  exact set_end_i (sl:=0) hh st.1 st.2 (fun r=>wp_next_text b st.2 (by rw [Array.getElem?_eq_none (by omega)];exact r)) fun h' ex=>hQ h' s.toks fun c o hc e=>ex c o (fun z=>hc (by simp [z])) e
 self:=fun _ _ _ _ st hQ=>self_setit st.1 hQ
theorem walksD (hh:A.handled=none) (I S T:Addr) (ne:S≠I) (nt:T≠I) {es:Array (Int×Value)} {ep:Nat} {t:SetTable} {ps:List Nat} (pm:ps.Perm (List.range es.size)) :
  Walks prog w A I [I,S,T] [I] es.size (fun i v=>(ps.map fun p=>(es.getD p (0,.none)).2)[i]? = some v) (fun i h=>SIt h I (.ref T) i S es.size ep/\SAt h S es ep t/\TupN h T ps) where
 sub:=fun c hc=>by simp at hc;simp [hc]
 frame:=fun _ _ _ st hk=>⟨st.1.at fun o e=>hk I (by simp) o e,st.2.1.at fun o e=>hk S (by simp) o e,st.2.2.at fun o e=>hk T (by simp) o e⟩
 item:=fun i s Q E hi st hQ=>by
  have pl:ps.length=es.size:=by rw [pm.length_eq,List.length_range]
  have hp:ps[i]? = some ps[i]:=List.getElem?_eq_getElem (by omega)
  have pe:ps[i] < es.size:=List.mem_range.mp (pm.mem_iff.mp (List.getElem_mem (by omega)))
  refine set_next_t st.1 st.2.1 st.2.2 hp (Array.getElem?_eq_getElem pe) fun h' it' sb=>?_
  refine hQ _ h' s.toks ?_ ⟨it',st.2.1.at fun o e=>sb.extBut S o ne e,st.2.2.at fun o e=>sb.extBut T o nt e⟩ fun c o hc e=>sb.extBut c o (fun z=>hc (by simp [z])) e
  rw [List.getElem?_map,hp]
  simp [Array.getD,pe]
 done:=fun s Q E st hQ=>by
  have pl:ps.length=es.size:=by rw [pm.length_eq,List.length_range]
  exact set_end_t hh st.1 st.2.1 st.2.2 (List.getElem?_eq_none (by omega)) fun h' ex=>hQ h' s.toks fun c o hc e=>ex c o (fun z=>hc (by simp [z])) e
 self:=fun _ _ _ _ st hQ=>self_setit st.1 hQ
theorem below0 (j:Nat):SetTable.below #[j] 0=0:=by simp [SetTable.below,SetTable.below.go]
theorem below1 (j:Nat):SetTable.below #[j] (j+1)=1:=by simp [SetTable.below,SetTable.below.go]
theorem belowE (j:Nat):SetTable.below #[] j=0:=by simp [SetTable.below,SetTable.below.go]
theorem walksL (hh:A.handled=none) (I S:Addr) (ne:S≠I) {es:Array (Int×Value)} {ep:Nat} {t:SetTable} (b:byT w=false) (ld:t.led=true) (sm:es.size<=1) (ft:t.fits es.size=true) :
  Walks prog w A I [I,S,S] [I] es.size (fun i v=>(es.toList.map (·.2))[i]? = some v) (fun i h=>(∃ sl:Nat,SIt h I (rawInt sl) i S es.size ep/\((i=0/\sl=0)\/(i=1/\∃ j,t.place = #[j]/\sl=j+1)))/\SAt h S es ep t) where
 sub:=fun c hc=>by simp at hc;simp [hc]
 frame:=fun _ _ _ ⟨⟨sl,x,y⟩,z⟩ hk=>⟨⟨sl,x.at fun o e=>hk I (by simp) o e,y⟩,z.at fun o e=>hk S (by simp) o e⟩
 item:=fun i s Q E hi st hQ=>by
  obtain ⟨⟨sl,x,y⟩,z⟩:=st
  have i0:i=0:=by omega
  subst i0
  have s0:sl=0:=by
   rcases y with ⟨_,y⟩ | ⟨y,_⟩
   ·exact y
   ·cases y
  subst s0
  have ps:t.place.size=1:=by
   unfold SetTable.fits at ft
   rw [Bool.and_eq_true] at ft
   have:=eq_of_beq ft.1
   omega
  obtain ⟨j,ej⟩ : ∃ j,t.place = #[j]:=⟨t.place[0],Array.ext (by simp [ps]) fun k h1 h2=>by
   have:k=0:=by simp at h2;omega
   subst this
   rfl⟩
  refine set_next_i (sl:=0) (nx:=j+1) (v:=es[0].2) x z (fun r=>wp_next_led b ld sm z (by rw [ej,below0,Array.getElem?_eq_getElem hi];exact r)) fun h' it' sb=>?_
  exact hQ _ h' s.toks (by rw [List.getElem?_map,Array.getElem?_toList,Array.getElem?_eq_getElem hi];rfl) ⟨⟨j+1,it',.inr ⟨rfl,j,ej,rfl⟩⟩,z.at fun o e=>sb.extBut S o ne e⟩ fun c o hc e=>sb.extBut c o (fun z=>hc (by simp [z])) e
 done:=fun s Q E st hQ=>by
  obtain ⟨⟨sl,x,y⟩,z⟩:=st
  have ps:t.place.size=es.size:=by
   unfold SetTable.fits at ft
   rw [Bool.and_eq_true] at ft
   exact eq_of_beq ft.1
  refine set_end_i hh x z (fun r=>wp_next_led b ld sm z ?_) fun h' ex=>hQ h' s.toks fun c o hc e=>ex c o (fun z=>hc (by simp [z])) e
  rcases y with ⟨y1,rfl⟩ | ⟨y1,j,ej,rfl⟩
  ·have ee:t.place = #[]:=Array.size_eq_zero_iff.mp (by omega)
   rw [ee,belowE,Array.getElem?_eq_none (by omega)]
   exact r
  ·rw [ej,below1,Array.getElem?_eq_none (by omega)]
   exact r
 self:=fun _ _ _ _ ⟨⟨_,x,_⟩,_⟩ hQ=>self_setit x hQ
theorem hint_set {d:Addr} {Q:Bool->Shared->Prop} (hT:s.TypeIs (.ref d) "set") (h:Q false s):wpAny (model prog w) A (Builtin.List.listLengthHint (.ref d)) Q E s:=by
 unfold Builtin.List.listLengthHint
 refine wpAny_bind (wpAny_specialOf hT F.slot_set_len.lookup ?_)
 generalize hid:("set.__len__" : String)=id0
 wp_delta
 rw [show splitId id0=some ("set","__len__") from by subst hid;decide +kernel]
 subst hid
 refine wpAny_bind (wpAny_isInstance (T:= "set") (b:=true) hT (by rw [isSubtype_type];kernel_rfl) ?_)
 refine wpAny_ite_split (fun hab=>absurd hab (by decide)) (fun _=>?_)
 refine wpAny_ite_split (fun _=>?_) (fun hab=>absurd (by decide +kernel) hab)
 refine wpAny_bind (wpAny_typeOf (T:= "set") hT ?_)
 exact wpAny_pure h
end
end L2
end
section
namespace L2
open PySem PySem.Spec PyProof.Rows
section
variable {prog:Program} {w:World} {A:Around} {E:Value->Shared->Prop} {s:Shared}
theorem items_all {vs:List Value} {acc:Array Value} {n:Nat} (h:ItemsOf (fun i v=>vs[i]? = some v) acc n) (hn:n=vs.length):acc.toList=vs:=by
 apply List.ext_getElem?
 intro i
 by_cases hi:i < n
 ·have hi':i < acc.size:=by rw [h.1];exact hi
  have:=h.2 i acc[i] (by simp [hi'])
  rw [this]
  simp [hi']
 ·have a1:¬ i < acc.size:=by rw [h.1];exact hi
  rw [List.getElem?_eq_none (by rw [Array.length_toList];omega),List.getElem?_eq_none (by omega)]
theorem ext_go {R:Result->Shared->Prop} {S I T L0:Addr} {n c0:Nat} {vs:List Value} {St:Nat->Heap->Prop} {res:Value} (W:Walks prog w A.in1 I [I,S,T] [I] n (fun i v=>vs[i]? = some v) St) (hn:n=vs.length) (sz:n<=sizeLine) (nI:L0≠I) (nS:L0≠S) (nT:L0≠T)
  (hL:s.heap.get? L0=some { cls:=.type "list",data:=.seq #[] c0 }) (st:St 0 s.heap)
  (r:∀ h' tk acc c,(∀ b o,b≠L0->b≠I->s.heap.get? b=some o->h'.get? b=some o)->h'.get? L0=some { cls:=.type "list",dict:=none,data:=.seq acc c,slots:=#[] }->acc.toList=vs->R (.ok (.ret res)) { s with heap:=h',toks:=tk })
  {c:Bool}:wpAny (model prog w) A.in1 (if c=true then (rule "list.extend.makes-room" >>= fun _=>Builtin.List.listTouch (.ref L0) >>= fun _=>again (.builtin "list.extend.loop" ⟨[.ref L0,.ref I,res],[]⟩)) else again (.builtin "list.extend.loop" ⟨[.ref L0,.ref I,res],[]⟩))
   (fun fin s'=>match fin with | .done f=>R (.ok f) s' | .again c'=>c'.quiet=true/\codeAny (model prog w) A c' R s') (fun e s'=>R (.error e) s') s:=by
 have nf:L0 ∉ [I,S,T]:=fun hm=>by
  simp at hm
  rcases hm with z | z | z
  ·exact nI z
  ·exact nS z
  ·exact nT z
 have key:∀ (h:Heap) (c1:Nat),St 0 h->(∀ b o,b≠L0->s.heap.get? b=some o->h.get? b=some o)->h.get? L0=some { cls:=.type "list",data:=.seq #[] c1 }->codeAny (model prog w) A (.builtin "list.extend.loop" ⟨[.ref L0,.ref I,res],[]⟩) R { s with heap:=h }:=by
  intro h c1 st1 kp hL1
  refine codeAny_extend_loopS W.toS sz L0 nf res n 0 _ #[] c1 rfl (Nat.zero_le _) st1 hL1 (ItemsOf.nil _) fun s' acc' c' hm hS' hacc=>?_
  rw [Moved.eq_with hm]
  refine r s'.heap s'.toks acc' c' (fun b o n1 n2 e=>hm.heap b o (fun z=>?_) (kp b o n1 e)) hS' (items_all hacc hn)
  rcases List.mem_cons.mp z with z | z
  ·exact n1 z
  ·exact n2 (List.mem_singleton.mp z)
 cases c with
 | false=>
  exact wpAny_pure ⟨plainId_quiet F.plain_extend_loop _,key s.heap c0 st (fun _ _ _ e=>e) hL⟩
 | true=>
  rw [if_pos rfl]
  refine wpAny_bind (wpAny_rule (wpAny_bind ?_))
  show wpAny _ _ (updateSeq L0 (·.push .none) >>= fun _=>updateSeq L0 (·.pop)) _ _ _
  refine wpAny_bind (wpAny_updateSeq hL rfl ?_)
  have g1:=Heap.get?_update_self (Obj.mapSeq (·.push Value.none)) hL rfl
  refine wpAny_updateSeq (hz:=by seq_fits) g1 rfl ?_
  have g2:=Heap.get?_update_self (Obj.mapSeq (·.pop)) g1 rfl
  refine wpAny_pure ⟨plainId_quiet F.plain_extend_loop _,key _ _ (W.frame _ _ _ st fun b hb o e=>?_) (fun b o nb e=>?_) g2⟩
  ·have nb:b≠L0:=fun z=>nf (z ▸ hb)
   exact (Heap.get?_update_other _ _ (Ne.symm nb)).trans ((Heap.get?_update_other _ _ (Ne.symm nb)).trans e)
  ·exact (Heap.get?_update_other _ _ (Ne.symm nb)).trans ((Heap.get?_update_other _ _ (Ne.symm nb)).trans e)
theorem map_getD_perm {es:Array (Int×Value)} {ps:List Nat} (pm:ps.Perm (List.range es.size)):(ps.map fun p=>(es.getD p (0,.none)).2).Perm (es.toList.map (·.2)):=by
 refine (pm.map _).trans (List.Perm.of_eq ?_)
 apply List.ext_getElem
 ·simp
 ·intro i h1 h2
  simp at h1 h2 ⊢
  simp [Array.getD,h1]
theorem iadd_set {R:Result->Shared->Prop} {S L0:Addr} {es:Array (Int×Value)} {ep:Nat} {t:SetTable} (hh:A.handled=none) (x1:SAt s.heap S es ep t) (ld:byT w=true\/t.led=true) (np:es.size<=1\/t.plain=false) (sz:es.size<=sizeLine) (hL:s.heap.get? L0=some (seqObj "list" #[] 0)) (nLS:L0≠S)
  (tail:∀ (h':Heap) (tk:Tok) (d:Drawn) (acc:Array Value) (c:Nat),(∀ b o,b≠L0->s.heap.get? b=some o->h'.get? b=some o)->h'.get? L0=some { cls:=.type "list",dict:=none,data:=.seq acc c,slots:=#[] }->acc.toList.Perm (es.toList.map (·.2))->R (.ok (.ret (.ref L0))) { s with heap:=h',toks:=tk,drawn:=d }) :
  codeAny (model prog w) A (.builtin "list.__iadd__" ⟨[.ref L0,.ref S],[]⟩) R s:=by
 have zS:S < s.heap.objs.size:=let ⟨o,e,_⟩:=x1;Heap.lt_size e
 have zL:L0 < s.heap.objs.size:=Heap.lt_size hL
 have ft:t.fits es.size=true:=let ⟨_,_,_,_,f⟩:=x1;f
 refine codeAny_builtin entry_list_iadd' ?_
 rw [Around.under_plainId (by decide +kernel) _]
 obtain ⟨h1,gens,drawn,toks,os⟩:=s
 dsimp only at x1 hL tail zS zL ⊢
 have hT:(⟨h1,gens,drawn,toks,os⟩ : Shared).TypeIs (.ref S) "set" := let ⟨o,a,b,_⟩:=x1;⟨o,a,b⟩
 show wpAny _ _ (Builtin.List.listExtendWith (.ref L0) (.ref S) (.ref L0)) _ _ _
 unfold Builtin.List.listExtendWith
 refine wpAny_bind (wpAny_typeOf (T:= "set") hT ?_)
 have c1:Builtin.List.listSameRef (.ref L0) (.ref S)=false:=by simp [Builtin.List.listSameRef,nLS]
 have c2:(Value.type "set" == Value.type "list")=false:=by decide
 have c3:(Value.type "set" == Value.type "tuple")=false:=by decide
 simp only [c1,c2,c3,Bool.or_false,Bool.false_eq_true,if_false]
 refine wpAny_bind (set_iter x1 sz (fun m=>?_) (fun ps d m pm=>?_))
 ·have hT2:(⟨h1.push { cls:=.type "set_iterator",data:=.fields (itO (rawInt 0) 0 S es.size ep) },gens,drawn,toks,os⟩ : Shared).TypeIs (.ref S) "set" := let ⟨o,a,b⟩:=hT;⟨o,Heap.get?_push_of_some _ a,b⟩
  refine wpAny_bind (wpAny_holding (hint_set hT2 ?_))
  have hL2:=Heap.get?_push_of_some { cls:=.type "set_iterator",data:=.fields (itO (rawInt 0) 0 S es.size ep) } hL
  have x2:SAt (h1.push { cls:=.type "set_iterator",data:=.fields (itO (rawInt 0) 0 S es.size ep) }) S es ep t:=x1.at fun o e=>Heap.get?_push_of_some _ e
  have i2:SIt (h1.push { cls:=.type "set_iterator",data:=.fields (itO (rawInt 0) 0 S es.size ep) }) h1.objs.size (rawInt 0) 0 S es.size ep:=⟨_,Heap.get?_push_size _ rfl,rfl,rfl⟩
  have nS:S≠h1.objs.size:=Nat.ne_of_lt zS
  have nL:L0≠h1.objs.size:=Nat.ne_of_lt zL
  cases hb:byT w with
  | true=>
   have W:=walksT (prog:=prog) (w:=w) (A:=A.in1) (t:=t) (ep:=ep) (es:=es) hh h1.objs.size S nS hb
   refine ext_go (R:=R) (res:=.ref L0) (s:=⟨h1.push { cls:=.type "set_iterator",data:=.fields (itO (rawInt 0) 0 S es.size ep) },gens,drawn,toks,os⟩) W (by rw [List.length_map,Array.length_toList,pick_size]) sz nL nLS nLS hL2 ⟨i2,x2⟩ ?_
   exact fun h' tk acc c kp hS' ea=>tail h' tk drawn acc c (fun b o nb e=>kp b o nb (Nat.ne_of_lt (Heap.lt_size e)) (Heap.get?_push_of_some _ e)) hS' (by rw [ea];exact (pick_all _ es).map _)
  | false=>
   have le:t.led=true:=ld.resolve_left (by rw [hb];decide)
   have sm:es.size<=1:=by
    rcases np with h | h
    ·exact h
    ·rw [hb,h] at m
     simp at m
     omega
   have W:=walksL (prog:=prog) (w:=w) (A:=A.in1) (t:=t) (ep:=ep) (es:=es) hh h1.objs.size S nS hb le sm ft
   refine ext_go (R:=R) (res:=.ref L0) (s:=⟨h1.push { cls:=.type "set_iterator",data:=.fields (itO (rawInt 0) 0 S es.size ep) },gens,drawn,toks,os⟩) W (by rw [List.length_map,Array.length_toList]) sz nL nLS nLS hL2 ⟨⟨0,i2,.inl ⟨rfl,rfl⟩⟩,x2⟩ ?_
   exact fun h' tk acc c kp hS' ea=>tail h' tk drawn acc c (fun b o nb e=>kp b o nb (Nat.ne_of_lt (Heap.lt_size e)) (Heap.get?_push_of_some _ e)) hS' (by rw [ea])
 ·have T0:(h1.push { cls:=.type "tuple",data:=.seq (ps.map fun (i:Nat)=>rawInt i).toArray }).get? h1.objs.size=some { cls:=.type "tuple",data:=.seq (ps.map fun (i:Nat)=>rawInt i).toArray }:=Heap.get?_push_size _ rfl
  have z2:(h1.push { cls:=.type "tuple",data:=.seq (ps.map fun (i:Nat)=>rawInt i).toArray }).objs.size=h1.objs.size+1:=Heap.size_push _ _
  have k2:∀ b o,h1.get? b=some o->(h1.push { cls:=.type "tuple",data:=.seq (ps.map fun (i:Nat)=>rawInt i).toArray }).get? b=some o:=fun b o e=>Heap.get?_push_of_some _ e
  dsimp only
  generalize h1.push { cls:=.type "tuple",data:=.seq (ps.map fun (i:Nat)=>rawInt i).toArray }=h2 at T0 z2 k2 ⊢
  have hT2:(⟨h2.push { cls:=.type "set_iterator",data:=.fields (itO (.ref h1.objs.size) 0 S es.size ep) },gens,d,toks,os⟩ : Shared).TypeIs (.ref S) "set" := let ⟨o,a,b⟩:=hT;⟨o,Heap.get?_push_of_some _ (k2 _ _ a),b⟩
  refine wpAny_bind (wpAny_holding (hint_set hT2 ?_))
  have hL2:=Heap.get?_push_of_some { cls:=.type "set_iterator",data:=.fields (itO (.ref h1.objs.size) 0 S es.size ep) } (k2 _ _ hL)
  have x2:SAt (h2.push { cls:=.type "set_iterator",data:=.fields (itO (.ref h1.objs.size) 0 S es.size ep) }) S es ep t:=x1.at fun o e=>Heap.get?_push_of_some _ (k2 _ _ e)
  have i2:SIt (h2.push { cls:=.type "set_iterator",data:=.fields (itO (.ref h1.objs.size) 0 S es.size ep) }) h2.objs.size (.ref h1.objs.size) 0 S es.size ep:=⟨_,Heap.get?_push_size _ rfl,rfl,rfl⟩
  have t2:TupN (h2.push { cls:=.type "set_iterator",data:=.fields (itO (.ref h1.objs.size) 0 S es.size ep) }) h1.objs.size ps:=⟨_,0,Heap.get?_push_of_some _ T0,rfl⟩
  have nS:S≠h2.objs.size:=Nat.ne_of_lt (by rw [z2];exact Nat.lt_succ_of_lt zS)
  have nL:L0≠h2.objs.size:=Nat.ne_of_lt (by rw [z2];exact Nat.lt_succ_of_lt zL)
  have nT:h1.objs.size≠h2.objs.size:=Nat.ne_of_lt (by rw [z2];exact Nat.lt_succ_self _)
  have W:=walksD (prog:=prog) (w:=w) (A:=A.in1) (t:=t) (ep:=ep) (es:=es) hh h2.objs.size S h1.objs.size nS nT pm
  refine ext_go (R:=R) (res:=.ref L0) (s:=⟨h2.push { cls:=.type "set_iterator",data:=.fields (itO (.ref h1.objs.size) 0 S es.size ep) },gens,d,toks,os⟩) W (by rw [List.length_map,pm.length_eq,List.length_range]) sz nL nLS (Nat.ne_of_lt zL) hL2 ⟨i2,x2,t2⟩ ?_
  exact fun h' tk acc c kp hS' ea=>tail h' tk d acc c (fun b o nb e=>kp b o nb (Nat.ne_of_lt (by rw [z2];exact Nat.lt_succ_of_lt (Heap.lt_size e))) (Heap.get?_push_of_some _ (k2 _ _ e))) hS' (by rw [ea];exact map_getD_perm pm)
theorem collect_set {S:Addr} {es:Array (Int×Value)} {ep:Nat} {t:SetTable} {Q:List Value->Shared->Prop} (hh:A.handled=none) (x:SAt s.heap S es ep t) (ld:byT w=true\/t.led=true) (np:es.size<=1\/t.plain=false) (sz:es.size<=sizeLine)
  (q:∀ h' tk d vs,(∀ b o,s.heap.get? b=some o->h'.get? b=some o)->s.heap.objs.size < h'.objs.size->vs.Perm (es.toList.map (·.2))->Q vs { s with heap:=h',toks:=tk,drawn:=d }) :
  wpAny (model prog w) A (collect (.ref S)) Q E s:=by
 have zS:S < s.heap.objs.size:=let ⟨o,e,_⟩:=x;Heap.lt_size e
 unfold collect
 refine wpAny_bind (wpAny_runValue (codeAny_builtin entry_proto_collect' ?_))
 show wpAny _ _ (do again (.builtin "list.__iadd__" ⟨[<-newList [],.ref S],[]⟩)) _ _ s
 refine wpAny_bind (wpAny_newList (wpAny_pure ⟨Code.quiet_builtin _ (by decide +kernel),?_⟩))
 refine iadd_set (s:=⟨s.heap.push (seqObj "list" #[] 0),s.gens,s.drawn,s.toks,s.os⟩) hh (x.at fun o e=>Heap.get?_push_of_some _ e) ld np sz (Heap.get?_push_size _ rfl) (Nat.ne_of_gt zS) fun h' tk d acc c kp hS' pm=>?_
 show wpAny (model prog w) A (do
   let o <-load s.heap.objs.size
   match o.data with
   | .seq xs _=>pure xs.toList
   | _=>unsupported "internal:collect") Q E { s with heap:=h',toks:=tk,drawn:=d }
 refine wpAny_bind (wpAny_load hS' ?_)
 exact wpAny_pure (q h' tk d acc.toList (fun b o e=>kp b o (Nat.ne_of_lt (Heap.lt_size e)) (Heap.get?_push_of_some _ e)) (Heap.lt_size hS') pm)
end
end L2
end
section
namespace L2
open PySem PySem.Spec PyProof.Rows
theorem perm_sub {α:Type} [DecidableEq α]:∀ {l m:List α},l.Nodup->(∀ x∈l,x∈m)->m.length<=l.length->m.Perm l
 | [],m,_,_,h=>by
  have:m=[]:=List.length_eq_zero_iff.mp (by simpa using h)
  rw [this]
 | a :: l,m,nd,sub,le=>by
  have am:=sub a (List.mem_cons_self ..)
  have nd':=List.nodup_cons.mp nd
  have p:=List.perm_cons_erase am
  refine p.trans (List.Perm.cons a (perm_sub nd'.2 (fun x hx=>?_) ?_))
  ·have ne:x≠a:=fun z=>nd'.1 (z ▸ hx)
   exact (List.mem_erase_of_ne ne).mpr (sub x (List.mem_cons_of_mem _ hx))
  ·have:=List.length_erase_of_mem am
   simp at le
   omega
theorem Inv.draw {X:Cx} {pins:List (Addr×Obj)} {σ:St} {H:Hp} {s:Shared} (I:Inv X pins σ H s) (d:Drawn):Inv X pins σ H { s with drawn:=d }:=by
 obtain ⟨a,b,c,e,f,g,h,i,j,k,l⟩:=I
 exact ⟨a,b,c,e,f,g,h,i,j,k,l⟩
section
variable {prog:Program} {w:World} {A:Around} {E:Value->Shared->Prop} {s:Shared}
theorem elems_strs:∀ {l:List (Int×Value)},ElemsOf (strKind prog w) l->∃ zs:List Str,StrsAre (l.map (·.2)) zs/\zs.length=l.length/\∀ k,(∃ e∈l,(strKind prog w).is k e.2=true)↔k∈zs
 | [],_=>⟨[],.nil,rfl,fun k=>by simp⟩
 | e :: l,h=>by
  obtain ⟨zs,h1,h2,h3⟩:=elems_strs h.tail
  obtain ⟨⟨z,hz,_⟩,_⟩:=h.head
  obtain ⟨hash,v⟩:=e
  have ev:∃ tk,v = .str z tk:=by
   cases v with
   | str y tk=>
    have:(strKind prog w).is z (.str y tk)=true:=hz
    simp [PySem.strKind,Value.isStrOf] at this
    exact ⟨tk,by rw [this]⟩
   | _=>simp [PySem.strKind,Value.isStrOf] at hz
  obtain ⟨tk,rfl⟩:=ev
  refine ⟨z :: zs,.cons z tk h1,by rw [List.length_cons,List.length_cons,h2],fun k=>?_⟩
  rw [List.mem_cons,<-h3]
  constructor
  ·rintro ⟨e,he,hk⟩
   rcases List.mem_cons.mp he with rfl | he
   ·simp [PySem.strKind,Value.isStrOf] at hk
    exact .inl hk.symm
   ·exact .inr ⟨e,he,hk⟩
  ·rintro (rfl | ⟨e,he,hk⟩)
   ·exact ⟨_,List.mem_cons_self ..,hz⟩
   ·exact ⟨e,List.mem_cons_of_mem _ he,hk⟩
theorem sorted_set {a:Addr} {zs:List Str} {Q:Value->Shared->Prop} (hh:A.handled=none) (x:SetX prog w s.heap a (fun k=>decide (k∈zs)) zs.length (!byT w)) (nd:zs.Nodup) (h64:zs.length < 64)
  (q:∀ (h':Heap) (tk:Tok) (d:Drawn) (l:Addr) (out:Array Value) (ys:List Str) (e:Nat),(∀ b o,s.heap.get? b=some o->h'.get? b=some o)->s.heap.objs.size<=l->h'.get? l=some (seqObj "list" out e)->StrsAre out.toList ys->ys.Perm zs->sortedS ys=true->Q (.ref l) { s with heap:=h',toks:=tk,drawn:=d }) :
  wpAny (model prog w) A (call (.builtin "sorted") [.ref a]) Q E s:=by
 obtain ⟨o,es,ep,t,ho,ex,hd,el,mm,sb,ft,en,ld,pl⟩:=x
 obtain ⟨us,u1,u2,u3⟩:=elems_strs el
 have pz:us.Perm zs:=perm_sub nd (fun k hk=>(u3 k).mp ((mm k).mp (decide_eq_true hk))) (by rw [u2,Array.length_toList,en];exact Nat.le_refl _)
 refine Calls.call_function_entry kind_sorted plain_sorted entry_sorted (args_sorted1 _) ?_
 unfold Builtin.«sorted»
 refine wpAny_bind (m:=checkCount "sorted" 1 1 _) (wpAny_pure ?_)
 refine wpAny_bind (collect_set hh ⟨o,ho,ex.1,hd,ft⟩ ?_ ?_ (by rw [en];exact le_line (by omega)) fun h1 tk d vs kp lt pm=>?_)
 ·cases e:byT w with
  | true=>exact .inl rfl
  | false=>rw [e] at ld;exact .inr ld
 ·by_cases z:0 < zs.length
  ·exact .inr (pl z)
  ·exact .inl (by omega)
 have vS:∃ us',StrsAre vs us'/\us'.Perm us:=by
  have al:∀ v∈vs,∃ y tk,v = .str y tk:=fun v hv=>u1.all v (pm.mem_iff.mp hv)
  refine ⟨vs.map strOf,strsAre_map vs al,?_⟩
  rw [<-u1.strs]
  exact pm.map _
 obtain ⟨us',hS,pu⟩:=vS
 have v64:vs.length < 64:=by
  have h2:vs.length=es.toList.length:=by rw [pm.length_eq,List.length_map]
  have h3:es.toList.length=es.size:=Array.length_toList
  omega
 refine wpAny_bind (wpAny_newList ?_ (by rw [sizeLine_eq];omega))
 have hoL:(h1.push (seqObj "list" vs.toArray 0)).get? h1.objs.size=some (seqObj "list" vs.toArray 0):=Heap.get?_push_size _ rfl
 refine wpAny_bind (wpAny_holding (wpAny_call_entry slot_list_sort ⟨_,hoL,rfl⟩ entry_list_sort (list_sort_treeK strKind_oneLt hoL hS.keysOf (fun v1 v2 rest e=>keyKind_strs (by rw [<-e];exact hS)) v64 fun st' p1 p2=>⟨_,rfl,?_⟩) (args_list_sort _)))
 obtain ⟨ys,y1,y2,y3⟩:=sorted_out_str hS p1 p2
 obtain ⟨e,he⟩:=sortedHeap_at (out:=(arrOf st').map (·.2)) hoL
 refine wpAny_pure ⟨_,rfl,q _ tk d h1.objs.size _ ys e (fun b o hb=>?_) (Nat.le_of_lt lt) he y1 ((y2.trans pu).trans pz) y3⟩
 have hb1:=kp b o hb
 have bl:=Heap.lt_size hb1
 rw [sortedHeap_old (Nat.ne_of_lt bl) (by rw [size_push'];exact Nat.lt_succ_of_lt bl)]
 exact Heap.get?_push_of_some _ hb1
end
end L2
end
section
namespace L2
open PySem PySem.Spec PyProof.Rows
section
variable {prog:Program} {w:World} {A:Around} {I:Addr} {fp wr:List Addr} {G:Array GenState->Array GenState->Prop} {n:Nat} {P:Nat->Value->Prop} {St:Nat->Shared->Prop}
theorem new_set1 (a:Value) {E:Value->Shared->Prop} {s:Shared} {Q1:Value->Shared->Prop} (h:Q1 (.ref s.heap.objs.size) { s with heap:=s.heap.push { cls:=.type "set",dict:=none,data:=.set #[] 0 (.fresh 0 0 (!byT w)) } }) :
  codeAny (model prog w) A (.call (.builtin "set.__new__") ⟨[.type "set",a],[]⟩) (wants Q1 E) s:=by
 refine codeAny_of_tree ?_
 show wpAny _ A.in1 (checkBuiltinCall "set.__new__" ⟨[.type "set",a],[]⟩ >>= fun _=>again (.builtin "set.__new__" ⟨[.type "set",a],[]⟩)) _ _ s
 refine wpAny_bind (wpAny_of_eq (F.newCall_set_1 a) (wpAny_pure ⟨plainId_quiet F.plain_set_new _,codeAny_builtin F.entry_set_new ?_⟩))
 rw [Around.under_plainId F.plain_set_new _]
 unfold Builtin.«set.__new__» Builtin.Frozenset.newClass
 have hsub:=sub_set_self
 obtain ⟨hp,g,d,tk,os⟩:=s
 dsimp only
 wp_walk
 refine wpAny_askSetting (wpAny_pure ?_)
 dsimp only
 simp only [newObj]
 exact wpAny_bind (wpAny_alloc (wpAny_pure (wpAny_pure h)))
theorem SetX.moved {h h':Heap} {S:Addr} {M:Str->Bool} {m:Nat} {L:Bool} (x:SetX prog w h S M m L) (k:∀ o,h.get? S=some o->h'.get? S=some o):SetX prog w h' S M m L:=by
 obtain ⟨o,es,ep,t,ho,r⟩:=x
 exact ⟨o,es,ep,t,k o ho,r⟩
theorem set_takesX (W:WalksS prog w A.in1 I fp wr G n P St) (S:Addr) (hSf:S ∉ fp) (ks:List Str) (hn:ks.length=n) (hval:∀ i v,P i v->∃ x tk,ks[i]? = some x/\v = .str x tk) (hb:n+1 < scanBound) {L:Bool} {R:Result->Shared->Prop} :
  ∀ (m i:Nat) (s:Shared),n - i=m->i<=n->St i s->SetX prog w s.heap S (fun x=>decide (x∈Om.once (ks.take i))) (Om.once (ks.take i)).length L →
   (∀ s',Moved (S :: wr) G s s'->SetX prog w s'.heap S (fun x=>decide (x∈Om.once ks)) (Om.once ks).length L->R (.ok (.ret .none)) s') →
   codeAny (model prog w) A (.builtin "set.update.loop" ⟨[.ref S,.ref I],[]⟩) R s:=by
 have nw:S ∉ wr:=fun h=>hSf (W.sub _ h)
 have up:∀ b∈wr,b∈S :: wr:=fun b hb=>List.mem_cons_of_mem _ hb
 intro m
 induction m with
 | zero=>
  intro i s hm hi st x out
  obtain rfl:i=n:=by omega
  refine codeAny_builtin F.entry_set_update_loop ?_
  rw [Around.under_plainId F.plain_set_update_loop _]
  show wpAny _ A.in1 (pyNext (.ref I) >>= _) _ _ s
  refine wpAny_bind (W.done s _ _ st fun s1 mv=>?_)
  show wpAny _ A.in1 (ret Value.none) _ _ s1
  rw [List.take_of_length_le (by omega)] at x
  exact wpAny_pure (out s1 (mv.mono up) (SetX.moved x fun o e=>mv.heap S o nw e))
 | succ m ih=>
  intro i s hm hi st x out
  have lt:i < n:=by omega
  refine codeAny_builtin F.entry_set_update_loop ?_
  rw [Around.under_plainId F.plain_set_update_loop _]
  show wpAny _ A.in1 (pyNext (.ref I) >>= _) _ _ s
  refine wpAny_bind (W.item i s _ _ lt st fun v s1 hv st1 mv=>?_)
  obtain ⟨y,tky,hy,rfl⟩:=hval i v hv
  have x1:=SetX.moved (h':=s1.heap) x fun o e=>mv.heap S o nw e
  show wpAny _ A.in1 (holding [Value.str y tky] (setAdd S (Value.str y tky)) >>= _) _ _ s1
  refine wpAny_bind (wpAny_holding ?_)
  unfold setAdd
  refine wpAny_holding (wpAny_bind ((strKind prog w).pyHash (k:=y) (by simp [PySem.strKind,Value.isStrOf]) ?_))
  have rm:(Om.once (ks.take i)).length+1 < scanBound:=by
   have h1:=Om.once_le (ks.take i)
   have h2:(ks.take i).length<=i:=by rw [List.length_take];exact Nat.min_le_left _ _
   omega
  refine add_str (s:={ s1 with toks:=s1.toks+1 }) x1 rm fun h2 sb x2=>?_
  have tk:ks.take (i+1)=ks.take i++[y]:=by rw [List.take_succ,hy];rfl
  have x3:SetX prog w h2 S (fun x=>decide (x∈Om.once (ks.take (i+1)))) (Om.once (ks.take (i+1))).length L:=by
   rw [tk,Om.once_snoc]
   by_cases hm2:y∈Om.once (ks.take i)
   ·rw [if_pos hm2]
    rw [if_pos (by simpa using hm2)] at x2
    refine (congrArg (fun M=>SetX prog w h2 S M (Om.once (ks.take i)).length L) (funext fun z=>?_)).mp x2
    by_cases e:z=y
    ·subst e;simp [hm2]
    ·simp [e]
   ·rw [if_neg hm2,List.length_append]
    rw [if_neg (by simpa using hm2)] at x2
    refine (congrArg (fun M=>SetX prog w h2 S M ((Om.once (ks.take i)).length+1) L) (funext fun z=>?_)).mp x2
    rw [Bool.eq_iff_iff]
    simp [List.mem_append]
  refine wpAny_pure ⟨plainId_quiet F.plain_set_update_loop _,ih (i+1) _ (by omega) lt (W.frame _ s1 _ _ st1 (Nat.le_succ _) fun b hb o e=>?_) x3 fun s2 mv2 x4=>?_⟩
  ·rw [sb.2 b fun h:b=S=>hSf (h ▸ hb)]
   exact e
  ·refine out s2 (Moved.trans W.gtrans ((mv.mono up).then_heap (Nat.le_succ _) fun b o hb e=>?_) mv2) x4
   rw [sb.2 b fun h:b=S=>hb (h ▸ List.mem_cons_self)]
   exact e
theorem call_setx {E:Value->Shared->Prop} {s:Shared} {l:Addr} {items:Array Value} {ks:List Str} {Q:Value->Shared->Prop} (hh:A.handled=none) (hl:s.heap.IsList l items) (hn:ks.length=items.size)
  (hi:∀ (i:Nat) v,items[i]? = some v->∃ x tk,ks[i]? = some x/\v = .str x tk) (hb:items.size+1 < scanBound)
  (h:∀ (h':Heap) (tk:Nat),SetX prog w h' s.heap.objs.size (fun x=>decide (x∈Om.once ks)) (Om.once ks).length (!byT w)->(∀ b o,s.heap.get? b=some o->h'.get? b=some o)->Q (.ref s.heap.objs.size) { s with heap:=h',toks:=tk }) :
  wpAny (model prog w) A (call (.type "set") [.ref l]) Q E s:=by
 obtain ⟨c,tl,m1⟩:=PySem.F.called_set.mro
 have m2:=PySem.F.called_set.made
 have m3:=PySem.F.called_set.sub
 refine wpAny_call (codeAny_of_tree ?_)
 show wpAny _ _ (callAny (.type "set") _) _ _ _
 refine wpAny_pure ⟨Code.quiet_builtin _ (by decide +kernel),codeAny_builtin PySem.F.entry_type_call ?_⟩
 rw [Around.under_plain (weight_type_call_type "set" [.ref l] []) rfl]
 have t1:=PySem.F.called_set.notType
 have t2:=PySem.F.called_set.canCreate
 have t3:=PySem.F.typeCall_set_1 (.ref l)
 repeat (any_goals (first | assumption | wp_step))
 refine codeAny_mono (new_set1 (.ref l) (E:=E) (Q1:=fun ob s1=>ob = .ref s.heap.objs.size/\s1={ s with heap:=s.heap.push { cls:=.type "set",dict:=none,data:=.set #[] 0 (.fresh 0 0 (!byT w)) } }) ⟨rfl,rfl⟩) fun r s1 hr=>?_
 cases r with
 | error e=>exact hr
 | ok fl=>
  cases fl with
  | ret ob=>
   obtain ⟨rfl,rfl⟩:=hr
   have at0:(s.heap.push { cls:=.type "set",dict:=none,data:=.set #[] 0 (.fresh 0 0 (!byT w)) }).get? s.heap.objs.size=some { cls:=.type "set",dict:=none,data:=.set #[] 0 (.fresh 0 0 (!byT w)) }:=Heap.get?_push_size _ rfl
   have ty:Shared.TypeIs { s with heap:=s.heap.push { cls:=.type "set",dict:=none,data:=.set #[] 0 (.fresh 0 0 (!byT w)) } } (.ref s.heap.objs.size) "set" := ⟨_,at0,rfl⟩
   have i1:=PySem.F.called_set.init.lookup
   have i2:=PySem.F.called_set.init.bind (.ref s.heap.objs.size)
   repeat (any_goals (first | assumption | wp_step))
   refine codeAny_mono (codeAny_call_builtin (R:=wants (fun r s2=>r = .none/\∃ h' tk,s2={ s with heap:=h',toks:=tk }/\SetX prog w h' s.heap.objs.size (fun x=>decide (x∈Om.once ks)) (Om.once ks).length (!byT w)/\∀ b o,s.heap.get? b=some o->h'.get? b=some o) E)
    PySem.F.called_set.init.plain PySem.F.entry_set_init (check_set_init_1 ty ?_)) fun r2 s2 hr2=>?_
   ·have l1:(s.heap.push { cls:=.type "set",dict:=none,data:=.set #[] 0 (.fresh 0 0 (!byT w)) }).IsList l items:=hl.push _
    have lS:l < s.heap.objs.size:=by obtain ⟨ol,e,_⟩:=hl;exact Heap.lt_size e
    obtain ⟨ol,e0,ec,nl,ed⟩:=hl
    obtain ⟨oc,od,dt,sl⟩:=ol
    simp only at ec ed
    subst ec
    subst ed
    have e1:(s.heap.push { cls:=.type "set",dict:=none,data:=.set #[] 0 (.fresh 0 0 (!byT w)) }).get? l=some { cls:=.type "list",dict:=od,data:=.seq items nl,slots:=sl }:=Heap.get?_push_of_some _ e0
    have u1:=PySem.F.sub_list_set
    have u2:=PySem.F.sub_list_frozenset
    have u3:(Value.type "list" == Value.type "dict")=false:=by decide
    unfold Builtin.«set.__init__» noKeywords Builtin.Frozenset.updateFrom
    generalize ePI:pyIter=PI
    wp_walk
    subst ePI
    refine wpAny_pyIter_list l1 ?_
    refine wpAny_bind (wpAny_runValue ?_)
    have z1:(s.heap.push { cls:=.type "set",dict:=none,data:=.set #[] 0 (.fresh 0 0 (!byT w)) }).objs.size=s.heap.objs.size+1:=Heap.size_push _ _
    have nI:l≠(s.heap.push { cls:=.type "set",dict:=none,data:=.set #[] 0 (.fresh 0 0 (!byT w)) }).objs.size:=by rw [z1];exact Nat.ne_of_lt (Nat.lt_succ_of_lt lS)
    have nS:s.heap.objs.size ∉ [(s.heap.push { cls:=.type "set",dict:=none,data:=.set #[] 0 (.fresh 0 0 (!byT w)) }).objs.size,l]:=by
     rw [z1]
     intro hm
     rcases List.mem_cons.mp hm with z | z
     ·exact absurd z (Nat.ne_of_lt (Nat.lt_succ_self _))
     ·have:s.heap.objs.size=l:=by simpa using z
      exact absurd this (Nat.ne_of_gt lS)
    refine set_takesX (L:=!byT w) ((Walks.list (by simp [hh]) _ l nI items).toS) s.heap.objs.size nS ks hn (fun i v hv=>hi i v hv) hb (items.size - 0) 0 _ (by omega) (Nat.zero_le _) ⟨⟨_,Heap.get?_push_size _ rfl,rfl,rfl⟩,l1.push _⟩ ?x0 ?out
    case x0=>
     have at1:((s.heap.push { cls:=.type "set",dict:=none,data:=.set #[] 0 (.fresh 0 0 (!byT w)) }).push { cls:=.type "list_iterator",data:=.fields #[.ref l,.int 0 0] }).get? s.heap.objs.size=some { cls:=.type "set",dict:=none,data:=.set #[] 0 (.fresh 0 0 (!byT w)) }:=Heap.get?_push_of_some _ at0
     refine ⟨_,#[],0,_,at1,⟨rfl,rfl,rfl⟩,rfl,fun e he=>by simp at he,fun k=>by simp [Om.once],by decide,by rfl,rfl,rfl,fun z=>absurd z (by simp [Om.once])⟩
    case out=>
     intro s' mv x
     obtain ⟨h',g',d',tk',os'⟩:=s'
     obtain rfl:g'=s.gens:=mv.gens
     obtain rfl:d'=s.drawn:=mv.drawn
     obtain rfl:os'=s.os:=mv.os
     show wpAny _ _ _ _ _ _
     refine wpAny_pure ?_
     show wpAny _ _ (ret Value.none) _ _ _
     refine wpAny_pure ⟨rfl,h',tk',rfl,x,fun b o e=>?_⟩
     have lb:=Heap.lt_size e
     refine mv.heap b o (fun hm=>?_) (Heap.get?_push_of_some _ (Heap.get?_push_of_some _ e))
     rcases List.mem_cons.mp hm with z | z
     ·exact absurd z (Nat.ne_of_lt lb)
     ·have:b=(s.heap.push { cls:=.type "set",dict:=none,data:=.set #[] 0 (.fresh 0 0 (!byT w)) }).objs.size:=by simpa using z
      rw [z1] at this
      exact absurd this (Nat.ne_of_lt (Nat.lt_succ_of_lt lb))
   ·cases r2 with
    | error e=>exact hr2
    | ok f2=>
     cases f2 with
     | ret r=>
      obtain ⟨rfl,h',tk,rfl,x,k⟩:=hr2
      repeat (any_goals (first | assumption | wp_step))
      exact h _ _ x k
     | _=>exact hr2.elim
  | _=>exact hr.elim
end
def SetW (P:Program) (w:World) (a:Addr) (zs:List Str):HO:=.ext fun h=>SetX P w h a (fun x=>decide (x∈zs)) zs.length (!byT w)
theorem SetW.mk {P:Program} {w:World} {H:Hp} {h:Heap} {a:Addr} {zs:List Str} (x:SetX P w h a (fun x=>decide (x∈zs)) zs.length (!byT w)):ObjOk P w H h a (SetW P w a zs):=by
 refine ⟨x,?_,fun h1 h2 x1 k=>SetX.moved x1 k⟩
 obtain ⟨o,es,ep,t,e,_⟩:=x
 exact ⟨o,e⟩
section
variable {X:Cx} {p pos:Pos} {e:Expr} {es:List Expr} {t:TA}
def rSetW (P:Program) (w:World):List V->Hp->VK->Prop:=fun vs H Q=>∃ (l:Addr) (xs:List Str),vs=[.ref l]/\H l=some (.lst (xs.map V.str))/\xs.length<=1000/\∀ a,H a=none->Q (.ref a) (upd H a (SetW P w a (Om.once xs)))
theorem call_setW (hc:X.calm=true):CallR X (.type "set") (rSetW X.prog X.w):=by
 intro pins s σ H vs us Q I r h
 obtain ⟨l,xs,rfl,hl,hz,q⟩:=h
 obtain ⟨u,rfl,rx⟩:=vals1 r
 cases rx
 obtain ⟨_,its,n,rv,e0⟩:=I.hok l _ hl
 have ln:=rv.length
 rw [List.length_map] at ln
 refine call_setx (ks:=xs) (I.ok.hd hc) ⟨_,e0,rfl,n,rfl⟩ (by simpa using ln) (fun i v hv=>?_) (by simp;unfold scanBound;omega) fun h' tk x k=>?_
 ·have hv':its[i]? = some v:=by simpa using hv
  have lt:i < its.length:=(List.getElem?_eq_some_iff.mp hv').1
  have lx:i < xs.length:=by omega
  obtain ⟨u,hu,ru⟩:=rv.get (i:=i) (x:=.str xs[i]) (by rw [List.getElem?_map,List.getElem?_eq_getElem lx];rfl)
  rw [hv'] at hu
  cases hu
  obtain ⟨tk,rfl⟩:=ru
  exact ⟨xs[i],tk,List.getElem?_eq_getElem lx,rfl⟩
 ·exact ⟨.ref s.heap.objs.size,upd H s.heap.objs.size (SetW X.prog X.w s.heap.objs.size (Om.once xs)),I.laid (t':=tk) k (Nat.le_refl _) (SetW.mk x),rfl,q _ (I.hok.fresh (Nat.le_refl _))⟩
theorem fn_setW {mg':Str->Option Value} (hm:mg' "set" = none) (hX:X.mg=mg') (ha:PA X (e :: es) t) (hc:X.calm=true:=by kernel_rfl) (hg:gB X "set" = true:=by kernel_rfl) (he:starEach (e :: es) X.env=(false,eval e X.env) :: starEach es X.env:=by kernel_rfl) (hpl:(backTo pos (starEach es X.env)).any (·.1)=false:=by kernel_rfl) :
  PE X (.Call (.Name "set" p) (e :: es) [] pos) (tCB (rSetW X.prog X.w) t):=pe_callTy (call_setW hc) (gl_of hg) (by rw [hX];exact hm) PyProof.Rows.boot_set ha (he:=he) (hpl:=hpl)
theorem strs_vals:∀ {vs:List Value} {ys:List Str},StrsAre vs ys->Vals (ys.map V.str) vs
 | _,_,.nil=>.nil
 | _,_,.cons z tk h=>.cons ⟨tk,rfl⟩ (strs_vals h)
def rSortW (P:Program) (w:World):List V->Hp->VK->Prop:=fun vs H Q=>∃ (a:Addr) (zs:List Str),vs=[.ref a]/\H a=some (SetW P w a zs)/\zs.Nodup/\zs.length < 64/\∀ l ys,H l=none->ys.Perm zs->sortedS ys=true->Q (.ref l) (upd H l (.lst (ys.map V.str)))
theorem call_sortW (hc:X.calm=true):CallR X (.builtin "sorted") (rSortW X.prog X.w):=by
 intro pins s σ H vs us Q I r h
 obtain ⟨a,zs,rfl,ha,nd,h64,q⟩:=h
 obtain ⟨u,rfl,rx⟩:=vals1 r
 cases rx
 refine sorted_set (I.ok.hd hc) (I.hok a _ ha).1 nd h64 fun h' tk d l out ys e kp hl he y1 y2 y3=>?_
 have hz:(ys.map V.str).length<=sizeLine:=by rw [List.length_map,y2.length_eq];exact le_line (by omega)
 have ok:ObjOk X.prog X.w (upd H l (.lst (ys.map V.str))) h' l (.lst (ys.map V.str)):=⟨hz,out.toList,e,strs_vals y1,by simpa using he⟩
 exact ⟨.ref l,upd H l (.lst (ys.map V.str)),(I.laid (t':=tk) kp hl ok).draw d,rfl,q _ _ (I.hok.fresh hl) y2 y3⟩
theorem fn_sortW {mg':Str->Option Value} (hm:mg' "sorted" = none) (hX:X.mg=mg') (ha:PA X (e :: es) t) (hc:X.calm=true:=by kernel_rfl) (hg:gB X "sorted" = true:=by kernel_rfl) (he:starEach (e :: es) X.env=(false,eval e X.env) :: starEach es X.env:=by kernel_rfl) (hpl:(backTo pos (starEach es X.env)).any (·.1)=false:=by kernel_rfl) :
  PE X (.Call (.Name "sorted" p) (e :: es) [] pos) (tCB (rSortW X.prog X.w) t):=pe_callB (call_sortW hc) (gl_of hg) (by rw [hX];exact hm) PyProof.Rows.boot_sorted ha (he:=he) (hpl:=hpl)
end
end L2
end
section
namespace L2
open PySem PySem.Spec PyProof.Rows
section
variable {prog:Program} {w:World} {A:Around}
end
section
variable {X:Cx} {p pos:Pos}
end
end L2
end
section
namespace L2
open PySem PySem.Spec PyProof.Rows
section
variable {X:Cx}
end
end L2
namespace L2
end L2
end
section
namespace L2
open PySem PySem.Spec PyProof.Rows
section
variable {X:Cx} {a b:Expr} {p pos:Pos} {ta:TA}
end
end L2
end
section
namespace L2
open PySem PySem.Spec PyProof.Rows PySem.W PySem.Calls
section
variable {n:Nat} {cmp:Nat->Nat->(Bool->Shared->Prop)->Shared->Prop} {s:Shared}
variable (hc:∀ i j C,i < n->j < n->(∀ b,C b s)->cmp i j C s) (h0:0 < n)
include hc h0
end
section
variable {prog:Program} {w:World} {A:Around} {E:Value->Shared->Prop} {s:Shared}
end
section
variable {X:Cx} {p pos:Pos}
end
end L2
end
section
namespace L2
open PySem PySem.Spec PyProof.Rows PySem.W PySem.Calls
section
variable {prog:Program} {w:World} {A:Around} {E:Value->Shared->Prop} {s:Shared}
def TupO (h:Heap) (v:Value) (xs:List Value):Prop:=∃ (t:Addr) (o:Obj) (n:Nat),v = .ref t/\h.get? t=some o/\o.cls = .type "tuple"/\o.data = .seq xs.toArray n
theorem TupO.ty {v:Value} {xs:List Value} (h:TupO s.heap v xs):s.TypeIs v "tuple" := by
 obtain ⟨t,o,n,rfl,h1,h2,h3⟩:=h
 exact ⟨o,h1,h2⟩
end
end L2
end
section
namespace L2
open PySem PySem.Spec PyProof.Rows PySem.W PySem.Calls
section
variable {prog:Program} {w:World} {A:Around} {E:Value->Shared->Prop} {s:Shared}
end
end L2
end
section
namespace L2
open PySem PySem.Spec PyProof.Rows PySem.W PySem.Calls
section
variable {prog:Program} {w:World} {A:Around} {E:Value->Shared->Prop} {s:Shared}
end
end L2
end
section
namespace L2
open PySem PySem.Spec PyProof.Rows PySem.W PySem.Calls
section
variable {prog:Program} {w:World} {A:Around} {E:Value->Shared->Prop} {s:Shared} {R:Result->Shared->Prop}
end
end L2
end
section
namespace L2
open PySem PySem.Spec PyProof.Rows PySem.W PySem.Calls
section
variable {prog:Program} {w:World} {A:Around}
def vsh:Value->Option Bool
 | .int ..=>some false
 | .str ..=>some true
 | _=>none
def GF (ks:List Bool) (vs:List Value) (h:Heap):Prop:=∀ v∈vs,∃ a t us,TupO h v (.int a t :: us)/\us.map vsh=ks.map some
theorem TupO.mono {h h':Heap} {a:Addr} {v:Value} {xs:List Value} (x:TupO h v xs) (k:∀ b o,b≠a->h.get? b=some o->h'.get? b=some o) (n:∀ o,h.get? a=some o->o.cls = .type "list"):TupO h' v xs:=by
 obtain ⟨t,o,m,x1,x2,x3,x4⟩:=x
 refine ⟨t,o,m,x1,k t o (fun z=>?_) x2,x3,x4⟩
 subst z
 have:=n o x2
 rw [x3] at this
 exact absurd (Value.type.inj this) (by decide)
theorem TupO.ext {h h':Heap} {v:Value} {xs:List Value} (x:TupO h v xs) (k:∀ b o,h.get? b=some o->h'.get? b=some o):TupO h' v xs:=by
 obtain ⟨t,o,m,x1,x2,x3,x4⟩:=x
 exact ⟨t,o,m,x1,k t o x2,x3,x4⟩
end
section
variable {X:Cx} {p pos:Pos}
theorem tup_O {P:Program} {w:World} {H:Hp} {h:Heap} {t:Addr} {xs:List V} (ok:HOk P w H h) (e:H t=some (.tup xs)):∃ us,TupO h (.ref t) us/\Vals xs us:=by
 obtain ⟨_,its,rv,o,o1,o2,n,o3⟩:=ok t _ e
 exact ⟨its,⟨t,o,n,rfl,o1,o2,o3⟩,rv⟩
end
end L2
end
section
namespace L2
open PySem PySem.Spec PyProof.Rows PySem.W PySem.Calls
section
variable {prog:Program} {w:World} {A:Around} {E:Value->Shared->Prop} {s:Shared}
end
section
variable {X:Cx}
end
end L2
end
section
namespace L2
open PySem PySem.Spec PyProof.Rows
def ltT (a b:Str):Bool:=decide (a.cps.toList < b.cps.toList)
def lexS:List Str->List Str->Bool
 | [],[]=>false
 | [],_ :: _=>true
 | _ :: _,[]=>false
 | a :: l,b :: m=>if a=b then lexS l m else ltT a b
section
variable {prog:Program} {w:World} {A:Around} {E:Value->Shared->Prop} {s:Shared}
theorem strs_at:∀ {us:List Value} {xs:List Str},StrsAre us xs->∀ (k:Nat),(∀ z,xs[k]? = some z->∃ t,us[k]? = some (.str z t))/\(xs[k]? = none->us[k]? = none)
 | _,_,.nil,k=>⟨fun z h=>by simp at h,fun _=>by simp⟩
 | _,_,.cons z t h,0=>⟨fun y e=>by simp at e;subst e;exact ⟨t,rfl⟩,fun e=>by simp at e⟩
 | _,_,.cons z t h,k+1=>by
  have:=strs_at h k
  simpa using this
theorem ls_loop {R:Result->Shared->Prop} {a b:Addr} {oa ob:Obj} {us vs:Array Value} {na nb:Nat} {xs ys:List Str} (ha:s.heap.get? a=some oa) (da:oa.data = .seq us na) (hb:s.heap.get? b=some ob) (db:ob.data = .seq vs nb) (xa:StrsAre us.toList xs) (yb:StrsAre vs.toList ys) :
  ∀ m k:Nat,xs.length - k=m->k<=xs.length->k<=ys.length->R (.ok (.ret (.bool (lexS (xs.drop k) (ys.drop k))))) s->codeAny (model prog w) A (.builtin "list.__eq__.loop" ⟨[.ref a,.ref b,rawInt k,rawInt 0],[]⟩) R s:=by
 have xl:us.size=xs.length:=by rw [<-Array.length_toList];exact xa.length
 have yl:vs.size=ys.length:=by rw [<-Array.length_toList];exact yb.length
 intro m
 induction m with
 | zero=>
  intro k hk kx ky r
  refine codeAny_builtin PySem.MeetsSeq3.entry_eq_loop ?_
  rw [Around.under_plainId PySem.MeetsSeq3.plain_eq_loop _]
  show wpAny _ _ (Builtin.List.listItems (.ref a) >>= _) _ _ s
  refine wpAny_bind (listItems_at ha da (wpAny_bind (listItems_at hb db ?_)))
  have e1:us[((k:Nat):Int).toNat]? = none:=by rw [Int.toNat_natCast];exact Array.getElem?_eq_none (by omega)
  rw [e1]
  show wpAny _ _ (Builtin.List.listItems (.ref a) >>= fun u=>Builtin.List.listItems (.ref b) >>= fun v=>ret (.bool (decide (u.size < v.size)))) _ _ s
  refine wpAny_bind (listItems_at ha da (wpAny_bind (listItems_at hb db (wpAny_pure ?_))))
  have d1:xs.drop k=[]:=List.drop_of_length_le (by omega)
  rw [d1] at r
  have:lexS [] (ys.drop k)=decide (us.size < vs.size):=by
   by_cases z:us.size < vs.size
   ·rw [decide_eq_true z,List.drop_eq_getElem_cons (by omega:k < ys.length)]
    rfl
   ·rw [decide_eq_false z,List.drop_of_length_le (by omega)]
    rfl
  rw [this] at r
  exact r
 | succ m ih=>
  intro k hk kx ky r
  have lx:k < xs.length:=by omega
  obtain ⟨t1,e1⟩:=(strs_at xa k).1 _ (List.getElem?_eq_getElem lx)
  have e1:us[((k:Nat):Int).toNat]? = some (.str xs[k] t1):=by rw [Int.toNat_natCast,<-Array.getElem?_toList];exact e1
  refine codeAny_builtin PySem.MeetsSeq3.entry_eq_loop ?_
  rw [Around.under_plainId PySem.MeetsSeq3.plain_eq_loop _]
  show wpAny _ _ (Builtin.List.listItems (.ref a) >>= _) _ _ s
  refine wpAny_bind (listItems_at ha da (wpAny_bind (listItems_at hb db ?_)))
  rw [e1]
  rw [List.drop_eq_getElem_cons lx] at r
  by_cases ly:k < ys.length
  ·obtain ⟨t2,e2⟩:=(strs_at yb k).1 _ (List.getElem?_eq_getElem ly)
   have e2:vs[((k:Nat):Int).toNat]? = some (.str ys[k] t2):=by rw [Int.toNat_natCast,<-Array.getElem?_toList];exact e2
   rw [e2]
   rw [List.drop_eq_getElem_cons ly] at r
   show wpAny _ _ (eqBool (.str xs[k] t1) (.str ys[k] t2) >>= _) _ _ s
   refine wpAny_bind (wpAny_eqBool_str ?_)
   by_cases z:xs[k]=ys[k]
   ·rw [decide_eq_true z]
    unfold lexS at r
    rw [if_pos z] at r
    exact wpAny_pure ⟨plainId_quiet PySem.MeetsSeq3.plain_eq_loop _,ih (k+1) (by omega) (by omega) (by omega) r⟩
   ·rw [decide_eq_false z]
    unfold lexS at r
    rw [if_neg z] at r
    show wpAny _ _ (Builtin.List.listItems (.ref a) >>= fun u=>Builtin.List.listItems (.ref b) >>= _) _ _ s
    refine wpAny_bind (listItems_at ha da (wpAny_bind (listItems_at hb db ?_)))
    rw [e1,e2]
    show wpAny _ _ (compareOp .Lt (.str xs[k] t1) (.str ys[k] t2) >>= fun v=>ret v) _ _ s
    exact wpAny_bind (PyProof.Rows.lt_str (wpAny_pure r))
  ·have e2:vs[((k:Nat):Int).toNat]? = none:=by rw [Int.toNat_natCast];exact Array.getElem?_eq_none (by omega)
   rw [e2]
   rw [List.drop_of_length_le (by omega:ys.length<=k)] at r
   show wpAny _ _ (Builtin.List.listItems (.ref a) >>= fun u=>Builtin.List.listItems (.ref b) >>= fun v=>ret (.bool (decide (u.size < v.size)))) _ _ s
   refine wpAny_bind (listItems_at ha da (wpAny_bind (listItems_at hb db (wpAny_pure ?_))))
   have:lexS (xs[k] :: xs.drop (k+1)) []=decide (us.size < vs.size):=by
    rw [decide_eq_false (by omega)]
    rfl
   rw [this] at r
   exact r
def LstO (h:Heap) (a:Addr) (us:List Value):Prop:=∃ (o:Obj) (n:Nat),h.get? a=some o/\o.cls = .type "list"/\o.data = .seq us.toArray n
theorem lst_ltC {a b:Addr} {us vs:List Value} {xs ys:List Str} {Q:Value->Shared->Prop} (hu:A.units < cLine) (ha:LstO s.heap a us) (hb:LstO s.heap b vs) (xa:StrsAre us xs) (yb:StrsAre vs ys) (q:Q (.bool (lexS xs ys)) s):wpAny (model prog w) A (compareOp .Lt (.ref a) (.ref b)) Q E s:=by
 obtain ⟨oa,na,a1,a2,a3⟩:=ha
 obtain ⟨ob,nb,b1,b2,b3⟩:=hb
 have ta:s.TypeIs (.ref a) "list" := ⟨oa,a1,a2⟩
 have tb:s.TypeIs (.ref b) "list" := ⟨ob,b1,b2⟩
 show wpAny (model prog w) A (richCompare .Lt (.ref a) (.ref b)) Q E s
 refine wpAny_richCompare_same_room (op:=.Lt) ta tb F.slot_list_lt (wpAny_call (codeAny_call_builtin F.slot_list_lt.plain F.entry_list_lt (F.slot_list_lt.check _ _ _ _ _ _ _ _ ta (F.args_list_lt_2 _ _) ?_))) hu
 show wpAny _ _ (isInstance (.ref b) (.type "list") >>= _) _ _ s
 refine wpAny_bind (wpAny_isInstance (T:= "list") (b:=true) tb (by rw [isSubtype_type];kernel_rfl) ?_)
 refine wpAny_pure ⟨plainId_quiet PySem.MeetsSeq3.plain_eq_loop _,?_⟩
 refine ls_loop a1 a3 b1 b3 (by simpa using xa) (by simpa using yb) xs.length 0 rfl (Nat.zero_le _) (Nat.zero_le _) ⟨(fun e=>nomatch e),q⟩
section
variable {X:Cx}
def rLtL:R2:=fun x y H Q=>∃ (a b:Addr) (xs ys:List Str),x = .ref a/\y = .ref b/\H a=some (.lst (xs.map V.str))/\H b=some (.lst (ys.map V.str))/\Q (.bl (lexS xs ys)) H
theorem lst_O {P:Program} {w:World} {H:Hp} {h:Heap} {t:Addr} {xs:List Str} (ok:HOk P w H h) (e:H t=some (.lst (xs.map V.str))):∃ us,LstO h t us/\StrsAre us xs:=by
 obtain ⟨_,its,n,rv,e0⟩:=ok t _ e
 exact ⟨its,⟨_,n,e0,rfl,rfl⟩,vals_strs rv⟩
theorem op_ltL (hu:X.A.units+64 < cLine):OpR X (compareOp .Lt) rLtL:=by
 intro pins s σ H x y v u Q I rx ry h
 obtain ⟨a,b,xs,ys,rfl,rfl,ha,hb,k⟩:=h
 cases rx
 cases ry
 obtain ⟨us,O1,V1⟩:=lst_O I.hok ha
 obtain ⟨vs,O2,V2⟩:=lst_O I.hok hb
 exact lst_ltC (by omega) O1 O2 V1 V2 ⟨.bl _,H,I,rfl,k⟩
theorem eqvAll_strs:∀ xs ys:List Str,PyData.eqvAll (xs.map .str) (ys.map .str)=decide (xs=ys)
 | [],[]=>by simp [PyData.eqvAll]
 | [],_ :: _=>by simp [PyData.eqvAll]
 | _ :: _,[]=>by simp [PyData.eqvAll]
 | x :: xs,y :: ys=>by
  rw [List.map_cons,List.map_cons,PyData.eqvAll,eqvAll_strs xs ys]
  rw [Bool.eq_iff_iff]
  simp [PyData.eqv]
theorem lexS_irr:∀ xs:List Str,lexS xs xs=false
 | []=>rfl
 | x :: xs=>by unfold lexS;rw [if_pos rfl];exact lexS_irr xs
theorem tupL_lt {prog:Program} {w:World} {A:Around} {E:Value->Shared->Prop} {s:Shared} {u v:Value} {a c:Int} {t1 t2:Tok} {l m:Addr} {xs ys:List Str} {P:PySem.Fin->Shared->Prop} (hA:A.units < cLine) (hu:TupO s.heap u [.int a t1,.ref l]) (hv:TupO s.heap v [.int c t2,.ref m]) (he:SeqAt.EqAt A s (.ref l) (.ref m) (decide (xs=ys)))
  {us vs:List Value} (la:LstO s.heap l us) (lb:LstO s.heap m vs) (xa:StrsAre us xs) (yb:StrsAre vs ys) (h:P (.done (.ret (.bool (if a=c then lexS xs ys else decide (a < c))))) s) :
  wpAny (model prog w) A (Builtin.«tuple.__lt__» ⟨[u,v],[]⟩) P E s:=by
 have tv:=hv.ty
 obtain ⟨x,o,n,rfl,a1,a2,a3⟩:=hu
 obtain ⟨y,o',n',rfl,b1,b2,b3⟩:=hv
 show wpAny _ _ (isInstance (.ref y) (.type "tuple") >>= _) _ _ s
 refine wpAny_bind (wpAny_isInstance tv isSubtype_tuple_tuple ?_)
 simp only [Bool.not_true,Bool.false_eq_true,if_false]
 refine wpAny_bind (wpAny_tupleItemsOf a1 a3 (wpAny_bind (wpAny_tupleItemsOf b1 b3 (wpAny_bind ?_))))
 refine wpAny_forIn_list _ (fun rest r s'=>r.1=none/\s'=s/\(rest=[(Value.int a t1,Value.int c t2),(.ref l,.ref m)]\/(a=c/\rest=[(Value.ref l,Value.ref m)])\/(a=c/\xs=ys/\rest=[]))) _ ?_ ?_ _ _ ⟨rfl,rfl,.inl (by simp)⟩
 ·rintro ⟨x,y⟩ rest r s' ⟨hr,rfl,al⟩
  rcases al with e | ⟨e0,e⟩ | ⟨_,_,e⟩
  ·cases e
   refine wpAny_bind (wpAny_eqBool_int ?_)
   by_cases z:a=c
   ·rw [show (a == c)=true by simp [z]]
    simp only [Bool.not_true,Bool.false_eq_true,if_false]
    exact wpAny_pure ⟨rfl,rfl,.inr (.inl ⟨z,by first | rfl | trivial⟩)⟩
   ·rw [show (a == c)=false by simp [z]]
    simp only [Bool.not_false,if_true]
    refine wpAny_bind (wpAny_rule (wpAny_bind ?_))
    refine wpAny_mono (show wpAny (model prog w) A (compareOp .Lt (.int a t1) (.int c t2)) (fun r' s2=>r' = .bool (decide (a < c))/\s2=s') E s' from PyProof.Rows.lt_int ⟨rfl,rfl⟩) ?_ fun _ _ x=>x
    rintro r' s2 ⟨rfl,rfl⟩
    rw [if_neg z] at h
    exact wpAny_bind (wpAny_pure (wpAny_pure (wpAny_pure h)))
  ·cases e
   rw [if_pos e0] at h
   refine wpAny_bind (he prog w _ _ ?_)
   by_cases z:xs=ys
   ·rw [decide_eq_true z]
    simp only [Bool.not_true,Bool.false_eq_true,if_false]
    exact wpAny_pure ⟨rfl,rfl,.inr (.inr ⟨e0,z,by first | rfl | trivial⟩)⟩
   ·rw [decide_eq_false z]
    simp only [Bool.not_false,if_true]
    refine wpAny_bind (wpAny_rule (wpAny_bind ?_))
    refine wpAny_mono (show wpAny (model prog w) A (compareOp .Lt (.ref l) (.ref m)) (fun r' s2=>r' = .bool (lexS xs ys)/\s2=s') E s' from lst_ltC hA la lb xa yb ⟨rfl,rfl⟩) ?_ fun _ _ x=>x
    rintro r' s2 ⟨rfl,rfl⟩
    exact wpAny_bind (wpAny_pure (wpAny_pure (wpAny_pure h)))
  ·cases e
 ·rintro ⟨r1,r2⟩ s' ⟨hr,rfl,al⟩
  simp only at hr
  subst hr
  rcases al with e | ⟨_,e⟩ | ⟨e1,e2,_⟩
  ·cases e
  ·cases e
  ·rw [if_pos e1,e2,lexS_irr] at h
   exact wpAny_pure h
theorem in1_le (A:Around):A.in1.units<=A.units+1:=Nat.le_refl _
def rLtN:R2:=fun x y H Q=>∃ (p q:Addr) (a c:Int) (l m:Addr) (xs ys:List Str),x = .ref p/\y = .ref q/\H p=some (.tup [.int a,.ref l])/\H q=some (.tup [.int c,.ref m])/\H l=some (.lst (xs.map V.str))/\H m=some (.lst (ys.map V.str))/\SeqAt.shaped (.list (xs.map PyData.str))=true/\SeqAt.shaped (.list (ys.map PyData.str))=true/\Q (.bl (if a=c then lexS xs ys else decide (a < c))) H
theorem dvs_strs {H:Hp}:∀ xs:List Str,DVs H (xs.map V.str) (xs.map PyData.str)
 | []=>.nil
 | _ :: xs=>.cons (.str _) (dvs_strs xs)
theorem op_ltN (hu:X.A.units+64 < cLine):OpR X (compareOp .Lt) rLtN:=by
 intro pins s σ H x y v u Q I rx ry h
 obtain ⟨p,q,a,c,l,m,xs,ys,rfl,rfl,hp,hq,hl,hm,sx,sy,k⟩:=h
 cases rx
 cases ry
 obtain ⟨us,O1,V1⟩:=tup_O I.hok hp
 obtain ⟨vs,O2,V2⟩:=tup_O I.hok hq
 obtain ⟨us',L1,S1⟩:=lst_O I.hok hl
 obtain ⟨vs',L2',S2⟩:=lst_O I.hok hm
 cases V1 with
 | cons r1 V1=>
  cases V1 with
  | cons r2 V1=>
   cases V1
   cases V2 with
   | cons r3 V2=>
    cases V2 with
    | cons r4 V2=>
     cases V2
     obtain ⟨t1,rfl⟩:=r1
     cases r2
     obtain ⟨t3,rfl⟩:=r3
     cases r4
     obtain ⟨as,ra⟩:=(show DV H (.ref l) (.list (xs.map PyData.str)) from .lst hl (dvs_strs xs)).reads I (SeqAt.canLay_of_shaped sx) rfl
     obtain ⟨bs,rb⟩:=(show DV H (.ref m) (.list (ys.map PyData.str)) from .lst hm (dvs_strs ys)).reads I (SeqAt.canLay_of_shaped sy) rfl
     have he:SeqAt.EqAt X.A.in1 s (.ref l) (.ref m) (decide (xs=ys)):=by
      have:=SeqAt.eqAt_reads _ _ X.A.in1 s _ _ _ _ ra rb (SeqAt.canLay_of_shaped sx) (SeqAt.canLay_of_shaped sy) (by
       have e1:(PyData.list (xs.map PyData.str)).depth<=1:=by rw [PyData.depth,PyProof.Rows.depthAll_strs'];exact Nat.le_refl _
       have e2:=Nat.min_le_left (PyData.list (xs.map PyData.str)).depth (PyData.list (ys.map PyData.str)).depth
       have e3:=in1_le X.A
       omega)
      rwa [PyData.eqv,eqvAll_strs] at this
     show wpAny (model X.prog X.w) X.A (richCompare .Lt (.ref p) (.ref q)) _ _ s
     exact wpAny_richCompare_same_room (op:=.Lt) O1.ty O2.ty F.slot_tuple_lt (wpAny_call_entry F.slot_tuple_lt O1.ty F.entry_tuple_lt (tupL_lt (by have:=in1_le X.A;omega) O1 O2 he L1 L2' S1 S2 ⟨_,rfl,(fun e=>nomatch e),⟨.bl _,H,I,rfl,k⟩⟩) (F.args_tuple_lt_2 _ _)) (by omega)
end
end
end L2
end
section
namespace L2
open PySem PySem.Spec PyProof.Rows
section
variable {X:Cx} {o e st:Expr} {es:List Expr} {to te:TE} {t:TA} {ts:TO} {apos p2 pos:Pos}
def rLst:V->List V->Hp->VK->Prop:=fun x vs H Q=>match x,vs with
 | .str z,[.str y]=>z.length<=sizeLine/\Q (.str (Txt.lstripChars z y)) H
 | _,_=>False
def rRst:V->List V->Hp->VK->Prop:=fun x vs H Q=>match x,vs with
 | .str z,[.str y]=>z.length<=sizeLine/\Q (.str (Txt.rstripChars z y)) H
 | _,_=>False
theorem mt_lst:MtM X "str.lstrip" rLst:=by
 intro pins s σ H x vs v us Q I rx rv h
 unfold rLst at h
 split at h
 ·obtain ⟨hz,q⟩:=h
  obtain ⟨t,rfl⟩:=rx
  obtain ⟨u,rfl,t',rfl⟩:=rv.one
  exact SC.lstripChars (fun t' k=>⟨.str _,H,I.tok _,⟨_,rfl⟩,q⟩) hz
 ·exact h.elim
theorem mt_rst:MtM X "str.rstrip" rRst:=by
 intro pins s σ H x vs v us Q I rx rv h
 unfold rRst at h
 split at h
 ·obtain ⟨hz,q⟩:=h
  obtain ⟨t,rfl⟩:=rx
  obtain ⟨u,rfl,t',rfl⟩:=rv.one
  exact SC.rstripChars (fun t' k=>⟨.str _,H,I.tok _,⟨_,rfl⟩,q⟩) hz
 ·exact h.elim
theorem m_lst {cpos:Pos} (ho:PE X o to) (ha:PA X (e :: es) t)
  (hbase:attributeBase o "lstrip" X.env (eval o X.env)=eval o X.env:=by kernel_rfl)
  (hfew:((backTo cpos (starEach (e :: es) X.env)).all (fun x=>!x.1) && (backToKw cpos (keywordEach [] X.env)).all (fun x=>x.1.isSome)
   && decide ((e :: es).length+([]:List Keyword).length+(if ([]:List Keyword).isEmpty then 0 else 1) < 30))=true:=by kernel_rfl)
  (hline:(apos.endLine == cpos.line)=true:=by kernel_rfl) (hs:starEach (e :: es) X.env=(false,eval e X.env) :: starEach es X.env:=by kernel_rfl) (hplain:(backTo cpos (starEach es X.env)).any (·.1)=false:=by kernel_rfl) :
  PE X (.Call (.Attribute o "lstrip" apos) (e :: es) [] cpos) (tMt "str" rLst to t):=pe_mt PySem.F.plainAttrs_str PySem.F.slot_str_lstrip PySem.F.type_str_lstrip mt_lst ho ha hbase hfew hline hs hplain
theorem m_rst {cpos:Pos} (ho:PE X o to) (ha:PA X (e :: es) t)
  (hbase:attributeBase o "rstrip" X.env (eval o X.env)=eval o X.env:=by kernel_rfl)
  (hfew:((backTo cpos (starEach (e :: es) X.env)).all (fun x=>!x.1) && (backToKw cpos (keywordEach [] X.env)).all (fun x=>x.1.isSome)
   && decide ((e :: es).length+([]:List Keyword).length+(if ([]:List Keyword).isEmpty then 0 else 1) < 30))=true:=by kernel_rfl)
  (hline:(apos.endLine == cpos.line)=true:=by kernel_rfl) (hs:starEach (e :: es) X.env=(false,eval e X.env) :: starEach es X.env:=by kernel_rfl) (hplain:(backTo cpos (starEach es X.env)).any (·.1)=false:=by kernel_rfl) :
  PE X (.Call (.Attribute o "rstrip" apos) (e :: es) [] cpos) (tMt "str" rRst to t):=pe_mt PySem.F.plainAttrs_str PySem.F.slot_str_rstrip PySem.F.type_str_rstrip mt_rst ho ha hbase hfew hline hs hplain
def revT (z:Str):Str:=⟨((Builtin.Str.strSliceIndices none none (-1) z.length).filterMap (z.cps[·]?)).toArray⟩
def rRevT:V->Option Int->Hp->VK->Prop:=fun x k H Q=>k=some (-1)/\match x with
 | .str z=>z.length<=sizeLine/\(revT z).length<=z.length/\Q (.str (revT z)) H
 | _=>False
theorem e_revT (he:PE X e te) (hs:PO X (some st) ts):PE X (.Subscript e (.Slice none none (some st) p2) pos) (fun σ H Q=>te σ H fun x H1=>ts σ H1 fun k H2=>rRevT x k H2 Q):=by
 intro pins s σ H Q I h
 refine Subscript_ (thn (he pins s σ H _ I h) fun v s1 ⟨x,H1,I1,r1,q1⟩=>?_)
 refine wpAny_Slice ?_
 rw [evalPart_none]
 refine wpAny_pure (wpAny_pure ?_)
 refine thn (hs pins s1 σ H1 _ I1 q1) fun vk s3 ⟨k,H3,I3,pk,q3⟩=>?_
 obtain ⟨ek,q3⟩:=q3
 subst ek
 have I4:Inv X pins σ H3 { s3 with heap:=s3.heap.push { cls:=.type "slice",data:=.fields #[.none,.none,vk] } }:=I3.kept (t':=s3.toks) fun b ob q=>Heap.get?_push_of_some _ q
 have hsl:(s3.heap.push { cls:=.type "slice",data:=.fields #[.none,.none,vk] }).IsSliceOf s3.heap.objs.size .none .none vk:=Heap.IsSliceOf.new ..
 show wpAny (model X.prog X.w) X.A (subscriptTail e (.Slice none none (some st) p2) v (.ref s3.heap.objs.size)) (EP X pins σ Q) X.xe { s3 with heap:=s3.heap.push { cls:=.type "slice",data:=.fields #[.none,.none,vk] } }
 generalize hs4:({ s3 with heap:=s3.heap.push { cls:=.type "slice",data:=.fields #[.none,.none,vk] } }:Shared)=s4 at I4
 have hsl4:s4.heap.IsSliceOf s3.heap.objs.size .none .none vk:=by rw [<-hs4];exact hsl
 cases x with
 | str z=>
  obtain ⟨hz,hle,q⟩:=q3
  obtain ⟨t,rfl⟩:=r1
  refine tail_any (ops:=[.str z t,.ref s3.heap.objs.size]) (typeIs_str _ _ _) F.slot_str_getitem.lookup ?_ (by with_unfolding_all rfl)
  cases pk with
  | int _ u=>
   refine wpAny_getItem_str_slice (l:=none) (u:=none) (st:=some (-1,u)) hsl4 rfl (post_val_or_str ⟨Nat.le_trans hle hz,fun t' k=>⟨.str (revT z),H3,I4.tok _,⟨_,rfl⟩,q⟩⟩)
 | _=>exact q3.elim
end
def hd (b:Bool):List Bool->Nat
 | []=>0
 | x :: w=>if x=b then hd b w+1 else 0
theorem strip_words:∀ n,n<=6->∀ w∈allS n,∀ b:Bool,(Txt.lstripChars (bs w) (bs [b])).length+hd b w=w.length/\(Txt.rstripChars (bs w) (bs [b])).length+hd b w.reverse=w.length:=by decide +kernel
theorem rev_words:∀ n,n<=6->∀ w∈allS n,revT (bs w)=bs w.reverse:=by decide +kernel
end L2
end
section
namespace L2
open PySem PySem.Spec PyProof.Rows
def ItrAt (h:Heap) (j t:Addr) (i:Nat):Bool->Prop
 | true=>h.IsTupleIter j t i
 | false=>h.IsListIter j t i
def RowAt (h:Heap) (t:Addr) (its:Array Value):Bool->Prop
 | true=>h.IsTuple t its
 | false=>h.IsList t its
def InAt (tp:Bool) (h:Heap) (j t:Addr) (i:Nat) (its:Array Value):Prop:=ItrAt h j t i tp/\RowAt h t its tp
theorem ItrAt.to {h h':Heap} {j t:Addr} {i:Nat} {tp:Bool} (x:ItrAt h j t i tp) (e1:∀ o,h.get? j=some o->h'.get? j=some o):ItrAt h' j t i tp:=by
 cases tp<;>exact let ⟨o,ho,r⟩:=x;⟨o,e1 _ ho,r⟩
theorem RowAt.to {h h':Heap} {t:Addr} {its:Array Value} {tp:Bool} (x:RowAt h t its tp) (e1:∀ o,h.get? t=some o->h'.get? t=some o):RowAt h' t its tp:=by
 cases tp<;>exact let ⟨o,ho,r⟩:=x;⟨o,e1 _ ho,r⟩
theorem InAt.to {tp:Bool} {h h':Heap} {j t:Addr} {i:Nat} {its:Array Value} (x:InAt tp h j t i its) (e1:∀ o,h.get? j=some o->h'.get? j=some o) (e2:∀ o,h.get? t=some o->h'.get? t=some o):InAt tp h' j t i its:=⟨x.1.to e1,x.2.to e2⟩
theorem InAt.eb {tp:Bool} {h h':Heap} {j t b:Addr} {i:Nat} {its:Array Value} (x:InAt tp h j t i its) (e:Heap.ExtBut b h h') (h1:j≠b) (h2:t≠b):InAt tp h' j t i its:=x.to (fun o ho=>e _ o h1 ho) fun o ho=>e _ o h2 ho
theorem ItrAt.has {tp:Bool} {h:Heap} {j t:Addr} {i:Nat} (x:ItrAt h j t i tp):∃ o,h.get? j=some o/\∀ v,o.data≠.cell v:=by
 cases tp
 ·obtain ⟨o,ho,_,d⟩:=x
  exact ⟨o,ho,fun v z=>by rw [d] at z;cases z⟩
 ·obtain ⟨o,ho,_,d⟩:=x
  exact ⟨o,ho,fun v z=>by rw [d] at z;cases z⟩
section
variable {prog:Program} {w:World} {A:Around} {E:Value->Shared->Prop} {s:Shared}
theorem tup_next {j T:Addr} {i:Nat} {its:Array Value} {Q:Value->Shared->Prop} (hh:A.handled=none) (hj:s.heap.IsTupleIter j T i) (hT:s.heap.IsTuple T its)
  (go:∀ x,its[i]? = some x->∀ h',h'.IsTupleIter j T (i+1)->Heap.SameBut j s.heap h'->Q x { s with heap:=h' })
  (no:its[i]? = none->∀ h' e,Heap.ExtBut j s.heap h'->(∃ o,h'.get? e=some o/\o.cls = .type "StopIteration")->E (.ref e) { s with heap:=h' }) :
  wpAny (model prog w) A (Builtin.SmallTypes.nextOf (.ref j)) Q E s:=by
 have hty:=hj.typeIs
 obtain ⟨oj,e1,e2,e3⟩:=hj
 obtain ⟨oT,f1,_,nT,f3⟩:=hT
 unfold Builtin.SmallTypes.nextOf
 refine wpAny_bind (wpAny_callSpecial?_slot (name:=Str.ofString "__next__") hty F.slot_tuple_iterator_next (wpAny_call_entry F.slot_tuple_iterator_next hty F.entry_tuple_iterator_next ?_ (F.args_tuple_iterator_next_1 _)))
 change wpAny _ _ (field (.ref j) 0 >>= _) _ _ s
 refine wpAny_bind (wpAny_field e1 e3 (x:=.ref T) rfl ?_)
 change wpAny _ _ (if (Value.ref T == Value.none)=true then _ else _) _ _ s
 rw [if_neg (fun z:(Value.ref T == Value.none)=true=>Bool.false_ne_true z)]
 change wpAny _ _ (field (.ref j) 1 >>= _) _ _ s
 refine wpAny_bind (wpAny_field e1 e3 (x:=.int i 0) rfl ?_)
 change wpAny _ _ (seqItems? (.ref T) >>= _) _ _ s
 refine wpAny_bind (wpAny_seqItems f1 f3 ?_)
 cases hx:its[i]? with
 | some x=>
  simp only [hx,Int.toNat_natCast]
  refine wpAny_bind (wpAny_setField e1 e3 (by simp) (wpAny_pure ⟨x,rfl,wpAny_pure (go x hx _ ?_ (Heap.SameBut.update ..))⟩))
  refine ⟨_,Heap.get?_update_self _ e1 (Obj.isFreed_of_fields (Obj.data_mapFields e3 _)),(Obj.cls_mapFields ..).trans e2,?_⟩
  rw [Obj.data_mapFields e3]
  simp [rawInt]
 | none=>
  simp only [hx,Int.toNat_natCast]
  refine wpAny_bind (wpAny_rule (wpAny_bind (wpAny_setField e1 e3 (by simp) ?_)))
  change wpAny _ _ (newExc (.type "StopIteration") [] >>= _) _ _ _
  refine wpAny_bind ?_
  simp only [newTuple,newExc]
  refine wpAny_bind (wpAny_newObj_type ?_ (by size_fits))
  refine wpAny_bind (m:=firstArgMember _ _) (wpAny_of_eq (a:=Value.none) rfl ?_)
  refine wpAny_newObj_type ?_ (by size_fits)
  simp only [raiseNew]
  refine wpAny_bind (wpAny_handled ?_)
  have hh':A.in1.handled=none:=hh
  rw [hh']
  refine wpAny_bind (wpAny_pure (wpAny_throw (no hx _ _ (((Heap.SameBut.update ..).extBut.push _).push _) ⟨_,Heap.get?_push_size _ rfl,rfl⟩)))
theorem in_next {tp:Bool} {j t:Addr} {i:Nat} {its:Array Value} {Q:Value->Shared->Prop} (hh:A.handled=none) (hj:InAt tp s.heap j t i its) (ne:t≠j)
  (go:∀ x,its[i]? = some x->∀ h',InAt tp h' j t (i+1) its->Heap.SameBut j s.heap h'->Q x { s with heap:=h' })
  (no:its[i]? = none->∀ h' e,Heap.ExtBut j s.heap h'->(∃ o,h'.get? e=some o/\o.cls = .type "StopIteration")->E (.ref e) { s with heap:=h' }) :
  wpAny (model prog w) A (Builtin.SmallTypes.nextOf (.ref j)) Q E s:=by
 obtain ⟨a,b⟩:=hj
 cases tp
 ·cases hx:its[i]? with
  | some x=>exact wpAny_nextOf_list_item a b hx fun h' a' sb=>go x hx h' ⟨a',b.to fun o e=>sb.extBut _ o ne e⟩ sb
  | none=>exact wpAny_nextOf_list_end hh a b hx fun h' e eb he=>no hx h' e eb he
 ·exact tup_next hh a b (fun x hx h' a' sb=>go x hx h' ⟨a',b.to fun o e=>sb.extBut _ o ne e⟩ sb) no
end
section
variable {X:Cx} {p pos tpos:Pos} {a b:Expr} {es:List Expr} {tk:Nat}
end
end L2
end
section
namespace L2
open PySem PySem.Spec PyProof.Rows
section
variable {prog:Program} {w:World} {A:Around} {E:Value->Shared->Prop} {s:Shared}
theorem zs_next {q:Bool} {Z TI TO j1 j2 t1 t2:Addr} {zt:Str} {tz:Tok} {i:Nat} {ys:Array Value} {a b:Value} {Q:Value->Shared->Prop} (hh:A.handled=none) (D:ZipApart Z TI TO j1 j2 t1 t2)
  (hz:IsZip s.heap Z TI TO .none) (hI:IsPair s.heap TI (.ref j1) (.ref j2)) (hO:IsPair s.heap TO a b) (h1:s.heap.IsStrIter j1 "str_ascii_iterator" zt tz i) (h2:InAt q s.heap j2 t2 i ys)
  (go:∀ c y,zt.cps[i]? = some c->ys[i]? = some y->∀ h',IsZip h' Z TI TO (rawInt s.heap.objs.size)->IsPair h' TO (.str ⟨#[c]⟩ s.toks) y->h'.IsStrIter j1 "str_ascii_iterator" zt tz (i+1)->InAt q h' j2 t2 (i+1) ys->IsPair h' s.heap.objs.size (.str ⟨#[c]⟩ s.toks) y →
   (∀ c o,c≠Z->c≠TO->c≠j1->c≠j2->s.heap.get? c=some o->h'.get? c=some o)->Q (.ref s.heap.objs.size) { s with heap:=h',toks:=s.toks+1 })
  (no:zt.cps[i]? = none\/ys[i]? = none->∀ h' t' e,(∀ c o,c≠Z->c≠TO->c≠j1->c≠j2->s.heap.get? c=some o->h'.get? c=some o)->(∃ o,h'.get? e=some o/\o.cls = .type "StopIteration")->E (.ref e) { s with heap:=h',toks:=t' }) :
  wpAny (model prog w) A (Builtin.«zip.__next__» ⟨[.ref Z],[]⟩) (fun fin s'=>∃ v,fin = .done (.ret v)/\Q v s') E s:=by
 change wpAny _ _ (field (.ref Z) 2 >>= _) _ _ _
 refine wpAny_bind (wpAny_field hz rfl (x:=.bool false) rfl ?_)
 change wpAny _ _ (field (.ref Z) 3 >>= _) _ _ _
 refine wpAny_bind (wpAny_field hz rfl (x:=.ref TI) rfl (wpAny_bind (wpAny_seqItems hI rfl ?_)))
 change wpAny _ _ (Builtin.SmallTypes.ownedTupleIsFree (.ref Z) >>= _) _ _ _
 refine wpAny_bind ?_
 unfold Builtin.SmallTypes.ownedTupleIsFree
 refine wpAny_bind (wpAny_field hz rfl (x:=Value.none) rfl (wpAny_pure ?_))
 simp only [if_true]
 refine wpAny_bind (wpAny_rule (wpAny_bind (wpAny_field hz rfl (x:=.ref TO) rfl (wpAny_bind (wpAny_setField_rec hz (by simp) fun g1 z1 b1=>?_)))))
 have z1:IsZip g1 Z TI TO .ellipsis:=z1
 have x1:=b1.extBut
 refine wpAny_bind ?_
 simp only [List.forIn_cons,List.forIn_nil,List.zipIdx_nil,List.zipIdx_cons]
 refine wpAny_bind (wpAny_bind (wpAny_onRaise ?_))
 change wpAny _ _ (Builtin.SmallTypes.nextOf (.ref j1) >>= _) _ _ _
 have k1:=h1.extBut x1 D.i1z
 rcases hx:zt.cps[i]? with _ | cc
 rotate_left
 ·refine wpAny_bind (wpAny_nextOf_ascii_item (s:={ s with heap:=g1 }) k1 hx fun g2 a2 b2=>wpAny_pure ?_)
  have x2:Heap.ExtBut j1 g1 g2:=b2.extBut
  have O2:IsPair g2 TO a b:=x2 _ _ D.TOi1 (x1 _ _ D.TOz hO)
  refine wpAny_bind (wpAny_seqItems O2 rfl (wpAny_bind (wpAny_updateSeq_pair O2 fun g3 O3 b3=>?_)))
  have O3:IsPair g3 TO (.str ⟨#[cc]⟩ s.toks) b:=O3
  have x3:Heap.ExtBut TO g2 g3:=b3.extBut
  refine wpAny_bind (wpAny_letGo (wpAny_pure (wpAny_bind (wpAny_bind (wpAny_onRaise ?_)))))
  change wpAny _ _ (Builtin.SmallTypes.nextOf (.ref j2) >>= _) _ _ _
  have q2:InAt q g3 j2 t2 i ys:=((h2.eb x1 D.i2z D.l2z).eb x2 D.i12.symm D.l2i1).eb x3 D.TOi2.symm D.l2TO
  refine wpAny_bind (in_next hh q2 D.l2i2 (fun y hy g4 a4 b4=>wpAny_pure ?_) (fun hy g4 e x4 he=>?_))
  ·have x4:Heap.ExtBut j2 g3 g4:=b4.extBut
   have O4:IsPair g4 TO (.str ⟨#[cc]⟩ s.toks) b:=x4 _ _ D.TOi2 O3
   refine wpAny_bind (wpAny_seqItems O4 rfl (wpAny_bind (wpAny_updateSeq_pair O4 fun g5 O5 b5=>?_)))
   have O5:IsPair g5 TO (.str ⟨#[cc]⟩ s.toks) y:=O5
   have x5:Heap.ExtBut TO g4 g5:=b5.extBut
   refine wpAny_bind (wpAny_letGo (wpAny_pure (wpAny_pure ?_)))
   refine wpAny_bind (wpAny_seqItems O5 rfl (wpAny_bind (wpAny_newTuple ?_)))
   have n5:g5.objs.size=s.heap.objs.size:=by rw [b5.1,b4.1,b3.1,b2.1,b1.1]
   have z5:IsZip g5 Z TI TO .ellipsis:=x5 _ _ D.TOz.symm (x4 _ _ D.i2z.symm (x3 _ _ D.TOz.symm (x2 _ _ D.i1z.symm z1)))
   have k5:∀ c o,c≠Z->c≠TO->c≠j1->c≠j2->s.heap.get? c=some o->g5.get? c=some o:=fun c o n1 n2 n3 n4 e=>x5 _ _ n2 (x4 _ _ n4 (x3 _ _ n2 (x2 _ _ n3 (x1 _ _ n1 e))))
   have p1:g5.IsStrIter j1 "str_ascii_iterator" zt tz (i+1):=((a2.extBut x3 D.TOi1.symm).extBut x4 D.i12).extBut x5 D.TOi1.symm
   have p2:InAt q g5 j2 t2 (i+1) ys:=a4.eb x5 D.TOi2.symm D.l2TO
   have zlt:Z < g5.objs.size:=Heap.lt_size z5
   change wpAny _ _ (Builtin.SmallTypes.ownedTupleHandOut (.ref Z) (.ref g5.objs.size) >>= _) _ _ _
   refine wpAny_bind ?_
   unfold Builtin.SmallTypes.ownedTupleHandOut
   have z6:IsZip (g5.push { cls:=.type "tuple",data:=.seq #[(.str ⟨#[cc]⟩ s.toks),y] }) Z TI TO .ellipsis:=Heap.get?_push_of_some _ z5
   refine wpAny_bind (wpAny_setField_rec z6 (by simp) fun g7 z7 b7=>?_)
   have z7:IsZip g7 Z TI TO (rawInt g5.objs.size):=z7
   refine wpAny_setField_rec z7 (by simp) fun g8 z8 b8=>?_
   have z8:IsZip g8 Z TI TO (rawInt g5.objs.size):=z8
   have up:∀ c o,c≠Z->g5.get? c=some o->g8.get? c=some o:=fun c o n1 e=>b8.extBut _ _ n1 (b7.extBut _ _ n1 (Heap.get?_push_of_some _ e))
   have T8:IsPair g8 g5.objs.size (.str ⟨#[cc]⟩ s.toks) y:=b8.extBut _ _ (Nat.ne_of_gt zlt) (b7.extBut _ _ (Nat.ne_of_gt zlt) (Heap.get?_push_size _ rfl))
   rw [n5] at z8 T8
   refine wpAny_pure ⟨_,rfl,?_⟩
   change Q (.ref g5.objs.size) _
   rw [n5]
   exact go cc y hx hy g8 z8 (up _ _ D.TOz O5) (let ⟨o,ho,r⟩:=p1;⟨o,up _ o D.i1z ho,r⟩) (p2.to (fun o e=>up _ o D.i2z e) (fun o e=>up _ o D.l2z e)) T8 fun c o n1 n2 n3 n4 e=>up c o n1 (k5 c o n1 n2 n3 n4 e)
  ·obtain ⟨oe,f1,f2⟩:=he
   have z4:IsZip g4 Z TI TO .ellipsis:=x4 _ _ D.i2z.symm (x3 _ _ D.TOz.symm (x2 _ _ D.i1z.symm z1))
   have eZ:e≠Z:=fun z=>by
    rw [z,z4] at f1
    cases f1
    exact absurd f2 (by simp)
   exact wpAny_setField_rec z4 (by simp) fun g5 _ b5=>no (.inr hy) g5 _ e (fun c o n1 n2 n3 n4 z=>b5.extBut _ _ n1 (x4 _ _ n4 (x3 _ _ n2 (x2 _ _ n3 (x1 _ _ n1 z))))) ⟨oe,b5.extBut _ _ eZ f1,f2⟩
 ·refine wpAny_bind (wpAny_nextOf_ascii_end (s:={ s with heap:=g1 }) hh k1 hx fun g2 e x2 he=>?_)
  obtain ⟨oe,f1,f2⟩:=he
  have z2:IsZip g2 Z TI TO .ellipsis:=x2 _ _ D.i1z.symm z1
  have eZ:e≠Z:=fun z=>by
   rw [z,z2] at f1
   cases f1
   exact absurd f2 (by simp)
  exact wpAny_setField_rec z2 (by simp) fun g3 _ b3=>no (.inl hx) g3 _ e (fun c o n1 _ n3 _ z=>b3.extBut _ _ n1 (x2 _ _ n3 (x1 _ _ n1 z))) ⟨oe,b3.extBut _ _ eZ f1,f2⟩
theorem zs_py {q:Bool} {Z TI TO j1 j2 t1 t2:Addr} {zt:Str} {tz:Tok} {i:Nat} {ys:Array Value} {a b:Value} {Q:Option Value->Shared->Prop} (hh:A.handled=none) (D:ZipApart Z TI TO j1 j2 t1 t2)
  (hz:IsZip s.heap Z TI TO .none) (hI:IsPair s.heap TI (.ref j1) (.ref j2)) (hO:IsPair s.heap TO a b) (h1:s.heap.IsStrIter j1 "str_ascii_iterator" zt tz i) (h2:InAt q s.heap j2 t2 i ys)
  (go:∀ c y,zt.cps[i]? = some c->ys[i]? = some y->∀ h',IsZip h' Z TI TO (rawInt s.heap.objs.size)->IsPair h' TO (.str ⟨#[c]⟩ s.toks) y->h'.IsStrIter j1 "str_ascii_iterator" zt tz (i+1)->InAt q h' j2 t2 (i+1) ys->IsPair h' s.heap.objs.size (.str ⟨#[c]⟩ s.toks) y →
   (∀ c o,c≠Z->c≠TO->c≠j1->c≠j2->s.heap.get? c=some o->h'.get? c=some o)->Q (some (.ref s.heap.objs.size)) { s with heap:=h',toks:=s.toks+1 })
  (no:zt.cps[i]? = none\/ys[i]? = none->∀ h' t',(∀ c o,c≠Z->c≠TO->c≠j1->c≠j2->s.heap.get? c=some o->h'.get? c=some o)->Q none { s with heap:=h',toks:=t' }):wpAny (model prog w) A (pyNext (.ref Z)) Q E s:=by
 have ty:s.TypeIs (.ref Z) "zip" := ⟨_,hz,rfl⟩
 unfold pyNext
 refine wpAny_bind (wpAny_attempt (wpAny_callSpecial?_slot (name:=Str.ofString "__next__") ty F.slot_zip_next (wpAny_call_entry F.slot_zip_next ty F.entry_zip_next (zs_next hh D hz hI hO h1 h2 (fun c y hx hy h' a1 a2 a3 a4 a5 a6=>wpAny_pure (go c y hx hy h' a1 a2 a3 a4 a5 a6)) (fun he h' t' e k he'=>?_)) (F.args_zip_next_1 _))))
 obtain ⟨o,f1,f2⟩:=he'
 exact wpAny_bind (wpAny_isInstance (T:= "StopIteration") (b:=true) ⟨o,f1,f2⟩ isSubtype_stop (wpAny_pure (no he _ _ k)))
end
abbrev zs1 (h:Heap) (z:Str) (tz:Tok):Heap:=h.push { cls:=.type "str_ascii_iterator",data:=.fields #[.str z tz,.int 0 0] }
abbrev zs2 (h:Heap) (z:Str) (tz:Tok) (t2:Addr):Heap:=(zs1 h z tz).push { cls:=.type "tuple_iterator",data:=.fields #[.ref t2,.int 0 0] }
abbrev zs3 (h:Heap) (z:Str) (tz:Tok) (t2:Addr):Heap:=(zs2 h z tz t2).push { cls:=.type "tuple",data:=.seq #[.ref h.objs.size,.ref (zs1 h z tz).objs.size] }
abbrev zs4 (h:Heap) (z:Str) (tz:Tok) (t2:Addr):Heap:=(zs3 h z tz t2).push { cls:=.type "tuple",data:=.seq #[.none,.none] }
abbrev zs5 (h:Heap) (z:Str) (tz:Tok) (t2:Addr):Heap:=(zs4 h z tz t2).push { cls:=.type "zip",data:=.fields #[.none,.bool false,.bool false,.ref (zs2 h z tz t2).objs.size,.ref (zs3 h z tz t2).objs.size] }
theorem meets_zs (z:Str) (tz:Tok) (t2:Addr) (ys:Array Value):Meets (Builtin.«zip.__new__» ⟨[.type "zip",.str z tz,.ref t2],[]⟩) (fun _ R s=>z.cps.all (· < 128)=true/\s.heap.IsTuple t2 ys/\R (.ok (.ret (.ref (zs4 s.heap z tz t2).objs.size))) { s with heap:=zs5 s.heap z tz t2 }):=
 .of_wp fun prog w A R s h=>by
  obtain ⟨hp,g,d,tk,os⟩:=s
  obtain ⟨a1,a2,h⟩:=h
  have hsub:=sub_zip
  have b2:Heap.IsTuple (Shared.heap ⟨hp.push { cls:=.type "str_ascii_iterator",data:=.fields #[.str z tz,.int 0 0] },g,d,tk,os⟩) t2 ys:=Heap.IsTuple.push a2 _
  wp_walk using wpAny_pyIter_ascii a1,wpAny_pyIter_tuple b2
  exact ⟨_,rfl,h⟩
theorem call_zs {prog:Program} {w:World} {A:Around} {E:Value->Shared->Prop} {s:Shared} {z:Str} {tz:Tok} {t2:Addr} {ys:Array Value} {Q:Value->Shared->Prop} (a1:z.cps.all (· < 128)=true) (a2:s.heap.IsTuple t2 ys)
  (h:∀ h' n,n=s.heap.objs.size->IsZip h' (n+4) (n+2) (n+3) .none->IsPair h' (n+2) (.ref n) (.ref (n+1))->IsPair h' (n+3) .none .none->h'.IsStrIter n "str_ascii_iterator" z tz 0->InAt true h' (n+1) t2 0 ys →
   (∀ c o,s.heap.get? c=some o->h'.get? c=some o)->Q (.ref (n+4)) { s with heap:=h' }):wpAny (model prog w) A (call (.type "zip") [.str z tz,.ref t2]) Q E s:=by
 refine callType_new F.called_zip (by decide) (F.typeCall_zip_2 _ _) (F.newCall_zip_2 _ _) (fun obj=>F.args_object_init_3 obj _ _) F.entry_zip_new (meets_zs z tz t2 ys) ⟨a1,a2,?_⟩
 have n1:(zs1 s.heap z tz).objs.size=s.heap.objs.size+1:=Heap.size_push ..
 have n2:(zs2 s.heap z tz t2).objs.size=s.heap.objs.size+2:=by rw [Heap.size_push,n1]
 have n3:(zs3 s.heap z tz t2).objs.size=s.heap.objs.size+3:=by rw [Heap.size_push,n2]
 have n4:(zs4 s.heap z tz t2).objs.size=s.heap.objs.size+4:=by rw [Heap.size_push,n3]
 have k1:∀ c o,s.heap.get? c=some o->(zs1 s.heap z tz).get? c=some o:=fun c o e=>Heap.get?_push_of_some _ e
 have k2:∀ c o,(zs1 s.heap z tz).get? c=some o->(zs2 s.heap z tz t2).get? c=some o:=fun c o e=>Heap.get?_push_of_some _ e
 have k3:∀ c o,(zs2 s.heap z tz t2).get? c=some o->(zs3 s.heap z tz t2).get? c=some o:=fun c o e=>Heap.get?_push_of_some _ e
 have k4:∀ c o,(zs3 s.heap z tz t2).get? c=some o->(zs4 s.heap z tz t2).get? c=some o:=fun c o e=>Heap.get?_push_of_some _ e
 have k5:∀ c o,(zs4 s.heap z tz t2).get? c=some o->(zs5 s.heap z tz t2).get? c=some o:=fun c o e=>Heap.get?_push_of_some _ e
 have kk:∀ c o,s.heap.get? c=some o->(zs5 s.heap z tz t2).get? c=some o:=fun c o e=>k5 _ _ (k4 _ _ (k3 _ _ (k2 _ _ (k1 _ _ e))))
 have m5:(zs5 s.heap z tz t2).get? (zs4 s.heap z tz t2).objs.size=some { cls:=.type "zip",data:=.fields #[.none,.bool false,.bool false,.ref (zs2 s.heap z tz t2).objs.size,.ref (zs3 s.heap z tz t2).objs.size] }:=Heap.get?_push_size _ rfl
 have m4:(zs5 s.heap z tz t2).get? (zs3 s.heap z tz t2).objs.size=some { cls:=.type "tuple",data:=.seq #[.none,.none] }:=k5 _ _ (Heap.get?_push_size _ rfl)
 have m3:(zs5 s.heap z tz t2).get? (zs2 s.heap z tz t2).objs.size=some { cls:=.type "tuple",data:=.seq #[.ref s.heap.objs.size,.ref (zs1 s.heap z tz).objs.size] }:=k5 _ _ (k4 _ _ (Heap.get?_push_size _ rfl))
 have m2:(zs5 s.heap z tz t2).get? (zs1 s.heap z tz).objs.size=some { cls:=.type "tuple_iterator",data:=.fields #[.ref t2,.int 0 0] }:=k5 _ _ (k4 _ _ (k3 _ _ (Heap.get?_push_size _ rfl)))
 have m1:(zs5 s.heap z tz t2).get? s.heap.objs.size=some { cls:=.type "str_ascii_iterator",data:=.fields #[.str z tz,.int 0 0] }:=k5 _ _ (k4 _ _ (k3 _ _ (k2 _ _ (Heap.get?_push_size _ rfl))))
 change _/\_
 rw [n4,n3,n2] at m5
 rw [n3] at m4
 rw [n2,n1] at m3
 rw [n1] at m2
 rw [n4]
 obtain ⟨o2,g1,g2⟩:=a2
 exact ⟨⟨_,m5,rfl⟩,h _ _ rfl m5 m3 m4 ⟨_,m1,rfl,rfl⟩ ⟨⟨_,m2,rfl,rfl⟩,⟨o2,kk _ _ g1,g2⟩⟩ kk⟩
def Itzs (K:PySem.W.Frag) (ws:List Bool) (b:Addr):It:=
 ⟨fun i H=>∃ ys x y,SqT K H b ys/\ws[i]? = some x/\ys[i]? = some y,fun i H x H'=>∃ t y z,ws[i]? = some y/\(∀ xs,SqT K H b xs->xs[i]? = some z)/\H t=none/\x = .ref t/\H'=upd H t (.tup [.str (bs [y]),z]),
  fun i H=>∃ ys,SqT K H b ys/\(ws.length<=i\/ys.length<=i)⟩
theorem turn_zs {P:Program} {w:World} {K:PySem.W.Frag} {es:List Expr} {k:Nat} {pos:Pos} (ws:List Bool) (tz:Tok) (b z TI TO i1 i2:Addr) (D:ZipApart z TI TO i1 i2 b b):Turn P w K (.Tuple es k pos) (Itzs K ws b) [z,TI,TO,i1,i2] z
  (fun i h=>IsZip h z TI TO .none/\IsPair h TI (.ref i1) (.ref i2)/\(∃ c d,IsPair h TO c d)/\h.IsStrIter i1 "str_ascii_iterator" (bs ws) tz i/\ItrAt h i2 b i true) where
 mem:=by simp
 obj:=fun i h st c hc=>by
  obtain ⟨hz,hTI,⟨_,_,hTO⟩,q1,q2⟩:=st
  have hb':c=z\/c=TI\/c=TO\/c=i1\/c=i2:=by simpa using hc
  rcases hb' with rfl | rfl | rfl | rfl | rfl
  ·exact ⟨_,hz,fun v z=>by cases z⟩
  ·exact ⟨_,hTI,fun v z=>by cases z⟩
  ·exact ⟨_,hTO,fun v z=>by cases z⟩
  ·obtain ⟨o,ho,_,d⟩:=q1
   exact ⟨o,ho,fun v z=>by rw [d] at z;cases z⟩
  ·exact q2.has
 keep:=fun i h h' st k=>⟨k z (by simp) _ st.1,k TI (by simp) _ st.2.1,let ⟨c,d,e⟩:=st.2.2.1;⟨c,d,k TO (by simp) _ e⟩,let ⟨o,ho,r⟩:=st.2.2.2.1;⟨o,k i1 (by simp) o ho,r⟩,st.2.2.2.2.to fun o e=>k i2 (by simp) o e⟩
 item:=by
  intro X hP hw hK hc i pins s σ H E I hf st hg
  subst hP hw hK
  obtain ⟨ys,x,y,hq2,hx,hy⟩:=hg
  obtain ⟨its2,rv2,p2,_⟩:=I.tuple hq2
  have hu1:=bs_get hx
  obtain ⟨u2,hu2,ru2⟩:=rv2.get hy
  obtain ⟨hz,hTI,⟨c0,d0,hTO⟩,h1,h2⟩:=st
  have zlt:z < s.heap.objs.size:=Heap.lt_size hz
  have lts:∀ c∈[z,TI,TO,i1,i2],c < s.heap.objs.size:=fun c hc'=>by
   have hb':c=z\/c=TI\/c=TO\/c=i1\/c=i2:=by simpa using hc'
   rcases hb' with rfl | rfl | rfl | rfl | rfl
   ·exact Heap.lt_size hz
   ·exact Heap.lt_size hTI
   ·exact Heap.lt_size hTO
   ·obtain ⟨_,q,_⟩:=h1;exact Heap.lt_size q
   ·obtain ⟨_,q,_⟩:=h2.has;exact Heap.lt_size q
  have fT:=I.fresh
  refine zs_py (q:=true) (ys:=its2.toArray) (I.ok.hd hc) D hz hTI hTO h1 ⟨h2,p2⟩ (fun v1 v2 hv1 hv2 h' hz' hTO' a1 a2 hT hk=>⟨_,rfl,?_⟩) (fun he=>?_)
  ·have e1:=Option.some.inj (hv1.symm.trans hu1)
   have e2:v2=u2:=by rw [List.getElem?_toArray] at hv2;exact Option.some.inj (hv2.symm.trans hu2)
   subst e1
   subst e2
   refine wpAny_letOwnedTupleGo_zip hz' fun h3 hz3 hs3=>?_
   have hs3:Heap.SameBut z h' h3:=hs3
   have up:∀ b o,b ∉ [z,TI,TO,i1,i2]->s.heap.get? b=some o->h3.get? b=some o:=fun b o hb ee=>by
    have n1:b≠z:=fun q=>hb (by simp [q])
    exact (hs3.2 b n1).trans (hk b o n1 (fun q=>hb (by simp [q])) (fun q=>hb (by simp [q])) (fun q=>hb (by simp [q])) ee)
   have hT2:h3.get? s.heap.objs.size=some { cls:=.type "tuple",data:=.seq #[.str (bs [x]) s.toks,v2] }:=(hs3.2 _ (Nat.ne_of_gt zlt)).trans hT
   refine ⟨.ref s.heap.objs.size,upd H s.heap.objs.size (.tup [.str (bs [x]),y]),?_,rfl,⟨_,x,y,hx,fun zs hz'=>by rw [I.tuple_inj hz' hq2];exact hy,fT,rfl,rfl⟩,?_,fun b hb=>?_⟩
   ·exact I.turnLaid (t':=s.toks+1) hf up (Nat.le_refl _) ⟨Nat.le_of_ble_eq_true rfl,[.str (bs [x]) s.toks,v2],.cons ⟨_,rfl⟩ (.cons ru2 .nil),⟨_,hT2,rfl,0,rfl⟩⟩
   ·refine ⟨hz3,(hs3.2 _ D.TIz).trans (hk _ _ D.TIz D.TITO D.TIi1 D.TIi2 hTI),⟨_,_,(hs3.2 _ D.TOz).trans hTO'⟩,let ⟨o,q,r⟩:=a1;⟨o,(hs3.2 _ D.i1z).trans q,r⟩,a2.1.to fun o q=>(hs3.2 _ D.i2z).trans q⟩
   ·rw [upd_ne (Nat.ne_of_lt (lts b hb))];exact (hf _ hb).1
  ·exfalso
   rcases he with q | q
   ·rw [hu1] at q;cases q
   ·rw [List.getElem?_toArray,hu2] at q;cases q
 done:=by
  intro X hP hw hK hc i pins s σ H E I hf st hg
  subst hP hw hK
  obtain ⟨ys,hq2,hend⟩:=hg
  obtain ⟨its2,rv2,p2,_⟩:=I.tuple hq2
  have l2:=rv2.length
  obtain ⟨hz,hTI,⟨c0,d0,hTO⟩,h1,h2⟩:=st
  refine zs_py (q:=true) (ys:=its2.toArray) (I.ok.hd hc) D hz hTI hTO h1 ⟨h2,p2⟩ (fun v1 v2 hv1 hv2=>?_) (fun _ h' t' eb=>⟨rfl,I.turnedL (t':=t') hf fun b o hb e'=>eb b o (fun q=>hb (by simp [q])) (fun q=>hb (by simp [q])) (fun q=>hb (by simp [q])) (fun q=>hb (by simp [q])) e'⟩)
  exfalso
  rw [List.getElem?_toArray] at hv2
  have g1:i < (bs ws).cps.size:=(Array.getElem?_eq_some_iff.mp hv1).1
  have g3:(bs ws).cps.size=ws.length:=by unfold bs;simp
  have g2:=(List.getElem?_eq_some_iff.mp hv2).1
  omega
 self:=fun _ _ _ _ _ st h=>wpAny_pyIter_zip st.1 h
section
variable {X:Cx} {p pos tpos:Pos} {a b:Expr} {es:List Expr} {tk:Nat}
def iZipS (K:PySem.W.Frag) (ta:TA):TI:=fun σ H R=>ta σ H fun vs H1=>match vs with
 | [.str z,.ref m]=>∃ ws,z=bs ws/\(∃ xs,SqT K H1 m xs)/\R (Itzs K ws m) H1
 | _=>False
theorem it_zipS {ta:TA} {mg':Str->Option Value} (hm:mg' "zip" = none) (hX:X.mg=mg') (ha:PA X [a,b] ta) (hg:gB X "zip" = true:=by kernel_rfl) (hs:starEach [a,b] X.env=[(false,eval a X.env),(false,eval b X.env)]:=by kernel_rfl) (hs2:starEach [b] X.env=[(false,eval b X.env)]:=by kernel_rfl) :
  PI X (.Tuple es tk tpos) (.Call (.Name "zip" p) [a,b] [] pos) (iZipS X.K ta):=by
 intro pins s σ H R I h
 refine Call_ (ld_blt I (gl_of hg) (by rw [hX];exact hm) boot_zip (PyProof.Rows.callWith_type1 (thn (ha pos pins s σ H _ I h) fun us s1 ⟨vs,H1,I1,r1,q1⟩=>?_) (by rw [hs,hs2]) (by rw [hs2];rfl)))
 dsimp only at q1
 split at q1
 ·rename_i z m
  obtain ⟨ws,rfl,⟨xs,hq2⟩,q⟩:=q1
  obtain ⟨u,u2,rfl,r,r2⟩:=vals2 r1
  obtain ⟨t,rfl⟩:=r
  cases r2
  obtain ⟨its2,rv2,pl2,hz2⟩:=I1.tuple hq2
  have lm:m < s1.heap.objs.size:=by obtain ⟨_,e,_⟩:=pl2;exact Heap.lt_size e
  refine call_zs (by
   unfold bs
   rw [List.all_toArray,List.all_eq_true]
   intro c hc
   obtain ⟨b,_,rfl⟩:=List.mem_map.mp hc
   cases b<;>decide) pl2 fun h' n hn hz' hTI hTO h1 h2 hk=>wpAny_pyIter_zip hz' ?_
  subst hn
  refine ⟨_,_,_,_,H1,rfl,I1.kept (t':=s1.toks) hk,turn_zs ws t m _ _ _ _ _ (zipApart_new lm lm),⟨hz',hTI,⟨_,_,hTO⟩,h1,h2.1⟩,fun c hc=>?_,q⟩
  have hb':c=s1.heap.objs.size+4\/c=s1.heap.objs.size+2\/c=s1.heap.objs.size+3\/c=s1.heap.objs.size\/c=s1.heap.objs.size+1:=by simpa using hc
  have hle:s1.heap.objs.size<=c:=by rcases hb' with rfl | rfl | rfl | rfl | rfl<;>first | exact Nat.le_refl _ | exact Nat.le_add_right _ _
  exact I1.fpOk hle (I1.hok.fresh hle)
 ·exact q1.elim
end
end L2
end
section
namespace L2
open PySem PySem.Spec PyProof.Rows
theorem ltT_trans {a b c:Str} (h1:ltT a b=true) (h2:ltT b c=true):ltT a c=true:=decide_eq_true (List.lt_trans (of_decide_eq_true h1) (of_decide_eq_true h2))
theorem ltT_irr (a:Str):ltT a a=false:=decide_eq_false (List.lt_irrefl _)
theorem lexS_trans:∀ {a b c:List Str},lexS a b=true->lexS b c=true->lexS a c=true
 | [],[],_,h,_=>nomatch h
 | [],_ :: _,[],_,h=>nomatch h
 | [],_ :: _,_ :: _,_,_=>rfl
 | _ :: _,[],_,h,_=>nomatch h
 | _ :: _,_ :: _,[],_,h=>nomatch h
 | a :: l,b :: m,c :: k,h1,h2=>by
  unfold lexS at h1 h2 ⊢
  by_cases e1:a=b
  ·subst e1
   rw [if_pos rfl] at h1
   by_cases e2:a=c
   ·subst e2
    rw [if_pos rfl] at h2 ⊢
    exact lexS_trans h1 h2
   ·rw [if_neg e2] at h2 ⊢
    exact h2
  ·rw [if_neg e1] at h1
   by_cases e2:b=c
   ·subst e2
    rw [if_neg e1]
    exact h1
   ·rw [if_neg e2] at h2
    have h3:=ltT_trans h1 h2
    have e3:a≠c:=fun z=>by
     subst z
     rw [ltT_irr] at h3
     cases h3
    rw [if_neg e3]
    exact h3
def befL (a b:List Str):Bool:=decide (b.length < a.length) || (decide (a.length=b.length) && lexS a b)
theorem befL_trans {a b c:List Str} (h1:befL a b=true) (h2:befL b c=true):befL a c=true:=by
 unfold befL at *
 simp only [Bool.or_eq_true,Bool.and_eq_true,decide_eq_true_eq] at *
 rcases h1 with h1 | ⟨e1,h1⟩<;>rcases h2 with h2 | ⟨e2,h2⟩
 ·exact .inl (by omega)
 ·exact .inl (by omega)
 ·exact .inl (by omega)
 ·exact .inr ⟨by omega,lexS_trans h1 h2⟩
theorem befL_irr (a:List Str):befL a a=false:=by
 unfold befL
 rw [lexS_irr]
 simp
theorem befL_neg (a b:List Str):(if -((a.length:Nat):Int) = -((b.length:Nat):Int) then lexS a b else decide (-((a.length:Nat):Int) < -((b.length:Nat):Int)))=befL a b:=by
 unfold befL
 by_cases e:a.length=b.length
 ·rw [if_pos (by omega),decide_eq_false (by omega:¬ b.length < a.length),decide_eq_true e];simp
 ·rw [if_neg (by omega),decide_eq_false e]
  by_cases f:b.length < a.length
  ·rw [decide_eq_true f,decide_eq_true (by omega)];simp
  ·rw [decide_eq_false f,decide_eq_false (by omega)];simp
theorem rising_pw:∀ (p:Str) (l:List Str),risingS p l=true->(p :: l).Pairwise fun a b=>a.cps.toList<=b.cps.toList
 | p,[],_=>List.pairwise_singleton _ _
 | p,x :: r,h=>by
  unfold risingS at h
  rw [Bool.and_eq_true] at h
  have ih:=rising_pw x r h.2
  have px:p.cps.toList<=x.cps.toList:=by
   have:=h.1
   rw [ltCps_eq] at this
   have:¬ x.cps.toList < p.cps.toList:=by simpa using this
   exact List.not_lt.mp this
  refine List.pairwise_cons.mpr ⟨fun y hy=>?_,ih⟩
  rcases List.mem_cons.mp hy with rfl | z
  ·exact px
  ·exact List.le_trans px (List.rel_of_pairwise_cons ih z)
theorem sorted_pw:∀ (l:List Str),sortedS l=true->l.Pairwise fun a b=>a.cps.toList<=b.cps.toList
 | [],_=>.nil
 | x :: r,h=>rising_pw x r h
theorem strT_ext {a b:Str} (h:a.cps.toList=b.cps.toList):a=b:=by
 cases a;cases b
 congr
 exact Array.toList_inj.mp h
theorem sorted_once {xs ys:List Str} (hp:ys.Perm (Om.once xs)) (hs:sortedS ys=true) (hx:xs.Pairwise fun a b=>ltT a b=true):ys=xs:=by
 have nd:xs.Nodup:=hx.imp fun h e=>by rw [e,ltT_irr] at h;cases h
 have ex:Om.once xs=xs:=by
  have:∀ l:List Str,l.Nodup->Om.once l=l:=by
   intro l
   induction l using Om.snocInd with
   | h0=>intro _;rfl
   | h1 l x ih=>
    intro h
    have h':=List.nodup_append.mp h
    rw [Om.once_snoc,ih h'.1,if_neg fun z=>h'.2.2 x z x (List.mem_singleton.mpr rfl) rfl]
  exact this xs nd
 rw [ex] at hp
 exact hp.eq_of_pairwise (le:=fun a b=>a.cps.toList<=b.cps.toList) (fun a b _ _ h1 h2=>strT_ext (List.le_antisymm h1 h2)) (sorted_pw ys hs) (hx.imp fun h=>List.le_of_lt (of_decide_eq_true h))
theorem it_zsP (K:PySem.W.Frag) (ws:List Bool) (b:Addr) (ys:List V) (hl:ws.length=ys.length):ItPr (Itzs K ws b) ws.length (fun i=>[.str (bs [ws.getD i false]),ys.getD i .non]) fun H=>H b=some (.tup ys):=
 ⟨fun H h=>⟨ys,SqT.of h,.inl (Nat.le_refl _)⟩,fun i H h hi=>⟨ys,ws[i],ys[i]'(by omega),SqT.of h,by simp [hi],by simp [<-hl,hi]⟩,fun i H x H' h hi y=>by
  obtain ⟨t,y1,y2,hq1,hq2,ht,e1,e2⟩:=y
  have e3:ws.getD i false=y1:=by rw [List.getD_eq_getElem?_getD,hq1];rfl
  have e4:ys.getD i .non=y2:=by rw [List.getD_eq_getElem?_getD,hq2 ys (SqT.of h)];rfl
  exact ⟨t,ht,e1,by rw [e2,e3,e4]⟩⟩
end L2
end
section
namespace K50
open PySem L2
section
def beh (b:Bool) (w:List Bool):Nat:=hd b w.reverse
def ok1 (r:Nat) (w:List Bool):Bool:=decide (hd false w < w.length) && (decide (hd true w < w.length) && decide ((pb none 0 w).2.2<=r))
def kp (r p q:Nat) (w:List Bool):Bool:=ok1 r w && (decide (hd false w<=p) && (decide (hd true w<=q) && (decide (beh false w+p<=r) && decide (beh true w+q<=r))))
def WB (n r p q:Nat):List (List Bool):=(allS n).filter (kp r p q)
theorem w_facts:∀ n,n<=6->∀ w∈allS n,1<=n->(∀ b:Bool,hd b w<=(pb none 0 w).2.2/\beh b w<=6/\beh b w=(if (pb none 0 w).1=some b then (pb none 0 w).2.1 else 0)/\(hd b w=w.length->(pb none 0 w).2.1=n))/\∃ b:Bool,(pb none 0 w).1=some b:=by decide +kernel
set_option synthInstance.maxHeartbeats 400000 in
set_option synthInstance.maxSize 100000 in
theorem w_from0:∀ n,n<=6->∀ w∈allS n,1<=n->(hd false w < w.length/\hd true w < w.length)->∀ c,c<=8->∀ b:Bool,(pb (some b) c w).1=(pb none 0 w).1/\(pb (some b) c w).2.1=(pb none 0 w).2.1/\(pb (some b) c w).2.2=max (c+hd b w) (pb none 0 w).2.2:=by decide +kernel
theorem w_from (n:Nat) (h:n<=6) (w:List Bool) (hw:w∈allS n) (n1:1<=n) (h1:hd false w < w.length) (h2:hd true w < w.length) (b:Bool) (c:Nat) (hc:c<=8):(pb (some b) c w).1=(pb none 0 w).1/\(pb (some b) c w).2.1=(pb none 0 w).2.1/\(pb (some b) c w).2.2=max (c+hd b w) (pb none 0 w).2.2:=w_from0 n h w hw n1 ⟨h1,h2⟩ c hc b
theorem ok1_iff {r:Nat} {w:List Bool}:ok1 r w=true↔(∀ b,hd b w < w.length)/\(pb none 0 w).2.2<=r:=by
 unfold ok1
 simp only [Bool.and_eq_true,decide_eq_true_eq]
 exact ⟨fun ⟨a,b,c⟩=>⟨fun x=>by cases x<;>assumption,c⟩,fun ⟨a,c⟩=>⟨a _,a _,c⟩⟩
structure Qs (ws:List (List Bool)) (r:Nat):Prop where
 one:∀ w∈ws,ok1 r w=true
 two:∀ w∈ws,∀ v∈ws,∀ b,beh b w+hd b v<=r
theorem rowsQ_mem {ws:List (List Bool)} {x:Nat} {ρ:List Bool×Nat} (hr:ρ∈(rowsQ ws).getD x []):∃ w∈ws,ρ=(w,0)/\x=0:=by
 cases x with
 | zero=>
  obtain ⟨w,hw,rfl⟩:=List.mem_map.mp (show ρ∈ws.map fun w=>((w,0):List Bool×Nat) from hr)
  exact ⟨w,hw,rfl,rfl⟩
 | succ x=>exact nomatch (show ρ∈([]:List (List Bool×Nat)) from hr)
theorem Wds.all {n:Nat} {ws:List (List Bool)} (h:Wds n ws) {w:List Bool} (hw:w∈ws):w∈allS n:=(allS_mem n w).mpr (h.w w hw)
theorem qt_iff {n r:Nat} {ws:List (List Bool)} (h:Wds n ws) (r8:r<=8):Qt ws r↔Qs ws r:=by
 have row:∀ w∈ws,((w,0):List Bool×Nat)∈(rowsQ ws).getD 0 []:=fun w hw=>List.mem_map.mpr ⟨w,hw,rfl⟩
 constructor
 ·intro q
  have one:∀ w∈ws,ok1 r w=true:=fun w hw=>by
   refine ok1_iff.mpr ⟨fun b=>?_,q _ _ .z (row w hw)⟩
   have hle:hd b w<=w.length:=by
    clear q row hw
    induction w with
    | nil=>exact Nat.le_refl _
    | cons x w ih=>
     unfold hd
     split
     ·exact Nat.succ_le_succ ih
     ·exact Nat.zero_le _
   rcases Nat.lt_or_eq_of_le hle with z | z
   ·exact z
   ·have f:=(w_facts n h.n6 w (h.all hw) h.n1).1 b
    exact absurd q (not_quiet h ⟨_,.s (r:=(w,0)) .z (row w hw),by
     show n * 1<=(pb none 0 w).2.1
     rw [f.2.2.2 z];omega⟩)
  refine ⟨one,fun w hw v hv b=>?_⟩
  have f:=(w_facts n h.n6 w (h.all hw) h.n1).1 b
  have fv:=(w_facts n h.n6 v (h.all hv) h.n1).1 b
  have ov:=ok1_iff.mp (one v hv)
  have g:Rr (rowsQ ws) (nxt (0,none,0) (w,0)):=.s .z (row w hw)
  have t:=q _ (v,0) g (row v hv)
  rw [f.2.2.1]
  split
  ·rename_i e
   have t:(pb (pb none 0 w).1 (pb none 0 w).2.1 v).2.2<=r:=t
   rw [e] at t
   have c8:(pb none 0 w).2.1<=8:=by
    have:=f.2.1
    rw [f.2.2.1,if_pos e] at this
    omega
   rw [(w_from n h.n6 v (h.all hv) h.n1 (ov.1 _) (ov.1 _) b _ c8).2.2] at t
   omega
  ·have:=fv.1
   have:=ov.2
   omega
 ·intro q
  have st:∀ {x},Rr (rowsQ ws) x->(x=(0,none,0))\/∃ w∈ws,x=nxt (0,none,0) (w,0):=by
   intro x g
   induction g with
   | z=>exact .inl rfl
   | @s x ρ g hr ih=>
    obtain ⟨v,hv,rfl,e⟩:=rowsQ_mem hr
    rcases ih with rfl | ⟨w,hw,rfl⟩
    ·exact .inr ⟨v,hv,rfl⟩
    ·refine .inr ⟨v,hv,?_⟩
     obtain ⟨f,b,eb⟩:=w_facts n h.n6 w (h.all hw) h.n1
     have ov:=ok1_iff.mp (q.one v hv)
     have c8:(pb none 0 w).2.1<=8:=by
      have:=(f b).2.1
      rw [(f b).2.2.1,if_pos eb] at this
      omega
     have k:=w_from n h.n6 v (h.all hv) h.n1 (ov.1 _) (ov.1 _) b _ c8
     show ((0:Nat),(pb (pb none 0 w).1 (pb none 0 w).2.1 v).1,(pb (pb none 0 w).1 (pb none 0 w).2.1 v).2.1)=(0,(pb none 0 v).1,(pb none 0 v).2.1)
     rw [eb,k.1,k.2.1]
  intro x ρ g hr
  obtain ⟨v,hv,rfl,e⟩:=rowsQ_mem hr
  have ov:=ok1_iff.mp (q.one v hv)
  rcases st g with rfl | ⟨w,hw,rfl⟩
  ·exact ov.2
  ·obtain ⟨f,b,eb⟩:=w_facts n h.n6 w (h.all hw) h.n1
   have c8:(pb none 0 w).2.1<=8:=by
    have:=(f b).2.1
    rw [(f b).2.2.1,if_pos eb] at this
    omega
   have k:=w_from n h.n6 v (h.all hv) h.n1 (ov.1 _) (ov.1 _) b _ c8
   show (pb (pb none 0 w).1 (pb none 0 w).2.1 v).2.2<=r
   rw [eb,k.2.2]
   have t:=q.two w hw v hv b
   rw [(f b).2.2.1,if_pos eb] at t
   have:=ov.2
   omega
theorem kp_iff {r p q:Nat} {w:List Bool}:kp r p q w=true↔ok1 r w=true/\hd false w<=p/\hd true w<=q/\beh false w+p<=r/\beh true w+q<=r:=by
 unfold kp
 simp only [Bool.and_eq_true,decide_eq_true_eq]
theorem wb_mem {n r p q:Nat} {w:List Bool}:w∈WB n r p q↔w.length=n/\kp r p q w=true:=by
 unfold WB
 rw [List.mem_filter,allS_mem]
theorem allS_nodup:∀ n,(allS n).Nodup
 | 0=>by simp [allS]
 | n+1=>by
  have nd:∀ b:Bool,((allS n).map (b :: ·)).Nodup:=fun b=>by
   unfold List.Nodup
   rw [List.pairwise_map]
   exact (allS_nodup n).imp fun h z=>h (List.cons.inj z).2
  unfold allS
  rw [List.nodup_append]
  refine ⟨nd _,nd _,fun x hx y hy z=>?_⟩
  obtain ⟨x',_,rfl⟩:=List.mem_map.mp hx
  obtain ⟨y',_,rfl⟩:=List.mem_map.mp hy
  cases z
theorem wb_nodup (n r p q:Nat):(WB n r p q).Nodup:=(allS_nodup n).filter _
theorem wb_wds {n r p q:Nat} (n1:1<=n) (n6:n<=6):Wds n (WB n r p q):=by
 refine ⟨n1,n6,?_,fun w hw=>(wb_mem.mp hw).1⟩
 have:=List.length_filter_le (kp r p q) (allS n)
 rw [allS_len] at this
 have:2 ^ n<=2 ^ 6:=Nat.pow_le_pow_right (by decide) n6
 unfold WB
 omega
theorem wb_few:∀ n,n<=6->1<=n->∀ r p q,(WB n r p q).length < 64:=by
 intro n n6 n1 r p q
 have h:(WB n r p q).length<=((allS n).filter fun w=>decide (hd false w < w.length)).length:=by
  unfold WB
  have:(allS n).filter (kp r p q)=((allS n).filter fun w=>decide (hd false w < w.length)).filter (kp r p q):=by
   rw [List.filter_filter]
   refine List.filter_congr fun w _=>?_
   unfold kp ok1
   cases decide (hd false w < w.length)<;>simp
  rw [this]
  exact List.length_filter_le _ _
 have k:∀ n,n<=6->1<=n->((allS n).filter fun w=>decide (hd false w < w.length)).length < 64:=by decide +kernel
 exact Nat.lt_of_le_of_lt h (k n n6 n1)
theorem wb_quiet {n r p q:Nat}:Qs (WB n r p q) r:=by
 refine ⟨fun w hw=>(kp_iff.mp (wb_mem.mp hw).2).1,fun w hw v hv b=>?_⟩
 have a:=kp_iff.mp (wb_mem.mp hw).2
 have c:=kp_iff.mp (wb_mem.mp hv).2
 cases b<;>omega
theorem top_of (f:List Bool->Nat):∀ (ws:List (List Bool)),ws≠[]->∃ w∈ws,∀ v∈ws,f v<=f w
 | [],h=>absurd rfl h
 | [w],_=>⟨w,List.mem_singleton.mpr rfl,fun v hv=>by rw [List.mem_singleton.mp hv];exact Nat.le_refl _⟩
 | w :: u :: ws,_=>by
  obtain ⟨x,hx,h⟩:=top_of f (u :: ws) (by simp)
  by_cases z:f x<=f w
  ·exact ⟨w,List.mem_cons_self,fun v hv=>by
    rcases List.mem_cons.mp hv with rfl | hv
    ·exact Nat.le_refl _
    ·exact Nat.le_trans (h v hv) z⟩
  ·exact ⟨x,List.mem_cons_of_mem _ hx,fun v hv=>by
    rcases List.mem_cons.mp hv with rfl | hv
    ·omega
    ·exact h v hv⟩
theorem qs_paper {n r:Nat} {ws:List (List Bool)} (ne:ws≠[]) (l:∀ w∈ws,w.length=n) (q:Qs ws r):∃ p t,p<=r/\t<=r/\∀ w∈ws,w∈WB n r p t:=by
 obtain ⟨a,ha,h0⟩:=top_of (hd false) ws ne
 obtain ⟨b,hb,h1⟩:=top_of (hd true) ws ne
 refine ⟨hd false a,hd true b,?_,?_,fun w hw=>wb_mem.mpr ⟨l w hw,kp_iff.mpr ⟨q.one w hw,h0 w hw,h1 w hw,q.two w hw a ha _,q.two w hw b hb _⟩⟩⟩
 ·have:=q.two a ha a ha false;omega
 ·have:=q.two a ha b hb true;omega
def txs (ws:List (List Bool)):List Str:=ws.map bs
structure Best (n r p q:Nat):Prop where
 le:p<=r/\q<=r
 no:∀ a b,a<=r->b<=r->befL (txs (WB n r a b)) (txs (WB n r p q))=false
 fst:∀ a b,a<=r->b<=r->(a < p\/a=p/\b < q)->WB n r a b≠WB n r p q
theorem Best.more {n r p q:Nat} (h:Best n r p q) {w:List Bool} (hw:w.length=n) (nw:w ∉ WB n r p q):¬ Qs (WB n r p q++[w]) r:=fun z=>by
 obtain ⟨a,b,ha,hb,hin⟩:=qs_paper (n:=n) (by simp) (fun v hv=>by
  rcases List.mem_append.mp hv with hv | hv
  ·exact (wb_mem.mp hv).1
  ·rw [List.mem_singleton.mp hv];exact hw) z
 have nd:(WB n r p q++[w]).Nodup:=List.nodup_append.mpr ⟨wb_nodup n r p q,List.pairwise_singleton _ _,fun x hx y hy e=>nw (by rw [List.mem_singleton.mp hy] at e;exact e ▸ hx)⟩
 have le:=nd.length_le_of_subset hin
 rw [List.length_append] at le
 have le:(WB n r p q).length+1<=(WB n r a b).length:=le
 have k:=h.no a b ha hb
 unfold befL txs at k
 rw [List.length_map,List.length_map,decide_eq_true (by omega)] at k
 simp at k
theorem words_up:∀ n,n<=6->(allS n).Pairwise fun a b=>ltT (bs a) (bs b)=true:=by decide +kernel
theorem wb_up {n r p q:Nat} (n6:n<=6):(txs (WB n r p q)).Pairwise fun a b=>ltT a b=true:=by
 unfold txs
 rw [List.pairwise_map]
 exact (words_up n n6).filter _
end
end K50
end
section
namespace K50
open PySem L2
section
variable {P:Program} {w:World} {K:PySem.W.Frag} {mg:Str->Option Value} {base:Heap}
abbrev sKeep:Stmt:=top 27
def spKeep:Sp:=fun vs H Q _=>match vs with
 | [.str zs,.int r0,.ref T]=>∃ (w:List Bool) (r p q:Nat),zs=bs w/\1<=w.length/\w.length<=6/\r0=(r:Nat)/\p<=r/\q<=r/\r<=8/\H T=some (.tup [.int (p:Nat),.int (q:Nat)])/\∀ H',Same H H'->Q (.bl (kp r p q w)) H'
 | _=>False
theorem scKeep:FnScope ["word","r","paper","sign","most","begun","ended"] ["word","r","paper"] (defScope sKeep):=⟨rfl,rfl,rfl,by decide +kernel,rfl,by decide +kernel,by decide +kernel⟩
local macro_rules | `(tactic| walk_at "T.i")=>`(tactic| ((with_reducible refine' it_zipS ?a0 ?a9 ?a1);(case a0=>with_reducible assumption);(case a9=>rfl);(case a1=>walk_at "T.a")))
local macro_rules | `(tactic| walk_at "T.e")=>`(tactic| first | ((with_reducible refine' m_lst ?a1 ?a2);(case a1=>walk_at "T.e");(case a2=>walk_at "T.a")) | ((with_reducible refine' m_rst ?a1 ?a2);(case a1=>walk_at "T.e");(case a2=>walk_at "T.a")) | fail "no")
theorem ok_keep (D:FnX K mg "keeps_to" sKeep ["word","r","paper"]) (g1:mg "len" = none) (g2:mg "zip" = none) (c1:Can P w K mg base "put_behind" 1 ["sign","count","word"] spPut):Can P w K mg base "keeps_to" 2 ["word","r","paper"] spKeep:=by
 refine can_fn (k:=1) D scKeep (fun vs H Q E h=>?_) (fun f cdv A outer s H vs Q E hr h=>?_)
 all_goals
  unfold spKeep at h
  split at h
 ·rfl
 ·exact h.elim
 ·rename_i zs r0 T
  obtain ⟨w,r,p,q,rfl,l1,l6,rfl,pr,qr,r8,hT,qq⟩:=h
  have nd:=scKeep.nd
  refine ⟨_,(by walk_at "T.top"),?_⟩
  refine ⟨[false,true],rfl,⟨_,SqT.of hT⟩,?_⟩
  refine for_pr (it_zsP _ [false,true] T [.int (p:Nat),.int (q:Nat)] rfl) (fun i σ H2=>∃ (v3 v4 v5 v6:Option V),σ=[some (.str (bs w)),some (.int (r:Nat)),some (.ref T),v3,v4,v5,v6]/\Same H H2/\(1<=i->hd false w < w.length/\hd false w<=p/\beh false w+p<=r)/\(2<=i->hd true w < w.length/\hd true w<=q/\beh true w+q<=r))
   ⟨none,none,none,none,rfl,Same.refl _,by omega,by omega⟩ (fun i σ H2 _ ⟨_,_,_,_,_,s2,_⟩=>s2 _ _ hT) ?_ ?_
  ·rintro i t σ H2 hi ⟨v3,v4,v5,v6,rfl,s2,a1,a2⟩ ht
   have u3:=s2.trans (Same.upd (o:=.tup [.str (bs [([false,true]:List Bool).getD i false]),([.int (p:Nat),.int (q:Nat)]:List V).getD i .non]) ht)
   refine ⟨_,.inl upd_same,rfl,rfl,?_⟩
   have hb:∃ (b:Bool) (m:Nat),([false,true]:List Bool).getD i false=b/\([.int (p:Nat),.int (q:Nat)]:List V).getD i .non = .int (m:Nat)/\m<=r/\(hd b w < w.length/\hd b w<=m/\beh b w+m<=r->(1<=i+1->hd false w < w.length/\hd false w<=p/\beh false w+p<=r)/\(2<=i+1->hd true w < w.length/\hd true w<=q/\beh true w+q<=r))/\(kp r p q w=true->hd b w < w.length/\hd b w<=m/\beh b w+m<=r):=by
    have hi:i < 2:=hi
    have k:kp r p q w=true->(∀ b,hd b w < w.length)/\hd false w<=p/\hd true w<=q/\beh false w+p<=r/\beh true w+q<=r:=fun z=>⟨(ok1_iff.mp (kp_iff.mp z).1).1,(kp_iff.mp z).2⟩
    match i,hi with
    | 0,_=>exact ⟨false,p,rfl,rfl,pr,fun z=>⟨fun _=>z,by omega⟩,fun z=>let ⟨a,b,c,d,e⟩:=k z;⟨a _,b,d⟩⟩
    | 1,_=>exact ⟨true,q,rfl,rfl,qr,fun z=>⟨fun _=>a1 (by omega),fun _=>z⟩,fun z=>let ⟨a,b,c,d,e⟩:=k z;⟨a _,c,e⟩⟩
   obtain ⟨b,m,e1,e2,mr,fin,bad⟩:=hb
   rw [e1,e2] at u3 ⊢
   obtain ⟨sl,sr⟩:=strip_words w.length l6 w ((allS_mem _ _).mpr rfl) b
   have sr:(Txt.rstripChars (bs w) (bs [b])).length+beh b w=w.length:=sr
   have e3:((w.length:Nat):Int) - ((Txt.lstripChars (bs w) (bs [b])).length:Nat)=((hd b w:Nat):Int):=by omega
   have e4:((w.length:Nat):Int) - ((Txt.rstripChars (bs w) (bs [b])).length:Nat)=((beh b w:Nat):Int):=by omega
   have bl:=bs_len w
   have lz:(bs w).length<=sizeLine:=le_line (by rw [bl];omega)
   refine ⟨_,if_pos lz,rfl,lz,_,if_pos (Nat.le_trans (by omega) lz),?_⟩
   refine ⟨_,if_pos lz,rfl,lz,_,if_pos (Nat.le_trans (by omega) lz),?_⟩
   dsimp only [rN0,gName,List.set]
   rw [bl,e3,e4]
   dsimp only [tSeq,tIfS,tAnd,tOr,tBU,tOp,tV,tC,rIsU,rIsNotU,tNext,gName,rN0]
   refine ⟨_,if_pos lz,?_⟩
   have no:¬ (hd b w < w.length/\hd b w<=m/\beh b w+m<=r)->Q (.bl false) (upd H2 t (HO.tup [V.str (bs [b]),V.int (m:Nat)])):=fun z=>by
    have k:kp r p q w=false:=Bool.eq_false_iff.mpr fun y=>z (bad y)
    have:=qq _ u3
    rwa [k] at this
   rw [bl]
   refine ite2 (fun c=>?_) (fun c=>?_)
   ·have c:((hd b w:Nat):Int)=((w.length:Nat):Int):=by simpa using c
    exact no fun z=>by omega
   have c:¬ ((hd b w:Nat):Int)=((w.length:Nat):Int):=by simpa using c
   refine ite2 (fun c2=>?_) (fun c2=>?_)
   ·have c2:((m:Nat):Int) < ((hd b w:Nat):Int):=of_decide_eq_true c2
    exact no fun z=>by omega
   have c2:¬ ((m:Nat):Int) < ((hd b w:Nat):Int):=fun z=>c2 (decide_eq_true z)
   refine ite2 (fun c3=>?_) (fun c3=>?_)
   ·have c3:((r:Nat):Int) - (m:Nat) < ((beh b w:Nat):Int):=of_decide_eq_true c3
    exact no fun z=>by omega
   have c3:¬ ((r:Nat):Int) - (m:Nat) < ((beh b w:Nat):Int):=fun z=>c3 (decide_eq_true z)
   obtain ⟨f1,f2⟩:=fin ⟨by omega,by omega,by omega⟩
   exact ⟨_,_,_,_,rfl,u3,f1,f2⟩
  ·rintro σ H2 ⟨v3,v4,v5,v6,rfl,s2,a1,a2⟩
   have b1:=a1 (by decide)
   have b2:=a2 (by decide)
   have wne:w≠[]:=fun z=>by rw [z] at l1;exact absurd l1 (by decide)
   refine ⟨none,0,w,rfl,rfl,rfl,wne,fun T2 H3 s3 hT2 _=>?_⟩
   have k:kp r p q w=decide ((((pb none 0 w).2.2:Nat):Int)<=((r:Nat):Int)):=by
    rw [Bool.eq_iff_iff,kp_iff,ok1_iff,decide_eq_true_eq]
    refine ⟨fun z=>by have:=z.1.2;omega,fun z=>⟨⟨fun b=>by cases b;exact b1.1;exact b2.1,by omega⟩,b1.2.1,b2.2.1,b1.2.2,b2.2.2⟩⟩
   refine ⟨_,getV_tup hT2,?_⟩
   have:=qq _ (s2.trans s3)
   rw [k] at this
   exact this
 ·exact h.elim
end
end K50
end
section
namespace K50
open PySem L2
section
variable {P:Program} {w:World} {K:PySem.W.Frag} {mg:Str->Option Value} {base:Heap}
abbrev sWB:Stmt:=top 26
def spWB:Sp:=fun vs H Q _=>match vs with
 | [.int n0,.int r0,.ref T]=>∃ (n r p q:Nat),n0=(n:Nat)/\1<=n/\n<=6/\r0=(r:Nat)/\p<=r/\q<=r/\r<=8/\H T=some (.tup [.int (p:Nat),.int (q:Nat)])/\∀ l H',Same H H'->H l=none->H' l=some (WS (WB n r p q))->Q (.ref l) H'
 | _=>False
theorem scWB:FnScope ["n","r","paper"] ["n","r","paper"] (defScope sWB):=⟨rfl,rfl,rfl,by decide +kernel,rfl,by decide +kernel,by decide +kernel⟩
local macro_rules | `(tactic| walk_at "T.c")=>`(tactic| (have ndc:(["word","r","paper"]:List Str).Nodup:=(by decide +kernel));((with_reducible refine' c_comp ["word","r","paper"] [1,2] ?b1 ?b2 (fun cl C s H fp=>?b3) (fun cl C s H fp=>?b4) (fun cl C s H fp=>?b5));(case b1=>exact ndc);(case b2=>walk_at "T.i");(case b3=>walk_at "T.g");(case b4=>walk_at "T.pf");(case b5=>walk_at "T.e")))
theorem ok_wb (D:FnX K mg "words_by" sWB ["n","r","paper"]) (c1:Can P w K mg base "all_signs" 1 ["length"] spAll) (c2:Can P w K mg base "keeps_to" 2 ["word","r","paper"] spKeep):Can P w K mg base "words_by" 3 ["n","r","paper"] spWB:=by
 refine can_fn (k:=2) D scWB (fun vs H Q E h=>?_) (fun f cdv A outer s H vs Q E hr h=>?_)
 all_goals
  unfold spWB at h
  split at h
 ·rfl
 ·exact h.elim
 ·rename_i n0 r0 T
  obtain ⟨n,r,p,q,rfl,n1,n6,rfl,pr,qr,r8,hT,qq⟩:=h
  have nd:=scWB.nd
  refine ⟨_,(by walk_at "T.top"),?_⟩
  refine ⟨n,rfl,by omega,fun l H1 s1 nl hl=>?_⟩
  have p64:(allS n).length<=64:=by
   rw [allS_len]
   calc 2 ^ n<=2 ^ 6:=Nat.pow_le_pow_right (by decide) n6
    _<=64:=by decide
  refine ⟨⟨_,SqL.of hl⟩,fun R hR=>?_⟩
  refine comp_by (it_list _ l ((allS n).map fun w=>V.str (bs w))) (fun i τ H2 ys=>(∃ v,τ=[v,some (.int (r:Nat)),some (.ref T)])/\Same H1 H2/\H2 R=some (.lst ys)/\ys=((((allS n).take i).filter (kp r p q)).map fun w=>V.str (bs w))) (le_line (by rw [List.length_map];omega)) ⟨⟨none,rfl⟩,Same.upd hR,upd_same,rfl⟩ ?_ ?_ ?_
  ·rintro i τ H2 ys hi ⟨_,s2,hR2,rl⟩
   rw [List.length_map] at hi
   refine ⟨SqL.of (s2 _ _ hl),hR2,?_⟩
   rw [rl,List.length_map]
   exact Nat.le_trans (List.length_filter_le _ _) (by rw [List.length_take];omega)
  ·rintro i v τ H2 ys hi hv ⟨⟨v0,rfl⟩,s2,hR2,rl⟩
   rw [List.length_map] at hi
   rw [List.getElem?_map,List.getElem?_eq_getElem hi] at hv
   cases hv
   have wl:((allS n)[i]).length=n:=(allS_mem n _).mp (List.getElem_mem hi)
   have tk:((allS n).take (i+1)).filter (kp r p q)=((allS n).take i).filter (kp r p q)++(if kp r p q (allS n)[i]=true then [(allS n)[i]] else []):=by
    rw [List.take_add_one,List.getElem?_eq_getElem hi,List.filter_append]
    congr 1
    show List.filter _ [(allS n)[i]]=_
    rw [List.filter_cons]
    rfl
   generalize (allS n)[i]=w at wl tk
   refine ⟨w,r,p,q,rfl,by omega,by omega,rfl,pr,qr,r8,(s1.trans s2) _ _ hT,fun H3 s3=>?_⟩
   rw [tk]
   refine ite2 (fun c=>?_) (fun c=>?_)
   ·rw [if_pos c,List.map_append,<-rl]
    exact ⟨s3 _ _ hR2,⟨_,rfl⟩,(s2.trans s3).own hR,upd_same,rfl⟩
   ·rw [if_neg c,List.append_nil]
    exact ⟨⟨_,rfl⟩,s2.trans s3,s3 _ _ hR2,rl⟩
  ·rintro τ H2 ys ⟨_,s2,hR2,rl⟩
   rw [List.length_map,List.take_length] at rl
   subst rl
   exact qq R H2 (s1.trans s2) (s1.free hR) hR2
 ·exact h.elim
end
end K50
end
section
namespace K50
open PySem L2
theorem txs_shaped (ws:List (List Bool)):SeqAt.shaped (.list ((txs ws).map PyData.str))=true:=shaped_list (k:=0) (fun d hd=>by
 obtain ⟨z,hz,rfl⟩:=List.mem_map.mp hd
 obtain ⟨w,_,rfl⟩:=List.mem_map.mp hz
 exact bs_ok w) (fun d hd=>by
 obtain ⟨w,_,rfl⟩:=List.mem_map.mp hd
 exact Nat.le_refl _) (by decide)
theorem WS_txs (ws:List (List Bool)):WS ws = .lst ((txs ws).map V.str):=by
 unfold WS txs
 rw [List.map_map]
 rfl
theorem txs_len (a:List (List Bool)):(txs a).length=a.length:=List.length_map ..
theorem lenW {Hy:Hp} {l:Addr} {ws:List (List Bool)} (h:Hy l=some (WS ws)):lenV Hy (.ref l)=some ws.length:=(lenL (xs:=(txs ws).map V.str) (by rw [<-WS_txs];exact h)).trans (by rw [List.length_map,txs_len])
theorem befL_negW (a b:List (List Bool)):(if -((a.length:Nat):Int) = -((b.length:Nat):Int) then lexS (txs a) (txs b) else decide (-((a.length:Nat):Int) < -((b.length:Nat):Int)))=befL (txs a) (txs b):=by
 have:=befL_neg (txs a) (txs b)
 rwa [txs_len,txs_len] at this
theorem txs_inj {a b:List (List Bool)}:txs a=txs b↔a=b:=⟨fun h=>(List.map_inj_right fun x y e=>bs_inj e).mp h,fun h=>h ▸ rfl⟩
theorem dvW {H:Hp} {l:Addr} {ws:List (List Bool)} (h:H l=some (WS ws)):DV H (.ref l) (.list ((txs ws).map PyData.str)):=.lst (by rw [<-WS_txs];exact h) (dvs_strs _)
theorem eqv_txs (a b:List (List Bool)):PyData.eqv (.list ((txs a).map PyData.str)) (.list ((txs b).map PyData.str))=decide (a=b):=by
 show PyData.eqvAll _ _=_
 rw [eqvAll_strs]
 exact decide_eq_decide.mpr txs_inj
theorem neW {H:Hp} {p q:Addr} {xs ys:List (List Bool)} {C:VK} (hp:H p=some (WS xs)) (hq:H q=some (WS ys)) (c:C (.bl (!decide (xs=ys))) H):rNeU (.ref p) (.ref q) H C:=⟨_,_,dvW hp,dvW hq,txs_shaped _,txs_shaped _,by rw [eqv_txs];exact c⟩
theorem eqW {H:Hp} {p q:Addr} {xs ys:List (List Bool)} {C:VK} (hp:H p=some (WS xs)) (hq:H q=some (WS ys)) (c:C (.bl (decide (xs=ys))) H):rEqU (.ref p) (.ref q) H C:=⟨_,_,dvW hp,dvW hq,txs_shaped _,txs_shaped _,by rw [eqv_txs];exact c⟩
structure Bst (n r i j p q:Nat):Prop where
 le:p<=r/\q<=r
 at':(p < i\/p=i/\q < j)\/(p=0/\q=0)
 no:∀ a b,a<=r->b<=r->(a < i\/a=i/\b < j)->befL (txs (WB n r a b)) (txs (WB n r p q))=false
 fst:∀ a b,a<=r->b<=r->(a < p\/a=p/\b < q)->WB n r a b≠WB n r p q
theorem Bst.z (n r:Nat):Bst n r 0 0 0 0:=⟨⟨Nat.zero_le _,Nat.zero_le _⟩,.inr ⟨rfl,rfl⟩,fun a b _ _ h=>by omega,fun a b _ _ h=>by omega⟩
theorem Bst.row {n r i p q:Nat} (h:Bst n r i (r+1) p q):Bst n r (i+1) 0 p q:=⟨h.le,h.at'.imp (fun z=>by omega) id,fun a b ha hb z=>h.no a b ha hb (by omega),h.fst⟩
theorem Bst.end {n r p q:Nat} (h:Bst n r (r+1) 0 p q):Best n r p q:=⟨h.le,fun a b ha hb=>h.no a b ha hb (by omega),h.fst⟩
theorem Bst.keep {n r i j p q:Nat} (h:Bst n r i j p q) (k:befL (txs (WB n r i j)) (txs (WB n r p q))=false):Bst n r i (j+1) p q:=⟨h.le,h.at'.imp (fun z=>by omega) id,fun a b ha hb z=>by
 by_cases e:a=i/\b=j
 ·rw [e.1,e.2];exact k
 ·exact h.no a b ha hb (by omega),h.fst⟩
theorem Bst.take {n r i j p q:Nat} (h:Bst n r i j p q) (hi:i<=r) (hj:j<=r) (k:befL (txs (WB n r i j)) (txs (WB n r p q))=true):Bst n r i (j+1) i j:=by
 refine ⟨⟨hi,hj⟩,.inl (by omega),fun a b ha hb z=>?_,fun a b ha hb z e=>?_⟩
 ·by_cases e:a=i/\b=j
  ·rw [e.1,e.2];exact befL_irr _
  ·refine Bool.eq_false_iff.mpr fun y=>?_
   have:=befL_trans y k
   rw [h.no a b ha hb (by omega)] at this
   cases this
 ·have:=h.no a b ha hb (by omega)
  rw [e,k] at this
  cases this
section
variable {P:Program} {w:World} {K:PySem.W.Frag} {mg:Str->Option Value} {base:Heap}
abbrev sGW:Stmt:=top 25
def spGW:Sp:=fun vs H Q _=>match vs with
 | [.int n0,.int r0]=>∃ (n r:Nat),n0=(n:Nat)/\1<=n/\n<=6/\r0=(r:Nat)/\r<=8/\∀ (T U F:Addr) (p q:Nat) H',Same H H'->H' T=some (.tup [.ref U,.ref F])->H' U=some (.tup [.int (p:Nat),.int (q:Nat)])->H F=none->H' F=some (WS (WB n r p q))->Best n r p q->Q (.ref T) H'
 | _=>False
theorem scGW:FnScope ["n","r","paper","found","p","q","words"] ["n","r"] (defScope sGW):=⟨rfl,rfl,rfl,by decide +kernel,rfl,by decide +kernel,by decide +kernel⟩
local macro_rules | `(tactic| walk_at "T.cmp")=>`(tactic| ((with_reducible refine' op_ltN ?b1);(case b1=>exact Room.units (by assumption))))
theorem ok_gw (D:FnX K mg "greatest_with_paper" sGW ["n","r"]) (g1:mg "range" = none) (g2:mg "len" = none) (c1:Can P w K mg base "words_by" 3 ["n","r","paper"] spWB):Can P w K mg base "greatest_with_paper" 4 ["n","r"] spGW:=by
 refine can_fn (k:=3) D scGW (fun vs H Q E h=>?_) (fun f cdv A outer s H vs Q E hr h=>?_)
 all_goals
  unfold spGW at h
  split at h
 ·rfl
 ·exact h.elim
 ·rename_i n0 r0
  obtain ⟨n,r,rfl,n1,n6,rfl,r8,qq⟩:=h
  have nd:=scGW.nd
  refine ⟨_,(by walk_at "T.top"),?_⟩
  refine ⟨le_line (Nat.le_of_ble_eq_true rfl),fun U0 hU0=>?_⟩
  refine ⟨n,r,0,0,rfl,n1,n6,rfl,Nat.zero_le _,Nat.zero_le _,r8,upd_same,fun F0 H1 s1 nF0 hF0=>?_⟩
  have s01:=(Same.upd hU0).trans s1
  have nF:H F0=none:=(Same.upd hU0).free nF0
  have hU1:=s1 _ _ (upd_same (H:=H) (a:=U0))
  refine ⟨by omega,by omega,for_by (it_range 0 _) (fun i σ H2=>∃ (U F:Addr) (p q:Nat) (v4 v5 v6:Option V),σ=[some (.int (n:Nat)),some (.int (r:Nat)),some (.ref U),some (.ref F),v4,v5,v6]/\Same H H2/\H2 U=some (.tup [.int (p:Nat),.int (q:Nat)])/\H F=none/\H2 F=some (WS (WB n r p q))/\Bst n r i 0 p q)
   ⟨U0,F0,0,0,none,none,none,rfl,s01,hU1,nF,hF0,Bst.z n r⟩ (fun _ _ _ _ _=>trivial) ?_ ?_⟩
  ·rintro i x σ H2 hi hx ⟨U,F,p,q,v4,v5,v6,rfl,s2,hU,nF,hF,B⟩
   have hi':i<=r:=by simp at hi;omega
   have hx':x = .int (i:Nat):=by
    rw [List.getElem?_map,List.getElem?_range (by simp at hi;omega)] at hx
    simpa using hx.symm
   subst hx'
   refine ⟨by omega,by omega,for_by (it_range 0 _) (fun j σ H3=>∃ (U F:Addr) (p q:Nat) (v5 v6:Option V),σ=[some (.int (n:Nat)),some (.int (r:Nat)),some (.ref U),some (.ref F),some (.int (i:Nat)),v5,v6]/\Same H H3/\H3 U=some (.tup [.int (p:Nat),.int (q:Nat)])/\H F=none/\H3 F=some (WS (WB n r p q))/\Bst n r i j p q)
    ⟨U,F,p,q,v5,v6,rfl,s2,hU,nF,hF,B⟩ (fun _ _ _ _ _=>trivial) ?_ ?_⟩
   ·clear B hF nF hU s2
    rintro j y σ H3 hj hy ⟨U,F,p,q,v5,v6,rfl,s3,hU,nF,hF,B⟩
    have hj':j<=r:=by simp at hj;omega
    have hy':y = .int (j:Nat):=by
     rw [List.getElem?_map,List.getElem?_range (by simp at hj;omega)] at hy
     simpa using hy.symm
    subst hy'
    dsimp only [tSeq,gName]
    refine ⟨le_line (Nat.le_of_ble_eq_true rfl),fun U1 hU1'=>?_⟩
    have z1:=Same.upd (o:=.tup [.int (i:Nat),.int (j:Nat)]) hU1'
    refine ⟨n,r,i,j,rfl,n1,n6,rfl,hi',hj',r8,upd_same,fun F1 H4 s4 nF1 hF1=>?_⟩
    have s34:=z1.trans s4
    have hF4:=s34 _ _ hF
    have nF1':H F1=none:=s3.free (z1.free nF1)
    refine ⟨_,lenW hF1,?_⟩
    refine ⟨le_line (Nat.le_of_ble_eq_true rfl),fun T1 hT1=>?_⟩
    have z5:=Same.upd (o:=.tup [.int (-((WB n r i j).length:Nat)),.ref F1]) hT1
    refine ⟨_,lenW (z5 _ _ hF4),?_⟩
    refine ⟨le_line (Nat.le_of_ble_eq_true rfl),fun T2 hT2=>?_⟩
    have z6:=Same.upd (o:=.tup [.int (-((WB n r p q).length:Nat)),.ref F]) hT2
    have S6:=((s3.trans s34).trans z5).trans z6
    have s46:=z5.trans z6
    refine ⟨T1,T2,_,_,F1,F,txs (WB n r i j),txs (WB n r p q),rfl,rfl,z6 _ _ upd_same,upd_same,by rw [<-WS_txs];exact s46 _ _ hF1,by rw [<-WS_txs];exact s46 _ _ hF4,txs_shaped _,txs_shaped _,?_⟩
    rw [befL_negW]
    refine ite2 (fun c=>?_) (fun c=>?_)
    ·refine ⟨le_line (Nat.le_of_ble_eq_true rfl),fun U2 hU2=>?_⟩
     have z7:=Same.upd (o:=.tup [.int (i:Nat),.int (j:Nat)]) hU2
     exact ⟨U2,F1,i,j,_,_,rfl,S6.trans z7,upd_same,nF1',(s46.trans z7) _ _ hF1,B.take hi' hj' c⟩
    ·exact ⟨U,F,p,q,_,_,rfl,S6,(s34.trans s46) _ _ hU,nF,s46 _ _ hF4,B.keep (Bool.eq_false_iff.mpr c)⟩
   ·rintro σ H3 ⟨U,F,p,q,v5,v6,rfl,s3,hU,nF,hF,B⟩
    refine ⟨U,F,p,q,_,_,_,rfl,s3,hU,nF,hF,?_⟩
    have e:((List.range (((r:Nat):Int)+1).toNat).map fun i:Nat=>V.int (0+(i:Nat))).length=r+1:=by simp
    first
     | (rw [e] at B;exact B.row)
     | trace_state
  ·rintro σ H2 ⟨U,F,p,q,v4,v5,v6,rfl,s2,hU,nF,hF,B⟩
   have e:((List.range (((r:Nat):Int)+1).toNat).map fun i:Nat=>V.int (0+(i:Nat))).length=r+1:=by simp
   refine ⟨le_line (Nat.le_of_ble_eq_true rfl),fun T hT=>?_⟩
   have z3:=Same.upd (o:=.tup [.ref U,.ref F]) hT
   first
    | (rw [e] at B;exact qq T U F p q _ (s2.trans z3) upd_same (z3 _ _ hU) nF (z3 _ _ hF) B.end)
    | trace_state
 ·exact h.elim
end
end K50
end
section
namespace K50
open PySem L2
section
variable {P:Program} {w:World} {K:PySem.W.Frag} {mg:Str->Option Value} {base:Heap}
abbrev sGQ:Stmt:=top 23
def spGQ:Sp:=fun vs H Q _=>match vs with
 | [.int n0,.int r0]=>∃ (n r:Nat),n0=(n:Nat)/\1<=n/\n<=6/\r0=(r:Nat)/\r<=8/\∀ (F:Addr) (p q:Nat) H',Same H H'->H F=none->H' F=some (WS (WB n r p q))->Best n r p q->Q (.ref F) H'
 | _=>False
theorem scGQ:FnScope ["n","r"] ["n","r"] (defScope sGQ):=⟨rfl,rfl,rfl,by decide +kernel,rfl,by decide +kernel,by decide +kernel⟩
theorem ok_gq (D:FnX K mg "greatest_quiet" sGQ ["n","r"]) (c1:Can P w K mg base "greatest_with_paper" 4 ["n","r"] spGW):Can P w K mg base "greatest_quiet" 5 ["n","r"] spGQ:=by
 refine can_fn (k:=4) D scGQ (fun vs H Q E h=>?_) (fun f cdv A outer s H vs Q E hr h=>?_)
 all_goals
  unfold spGQ at h
  split at h
 ·rfl
 ·exact h.elim
 ·rename_i n0 r0
  obtain ⟨n,r,rfl,n1,n6,rfl,r8,qq⟩:=h
  have nd:=scGQ.nd
  refine ⟨_,(by walk_at "T.top"),?_⟩
  refine ⟨n,r,rfl,n1,n6,rfl,r8,fun T U F p q H1 s1 hT hU nF hF B=>?_⟩
  exact ⟨_,getV_tup hT,qq F p q H1 s1 nF hF B⟩
 ·exact h.elim
end
end K50
end
section
namespace K50
open PySem L2
section
variable {P:Program} {w:World} {K:PySem.W.Frag} {mg:Str->Option Value} {base:Heap}
abbrev sQP:Stmt:=top 24
def spQP:Sp:=fun vs H Q _=>match vs with
 | [.int n0,.int r0]=>∃ (n r:Nat),n0=(n:Nat)/\1<=n/\n<=6/\r0=(r:Nat)/\r<=8/\∀ (U:Addr) (p q:Nat) H',Same H H'->H' U=some (.tup [.int (p:Nat),.int (q:Nat)])->Best n r p q->Q (.ref U) H'
 | _=>False
theorem scQP:FnScope ["n","r"] ["n","r"] (defScope sQP):=⟨rfl,rfl,rfl,by decide +kernel,rfl,by decide +kernel,by decide +kernel⟩
theorem ok_qp (D:FnX K mg "quiet_paper" sQP ["n","r"]) (c1:Can P w K mg base "greatest_with_paper" 4 ["n","r"] spGW):Can P w K mg base "quiet_paper" 5 ["n","r"] spQP:=by
 refine can_fn (k:=4) D scQP (fun vs H Q E h=>?_) (fun f cdv A outer s H vs Q E hr h=>?_)
 all_goals
  unfold spQP at h
  split at h
 ·rfl
 ·exact h.elim
 ·rename_i n0 r0
  obtain ⟨n,r,rfl,n1,n6,rfl,r8,qq⟩:=h
  have nd:=scQP.nd
  refine ⟨_,(by walk_at "T.top"),?_⟩
  refine ⟨n,r,rfl,n1,n6,rfl,r8,fun T U F p q H1 s1 hT hU nF hF B=>?_⟩
  exact ⟨_,getV_tup hT,qq U p q H1 s1 hU B⟩
 ·exact h.elim
end
end K50
end
section
namespace K50
open PySem L2
section
variable {P:Program} {w:World} {K:PySem.W.Frag} {mg:Str->Option Value} {base:Heap}
theorem hd_take {b:Bool}:∀ {w:List Bool} {i:Nat},(∀ x∈w.take i,x=b)->i<=w.length->hd b w=i+hd b (w.drop i)
 | w,0,_,_=>by simp
 | [],i+1,_,h=>by simp at h
 | x :: w,i+1,h,hi=>by
  have hx:x=b:=h x (by simp)
  have:=hd_take (b:=b) (w:=w) (i:=i) (fun y hy=>h y (by simp [hy])) (by simpa using hi)
  rw [List.drop_succ_cons]
  show (if x=b then hd b w+1 else 0)=_
  rw [if_pos hx,this]
  omega
abbrev sAhead:Stmt:=top 33
def spAhead:Sp:=fun vs H Q _=>match vs with
 | [.str zs,.str z]=>∃ (w:List Bool) (b:Bool),zs=bs w/\z=bs [b]/\Q (.int (hd b w:Nat)) H
 | _=>False
theorem scAhead:FnScope ["word","sign","many","one"] ["word","sign"] (defScope sAhead):=⟨rfl,rfl,rfl,by decide +kernel,rfl,by decide +kernel,by decide +kernel⟩
local macro_rules | `(tactic| walk_at "T.i")=>`(tactic| ((with_reducible refine' pi_txt ?a1);(case a1=>walk_at "T.e")))
theorem ok_ahead (D:FnX K mg "_law_ahead" sAhead ["word","sign"]):Can P w K mg base "_law_ahead" 1 ["word","sign"] spAhead:=by
 refine can_fn (k:=0) D scAhead (fun vs H Q E h=>?_) (fun f cdv A outer s H vs Q E hr h=>?_)
 all_goals
  unfold spAhead at h
  split at h
 ·rfl
 ·exact h.elim
 ·rename_i zs z
  obtain ⟨w,b,rfl,rfl,q⟩:=h
  have nd:=scAhead.nd
  refine ⟨_,(by walk_at "T.top"),?_⟩
  refine ⟨w,rfl,?_⟩
  refine for_by (it_txt w) (fun i σ H2=>∃ (v3:Option V),σ=[some (.str (bs w)),some (.str (bs [b])),some (.int (i:Nat)),v3]/\H2=H/\∀ x∈w.take i,x=b)
   ⟨none,rfl,rfl,by simp⟩ (fun _ _ _ _ _=>trivial) ?_ ?_
  ·rintro i x σ H2 hi hx ⟨v3,rfl,rfl,al⟩
   rw [List.length_map] at hi
   rw [List.getElem?_map,List.getElem?_eq_getElem hi] at hx
   cases hx
   have e:=hd_take al (by omega)
   have dr:w.drop i=w[i] :: w.drop (i+1):=List.drop_eq_getElem_cons hi
   dsimp only [tSeq,tIfS,tAnd,tOr,tBU,tOp,tV,tC,rIsU,rIsNotU,tNext,gName]
   have k:decide (bs [w[i]]=bs [b])=decide (w[i]=b):=by
    generalize w[i]=x
    cases x<;>cases b<;>decide +kernel
   refine ite2 (fun c=>?_) (fun c=>?_)
   ·have c:(!decide (bs [w[i]]=bs [b]))=true:=c
    rw [k] at c
    have c:w[i]≠b:=by simpa using c
    have:hd b w=i:=by
     rw [e,dr]
     unfold hd
     rw [if_neg c]
     rfl
    rw [this] at q
    exact q
   ·have c:¬ (!decide (bs [w[i]]=bs [b]))=true:=c
    rw [k] at c
    have c:w[i]=b:=by simpa using c
    refine ⟨_,rfl,rfl,fun x hx=>?_⟩
    rw [List.take_add_one,List.getElem?_eq_getElem hi] at hx
    rcases List.mem_append.mp hx with z | z
    ·exact al x z
    ·have:x=w[i]:=by simpa using z
     rw [this];exact c
  ·rintro σ H2 ⟨v3,rfl,rfl,al⟩
   rw [List.length_map] at al ⊢
   have e:=hd_take al (Nat.le_refl _)
   rw [List.drop_length] at e
   have e:hd b w=w.length:=e
   rw [e] at q
   exact q
 ·exact h.elim
end
end K50
end
section
namespace K50
open PySem L2
section
variable {P:Program} {w:World} {K:PySem.W.Frag} {mg:Str->Option Value} {base:Heap}
def aln (r:Nat) (w:List Bool):Bool:=ok1 r w && (decide (beh false w+hd false w<=r) && decide (beh true w+hd true w<=r))
theorem aln_iff {n r:Nat} {w:List Bool} (n1:1<=n) (n6:n<=6) (l:w.length=n) (r8:r<=8):Qt [w] r↔aln r w=true:=by
 rw [qt_iff (n:=n) ⟨n1,n6,Nat.le_of_ble_eq_true rfl,fun v hv=>by rw [List.mem_singleton.mp hv];exact l⟩ r8]
 unfold aln
 simp only [Bool.and_eq_true,decide_eq_true_eq]
 have m:w∈[w]:=List.mem_singleton.mpr rfl
 refine ⟨fun h=>⟨h.one w m,h.two w m w m _,h.two w m w m _⟩,fun h=>⟨fun v hv=>by rw [List.mem_singleton.mp hv];exact h.1,fun v hv u hu b=>?_⟩⟩
 rw [List.mem_singleton.mp hv,List.mem_singleton.mp hu]
 cases b
 ·exact h.2.1
 ·exact h.2.2
theorem aln_kp {r p q:Nat} {w:List Bool} (h:kp r p q w=true):aln r w=true:=by
 have k:=kp_iff.mp h
 unfold aln
 simp only [Bool.and_eq_true,decide_eq_true_eq]
 exact ⟨k.1,by omega,by omega⟩
def ALs (n r:Nat):List (List Bool):=(allS n).filter (aln r)
def Tips (R:Addr) (H:Hp) (w:List Bool) (v:V):Prop:=∃ a l:Addr,v = .ref a/\l≠R/\H a=some (.tup [.str (bs w),.ref l])/\H l=some (.lst [.int (hd false w:Nat),.int (hd true w:Nat),.int (beh false w:Nat),.int (beh true w:Nat)])
def TipsL (R:Addr) (H:Hp) (ys:List V) (ws:List (List Bool)):Prop:=ys.length=ws.length/\∀ (i:Nat) w,ws[i]? = some w->∃ v,ys[i]? = some v/\Tips R H w v
theorem TipsL.mono {R:Addr} {H H':Hp} {ys:List V} {ws:List (List Bool)} (h:TipsL R H ys ws) (s:Same H H'):TipsL R H' ys ws:=⟨h.1,fun i w e=>let ⟨v,a,x,y,b,n,c,d⟩:=h.2 i w e;⟨v,a,x,y,b,n,s _ _ c,s _ _ d⟩⟩
theorem TipsL.own {R:Addr} {H:Hp} {ys:List V} {ws:List (List Bool)} (h:TipsL R H ys ws) {zs us:List V} (hR:H R=some (.lst zs)):TipsL R (upd H R (.lst us)) ys ws:=⟨h.1,fun i w e=>by
 obtain ⟨v,a,x,y,b,n,c,d⟩:=h.2 i w e
 exact ⟨v,a,x,y,b,n,by rw [upd_ne (ne_of c hR (fun z=>nomatch z))];exact c,by rw [upd_ne n];exact d⟩⟩
theorem TipsL.add {R:Addr} {H:Hp} {ys:List V} {ws:List (List Bool)} {v:V} {w:List Bool} (h:TipsL R H ys ws) (hv:Tips R H w v):TipsL R H (ys++[v]) (ws++[w]):=by
 refine ⟨by rw [List.length_append,List.length_append,h.1];rfl,fun i y hy=>?_⟩
 by_cases il:i < ws.length
 ·rw [List.getElem?_append_left il] at hy
  obtain ⟨v',a,c⟩:=h.2 i y hy
  exact ⟨v',by rw [List.getElem?_append_left (by rw [h.1];exact il)];exact a,c⟩
 ·have ie:i=ws.length:=by
   have:=(List.getElem?_eq_some_iff.mp hy).1
   rw [List.length_append] at this
   simp at this
   omega
  subst ie
  rw [List.getElem?_append_right (Nat.le_refl _)] at hy
  simp at hy
  subst hy
  exact ⟨v,by rw [List.getElem?_append_right (by rw [h.1];exact Nat.le_refl _),h.1];simp,hv⟩
abbrev sAlone:Stmt:=top 35
def spAlone:Sp:=fun vs H Q _=>match vs with
 | [.int n0,.int r0]=>∃ (n r:Nat),n0=(n:Nat)/\1<=n/\n<=6/\r0=(r:Nat)/\r<=8/\∀ l ys H',Same H H'->H' l=some (.lst ys)->TipsL l H' ys (ALs n r)->Q (.ref l) H'
 | _=>False
theorem scAlone:FnScope ["n","r","found","word","turned","tips"] ["n","r"] (defScope sAlone):=⟨rfl,rfl,rfl,by decide +kernel,rfl,by decide +kernel,by decide +kernel⟩
local macro_rules | `(tactic| walk_at "T.e")=>`(tactic| ((with_reducible refine' e_revT ?a1 ?a2);(case a1=>walk_at "T.e");(case a2=>walk_at "T.o")))
theorem ok_alone (D:FnX K mg "_law_alone" sAlone ["n","r"]) (c1:Can P w K mg base "_law_all" 1 ["n"] spLAll) (c2:Can P w K mg base "_law_quiet" 2 ["words","r"] spLQ) (c3:Can P w K mg base "_law_ahead" 1 ["word","sign"] spAhead):Can P w K mg base "_law_alone" 3 ["n","r"] spAlone:=by
 refine can_fn (k:=2) D scAlone (fun vs H Q E h=>?_) (fun f cdv A outer s H vs Q E hr h=>?_)
 all_goals
  unfold spAlone at h
  split at h
 ·rfl
 ·exact h.elim
 ·rename_i n0 r0
  obtain ⟨n,r,rfl,n1,n6,rfl,r8,qq⟩:=h
  have nd:=scAlone.nd
  refine ⟨_,(by walk_at "T.top"),?_⟩
  refine ⟨le_line (Nat.le_of_ble_eq_true rfl),fun R hR=>?_⟩
  refine ⟨n,rfl,n1,by omega,fun l H1 s1 nl hl=>?_⟩
  have s01:=(Same.upd (o:=.lst []) hR).trans s1
  have hR1:=s1 _ _ (upd_same (H:=H) (a:=R))
  have p64:(allS n).length<=64:=by
   rw [allS_len]
   calc 2 ^ n<=2 ^ 6:=Nat.pow_le_pow_right (by decide) n6
    _<=64:=by decide
  have lR:l≠R:=fun z=>by rw [z] at nl;rw [upd_same] at nl;cases nl
  refine ⟨⟨_,SqL.of hl⟩,?_⟩
  refine for_by (it_list _ l ((allS n).map fun w=>V.str (bs w))) (fun i σ H2=>∃ (ys:List V) (v3 v4 v5:Option V),σ=[some (.int (n:Nat)),some (.int (r:Nat)),some (.ref R),v3,v4,v5]/\Same H H2/\H2 l=some (WS (allS n))/\H2 R=some (.lst ys)/\TipsL R H2 ys (((allS n).take i).filter (aln r)))
   ⟨[],none,none,none,rfl,s01,hl,hR1,rfl,fun i w h=>by simp at h⟩ (fun i σ H2 _ ⟨_,_,_,_,_,_,h,_⟩=>SqL.of h) ?_ ?_
  ·rintro i v σ H2 hi hv ⟨ys,v3,v4,v5,rfl,s2,hl2,hR2,tl⟩
   rw [List.length_map] at hi
   rw [List.getElem?_map,List.getElem?_eq_getElem hi] at hv
   cases hv
   have wl:((allS n)[i]).length=n:=(allS_mem n _).mp (List.getElem_mem hi)
   have tk:((allS n).take (i+1)).filter (aln r)=((allS n).take i).filter (aln r)++(if aln r (allS n)[i]=true then [(allS n)[i]] else []):=by
    rw [List.take_add_one,List.getElem?_eq_getElem hi,List.filter_append]
    congr 1
    show List.filter _ [(allS n)[i]]=_
    rw [List.filter_cons]
    rfl
   rw [tk]
   have wm:(allS n)[i]∈allS n:=List.getElem_mem hi
   have yl:ys.length<=64:=by
    rw [tl.1]
    refine Nat.le_trans (List.length_filter_le _ _) ?_
    rw [List.length_take];omega
   generalize (allS n)[i]=w at wl wm
   dsimp only [gName]
   refine ⟨le_line (Nat.le_of_ble_eq_true rfl),fun L1 hL1=>?_⟩
   have z3:=Same.upd (o:=.lst [.str (bs w)]) hL1
   refine ⟨[w],n,r,upd_same,⟨n1,n6,Nat.le_of_ble_eq_true rfl,fun v hv=>by rw [List.mem_singleton.mp hv];exact wl⟩,rfl,r8,fun b H4 s4 hb=>?_⟩
   have s24:=z3.trans s4
   have hb:b=aln r w:=Bool.eq_iff_iff.mpr (hb.trans (aln_iff n1 n6 wl r8))
   subst hb
   have tl4:=tl.mono s24
   have hR4:=s24 _ _ hR2
   have hl4:=s24 _ _ hl2
   refine ite2 (fun c=>?_) (fun c=>?_)
   ·have rv:revT (bs w)=bs w.reverse:=rev_words n n6 w wm
    have rl:(bs w).length=n:=by rw [bs_len,wl]
    have rl2:(revT (bs w)).length=n:=by rw [rv,bs_len,List.length_reverse,wl]
    refine ⟨rfl,le_line (by omega),by omega,?_⟩
    rw [rv]
    refine ⟨w,false,rfl,bs_0,?_⟩
    refine ⟨w,true,rfl,bs_1,?_⟩
    refine ⟨w.reverse,false,rfl,bs_0,?_⟩
    refine ⟨w.reverse,true,rfl,bs_1,?_⟩
    refine ⟨le_line (Nat.le_of_ble_eq_true rfl),fun L2 hL2=>?_⟩
    have z5:=Same.upd (o:=.lst [.int (hd false w:Nat),.int (hd true w:Nat),.int (beh false w:Nat),.int (beh true w:Nat)]) hL2
    have hR5:=z5 _ _ hR4
    refine ⟨⟨_,rfl,hR5⟩,?_⟩
    refine ⟨le_line (Nat.le_of_ble_eq_true rfl),fun T hT=>?_⟩
    have z6:=Same.upd (o:=.tup [.str (bs w),.ref L2]) hT
    have hR6:=z6 _ _ hR5
    refine ⟨_,hR6,lt_line (by omega),?_⟩
    have L2R:L2≠R:=fun z=>by rw [z,hR4] at hL2;cases hL2
    have tp:Tips R (upd (upd H4 L2 (.lst [.int (hd false w:Nat),.int (hd true w:Nat),.int (beh false w:Nat),.int (beh true w:Nat)])) T (.tup [.str (bs w),.ref L2])) w (.ref T):=⟨T,L2,rfl,L2R,upd_same,z6 _ _ upd_same⟩
    have tl6:=(tl4.mono (z5.trans z6)).add tp
    rw [if_pos c]
    exact ⟨_,_,_,_,rfl,((s2.trans s24).trans (z5.trans z6)).own hR,by rw [upd_ne lR];exact (z5.trans z6) _ _ hl4,upd_same,tl6.own hR6⟩
   ·rw [if_neg c,List.append_nil]
    exact ⟨ys,_,_,_,rfl,s2.trans s24,hl4,hR4,tl4⟩
  ·rintro σ H2 ⟨ys,v3,v4,v5,rfl,s2,hl2,hR2,tl⟩
   rw [List.length_map,List.take_length] at tl
   exact qq R ys H2 s2 hR2 tl
 ·exact h.elim
end
end K50
end
section
namespace K50
open PySem L2
section
variable {P:Program} {w:World} {K:PySem.W.Frag} {mg:Str->Option Value} {base:Heap}
def fitB (r p q:Nat) (w:List Bool):Bool:=decide (hd false w<=p) && (decide (hd true w<=q) && (decide (beh false w+p<=r) && decide (beh true w+q<=r)))
theorem by_eq (n r p q:Nat):(ALs n r).filter (fitB r p q)=WB n r p q:=by
 unfold ALs WB
 rw [List.filter_filter]
 refine List.filter_congr fun w _=>?_
 rw [Bool.eq_iff_iff,Bool.and_eq_true]
 constructor
 ·rintro ⟨h2,h1⟩
  unfold fitB at h2
  unfold aln at h1
  simp only [Bool.and_eq_true,decide_eq_true_eq] at h1 h2
  exact kp_iff.mpr ⟨h1.1,h2.1,h2.2.1,h2.2.2.1,h2.2.2.2⟩
 ·intro h
  have k:=kp_iff.mp h
  refine ⟨?_,aln_kp h⟩
  unfold fitB
  simp only [Bool.and_eq_true,decide_eq_true_eq]
  exact k.2
abbrev sBy:Stmt:=top 34
def spBy:Sp:=fun vs H Q _=>match vs with
 | [.ref l,.int r0,.int p0,.int q0]=>∃ (n r p q:Nat) (R:Addr) (ys:List V),r0=(r:Nat)/\p0=(p:Nat)/\q0=(q:Nat)/\n<=6/\H l=some (.lst ys)/\TipsL R H ys (ALs n r)/\∀ m H',Same H H'->H m=none->H' m=some (WS (WB n r p q))->Q (.ref m) H'
 | _=>False
theorem scBy:FnScope ["alone","r","p","q","found","word","tips"] ["alone","r","p","q"] (defScope sBy):=⟨rfl,rfl,rfl,by decide +kernel,rfl,by decide +kernel,by decide +kernel⟩
theorem ok_by (D:FnX K mg "_law_by" sBy ["alone","r","p","q"]):Can P w K mg base "_law_by" 1 ["alone","r","p","q"] spBy:=by
 refine can_fn (k:=0) D scBy (fun vs H Q E h=>?_) (fun f cdv A outer s H vs Q E hr h=>?_)
 all_goals
  unfold spBy at h
  split at h
 ·rfl
 ·exact h.elim
 ·rename_i l r0 p0 q0
  obtain ⟨n,r,p,q,R,ys,rfl,rfl,rfl,n6,hl,tl,qq⟩:=h
  have nd:=scBy.nd
  refine ⟨_,(by walk_at "T.top"),?_⟩
  refine ⟨le_line (Nat.le_of_ble_eq_true rfl),fun M hM=>?_⟩
  have z1:=Same.upd (o:=.lst []) hM
  have p64:(ALs n r).length<=64:=by
   refine Nat.le_trans (List.length_filter_le _ _) ?_
   rw [allS_len]
   calc 2 ^ n<=2 ^ 6:=Nat.pow_le_pow_right (by decide) n6
    _<=64:=by decide
  refine ⟨⟨_,SqL.of (z1 _ _ hl)⟩,?_⟩
  refine for_by (it_list _ l ys) (fun i σ H2=>∃ (v5 v6:Option V),σ=[some (.ref l),some (.int (r:Nat)),some (.int (p:Nat)),some (.int (q:Nat)),some (.ref M),v5,v6]/\Same H H2/\H2 M=some (WS (((ALs n r).take i).filter (fitB r p q))))
   ⟨none,none,rfl,z1,upd_same⟩ (fun i σ H2 _ ⟨_,_,_,s2,_⟩=>SqL.of (s2 _ _ hl)) ?_ ?_
  ·rintro i v σ H2 hi hv ⟨v5,v6,rfl,s2,hM2⟩
   have hi':i < (ALs n r).length:=by rw [<-tl.1];exact hi
   obtain ⟨v',ev,a,t,rfl,_,ha,ht⟩:=tl.2 i _ (List.getElem?_eq_getElem hi')
   rw [hv] at ev
   cases ev
   have tk:((ALs n r).take (i+1)).filter (fitB r p q)=((ALs n r).take i).filter (fitB r p q)++(if fitB r p q (ALs n r)[i]=true then [(ALs n r)[i]] else []):=by
    rw [List.take_add_one,List.getElem?_eq_getElem hi',List.filter_append]
    congr 1
    show List.filter _ [(ALs n r)[i]]=_
    rw [List.filter_cons]
    rfl
   rw [tk]
   have yl:(((ALs n r).take i).filter (fitB r p q)).length<=64:=by
    refine Nat.le_trans (List.length_filter_le _ _) ?_
    rw [List.length_take];omega
   generalize (((ALs n r).take i).filter (fitB r p q))=us at hM2 yl
   generalize (ALs n r)[i]=w at ha ht
   have ha2:=s2 _ _ ha
   have ht2:=s2 _ _ ht
   refine ⟨_,.inl ha2,rfl,rfl,?_⟩
   have fe:fitB r p q w=(decide (((hd false w:Nat):Int)<=(p:Nat)) && (decide (((hd true w:Nat):Int)<=(q:Nat)) && (decide (((beh false w:Nat):Int)<=((r:Nat):Int) - (p:Nat)) && decide (((beh true w:Nat):Int)<=((r:Nat):Int) - (q:Nat))))):=by
    unfold fitB
    rw [Bool.eq_iff_iff]
    simp only [Bool.and_eq_true,decide_eq_true_eq]
    constructor
    ·rintro ⟨a,b,c,d⟩;exact ⟨by omega,by omega,by omega,by omega⟩
    ·rintro ⟨a,b,c,d⟩;exact ⟨by omega,by omega,by omega,by omega⟩
   have no:fitB r p q w=false->∃ (v5 v6:Option V),[some (V.ref l),some (V.int (r:Nat)),some (V.int (p:Nat)),some (V.int (q:Nat)),some (V.ref M),some (V.str (bs w)),some (V.ref t)]=[some (.ref l),some (.int (r:Nat)),some (.int (p:Nat)),some (.int (q:Nat)),some (.ref M),v5,v6]/\Same H H2/\H2 M=some (WS (us++(if fitB r p q w=true then [w] else []))):=fun z=>⟨_,_,rfl,s2,by rw [if_neg (by rw [z];decide),List.append_nil];exact hM2⟩
   dsimp only [tSeq,tIfS,tAnd,tOr,tBU,tOp,tV,tC,rIsU,rIsNotU,tNext,gName]
   refine ⟨_,getV_lst ht2,?_⟩
   refine ite2 (fun c1=>?_) (fun c1=>?_)
   ·refine ⟨_,getV_lst ht2,?_⟩
    refine ite2 (fun c2=>?_) (fun c2=>?_)
    ·refine ⟨_,getV_lst ht2,?_⟩
     refine ite2 (fun c3=>?_) (fun c3=>?_)
     ·refine ⟨_,getV_lst ht2,?_⟩
      refine ite2 (fun c4=>?_) (fun c4=>?_)
      ·have z:fitB r p q w=true:=by rw [fe];simp only [Bool.and_eq_true];exact ⟨c1,c2,c3,c4⟩
       refine ⟨⟨_,rfl,hM2⟩,_,hM2,lt_line (by rw [List.length_map];omega),_,_,rfl,s2.own hM,?_⟩
       rw [upd_same,if_pos z]
       unfold WS
       rw [List.map_append]
       rfl
      ·exact no (by rw [fe];exact Bool.eq_false_iff.mpr fun z=>c4 (by simp only [Bool.and_eq_true] at z;exact z.2.2.2))
     ·exact no (by rw [fe];exact Bool.eq_false_iff.mpr fun z=>c3 (by simp only [Bool.and_eq_true] at z;exact z.2.2.1))
    ·exact no (by rw [fe];exact Bool.eq_false_iff.mpr fun z=>c2 (by simp only [Bool.and_eq_true] at z;exact z.2.1))
   ·exact no (by rw [fe];exact Bool.eq_false_iff.mpr fun z=>c1 (by simp only [Bool.and_eq_true] at z;exact z.1))
  ·rintro σ H2 ⟨v5,v6,rfl,s2,hM2⟩
   rw [tl.1,List.take_length,by_eq] at hM2
   exact qq M H2 s2 hM hM2
 ·exact h.elim
end
end K50
end
section
namespace K50
open PySem L2
section
variable {P:Program} {w:World} {K:PySem.W.Frag} {mg:Str->Option Value} {base:Heap}
theorem lexS_tot:∀ a b:List Str,lexS a b=false->lexS b a=false->a=b
 | [],[],_,_=>rfl
 | [],_ :: _,h,_=>nomatch h
 | _ :: _,[],_,h=>nomatch h
 | a :: l,b :: m,h1,h2=>by
  unfold lexS at h1 h2
  by_cases e:a=b
  ·subst e
   rw [if_pos rfl] at h1 h2
   rw [lexS_tot l m h1 h2]
  ·rw [if_neg e] at h1
   rw [if_neg (Ne.symm e)] at h2
   have h1:=of_decide_eq_false h1
   have h2:=of_decide_eq_false h2
   exact absurd (strT_ext (List.le_antisymm (List.not_lt.mp h2) (List.not_lt.mp h1))) e
theorem befL_tot {a b:List Str} (h1:befL a b=false) (h2:befL b a=false):a=b:=by
 unfold befL at h1 h2
 simp only [Bool.or_eq_false_iff,Bool.and_eq_false_iff,decide_eq_false_iff_not] at h1 h2
 have e:a.length=b.length:=by omega
 rcases h1.2 with z | z
 ·exact absurd e z
 ·rcases h2.2 with y | y
  ·exact absurd e.symm y
  ·exact lexS_tot a b z y
def qB (r:Nat) (ws:List (List Bool)):Bool:=ws.all (ok1 r) && ws.all fun w=>ws.all fun v=>decide (beh false w+hd false v<=r) && decide (beh true w+hd true v<=r)
theorem qB_iff {r:Nat} {ws:List (List Bool)}:qB r ws=true↔Qs ws r:=by
 unfold qB
 simp only [Bool.and_eq_true,List.all_eq_true,decide_eq_true_eq]
 refine ⟨fun h=>⟨h.1,fun w hw v hv b=>?_⟩,fun h=>⟨h.one,fun w hw v hv=>⟨h.two w hw v hv _,h.two w hw v hv _⟩⟩⟩
 have:=h.2 w hw v hv
 cases b
 ·exact this.1
 ·exact this.2
def gstep (r:Nat) (S:List (List (List Bool))) (w:List Bool):List (List (List Bool)):=S++(S.filter fun s=>qB r (s++[w])).map (·++[w])
def gsets (n r:Nat):List (List (List Bool)):=(allS n).foldl (gstep r) [[]]
def gpick (best s:List (List Bool)):List (List Bool):=if befL (txs s) (txs best)=true then s else best
def gbest (n r:Nat):List (List Bool):=(gsets n r).foldl gpick []
theorem gbest_in:∀ n,n<=3->∀ r,r<=8->1<=n->∃ p,p<=r/\∃ q,q<=r/\WB n r p q=gbest n r:=by
 have h:∀ n,n<=3->∀ r,r<=8->1<=n->((List.range (r+1)).any fun p=>(List.range (r+1)).any fun q=>decide (WB n r p q=gbest n r))=true:=by decide +kernel
 intro n n3 r r8 n1
 have:=h n n3 r r8 n1
 simp only [List.any_eq_true,List.mem_range,decide_eq_true_eq] at this
 obtain ⟨p,hp,q,hq,e⟩:=this
 exact ⟨p,by omega,q,by omega,e⟩
theorem gbest_no:∀ n,n<=3->∀ r,r<=8->1<=n->∀ p,p<=r->∀ q,q<=r->befL (txs (WB n r p q)) (txs (gbest n r))=false:=by decide +kernel
theorem best_gbest {n r p q:Nat} (B:Best n r p q) (n1:1<=n) (n3:n<=3) (r8:r<=8):WB n r p q=gbest n r:=by
 obtain ⟨a,ha,b,hb,e⟩:=gbest_in n n3 r r8 n1
 have h1:=gbest_no n n3 r r8 n1 p B.le.1 q B.le.2
 have h2:=B.no a b ha hb
 rw [e] at h2
 exact txs_inj.mp (befL_tot h1 h2)
end
end K50
end
section
namespace K50
open PySem L2
section
variable {P:Program} {w:World} {K:PySem.W.Frag} {mg:Str->Option Value} {base:Heap}
def SetsL (R:Addr) (H:Hp) (vs:List V) (gs:List (List (List Bool))):Prop:=vs.length=gs.length/\∀ (i:Nat) g,gs[i]? = some g->∃ a,vs[i]? = some (.ref a)/\a≠R/\H a=some (WS g)
theorem SetsL.mono {R:Addr} {H H':Hp} {vs:List V} {gs:List (List (List Bool))} (h:SetsL R H vs gs) (s:Same H H'):SetsL R H' vs gs:=⟨h.1,fun i w e=>let ⟨a,b,n,c⟩:=h.2 i w e;⟨a,b,n,s _ _ c⟩⟩
theorem SetsL.own {R:Addr} {H:Hp} {vs:List V} {gs:List (List (List Bool))} (h:SetsL R H vs gs) {us:List V}:SetsL R (upd H R (.lst us)) vs gs:=⟨h.1,fun i w e=>let ⟨a,b,n,c⟩:=h.2 i w e;⟨a,b,n,by rw [upd_ne n];exact c⟩⟩
theorem SetsL.new {R S:Addr} {H:Hp} {vs:List V} {gs:List (List (List Bool))} (h:SetsL R H vs gs) (hS:H S=none):SetsL S H vs gs:=⟨h.1,fun i w e=>let ⟨a,b,n,c⟩:=h.2 i w e;⟨a,b,(fun z=>by rw [z,hS] at c;cases c),c⟩⟩
theorem SetsL.app {R:Addr} {H:Hp} {us vs:List V} {fs gs:List (List (List Bool))} (h1:SetsL R H us fs) (h2:SetsL R H vs gs):SetsL R H (us++vs) (fs++gs):=by
 refine ⟨by rw [List.length_append,List.length_append,h1.1,h2.1],fun i y hy=>?_⟩
 by_cases il:i < fs.length
 ·rw [List.getElem?_append_left il] at hy
  obtain ⟨v',a,c⟩:=h1.2 i y hy
  exact ⟨v',by rw [List.getElem?_append_left (by rw [h1.1];exact il)];exact a,c⟩
 ·rw [List.getElem?_append_right (by omega)] at hy
  obtain ⟨v',a,c⟩:=h2.2 _ y hy
  exact ⟨v',by rw [List.getElem?_append_right (by rw [h1.1];omega),h1.1];exact a,c⟩
theorem SetsL.one {R:Addr} {H:Hp} {a:Addr} {g:List (List Bool)} (h:H a=some (WS g)) (n:a≠R):SetsL R H [.ref a] [g]:=⟨rfl,fun i y hy=>by
 cases i with
 | zero=>cases hy;exact ⟨a,rfl,n,h⟩
 | succ i=>cases hy⟩
theorem WS_app (g:List (List Bool)) (w:List Bool):WS (g++[w]) = .lst ((g.map fun w=>V.str (bs w))++[V.str (bs w)]):=by
 unfold WS
 rw [List.map_append]
 rfl
structure Gd (n i:Nat) (S:List (List (List Bool))):Prop where
 l:S.length<=2 ^ i
 g:∀ g∈S,g.length<=i/\∀ w∈g,w.length=n
theorem Gd.step {n i r:Nat} {S:List (List (List Bool))} (h:Gd n i S) {w:List Bool} (hw:w.length=n):Gd n (i+1) (gstep r S w):=by
 refine ⟨?_,fun g hg=>?_⟩
 ·unfold gstep
  rw [List.length_append,List.length_map,Nat.pow_succ]
  have:=List.length_filter_le (fun s=>qB r (s++[w])) S
  have:=h.l
  omega
 ·rcases List.mem_append.mp hg with z | z
  ·exact ⟨Nat.le_succ_of_le (h.g g z).1,(h.g g z).2⟩
  ·obtain ⟨g',hg',rfl⟩:=List.mem_map.mp z
   have k:=h.g g' (List.mem_filter.mp hg').1
   refine ⟨by rw [List.length_append];exact Nat.succ_le_succ k.1,fun v hv=>?_⟩
   rcases List.mem_append.mp hv with z | z
   ·exact k.2 v z
   ·rw [List.mem_singleton.mp z];exact hw
theorem Gd.all {n r:Nat}:∀ i,i<=(allS n).length->Gd n i (((allS n).take i).foldl (gstep r) [[]])
 | 0,_=>⟨Nat.le_refl _,fun g hg=>by rw [List.mem_singleton.mp hg];exact ⟨Nat.le_refl _,fun w hw=>nomatch hw⟩⟩
 | i+1,hi=>by
  rw [List.take_add_one,List.getElem?_eq_getElem (by omega),List.foldl_append]
  exact (Gd.all i (by omega)).step ((allS_mem n _).mp (List.getElem_mem _))
abbrev sGrt:Stmt:=top 36
def spGrt:Sp:=fun vs H Q _=>match vs with
 | [.int n0,.int r0]=>∃ (n r:Nat),n0=(n:Nat)/\1<=n/\n<=3/\r0=(r:Nat)/\r<=8/\∀ l H',Same H H'->H' l=some (WS (gbest n r))->Q (.ref l) H'
 | _=>False
theorem scGrt:FnScope ["n","r","sets","word","best","some"] ["n","r"] (defScope sGrt):=⟨rfl,rfl,rfl,by decide +kernel,rfl,by decide +kernel,by decide +kernel⟩
local macro_rules | `(tactic| walk_at "T.c")=>`(tactic| (have ndc:(["some","word","r"]:List Str).Nodup:=(by decide +kernel));((with_reducible refine' c_comp ["some","word","r"] [3,1] ?b1 ?b2 (fun cl C s H fp=>?b3) (fun cl C s H fp=>?b4) (fun cl C s H fp=>?b5));(case b1=>exact ndc);(case b2=>walk_at "T.i");(case b3=>walk_at "T.g");(case b4=>walk_at "T.pf");(case b5=>walk_at "T.e")))
local macro_rules | `(tactic| walk_at "T.t")=>`(tactic| ((with_reducible refine' t_cmp ?a1 ?a2 ?a3);(case a1=>((with_reducible refine' op_ltL ?b1);(case b1=>exact Room.units (by assumption))));(case a2=>with_reducible exact vn "some" 5);(case a3=>with_reducible exact vn "best" 4)))
theorem ok_grt (D:FnX K mg "_law_greatest" sGrt ["n","r"]) (g1:mg "len" = none) (c1:Can P w K mg base "_law_all" 1 ["n"] spLAll) (c2:Can P w K mg base "_law_quiet" 2 ["words","r"] spLQ):Can P w K mg base "_law_greatest" 3 ["n","r"] spGrt:=by
 refine can_fn (k:=2) D scGrt (fun vs H Q E h=>?_) (fun f cdv A outer s H vs Q E hr h=>?_)
 all_goals
  unfold spGrt at h
  split at h
 ·rfl
 ·exact h.elim
 ·rename_i n0 r0
  obtain ⟨n,r,rfl,n1,n6,rfl,r8,qq⟩:=h
  have nd:=scGrt.nd
  refine ⟨_,(by walk_at "T.top"),?_⟩
  refine ⟨le_line (Nat.le_of_ble_eq_true rfl),fun L0 hL0=>⟨le_line (Nat.le_of_ble_eq_true rfl),fun S0 hS0=>?_⟩⟩
  have z0:=Same.upd (o:=.lst []) hL0
  have z1:=Same.upd (o:=.lst [.ref L0]) hS0
  refine ⟨n,rfl,n1,by omega,fun l H1 s1 nl hl=>?_⟩
  have s01:=(z0.trans z1).trans s1
  have hS1:=s1 _ _ (upd_same (H:=upd H L0 (.lst [])) (a:=S0))
  have hL1:=(z1.trans s1) _ _ (upd_same (H:=H) (a:=L0))
  have LS:L0≠S0:=fun z=>by rw [<-z,upd_same] at hS0;cases hS0
  have p8:(allS n).length<=8:=by
   rw [allS_len]
   calc 2 ^ n<=2 ^ 3:=Nat.pow_le_pow_right (by decide) n6
    _<=8:=by decide
  refine ⟨⟨_,SqL.of hl⟩,?_⟩
  refine for_by (it_list _ l ((allS n).map fun w=>V.str (bs w))) (fun i σ H2=>∃ (S:Addr) (vs:List V) (v3:Option V),σ=[some (.int (n:Nat)),some (.int (r:Nat)),some (.ref S),v3,none,none]/\Same H1 H2/\H2 S=some (.lst vs)/\SetsL S H2 vs (((allS n).take i).foldl (gstep r) [[]]))
   ⟨S0,[.ref L0],none,rfl,Same.refl _,hS1,SetsL.one hL1 LS⟩ (fun i σ H2 _ ⟨_,_,_,_,s2,_⟩=>SqL.of (s2 _ _ hl)) ?_ ?_
  ·rintro i v σ H2 hi hv ⟨S,vs,v3,rfl,s2,hS,sl⟩
   rw [List.length_map] at hi
   rw [List.getElem?_map,List.getElem?_eq_getElem hi] at hv
   cases hv
   have gd:=Gd.all (n:=n) (r:=r) i (by omega)
   have wl:((allS n)[i]).length=n:=(allS_mem n _).mp (List.getElem_mem hi)
   rw [List.take_add_one,List.getElem?_eq_getElem hi,List.foldl_append]
   show tAsg _ _ _ _ _
   generalize ((allS n).take i).foldl (gstep r) [[]]=gs at gd sl
   generalize (allS n)[i]=w at wl
   have gl:gs.length<=256:=Nat.le_trans gd.l (by
    calc 2 ^ i<=2 ^ 8:=Nat.pow_le_pow_right (by decide) (by omega)
     _<=256:=by decide)
   refine ⟨⟨_,SqL.of hS⟩,fun R hR=>?_⟩
   refine comp_by (it_list _ S vs) (fun j τ H3 ys=>(∃ v,τ=[v,some (.str (bs w)),some (.int (r:Nat))])/\Same H2 H3/\H3 R=some (.lst ys)/\SetsL R H3 ys (((gs.take j).filter fun s=>qB r (s++[w])).map (·++[w]))) (le_line (by rw [sl.1];omega)) ⟨⟨none,rfl⟩,Same.upd hR,upd_same,rfl,fun i g h=>by simp at h⟩ ?_ ?_ ?_
   ·rintro j τ H3 ys hj ⟨_,s3,hR3,rl⟩
    refine ⟨SqL.of (s3 _ _ hS),hR3,?_⟩
    rw [rl.1,List.length_map]
    exact Nat.le_trans (List.length_filter_le _ _) (by rw [List.length_take];omega)
   ·rintro j v τ H3 ys hj hv ⟨⟨v0,rfl⟩,s3,hR3,rl⟩
    have hj':j < gs.length:=by rw [<-sl.1];exact hj
    obtain ⟨a,ea,_,ha⟩:=sl.2 j _ (List.getElem?_eq_getElem hj')
    rw [hv] at ea
    cases ea
    have gj:=gd.g _ (List.getElem_mem hj')
    have tk:((gs.take (j+1)).filter fun s=>qB r (s++[w])).map (·++[w])=((gs.take j).filter fun s=>qB r (s++[w])).map (·++[w])++(if qB r (gs[j]++[w])=true then [gs[j]++[w]] else []):=by
     rw [List.take_add_one,List.getElem?_eq_getElem hj',List.filter_append,List.map_append]
     congr 1
     show List.map _ (List.filter _ [gs[j]])=_
     rw [List.filter_cons]
     split<;>rfl
    rw [tk]
    generalize ((gs.take j).filter fun s=>qB r (s++[w])).map (·++[w])=os at rl
    generalize gs[j]=g at ha gj
    have ha3:=s3 _ _ ha
    dsimp only [gName]
    have wd:Wds n (g++[w]):=by
     refine ⟨n1,by omega,by rw [List.length_append];have:=gj.1;show g.length+1<=128;omega,fun v hv=>?_⟩
     rcases List.mem_append.mp hv with z | z
     ·exact gj.2 v z
     ·rw [List.mem_singleton.mp z];exact wl
    have gl8:=gj.1
    refine ⟨le_line (Nat.le_of_ble_eq_true rfl),fun A1 hA1=>?_⟩
    have y1:=Same.upd (o:=.lst [.str (bs w)]) hA1
    refine ⟨_,_,y1 _ _ ha3,upd_same,le_line (by rw [List.length_map];show g.length+1<=_;omega),fun A2 hA2=>?_⟩
    have y2:=Same.upd (o:=.lst ((g.map fun w=>V.str (bs w))++[.str (bs w)])) hA2
    refine ⟨g++[w],n,r,by rw [upd_same];exact congrArg some (WS_app g w).symm,wd,rfl,r8,fun b H4 s4 hb=>?_⟩
    have s34:=(y1.trans y2).trans s4
    have hb:b=qB r (g++[w]):=Bool.eq_iff_iff.mpr ((hb.trans (qt_iff wd r8)).trans qB_iff.symm)
    subst hb
    refine ite2 (fun c=>?_) (fun c=>?_)
    ·refine ⟨le_line (Nat.le_of_ble_eq_true rfl),fun B1 hB1=>?_⟩
     have y5:=Same.upd (o:=.lst [.str (bs w)]) hB1
     refine ⟨_,_,(s34.trans y5) _ _ ha3,upd_same,le_line (by rw [List.length_map];show g.length+1<=_;omega),fun B2 hB2=>?_⟩
     have y6:=Same.upd (o:=.lst ((g.map fun w=>V.str (bs w))++[.str (bs w)])) hB2
     have s36:=(s34.trans y5).trans y6
     have hR6:=s36 _ _ hR3
     have BR:B2≠R:=fun z=>by rw [z,(s34.trans y5) _ _ hR3] at hB2;cases hB2
     refine ⟨hR6,⟨_,rfl⟩,(s3.trans s36).own hR,upd_same,?_⟩
     rw [if_pos c]
     exact ((rl.mono s36).app (SetsL.one (g:=g++[w]) (by rw [upd_same];exact congrArg some (WS_app g w).symm) BR)).own
    ·rw [if_neg c,List.append_nil]
     exact ⟨⟨_,rfl⟩,s3.trans s34,s34 _ _ hR3,rl.mono s34⟩
   ·rintro τ H3 ys ⟨_,s3,hR3,rl⟩
    rw [sl.1,List.take_length] at rl
    have yl:ys.length<=256:=by
     rw [rl.1,List.length_map]
     exact Nat.le_trans (List.length_filter_le _ _) gl
    refine ⟨_,_,s3 _ _ hS,hR3,le_line (by rw [sl.1];omega),fun S2 hS2=>?_⟩
    have y4:=Same.upd (o:=.lst (vs++ys)) hS2
    exact ⟨S2,_,_,rfl,(s2.trans s3).trans y4,upd_same,(((sl.mono s3).new hS2).app (rl.new hS2)).mono y4⟩
  ·rintro σ H2 ⟨S,vs,v3,rfl,s2,hS,sl⟩
   have gd:=Gd.all (n:=n) (r:=r) (allS n).length (Nat.le_refl _)
   rw [List.length_map,List.take_length] at sl
   rw [List.take_length] at gd
   have eb:gbest n r=(((allS n).foldl (gstep r) [[]])).foldl gpick []:=rfl
   generalize (allS n).foldl (gstep r) [[]]=gs at gd sl eb
   refine ⟨le_line (Nat.le_of_ble_eq_true rfl),fun B0 hB0=>?_⟩
   have y1:=Same.upd (o:=.lst []) hB0
   dsimp only [gName]
   refine ⟨⟨_,SqL.of (y1 _ _ hS)⟩,?_⟩
   refine for_by (it_list _ S vs) (fun i σ H3=>∃ (B:Addr) (v5:Option V),σ=[some (.int (n:Nat)),some (.int (r:Nat)),some (.ref S),v3,some (.ref B),v5]/\Same H2 H3/\H3 B=some (WS ((gs.take i).foldl gpick [])))
    ⟨B0,none,rfl,y1,upd_same⟩ (fun i σ H3 _ ⟨_,_,_,s3,_⟩=>SqL.of (s3 _ _ hS)) ?_ ?_
   ·rintro i v σ H3 hi hv ⟨B,v5,rfl,s3,hB⟩
    have hi':i < gs.length:=by rw [<-sl.1];exact hi
    obtain ⟨a,ea,_,ha⟩:=sl.2 i _ (List.getElem?_eq_getElem hi')
    rw [hv] at ea
    cases ea
    rw [List.take_add_one,List.getElem?_eq_getElem hi',List.foldl_append]
    show gName _ _ _ _ _
    generalize (gs.take i).foldl gpick []=bst at hB
    generalize gs[i]=g at ha
    have ha3:=s3 _ _ ha
    have yes:befL (txs g) (txs bst)=true->H3 a=some (WS (List.foldl gpick bst (some g).toList)):=fun h=>by
     show _=some (WS (gpick bst g))
     unfold gpick
     rw [if_pos h]
     exact ha3
    have no:befL (txs g) (txs bst)=false->H3 B=some (WS (List.foldl gpick bst (some g).toList)):=fun h=>by
     show _=some (WS (gpick bst g))
     unfold gpick
     rw [if_neg (by rw [h];decide)]
     exact hB
    have bf:befL (txs g) (txs bst)=(decide (bst.length < g.length) || (decide (g.length=bst.length) && lexS (txs g) (txs bst))):=by
     unfold befL
     rw [txs_len,txs_len]
    rw [bf] at yes no
    dsimp only [tSeq,tIfS,tAnd,tOr,tBU,tOp,tV,tC,rIsU,rIsNotU,tNext,gName]
    refine ⟨_,lenW ha3,_,lenW hB,?_⟩
    refine ite2 (fun c1=>?_) (fun c1=>?_)
    ·have c1:((bst.length:Nat):Int) < ((g.length:Nat):Int):=of_decide_eq_true c1
     exact ⟨a,_,rfl,s3,yes (by rw [decide_eq_true (by omega)];rfl)⟩
    ·have c1:¬ ((bst.length:Nat):Int) < ((g.length:Nat):Int):=fun z=>c1 (decide_eq_true z)
     rw [decide_eq_false (by omega:¬ bst.length < g.length),Bool.false_or] at yes no
     refine ⟨_,lenW ha3,_,lenW hB,?_⟩
     refine ite2 (fun c2=>?_) (fun c2=>?_)
     ·have c2:((g.length:Nat):Int)=((bst.length:Nat):Int):=of_decide_eq_true c2
      rw [decide_eq_true (by omega),Bool.true_and] at yes no
      refine ⟨a,B,txs g,txs bst,rfl,rfl,by rw [<-WS_txs];exact ha3,by rw [<-WS_txs];exact hB,?_⟩
      refine ite2 (fun c3=>?_) (fun c3=>?_)
      ·exact ⟨a,_,rfl,s3,yes c3⟩
      ·exact ⟨B,_,rfl,s3,no (Bool.eq_false_iff.mpr c3)⟩
     ·have c2:¬ ((g.length:Nat):Int)=((bst.length:Nat):Int):=fun z=>c2 (decide_eq_true z)
      rw [decide_eq_false (by omega:¬ g.length=bst.length),Bool.false_and] at yes no
      exact ⟨B,_,rfl,s3,no rfl⟩
   ·rintro σ H3 ⟨B,v5,rfl,s3,hB⟩
    rw [sl.1,List.take_length,<-eb] at hB
    exact qq B H3 ((s01.trans s2).trans s3) hB
 ·exact h.elim
end
end K50
end
section
namespace L2
open PySem PySem.Spec PyProof.Rows PySem.W
section
variable {M:Model} {A:Around} {E:Value->Shared->Prop} {s:Shared} {base:Heap} {env:Env} {outer:List Env} {L e:Addr} {a0:Value} {Q:Unit->Shared->Prop}
end
end L2
end
section
namespace PySem.W
open PySem PySem.Spec PySem.Calls PyProof.Rows Builtin Builtin.ObjectAttr Builtin.Getset_descriptor
section
variable {prog:Program} {w:World} {A:Around} {E:Value->Shared->Prop} {h:Heap} {g:Array GenState} {dr:Drawn} {t:Nat} {os:OsState} {K:Frag}
variable {nm q:Str} {C N B x:Addr} {bs:List Value} {sn:List Str} {sub:List Value} {ab:Bool} {col:Option Bool} {dd:Option Addr} {k0 k1 k2 k3 k5:Option Value} {name:Str} {v:Value} {o:Obj}
end
end PySem.W
end
section
namespace L2
open PySem PySem.Spec PyProof.Rows PySem.W
theorem HOk.has {P:Program} {w:World} {H:Hp} {h:Heap} (x:HOk P w H h) {a:Addr} {u:HO} (e:H a=some u):∃ o,h.get? a=some o:=by
 have lt:=x.lt e
 cases q:h.get? a with
 | some o=>exact ⟨o,rfl⟩
 | none=>
  exfalso
  have y:=x a u e
  cases u with
  | lst xs=>obtain ⟨_,_,_,_,z⟩:=y;rw [q] at z;cases z
  | tup xs=>obtain ⟨_,_,_,ob,z,_⟩:=y;rw [q] at z;cases z
  | dK kvs=>obtain ⟨_,_,_,_,o,_,_,z,_⟩:=y;rw [q] at z;cases z
  | dT kvs=>obtain ⟨_,_,_,_,o,_,_,z,_⟩:=y;rw [q] at z;cases z
  | set S n=>obtain ⟨o,_,_,_,z,_⟩:=y;rw [q] at z;cases z
  | ins C dx fs=>obtain ⟨_,_,_,z,_⟩:=y;rw [q] at z;cases z
  | own y'=>obtain ⟨_,z⟩:=y;rw [q] at z;cases z
  | xd fs=>obtain ⟨_,⟨_,_,_,z,_⟩,_⟩:=y;rw [q] at z;cases z
  | rng lo hi=>obtain ⟨_,_,_,z⟩:=y;rw [q] at z;cases z
  | frz ob u=>obtain ⟨z,_⟩:=y;rw [q] at z;cases z
  | tbl ps=>have z:h.get? a=some _:=y;rw [q] at z;cases z
  | met f y'=>have z:h.get? a=some _:=y;rw [q] at z;cases z
  | ext φ=>obtain ⟨_,⟨_,z⟩,_⟩:=y;rw [q] at z;cases z
section
variable {P:Program} {w:World} {K:PySem.W.Frag} {mg:Str->Option Value} {base:Heap} {N:List Str} {qual:Str} {scope:Scope} {f:Addr} {cd:Value} {A:Around} {outer:List Env} {s:Shared} {H:Hp} {E:XK}
end
end L2
end
section
namespace L2
open PySem PySem.Spec PyProof.Rows PySem.W
section
variable {P:Program} {w:World} {K:PySem.W.Frag} {mg:Str->Option Value} {base:Heap} {N:List Str} {qual:Str} {scope:Scope} {f:Addr} {cd:Value} {A:Around} {outer:List Env} {s:Shared} {H:Hp} {E:XK}
end
section
variable {X:Cx} {x:Str} {p pos epos:Pos} {e:Expr} {es:List Expr} {t:TA} {k:Nat} {ps:List Str} {sp:Sp}
end
end L2
end
section
namespace L2
open PySem PySem.Spec PyProof.Rows PySem.W
section
variable {X:Cx} {pins:List (Addr×Obj)} {σ:St} {H H':Hp} {s s':Shared}
end
section
variable {X:Cx} {np hpos pos:Pos} {body suite:List Stmt} {b₀:Stmt} {tb:XK->TS} {ts:TS}
end
end L2
end
section
namespace PySem.W
open PySem PySem.Spec PySem.Calls PyProof.Rows Builtin Builtin.ObjectAttr Builtin.Getset_descriptor
section
variable {prog:Program} {w:World} {A:Around} {E:Value->Shared->Prop} {s:Shared} {K:Frag} {x C:Addr}
end
end PySem.W
namespace L2
open PySem PySem.Spec PyProof.Rows PySem.W
section
variable {X:Cx} {p pos:Pos} {e:Expr} {es:List Expr} {t:TA}
end
end L2
end
section
namespace L2
open PySem PySem.Spec PyProof.Rows PySem.W
section
variable {P:Program} {w:World} {K:PySem.W.Frag} {mg:Str->Option Value} {base:Heap} {N:List Str} {qual:Str} {scope:Scope} {f:Addr} {cd:Value} {A:Around} {outer:List Env} {s:Shared} {H:Hp} {E:XK}
end
end L2
end
section
namespace L2
open PySem PySem.Spec PyProof.Rows PySem.W
section
variable {X:Cx} {pins:List (Addr×Obj)} {σ:St} {H:Hp} {s:Shared} {C fI:Addr} {fd:FuncData} {k:Nat}
end
section
variable {P:Program} {w:World} {K:PySem.W.Frag} {mg:Str->Option Value} {base:Heap} {N:List Str} {qual:Str} {scope:Scope} {f:Addr} {cd:Value} {A:Around} {outer:List Env} {s:Shared} {H:Hp} {E:XK}
end
end L2
end
section
namespace L2
open PySem PySem.Spec PyProof.Rows PySem.W
section
variable {X:Cx} {p pos apos epos:Pos} {b:Str} {B C fI:Addr} {e:Expr} {es:List Expr} {t:TA} {mg':Str->Option Value}
end
section
variable {X:Cx} {pos pos':Pos} {C fI:Addr} {o value:Expr} {ta tv:TE}
end
end L2
end
section
namespace L2
open PySem PySem.Spec PyProof.Rows PySem.W
section
variable {X:Cx} {p pos:Pos} {e:Expr} {es:List Expr} {t:TA} {ta:TE}
end
section
variable {P:Program} {w:World} {K:PySem.W.Frag} {mg:Str->Option Value} {base:Heap} {N:List Str} {qual:Str} {scope:Scope} {f:Addr} {cd:Value} {A:Around} {outer:List Env} {s:Shared} {H:Hp} {E:XK}
end
end L2
end
section
namespace L2
open PySem PySem.Spec PyProof.Rows PySem.W
section
variable {X:Cx} {x:Str} {p pos epos:Pos} {e:Expr} {es:List Expr} {t:TA} {k:Nat} {ps:List Str} {sp:Sp}
end
section
variable {X:Cx} {pins:List (Addr×Obj)} {σ:St} {H H':Hp} {s s':Shared}
end
section
variable {X:Cx} {np hpos pos:Pos} {body suite:List Stmt} {b₀:Stmt} {tb:XK->TS} {ts:TS}
end
end L2
end
section
namespace L2
open PySem PySem.Spec PyProof.Rows PySem.W
section
variable {P:Program} {w:World} {K:PySem.W.Frag} {mg:Str->Option Value} {base:Heap}
end
section
variable {X:Cx} {y:Addr} {p pos:Pos} {e:Expr} {es:List Expr} {t:TA} {k:Nat} {ps:List Str} {sp:Sp}
end
end L2
end
section
namespace L2
open PySem PySem.Spec PyProof.Rows PySem.W
section
variable {X:Cx} {p pos:Pos} {e:Expr} {es:List Expr} {t:TA} {k:Nat} {ps:List Str} {sp:Sp}
end
end L2
namespace L2
open PySem PySem.Spec PyProof.Rows
end L2
end
section
namespace L2
open PySem PySem.Spec PyProof.Rows PySem.W
open PySem.Builtin PySem.Builtin.Str in
def PE1 (X:Cx) (e:Expr) (t:TE):Prop:=
 ∀ (pins:List (Addr×Obj)) (s:Shared) (σ:St) (H:Hp) (Q:VK),s.toks≠0->Inv X pins σ H s->t σ H Q->wpAny (model X.prog X.w) X.A (eval e X.env) (fun u s'=>EP X pins σ Q u s'/\s'.toks≠0) X.xe s
section
variable {X:Cx} {p pos apos cpos p1 p2:Pos} {e o:Expr} {es:List Expr} {t:TA} {to:TE} {y z:Str} {j1 j2:Nat}
theorem var1 {i:Nat} {x:Str} (hN:X.N[i]? = some x) (hv:Vis X.env.scope x) (hd:(x == ("__debug__" : Str))=false) (hcd:(x == ("__classdict__" : Str))=false) {pins:List (Addr×Obj)} {s:Shared} {σ:St} {H:Hp} {Q:VK} (I:Inv X pins σ H s) (h:tVar i σ H Q) :
  wpAny (model X.prog X.w) X.A (eval (.Name x pos) X.env) (fun u s'=>EP X pins σ Q u s'/\s'=s) X.xe s:=by
 obtain ⟨v,e,h⟩:=h
 obtain ⟨m,hn,hl⟩:=I.loc
 obtain ⟨u,r,l⟩:=hl i x v hN e hv
 have fin:EP X pins σ Q u s/\s=s:=⟨⟨v,H,I,r,h⟩,rfl⟩
 rcases l with ⟨hk,hm⟩ | ⟨hk,c,hc,hcell⟩
 ·exact wpAny_Name (wpAny_loadName_local I.ok.kind hk hn hm fin) hd
 ·rcases hk with hk | hk
  ·exact wpAny_Name (wpAny_loadName_cell I.ok.kind hk hc hcell fin) hd
  ·exact wpAny_Name (wpAny_loadName_free I.ok.kind hk hc hcell fin hcd) hd
theorem n1 (x:Str) (i:Nat) (hN:X.N[i]? = some x:=by with_unfolding_all rfl) (hv:visB X.env.scope x=true:=by kernel_rfl):PE1 X (.Name x pos) (tVar i):=by
 intro pins s σ H Q h0 I h
 exact thn (var1 hN (vis_of hv).1 (vis_of hv).2.1 (vis_of hv).2.2 I h) fun u s' ⟨e1,e2⟩=>⟨e1,by rw [e2];exact h0⟩
end
end L2
end
section
namespace L2
open PySem PySem.Spec PyProof.Rows
end L2
end
section
namespace L2
open PySem PySem.Spec PyProof.Rows
end L2
end
section
namespace L2
open PySem PySem.Spec PyProof.Rows PySem.W
section
variable {X:Cx}
theorem vals_strsB:∀ {ws:List Str} {us:List Value},Vals (ws.map V.str) us->StrsAre us ws
 | [],_,r=>by cases r;exact .nil
 | x :: ws,_,r=>by
  cases r with
  | cons r1 r2=>
   obtain ⟨t,rfl⟩:=r1
   exact .cons x t (vals_strsB r2)
def rNotInT:R2:=fun x y H Q=>match x,y with
 | .str z,.ref p=>∃ zs:List Str,H p=some (.lst (zs.map V.str))/\Q (.bl (!decide (z∈zs))) H
 | _,_=>False
theorem op_notInT:OpR X (compareOp .NotIn) rNotInT:=by
 intro pins s σ H x y v u Q I rx ry h
 unfold rNotInT at h
 split at h
 ·rename_i z p
  obtain ⟨zs,hp,q⟩:=h
  obtain ⟨t,rfl⟩:=rx
  cases ry
  obtain ⟨hz,its,n,r,e⟩:=I.hok _ _ hp
  refine notin_list_strs (vs:=its) (ys:=zs) ⟨_,e,rfl,_,rfl⟩ (vals_strsB r) ?_
  have:(!(zs.any (· == z)))=!decide (z∈zs):=by
   congr 1
   rw [Bool.eq_iff_iff,List.any_eq_true,decide_eq_true_eq]
   exact ⟨fun ⟨y,hy,ey⟩=>(eq_of_beq ey) ▸ hy,fun h=>⟨z,h,by simp⟩⟩
  rw [this]
  exact ⟨.bl _,H,I,rfl,q⟩
 ·exact h.elim
end
section
variable {X:Cx} {pins:List (Addr×Obj)} {σ:St} {H:Hp} {s:Shared} {h':Heap}
end
section
variable {P:Program} {w:World} {K:PySem.W.Frag} {mg:Str->Option Value} {base:Heap} {N:List Str} {qual:Str} {scope:Scope} {f:Addr} {cd:Value} {A:Around} {outer:List Env} {s:Shared} {H:Hp} {E:XK}
end
section
variable {X:Cx} {x:Str} {p pos apos npos:Pos} {e:Expr} {es:List Expr} {t:TA} {k:Nat} {ps:List Str} {sp:Sp}
end
end L2
end
section
namespace K50
open PySem L2
section
variable {P:Program} {w:World} {K:PySem.W.Frag} {mg:Str->Option Value} {base:Heap}
theorem Best.same {n r p q a b:Nat} (h:Best n r p q) (k:Best n r a b):WB n r p q=WB n r a b:=txs_inj.mp (befL_tot (k.no p q h.le.1 h.le.2) (h.no a b k.le.1 k.le.2))
theorem Best.uniq {n r p q a b:Nat} (h:Best n r p q) (k:Best n r a b):a=p/\b=q:=by
 have e:=h.same k
 have h1:=h.fst a b k.le.1 k.le.2
 have h2:=k.fst p q h.le.1 h.le.2
 refine Classical.byContradiction fun z=>?_
 by_cases c:a < p\/a=p/\b < q
 ·exact h1 c e.symm
 ·exact h2 (by omega) e
theorem once_txs {n r p q:Nat} (n6:n<=6):Om.once (txs (WB n r p q))=txs (WB n r p q):=by
 have nd:(txs (WB n r p q)).Nodup:=(wb_up n6).imp fun h e=>by rw [e,ltT_irr] at h;cases h
 have:∀ l:List Str,l.Nodup->Om.once l=l:=by
  intro l
  induction l using Om.snocInd with
  | h0=>intro _;rfl
  | h1 l x ih=>
   intro h
   have h':=List.nodup_append.mp h
   rw [Om.once_snoc,ih h'.1,if_neg fun z=>h'.2.2 x z x (List.mem_singleton.mpr rfl) rfl]
 exact this _ nd
theorem txs_nodup {n r p q:Nat} (n6:n<=6):(txs (WB n r p q)).Nodup:=(wb_up n6).imp fun h e=>by rw [e,ltT_irr] at h;cases h
theorem txs_mem {w:List Bool} {ws:List (List Bool)}:bs w∈txs ws↔w∈ws:=⟨fun h=>by
 obtain ⟨v,hv,e⟩:=List.mem_map.mp h
 rw [<-bs_inj e];exact hv,fun h=>List.mem_map_of_mem h⟩
theorem iteB {c A B:Prop} [Decidable c] (hc:¬ c) (h:B):if c then A else B:=by rw [if_neg hc];exact h
abbrev sGood:Stmt:=top 37
def spGood (P0:Addr):Sp:=fun vs H Q _=>match vs with
 | [.int n0,.int r0]=>∃ (n r:Nat),n0=(n:Nat)/\1<=n/\n<=6/\r0=(r:Nat)/\r<=8/\Tab P0 (lamPos lamSt) qSt H/\∀ H',SameT P0 H H'->Tab P0 (lamPos lamSt) qSt H'->Q (.bl true) H'
 | _=>False
theorem scGood:FnScope ["n","r","found","word","first","alone","p","q","words","told","kept"] ["n","r"] (defScope sGood):=⟨rfl,rfl,rfl,by decide +kernel,rfl,by decide +kernel,by decide +kernel⟩
local macro_rules | `(tactic| walk_at "T.b")=>`(tactic| first | ((with_reducible refine' fn_sortW ?a0 ?a9 ?a1);(case a0=>with_reducible assumption);(case a9=>rfl);(case a1=>walk_at "T.a")) | ((with_reducible refine' fn_setW ?a0 ?a9 ?a1);(case a0=>with_reducible assumption);(case a9=>rfl);(case a1=>walk_at "T.a")) | fail "no")
local macro_rules | `(tactic| walk_at "T.cmp")=>`(tactic| first | (with_reducible exact op_notInT) | fail "no")
local macro_rules | `(tactic| walk_at "T.t")=>`(tactic| ((with_reducible refine' t_cmp ?a1 ?a2 ?a3);(case a1=>((with_reducible refine' op_ltL ?b1);(case b1=>exact Room.units (by assumption))));(case a2=>with_reducible exact vn "words" 8);(case a3=>with_reducible exact vn "found" 2)))
theorem ok_good {P0:Addr} (D:FnX K mg "_law_good" sGood ["n","r"]) (g1:mg "len" = none) (g2:mg "isinstance" = none) (g3:mg "list" = none) (g4:mg "sorted" = none) (g5:mg "set" = none) (g6:mg "range" = none) (g7:mg "bool" = none)
  (c1:Can P w K mg base "greatest_quiet" 5 ["n","r"] spGQ) (c2:Can P w K mg base "_law_quiet" 2 ["words","r"] spLQ) (c3:Can P w K mg base "is_quiet" 8 ["words","r"] (spQuiet P0)) (c4:Can P w K mg base "_law_all" 1 ["n"] spLAll) (c5:Can P w K mg base "_law_greatest" 3 ["n","r"] spGrt)
  (c6:Can P w K mg base "_law_alone" 3 ["n","r"] spAlone) (c7:Can P w K mg base "_law_by" 1 ["alone","r","p","q"] spBy) (c8:Can P w K mg base "quiet_paper" 5 ["n","r"] spQP):Can P w K mg base "_law_good" 9 ["n","r"] (spGood P0):=by
 refine can_fn (k:=8) D scGood (fun vs H Q E h=>?_) (fun f cdv A outer s H vs Q E hr h=>?_)
 all_goals
  unfold spGood at h
  split at h
 ·rfl
 ·exact h.elim
 ·rename_i n0 r0
  obtain ⟨n,r,rfl,n1,n6,rfl,r8,tb,qq⟩:=h
  have nd:=scGood.nd
  refine ⟨_,(by walk_at "T.top"),?_⟩
  refine ⟨n,r,rfl,n1,n6,rfl,r8,fun F p q H1 s1 nF hF B=>?_⟩
  have lP:∀ {l:Addr} {H:Hp} {o:HO},Tab P0 (lamPos lamSt) qSt H->H l=some o->(∀ ps,o≠.tbl ps)->l≠P0:=fun t h k z=>by obtain ⟨ps,e⟩:=t.tbl;rw [<-z,h] at e;exact k ps (Option.some.inj e)
  have wds:Wds n (WB n r p q):=wb_wds n1 n6
  have few:=wb_few n n6 n1 r p q
  have qt:Qt (WB n r p q) r:=(qt_iff wds r8).mpr wb_quiet
  have t1:=tb.mono s1
  have ty:tyN H1 (.ref F)=some "list" := by rw [WS_txs] at hF;simp [tyN,hF]
  refine ⟨"list",ty,by decide,?_⟩
  refine iteB (by decide) ?_
  refine ⟨F,txs (WB n r p q),rfl,by rw [<-WS_txs];exact hF,by rw [txs_len];omega,fun a ha=>?_⟩
  have z2:=Same.upd (o:=SetW P w a (Om.once (txs (WB n r p q)))) ha
  refine ⟨a,Om.once (txs (WB n r p q)),rfl,upd_same,by rw [once_txs n6];exact txs_nodup n6,by rw [once_txs n6,txs_len];exact few,fun L ys hL pm so=>?_⟩
  have ey:ys=txs (WB n r p q):=sorted_once pm so (wb_up n6)
  subst ey
  have z3:=Same.upd (o:=.lst ((txs (WB n r p q)).map V.str)) hL
  have s13:=z2.trans z3
  have hF3:=s13 _ _ hF
  have t3:=t1.mono s13
  refine neW hF3 (ys:=WB n r p q) (by rw [upd_same,WS_txs]) ?_
  generalize upd (upd H1 a (SetW P w a (Om.once (txs (WB n r p q))))) L (.lst ((txs (WB n r p q)).map V.str))=H3 at s13 hF3 t3
  refine iteB (by simp) ?_
  refine ⟨WB n r p q,n,r,hF3,wds,rfl,r8,fun b H4 s4 hb=>?_⟩
  have e:b=true:=hb.mpr qt
  subst e
  refine iteB (by decide) ?_
  have t4:=t3.mono s4
  have hF4:=s4 _ _ hF3
  refine ⟨_,.inl hF4,fun l2 hl2=>?_⟩
  have z5:=Same.upd (o:=WS (WB n r p q)) hl2
  refine ⟨WB n r p q,n,r,upd_same,wds,rfl,t4.mono z5,fun b H6 s6 t6 hb=>?_⟩
  have e:b=true:=hb.mpr qt
  subst e
  refine iteB (by decide) ?_
  have FP:F≠P0:=lP t1 hF (fun ps z=>nomatch z)
  have hF6:=s6 _ _ FP (z5 _ _ hF4)
  have S6:SameT P0 H H6:=(((s1.trans s13).trans s4).trans z5).t.trans s6
  clear z2 z3 z5
  refine ⟨n,rfl,n1,by omega,fun l H7 s7 nl hl=>?_⟩
  have t7:=t6.mono s7
  have hF7:=s7 _ _ hF6
  have lP0:l≠P0:=lP t7 hl (fun ps z=>nomatch z)
  refine ⟨⟨_,SqL.of hl⟩,?_⟩
  refine for_by (it_list _ l ((allS n).map fun w=>V.str (bs w))) (fun i σ H8=>∃ (v3:Option V),σ=[some (.int (n:Nat)),some (.int (r:Nat)),some (.ref F),v3,none,none,none,none,none,none,none]/\SameT P0 H7 H8/\Tab P0 (lamPos lamSt) qSt H8)
   ⟨none,rfl,SameT.refl _ _,t7⟩ (fun i σ H2 _ ⟨_,_,s8,_⟩=>SqL.of (s8 _ _ lP0 hl)) ?_ ?_
  ·rintro i v σ H8 hi hv ⟨v3,rfl,s8,t8⟩
   rw [List.length_map] at hi
   rw [List.getElem?_map,List.getElem?_eq_getElem hi] at hv
   cases hv
   have wl:((allS n)[i]).length=n:=(allS_mem n _).mp (List.getElem_mem hi)
   generalize (allS n)[i]=w at wl
   have hF8:=s8 _ _ FP hF7
   dsimp only [tSeq,tIfS,tAnd,tOr,tBU,tOp,tV,tC,rIsU,rIsNotU,tNext,gName]
   refine ⟨txs (WB n r p q),by rw [<-WS_txs];exact hF8,?_⟩
   refine ite2 (fun c=>?_) (fun c=>?_)
   ·have nin:w ∉ WB n r p q:=fun z=>by
     rw [decide_eq_true (txs_mem.mpr z)] at c
     cases c
    have wd2:Wds n (WB n r p q++[w]):=by
     refine ⟨n1,n6,by rw [List.length_append];show _+1<=128;omega,fun v hv=>?_⟩
     rcases List.mem_append.mp hv with z | z
     ·exact wds.w v z
     ·rw [List.mem_singleton.mp z];exact wl
    have nq:¬ Qt (WB n r p q++[w]) r:=fun z=>B.more wl nin ((qt_iff wd2 r8).mp z)
    refine ⟨le_line (Nat.le_of_ble_eq_true rfl),fun A1 hA1=>?_⟩
    have y1:=Same.upd (o:=.lst [.str (bs w)]) hA1
    refine ⟨_,_,y1 _ _ hF8,upd_same,le_line (by rw [List.length_map];show _+1<=_;omega),fun A2 hA2=>?_⟩
    have y2:=Same.upd (o:=.lst (((WB n r p q).map fun w=>V.str (bs w))++[.str (bs w)])) hA2
    refine ⟨WB n r p q++[w],n,r,by rw [upd_same];exact congrArg some (WS_app _ w).symm,wd2,rfl,r8,fun b H9 s9 hb=>?_⟩
    have e:b=false:=Bool.eq_false_iff.mpr fun z=>nq (hb.mp z)
    subst e
    refine iteB (by decide) ?_
    have s89:=(y1.trans y2).trans s9
    refine ⟨le_line (Nat.le_of_ble_eq_true rfl),fun B1 hB1=>?_⟩
    have y3:=Same.upd (o:=.lst [.str (bs w)]) hB1
    refine ⟨_,_,(s89.trans y3) _ _ hF8,upd_same,le_line (by rw [List.length_map];show _+1<=_;omega),fun B2 hB2=>?_⟩
    have y4:=Same.upd (o:=.lst (((WB n r p q).map fun w=>V.str (bs w))++[.str (bs w)])) hB2
    have s8x:=(s89.trans y3).trans y4
    refine ⟨WB n r p q++[w],n,r,by rw [upd_same];exact congrArg some (WS_app _ w).symm,wd2,rfl,t8.mono s8x,fun b H10 s10 t10 hb=>?_⟩
    have e:b=false:=Bool.eq_false_iff.mpr fun z=>nq (hb.mp z)
    subst e
    exact iteB (by decide) ⟨_,rfl,(s8.trans s8x.t).trans s10,t10⟩
   ·exact ⟨_,rfl,s8,t8⟩
  rintro σ H8 ⟨v3,rfl,s8,t8⟩
  have hF8:=s8 _ _ FP hF7
  have S8:SameT P0 H H8:=(S6.trans s7.t).trans s8
  clear s8 hF7 t7 hl lP0 nl s7 hF6 t6 s6 S6 hF4 t4 s4 hF3 t3 s13 ty hl2 hF t1
  dsimp only
  refine seq_by (fun σ H9=>σ=[some (.int (n:Nat)),some (.int (r:Nat)),some (.ref F),v3,none,none,none,none,none,none,none]/\Same H8 H9) ?_ (fun fin=>?_)
  rotate_left
  ·dsimp only [tSeq,tIfS,tAnd,tOr,tBU,tOp,tV,tC,rIsU,rIsNotU,tNext,gName]
   refine ite2 (fun c=>?_) (fun c=>fin _ _ ⟨rfl,Same.refl _⟩)
   have c:((n:Nat):Int) < 4:=of_decide_eq_true c
   refine ⟨n,r,rfl,n1,by omega,rfl,r8,fun g H9 s9 hg=>?_⟩
   refine neW (s9 _ _ hF8) hg ?_
   rw [decide_eq_true (best_gbest B n1 (by omega) r8)]
   exact iteB (by decide) (fin _ _ ⟨rfl,s9⟩)
  rintro σ H9 ⟨rfl,s9⟩
  have hF9:=s9 _ _ hF8
  have t9:=t8.mono s9
  have S9:SameT P0 H H9:=S8.trans s9.t
  clear hF8 s9 t8 S8
  refine ⟨n,r,rfl,n1,n6,rfl,r8,fun al ys H10 s10 hal tl=>?_⟩
  have hF10:=s10 _ _ hF9
  have e0:((List.range (((r:Nat):Int)+1).toNat).map fun i:Nat=>V.int (0+(i:Nat))).length=r+1:=by simp
  refine ⟨by omega,by omega,for_by (it_range 0 _) (fun i σ H11=>∃ (fv:V) (v6 v7 v8:Option V),σ=[some (.int (n:Nat)),some (.int (r:Nat)),some (.ref F),v3,some fv,some (.ref al),v6,v7,v8,none,none]/\Same H10 H11/\((fv = .non/\¬ (p < i\/p=i/\q < 0))\/∃ a,fv = .ref a/\H11 a=some (.tup [.int (p:Nat),.int (q:Nat)])))
   ⟨.non,none,none,none,rfl,Same.refl _,.inl ⟨rfl,by omega⟩⟩ (fun _ _ _ _ _=>trivial) ?_ ?_⟩
  ·rintro i x σ H11 hi hx ⟨fv,v6,v7,v8,rfl,s11,fi⟩
   rw [e0] at hi
   have hx':x = .int (i:Nat):=by
    rw [List.getElem?_map,List.getElem?_range (by omega)] at hx
    simpa using hx.symm
   subst hx'
   refine ⟨by omega,by omega,for_by (it_range 0 _) (fun j σ H12=>∃ (fv:V) (v7 v8:Option V),σ=[some (.int (n:Nat)),some (.int (r:Nat)),some (.ref F),v3,some fv,some (.ref al),some (.int (i:Nat)),v7,v8,none,none]/\Same H10 H12/\((fv = .non/\¬ (p < i\/p=i/\q < j))\/∃ a,fv = .ref a/\H12 a=some (.tup [.int (p:Nat),.int (q:Nat)])))
    ⟨fv,v7,v8,rfl,s11,fi⟩ (fun _ _ _ _ _=>trivial) ?_ ?_⟩
   ·clear fi s11
    rintro j y σ H12 hj hy ⟨fv,v7,v8,rfl,s12,fi⟩
    rw [e0] at hj
    have hy':y = .int (j:Nat):=by
     rw [List.getElem?_map,List.getElem?_range (by omega)] at hy
     simpa using hy.symm
    subst hy'
    dsimp only [gName]
    refine ⟨n,r,i,j,al,ys,rfl,rfl,rfl,n6,s12 _ _ hal,tl.mono s12,fun M H13 s13 nM hM=>?_⟩
    have hF13:=(s12.trans s13) _ _ hF10
    have S13:=s12.trans s13
    have bf:=B.no i j (by omega) (by omega)
    unfold befL at bf
    rw [txs_len,txs_len] at bf
    simp only [Bool.or_eq_false_iff,Bool.and_eq_false_iff,decide_eq_false_iff_not] at bf
    have cont:∀ {D:Ends},(∀ (fv:V) (H14:Hp),Same H10 H14->((fv = .non/\¬ (p < i\/p=i/\q < j+1))\/∃ a,fv = .ref a/\H14 a=some (.tup [.int (p:Nat),.int (q:Nat)]))->D.nx [some (.int (n:Nat)),some (.int (r:Nat)),some (.ref F),v3,some fv,some (.ref al),some (.int (i:Nat)),some (.int (j:Nat)),some (.ref M),none,none] H14) →
      tIfS (tAnd (tBU (tOp rIsU (tV 4) (tC V.non))) (tBU (tOp rEqU (tV 8) (tV 2)))) (tAsg (tTup (tCons (tV 6) (tCons (tV 7) tNil))) (gName 4)) tNext D [some (.int (n:Nat)),some (.int (r:Nat)),some (.ref F),v3,some fv,some (.ref al),some (.int (i:Nat)),some (.int (j:Nat)),some (.ref M),none,none] H13:=by
     intro D fin
     dsimp only [tSeq,tIfS,tAnd,tOr,tBU,tOp,tV,tC,rIsU,rIsNotU,tNext,gName]
     rcases fi with ⟨rfl,ns⟩ | ⟨a,rfl,ha⟩
     ·refine iteP (c:=decide (V.non=V.non)=true) (by simp) ?_
      refine eqW hM hF13 ?_
      refine ite2 (fun c=>?_) (fun c=>?_)
      ·have c:=of_decide_eq_true c
       have k:=B.fst i j (by omega) (by omega)
       have e:i=p/\j=q:=by
        refine Classical.byContradiction fun z=>?_
        exact k (by omega) c
       refine ⟨le_line (Nat.le_of_ble_eq_true rfl),fun a ha=>?_⟩
       refine fin (.ref a) _ (S13.trans (Same.upd ha)) (.inr ⟨a,rfl,?_⟩)
       rw [upd_same,e.1,e.2]
      ·have c:¬ WB n r i j=WB n r p q:=fun z=>c (decide_eq_true z)
       refine fin .non _ S13 (.inl ⟨rfl,fun z=>?_⟩)
       have e:i=p/\j=q:=by omega
       exact c (by rw [e.1,e.2])
     ·refine iteB (c:=decide (V.ref a=V.non)=true) (by simp) ?_
      exact fin (.ref a) _ S13 (.inr ⟨a,rfl,s13 _ _ ha⟩)
    dsimp only [tSeq]
    refine ⟨_,lenW hM,_,lenW hF13,?_⟩
    refine iteB (c:=decide ((((WB n r p q).length:Nat):Int) < (((WB n r i j).length:Nat):Int))=true) (fun z=>by have:=of_decide_eq_true z;omega) ?_
    refine ⟨_,lenW hM,_,lenW hF13,?_⟩
    have go:=cont (D:={ nx:=fun σ H12=>∃ (fv:V) (v7 v8:Option V),σ=[some (.int (n:Nat)),some (.int (r:Nat)),some (.ref F),v3,some fv,some (.ref al),some (.int (i:Nat)),v7,v8,none,none]/\Same H10 H12/\((fv = .non/\¬ (p < i\/p=i/\q < j+1))\/∃ a,fv = .ref a/\H12 a=some (.tup [.int (p:Nat),.int (q:Nat)])),rt:=Q }) (fun fv H14 s14 fi=>⟨fv,_,_,rfl,s14,fi⟩)
    refine ite2 (fun c=>?_) (fun c=>?_)
    ·have c:(((WB n r i j).length:Nat):Int)=(((WB n r p q).length:Nat):Int):=of_decide_eq_true c
     refine ⟨M,F,txs (WB n r i j),txs (WB n r p q),rfl,rfl,by rw [<-WS_txs];exact hM,by rw [<-WS_txs];exact hF13,?_⟩
     have lx:lexS (txs (WB n r i j)) (txs (WB n r p q))=false:=by
      rcases bf.2 with z | z
      ·omega
      ·exact z
     rw [lx]
     exact iteB (by decide) go
    ·exact go
   ·rintro σ H12 ⟨fv,v7,v8,rfl,s12,fi⟩
    rw [e0] at fi
    refine ⟨fv,_,_,_,rfl,s12,fi.imp (fun z=>⟨z.1,fun y=>z.2 ?_⟩) id⟩
    have:=B.le
    omega
  ·rintro σ H11 ⟨fv,v6,v7,v8,rfl,s11,fi⟩
   rw [e0] at fi
   have hfv:∃ a,fv = .ref a/\H11 a=some (.tup [.int (p:Nat),.int (q:Nat)]):=by
    rcases fi with ⟨_,z⟩ | z
    ·exact absurd (.inl (by have:=B.le;omega)) z
    ·exact z
   obtain ⟨a,rfl,ha⟩:=hfv
   have dvP:∀ {Hy:Hp} {x:Addr},Hy x=some (.tup [.int (p:Nat),.int (q:Nat)])->DV Hy (.ref x) (pairD (p,q)):=fun h=>.tup h (.cons (.int _) (.cons (.int _) .nil))
   refine ⟨n,r,rfl,n1,n6,rfl,r8,fun U p' q' H12 s12 hU B'=>?_⟩
   obtain ⟨rfl,rfl⟩:=B.uniq B'
   dsimp only [tSeq,tIfS,tAnd,tOr,tBU,tOp,tV,tC,rIsU,rIsNotU,tNext,gName]
   refine ⟨_,_,dvP hU,dvP (s12 _ _ ha),pairD_shaped _,pairD_shaped _,?_⟩
   rw [SeqAt.eqv_refl _ (SeqAt.canLay_of_shaped (pairD_shaped _))]
   refine iteB (by decide) ?_
   refine iteB (c:=decide (V.ref a=V.non)=true) (by simp) ?_
   refine ⟨_,getV_tup hU,"int",rfl,by decide,?_⟩
   refine iteB (by decide) ?_
   refine ⟨_,getV_tup hU,"int",rfl,by decide,?_⟩
   refine iteB (by decide) ?_
   have hF12:=(s11.trans s12) _ _ hF10
   have s9c:=(s10.trans s11).trans s12
   have t12:=t9.mono s9c
   have S12:SameT P0 H H12:=S9.trans s9c.t
   refine ⟨_,.inl hF12,fun kl hkl=>?_⟩
   have z13:=Same.upd (o:=WS (WB n r p' q')) hkl
   have hF13:=z13 _ _ hF12
   have Fk:kl≠F:=fun z=>by rw [z,hF12] at hkl;cases hkl
   have t13:=t12.mono z13
   refine ⟨⟨_,rfl,hF13⟩,_,hF13,lt_line (by rw [List.length_map];omega),?_⟩
   have t14:=t13.upd (o:=.lst (((WB n r p' q').map fun w=>V.str (bs w))++[.str ""])) hF13
   have S14:SameT P0 H (upd (upd H12 kl (WS (WB n r p' q'))) F (.lst (((WB n r p' q').map fun w=>V.str (bs w))++[.str ""]))):=fun b o hb e=>by
    rw [upd_ne (ne_of_none e nF)]
    exact z13 _ _ (S12 _ _ hb e)
   have hk14:upd (upd H12 kl (WS (WB n r p' q'))) F (.lst (((WB n r p' q').map fun w=>V.str (bs w))++[.str ""])) kl=some (WS (WB n r p' q')):=by rw [upd_ne Fk,upd_same]
   refine ⟨n,r,rfl,n1,n6,rfl,r8,fun F2 p2 q2 H15 s15 nF2 hF2 B2=>?_⟩
   obtain ⟨rfl,rfl⟩:=B.uniq B2
   refine eqW hF2 (s15 _ _ hk14) ?_
   rw [decide_eq_true rfl]
   exact qq _ (S14.trans s15.t) (t14.mono s15)
 ·exact h.elim
end
end K50
end
section
namespace L2
open PySem PySem.Spec PyProof.Rows
section
variable {X:Cx}
end
end L2
end
section
namespace K50
open PySem L2
section
variable {P:Program} {w:World} {K:PySem.W.Frag} {mg:Str->Option Value} {base:Heap}
abbrev sLaw:Stmt:=top 38
def spLaw (P0:Addr) (K:PySem.W.Frag):Sp:=fun vs H Q _=>match vs with
 | [.ref a]=>∃ ns:List Int,SqL K H a (ns.map V.int)/\ns.length<=63/\Tab P0 (lamPos lamSt) qSt H/\∀ H',Q (.bl true) H'
 | _=>False
theorem scLaw:FnScope ["script","k","cell"] ["script"] (defScope sLaw):=⟨rfl,rfl,rfl,by decide +kernel,rfl,by decide +kernel,by decide +kernel⟩
local macro_rules | `(tactic| walk_at "T.b")=>`(tactic| ((with_reducible refine' fn_lenS ?a0 ?a9 ?a1);(case a0=>with_reducible assumption);(case a9=>rfl);(case a1=>walk_at "T.a")))
theorem ok_law {f:Addr} {fd:FuncData} {P0:Addr} (D:Fun K "law" "law" sLaw f fd) (g1:mg "range" = none) (g2:mg "len" = none) (g3:mg "max" = none) (g4:mg "min" = none)
  (c1:Can P w K mg base "_law_cell" 1 ["script","k"] (spCell K)) (c2:Can P w K mg base "_law_good" 9 ["n","r"] (spGood P0)):FnOk P w K mg base CX0 10 f fd ["script"] (spLaw P0 K):=by
 refine D.ok (k:=9) scLaw (fun vs H Q E h=>?_) (fun cdv A outer s H vs Q E hr h=>?_)
 all_goals
  unfold spLaw at h
  split at h
 ·rfl
 ·exact h.elim
 ·rename_i a
  obtain ⟨ns,hS,h63,tb,q⟩:=h
  have nd:=scLaw.nd
  refine ⟨_,(by walk_at "T.top"),?_⟩
  obtain ⟨ps,hP⟩:=tb.tbl
  have hSw:=hS.wo1 hP
  refine ⟨_,hS,?_⟩
  have hl':(((ns.map V.int).length:Nat):Int)=(ns.length:Int):=by simp
  refine ⟨?_,?_,for_by (it_range 0 _) (fun i σ H2=>∃ (v1 v2:Option V),σ=[some (.ref a),v1,v2]/\SameT P0 H H2/\Tab P0 (lamPos lamSt) qSt H2)
   ⟨none,none,rfl,SameT.refl _ _,tb⟩ (fun _ _ _ _ _=>trivial) ?_ ?_⟩
  ·split<;>first | (split<;>omega) | omega
  ·split<;>first | (split<;>omega) | omega
  ·rintro i x σ H2 hi hx ⟨v1,v2,rfl,s2,t2⟩
   have hi':i<=1000:=by
    rw [List.length_map,List.length_range] at hi
    split at hi<;>first | (split at hi<;>omega) | omega
   rw [List.getElem?_map,List.getElem?_range (by simpa using hi)] at hx
   cases hx
   refine ⟨ns,hSw.same (wo1.same s2),by omega,by omega,fun cc=>?_⟩
   refine ⟨(show (0:Int) < 6 by decide),⟨by decide,by decide⟩,(show (0:Int) < 8 by decide),?_⟩
   refine ⟨(1+cc % 6).toNat,(1+cc / 6 % 8).toNat,by omega,by omega,by omega,by omega,by omega,t2,fun H3 s3 t3=>?_⟩
   exact iteB (by decide) ⟨_,_,rfl,s2.trans s3,t3⟩
  ·rintro σ H2 ⟨v1,v2,rfl,s2,t2⟩
   exact q _
 ·exact h.elim
end
end K50
end
section
namespace K50
open PySem L2
theorem fnX_1 {K:PySem.W.Frag} {h:Heap} {mg:Str->Option Value} {x:Str} {st:Stmt} {p0:Str} (D:DefIn K x st) (X:K.In h) (G:h.Ns mainGlobals mg)
  (hb:∀ (kV doc pm:Value) (an:Option Addr) (cdv ct:Value) (a0:Value),bindArgs (PySem.W.fnOf x x (defArgs st) (defBody st) (defScope st) .none kV doc pm an cdv ct) ⟨[a0],[]⟩=pure ([p0].zip [a0])):FnX K mg x st [p0]:=
 D.fnX X G fun kV doc pm an cdv ct us hl=>match us,hl with
  | [a0],_=>hb kV doc pm an cdv ct a0
theorem fnX_2 {K:PySem.W.Frag} {h:Heap} {mg:Str->Option Value} {x:Str} {st:Stmt} {p0 p1:Str} (D:DefIn K x st) (X:K.In h) (G:h.Ns mainGlobals mg)
  (hb:∀ (kV doc pm:Value) (an:Option Addr) (cdv ct:Value) (a0 a1:Value),bindArgs (PySem.W.fnOf x x (defArgs st) (defBody st) (defScope st) .none kV doc pm an cdv ct) ⟨[a0,a1],[]⟩=pure ([p0,p1].zip [a0,a1])):FnX K mg x st [p0,p1]:=
 D.fnX X G fun kV doc pm an cdv ct us hl=>match us,hl with
  | [a0,a1],_=>hb kV doc pm an cdv ct a0 a1
theorem fnX_3 {K:PySem.W.Frag} {h:Heap} {mg:Str->Option Value} {x:Str} {st:Stmt} {p0 p1 p2:Str} (D:DefIn K x st) (X:K.In h) (G:h.Ns mainGlobals mg)
  (hb:∀ (kV doc pm:Value) (an:Option Addr) (cdv ct:Value) (a0 a1 a2:Value),bindArgs (PySem.W.fnOf x x (defArgs st) (defBody st) (defScope st) .none kV doc pm an cdv ct) ⟨[a0,a1,a2],[]⟩=pure ([p0,p1,p2].zip [a0,a1,a2])):FnX K mg x st [p0,p1,p2]:=
 D.fnX X G fun kV doc pm an cdv ct us hl=>match us,hl with
  | [a0,a1,a2],_=>hb kV doc pm an cdv ct a0 a1 a2
theorem fnX_4 {K:PySem.W.Frag} {h:Heap} {mg:Str->Option Value} {x:Str} {st:Stmt} {p0 p1 p2 p3:Str} (D:DefIn K x st) (X:K.In h) (G:h.Ns mainGlobals mg)
  (hb:∀ (kV doc pm:Value) (an:Option Addr) (cdv ct:Value) (a0 a1 a2 a3:Value),bindArgs (PySem.W.fnOf x x (defArgs st) (defBody st) (defScope st) .none kV doc pm an cdv ct) ⟨[a0,a1,a2,a3],[]⟩=pure ([p0,p1,p2,p3].zip [a0,a1,a2,a3])):FnX K mg x st [p0,p1,p2,p3]:=
 D.fnX X G fun kV doc pm an cdv ct us hl=>match us,hl with
  | [a0,a1,a2,a3],_=>hb kV doc pm an cdv ct a0 a1 a2 a3
def TupIn (K:PySem.W.Frag) (x:Str) (xs:List V):Prop:=∃ (a:Addr) (o:Obj) (its:Array Value) (n:Nat),PySem.W.nsIn K mainGlobals x=some (some (.ref a))/\K.lookup a=some o/\o.cls = .type "tuple"/\o.data = .seq its n/\its.size<=sizeLine/\Vals xs its.toList
theorem tp_mk {K:PySem.W.Frag} {x:Str} {xs:List V} {v:Value} {a:Addr} {o:Obj} {its:Array Value} {n:Nat} (h:PySem.W.nsIn K mainGlobals x=some (some v)) (e:v = .ref a) (l:K.lookup a=some o) (c:o.cls = .type "tuple") (d:o.data = .seq its n) (z:its.size<=sizeLine) (r:Vals xs its.toList):TupIn K x xs:=⟨a,o,its,n,by rw [h,e],l,c,d,z,r⟩
theorem sg_of {K:PySem.W.Frag} {h:Heap} {mg:Str->Option Value} (X:K.In h) (G:h.Ns mainGlobals mg) (t:TupIn K "SIGNS" [.str "0",.str "1"]):∃ a,SgT K mg a:=by
 obtain ⟨a,o,its,n,h1,h2,h3,h4,h5,h6⟩:=t
 have e0:bs [false] = "0" := by decide +kernel
 have e1:bs [true] = "1" := by decide +kernel
 refine ⟨a,PySem.W.mg_of X G h1,fun H=>?_⟩
 rw [e0,e1]
 exact .inr ⟨o,its,n,h2,h3,h4,h5,h6⟩
theorem all_mk {l:PySem.W.OpenLaw} {w:World} {K:PySem.W.Frag} {h:Heap} {mg:Str->Option Value} {fa:Addr} (X:K.In h) (G:h.Ns mainGlobals mg) (hfa:mg "law" = some (.ref fa))
  (d1:DefIn K "texts_from" sTexts) (d2:DefIn K "state_texts" sStT) (d3:DefIn K "reached" sReached) (d4:DefIn K "put_behind" sPut) (d5:DefIn K "paper_keys" sKeys) (d6:DefIn K "greatest_peak" sPeak) (d7:DefIn K "runs_over" sOver) (d8:DefIn K "greatest_runs" sGR) (d9:DefIn K "standing_steps" sStS) (d10:DefIn K "layer_behind" sLyB) (d11:DefIn K "layers_of" sLyO) (d12:DefIn K "comes_back" sCB) (d13:DefIn K "longest_walk" sWalk) (d14:DefIn K "first_return" sFirst) (d15:DefIn K "loop_of" sLpO) (d16:DefIn K "standing_loop" sStand) (d17:DefIn K "still" sStill) (d18:DefIn K "is_quiet" sQuiet) (d19:DefIn K "all_signs" sAll) (d20:DefIn K "keeps_to" sKeep) (d21:DefIn K "words_by" sWB) (d22:DefIn K "greatest_with_paper" sGW) (d23:DefIn K "greatest_quiet" sGQ) (d24:DefIn K "quiet_paper" sQP) (d25:DefIn K "_law_cell" sCell) (d26:DefIn K "_law_behind" sLBeh) (d27:DefIn K "_law_quiet" sLQ) (d28:DefIn K "_law_all" sLAll) (d29:DefIn K "_law_ahead" sAhead) (d30:DefIn K "_law_alone" sAlone) (d31:DefIn K "_law_by" sBy) (d32:DefIn K "_law_greatest" sGrt) (d33:DefIn K "_law_good" sGood) (dl:DefIn K "law" sLaw) {c0 P0:Addr} (ht:PySem.W.tabIn K "state_texts" = some (c0,P0))
  (z1:PySem.W.nsIn K mainGlobals "len" = some none) (z2:PySem.W.nsIn K mainGlobals "range" = some none) (z3:PySem.W.nsIn K mainGlobals "isinstance" = some none) (z4:PySem.W.nsIn K mainGlobals "int" = some none) (z5:PySem.W.nsIn K mainGlobals "bool" = some none) (z6:PySem.W.nsIn K mainGlobals "list" = some none) (z7:PySem.W.nsIn K mainGlobals "tuple" = some none) (z8:PySem.W.nsIn K mainGlobals "max" = some none) (z9:PySem.W.nsIn K mainGlobals "min" = some none) (z10:PySem.W.nsIn K mainGlobals "enumerate" = some none) (z11:PySem.W.nsIn K mainGlobals "sorted" = some none) (z12:PySem.W.nsIn K mainGlobals "abs" = some none) (z13:PySem.W.nsIn K mainGlobals "dict" = some none) (z14:PySem.W.nsIn K mainGlobals "reversed" = some none) (z15:PySem.W.nsIn K mainGlobals "set" = some none) (z16:PySem.W.nsIn K mainGlobals "zip" = some none) (tp1:TupIn K "SIGNS" [.str "0",.str "1"]) :
  ∃ fd:FuncData,(∀ (s:Shared) (v:Value),BindsTo s fd ⟨[v],[]⟩ [("script",v)])/\∀ base:Heap,K.In base->base.Ns mainGlobals mg->Maker mg base c0 P0->FnOk l.prog w K mg base CX0 10 fa fd ["script"] (spLaw P0 K):=by
 obtain ⟨f,oc,od,an,osl,kV,dc,pm,cd,ct,h1,h2,h3,h4⟩:=dl
 have e:=hfa.symm.trans (PySem.W.mg_of X G h1)
 cases e
 have F:=fun_mk (st:=sLaw) h2 h3 h4
 refine ⟨PySem.W.fnOf "law" "law" (defArgs sLaw) (defBody sLaw) (defScope sLaw) .none kV dc pm an cd ct,fun s v=>.of_eq rfl,fun base _ _ M=>?_⟩
 have z_len:=PySem.W.mg_none_of X G z1
 have z_range:=PySem.W.mg_none_of X G z2
 have z_isinstance:=PySem.W.mg_none_of X G z3
 have z_int:=PySem.W.mg_none_of X G z4
 have z_bool:=PySem.W.mg_none_of X G z5
 have z_list:=PySem.W.mg_none_of X G z6
 have z_tuple:=PySem.W.mg_none_of X G z7
 have z_max:=PySem.W.mg_none_of X G z8
 have z_min:=PySem.W.mg_none_of X G z9
 have z_enumerate:=PySem.W.mg_none_of X G z10
 have z_sorted:=PySem.W.mg_none_of X G z11
 have z_abs:=PySem.W.mg_none_of X G z12
 have z_dict:=PySem.W.mg_none_of X G z13
 have z_reversed:=PySem.W.mg_none_of X G z14
 have z_set:=PySem.W.mg_none_of X G z15
 have z_zip:=PySem.W.mg_none_of X G z16
 obtain ⟨aS,sg⟩:=sg_of X G tp1
 have x_tf:=fnX_2 d1 X G (fun _ _ _ _ _ _ _ _=>rfl)
 have c_stT:=ok_stT (P:=l.prog) (w:=w) (base:=base) (FnC.of d2 ht X G (fun kV doc pm an cdv ct us hl=>match us,hl with | [_],_=>rfl)) x_tf z_len z_enumerate M
 have c_reached:=ok_reached (P:=l.prog) (w:=w) (base:=base) (fnX_1 d3 X G (fun _ _ _ _ _ _ _=>rfl)) z_sorted c_stT
 have c_put:=ok_put (P:=l.prog) (w:=w) (base:=base) (fnX_3 d4 X G (fun _ _ _ _ _ _ _ _ _=>rfl)) z_max
 have c_keys:=ok_keys (P:=l.prog) (w:=w) (base:=base) (fnX_1 d5 X G (fun _ _ _ _ _ _ _=>rfl)) sg c_reached
 have c_peak:=ok_peak (P:=l.prog) (w:=w) (base:=base) (fnX_2 d6 X G (fun _ _ _ _ _ _ _ _=>rfl)) z_max c_put
 have c_over:=ok_over (P:=l.prog) (w:=w) (base:=base) (fnX_2 d7 X G (fun _ _ _ _ _ _ _ _=>rfl)) c_put
 have c_gr:=ok_gr (P:=l.prog) (w:=w) (base:=base) (fnX_1 d8 X G (fun _ _ _ _ _ _ _=>rfl)) c_keys c_over
 have c_stS:=ok_stS (P:=l.prog) (w:=w) (base:=base) (fnX_3 d9 X G (fun _ _ _ _ _ _ _ _ _=>rfl)) z_enumerate
 have c_lyB:=ok_lyB (P:=l.prog) (w:=w) (base:=base) (fnX_2 d10 X G (fun _ _ _ _ _ _ _ _=>rfl))
 have c_lyO:=ok_lyO (P:=l.prog) (w:=w) (base:=base) (fnX_2 d11 X G (fun _ _ _ _ _ _ _ _=>rfl)) z_len c_lyB
 have c_cb:=ok_cb (P:=l.prog) (w:=w) (base:=base) (fnX_2 d12 X G (fun _ _ _ _ _ _ _ _=>rfl)) z_len
 have c_walk:=ok_walk (P:=l.prog) (w:=w) (base:=base) (fnX_1 d13 X G (fun _ _ _ _ _ _ _=>rfl)) z_list z_reversed
 have c_first:=ok_first (P:=l.prog) (w:=w) (base:=base) (fnX_1 d14 X G (fun _ _ _ _ _ _ _=>rfl)) z_enumerate
 have c_lpO:=ok_lpO (P:=l.prog) (w:=w) (base:=base) (fnX_1 d15 X G (fun _ _ _ _ _ _ _=>rfl)) c_first
 have c_stand:=ok_stand (P:=l.prog) (w:=w) (base:=base) (fnX_1 d16 X G (fun _ _ _ _ _ _ _=>rfl)) sg c_reached c_stS c_lyO c_cb c_lpO c_walk
 have c_still:=ok_still (P:=l.prog) (w:=w) (base:=base) (fnX_1 d17 X G (fun _ _ _ _ _ _ _=>rfl)) c_stand c_peak c_gr
 have c_quiet:=ok_quiet (P:=l.prog) (w:=w) (base:=base) (fnX_2 d18 X G (fun _ _ _ _ _ _ _ _=>rfl)) c_still
 have c_all:=ok_all (P:=l.prog) (w:=w) (base:=base) (fnX_1 d19 X G (fun _ _ _ _ _ _ _=>rfl)) z_range
 have c_keep:=ok_keep (P:=l.prog) (w:=w) (base:=base) (fnX_3 d20 X G (fun _ _ _ _ _ _ _ _ _=>rfl)) z_len z_zip c_put
 have c_wb:=ok_wb (P:=l.prog) (w:=w) (base:=base) (fnX_3 d21 X G (fun _ _ _ _ _ _ _ _ _=>rfl)) c_all c_keep
 have c_gw:=ok_gw (P:=l.prog) (w:=w) (base:=base) (fnX_2 d22 X G (fun _ _ _ _ _ _ _ _=>rfl)) z_range z_len c_wb
 have c_gq:=ok_gq (P:=l.prog) (w:=w) (base:=base) (fnX_2 d23 X G (fun _ _ _ _ _ _ _ _=>rfl)) c_gw
 have c_qp:=ok_qp (P:=l.prog) (w:=w) (base:=base) (fnX_2 d24 X G (fun _ _ _ _ _ _ _ _=>rfl)) c_gw
 have c_cell:=ok_cell (P:=l.prog) (w:=w) (base:=base) (fnX_2 d25 X G (fun _ _ _ _ _ _ _ _=>rfl)) z_len
 have c_lbeh:=ok_lbeh (P:=l.prog) (w:=w) (base:=base) (fnX_3 d26 X G (fun _ _ _ _ _ _ _ _ _=>rfl))
 have c_lq:=ok_lq (P:=l.prog) (w:=w) (base:=base) (fnX_2 d27 X G (fun _ _ _ _ _ _ _ _=>rfl)) c_lbeh
 have c_lall:=ok_lall (P:=l.prog) (w:=w) (base:=base) (fnX_1 d28 X G (fun _ _ _ _ _ _ _=>rfl)) z_range z_sorted
 have c_ahead:=ok_ahead (P:=l.prog) (w:=w) (base:=base) (fnX_2 d29 X G (fun _ _ _ _ _ _ _ _=>rfl))
 have c_alone:=ok_alone (P:=l.prog) (w:=w) (base:=base) (fnX_2 d30 X G (fun _ _ _ _ _ _ _ _=>rfl)) c_lall c_lq c_ahead
 have c_by:=ok_by (P:=l.prog) (w:=w) (base:=base) (fnX_4 d31 X G (fun _ _ _ _ _ _ _ _ _ _=>rfl))
 have c_grt:=ok_grt (P:=l.prog) (w:=w) (base:=base) (fnX_2 d32 X G (fun _ _ _ _ _ _ _ _=>rfl)) z_len c_lall c_lq
 have c_good:=ok_good (P:=l.prog) (w:=w) (base:=base) (fnX_2 d33 X G (fun _ _ _ _ _ _ _ _=>rfl)) z_len z_isinstance z_list z_sorted z_set z_range z_bool c_gq c_lq c_quiet c_lall c_grt c_alone c_by c_qp
 exact ok_law F z_range z_len z_max z_min c_cell c_good
theorem walk {l:PySem.W.OpenLaw} {q:Program} {loose:List Str} {XP:(Str->Option Value)->Heap->Prop} {YP:World->Heap->Prop} {d:DefRec} {K:Params->PySem.W.Frag} {c0 P0:Addr} (hn:l.most=some 63) (hdf:d.params.defaults=[])
  (hY:∀ (w:World) (h:Heap),YP w h->(K w.params).In h) (hnt:∀ w:World,PySem.W.noTabs (K w.params)=true) (htb:∀ (w:World) (h:Heap),YP w h->h.get? P0=some (PySem.W.tabObj #[])) (hcd:∀ w:World,PySem.W.codeHdIn (K w.params) c0 P0=true) (ht0:∀ w:World,PySem.W.tabIn (K w.params) "state_texts" = some (c0,P0))
  (F:∀ (w:World) (mg:Str->Option Value) (fa:Addr) (h:Heap),(K w.params).In h->h.Ns mainGlobals mg->mg d.name=some (.ref fa) →
   ∃ fd:FuncData,(∀ (s:Shared) (u:Value),BindsTo s fd ⟨[u],[]⟩ [("script",u)])/\∀ base:Heap,(K w.params).In base->base.Ns mainGlobals mg->Maker mg base c0 P0->FnOk l.prog w (K w.params) mg base CX0 10 fa fd ["script"] (spLaw P0 (K w.params))) :
  PySem.W.WalkO q loose XP YP l.row.toRowW d [] (fun f vs=>PySem.call f vs):=
 L2.walk_ofT (n:=63) (k:=10) (x:= "script") (CX:=fun _=>CX0) (sp:=fun w=>spLaw P0 (K w.params)) hn (by decide) hdf ⟨rfl,by decide,by decide⟩ hY hnt htb hcd F (fun _ _ a ns hl hT hS=>⟨ns,hS,hl,.inl hT,fun _=>rfl⟩) fun _ _ _ _ _ z=>z
end K50
open PySem PySem.W PyProof.Rows
local macro_rules | `(tactic| walk_at "k_def")=>`(tactic| ((refine' L2.DefIn.mk ?a ?l ?c ?k);(case a=>k_is);(case l=>k_is);(case c=>k_is);(case k=>k_is)))
set_option maxRecDepth 100000 in
set_option maxHeartbeats 0 in
theorem PySem.Challenge.cw_ownbeat_k50_greatest_quiet_sets_holds : PySem.Challenge.rw_ownbeat_k50_greatest_quiet_sets.Holds := by
 w_on;o_law
 refine PySem.W.holds_open (q:=KH.V) (loose:=[]) (Xt:=(fun s=>xlAt KH.V [] s && recOk (RowW.records (OpenRow.toRowW KH.Rw.row)) s)) (N:=2360) (XP:=PySem.W.XL KH.V []) (Yf:=PySem.W.Hook.obs KH.hk) (Ya:=PySem.W.Hook.val KH.hk) (YP:=PySem.W.Hook.says KH.hk) ?hl (PySem.W.Hook.of KH.hk) (PySem.W.Hook.keeps KH.hk) (fun s e=>PySem.W.xl_of s (Bool.and_eq_true_iff.mp e).1) PySem.W.XL.keeps (by rfl) (by rfl) (by rfl) (fun s e=>PySem.W.recFacts_of (Bool.and_eq_true_iff.mp e).2) (by rfl) (by first | assumption | decide +kernel) (by decide +kernel) ⟨rfl,rfl,rfl,rfl,rfl,by decide +kernel⟩ ?hw ?hc
 (case hl=>exact KH.HL)
 (case hw=>w_witness2)
 delta KH.hk
 k_fill
 refine' K50.walk (l:=PySem.Challenge.rw_ownbeat_k50_greatest_quiet_sets) rfl rfl (fun w h Y=>PySem.W.km_in_of Y) ?nt ?tb ?cd ?t0 ?F
 (case t0=>intro w;exact rfl)
 (case nt=>intro w;exact rfl)
 (case tb=>intro w h Y;exact PySem.W.km_tabs_of Y _ (by decide))
 (case cd=>intro w;exact rfl)
 case F=>
  intro w mg fa h KX G hmg
  refine' K50.all_mk KX G hmg ?d1 ?d2 ?d3 ?d4 ?d5 ?d6 ?d7 ?d8 ?d9 ?d10 ?d11 ?d12 ?d13 ?d14 ?d15 ?d16 ?d17 ?d18 ?d19 ?d20 ?d21 ?d22 ?d23 ?d24 ?d25 ?d26 ?d27 ?d28 ?d29 ?d30 ?d31 ?d32 ?d33 ?dl (by exact rfl) ?z1 ?z2 ?z3 ?z4 ?z5 ?z6 ?z7 ?z8 ?z9 ?z10 ?z11 ?z12 ?z13 ?z14 ?z15 ?z16 ?tp1
  (case d1=>walk_at "k_def")
  (case d2=>walk_at "k_def")
  (case d3=>walk_at "k_def")
  (case d4=>walk_at "k_def")
  (case d5=>walk_at "k_def")
  (case d6=>walk_at "k_def")
  (case d7=>walk_at "k_def")
  (case d8=>walk_at "k_def")
  (case d9=>walk_at "k_def")
  (case d10=>walk_at "k_def")
  (case d11=>walk_at "k_def")
  (case d12=>walk_at "k_def")
  (case d13=>walk_at "k_def")
  (case d14=>walk_at "k_def")
  (case d15=>walk_at "k_def")
  (case d16=>walk_at "k_def")
  (case d17=>walk_at "k_def")
  (case d18=>walk_at "k_def")
  (case d19=>walk_at "k_def")
  (case d20=>walk_at "k_def")
  (case d21=>walk_at "k_def")
  (case d22=>walk_at "k_def")
  (case d23=>walk_at "k_def")
  (case d24=>walk_at "k_def")
  (case d25=>walk_at "k_def")
  (case d26=>walk_at "k_def")
  (case d27=>walk_at "k_def")
  (case d28=>walk_at "k_def")
  (case d29=>walk_at "k_def")
  (case d30=>walk_at "k_def")
  (case d31=>walk_at "k_def")
  (case d32=>walk_at "k_def")
  (case d33=>walk_at "k_def")
  (case dl=>walk_at "k_def")
  (case z1=>k_is)
  (case z2=>k_is)
  (case z3=>k_is)
  (case z4=>k_is)
  (case z5=>k_is)
  (case z6=>k_is)
  (case z7=>k_is)
  (case z8=>k_is)
  (case z9=>k_is)
  (case z10=>k_is)
  (case z11=>k_is)
  (case z12=>k_is)
  (case z13=>k_is)
  (case z14=>k_is)
  (case z15=>k_is)
  (case z16=>k_is)
  (case tp1=>((refine' K50.tp_mk ?hx ?ex ?l ?c ?d ?z ?r);(case hx=>k_is);(case ex=>rfl);(case l=>k_is);(case c=>rfl);(case d=>rfl);(case z=>decide);(case r=>exact .cons ⟨_,rfl⟩ (.cons ⟨_,rfl⟩ .nil))))
end
end
