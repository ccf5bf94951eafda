import PyProof.Rows.All
import Wide.All
import OpenK.AllK
import Wide.FinOn
import PyProof.EqAt
import PyProof.EqKinds
import PyProof.TupleCall
import Lean
import PyProof.CompFree
import PyProof.IsInstanceH
import PyProof.IsiPairs
import PyProof.ConsumeWalk
import PyProof.IsiNone
import KE.KIntText
import PyProof.Rows.EqDataRows
import PyProof.RangeIter
import PyProof.ZipIter
import PyProof.EnumMake
import PyProof.WalksEnum
import PyProof.Rows.ZipGen
import PyProof.Rows.SortWalk
import KE.KEqDict
import KE.KDictLaws
import PyProof.Rows.SumAny
import PyProof.Rows.FStr
import PyProof.ListRange
import PyProof.DictWalks
import PyProof.DictCopy
import KE.KDictOf
import PyProof.Rows.StrRev
import PyProof.ListStr
import KE.KRevSl
import KE.KLam
import PyProof.Rows.SetFrom
import PyProof.SetRoads
import KE.KNestM
import PyProof.StrLawsIdx
import KE.KRevIter
import PyProof.StrLawsChain
import PyProof.FitsReplace
import PyProof.MeetsStr2
import PyProof.TupleIter
import PyProof.StrLoop
import PyProof.StrWalks
import PyProof.DictUpdate
import PyProof.AttrMissHeap
import PyProof.Rows.SeqMore2
import KE.KSortTup
import KE.KItemsList
import PySem.Challenge.RW_ownbeat_k37_whole_windows_in_order
set_option Elab.async false
set_option linter.all false
set_option maxRecDepth 100000
set_option maxHeartbeats 4000000
section
namespace KH
open PySem PySem.W
abbrev Pw:Program:=PySem.Challenge.pw_ownbeat_k37_whole_windows_in_order
abbrev Rw:OpenLaw:=PySem.Challenge.rw_ownbeat_k37_whole_windows_in_order
abbrev tp (i:Nat):Stmt:=Pw.main.body.getD i (.Pass ⟨0,0,0,0⟩)
abbrev cm:Stmt->Nat->Stmt
 | .ClassDef _ _ _ body _ _ _ _ _ _ _,i=>body.getD i (.Pass ⟨0,0,0,0⟩)
 | s,_=>s
abbrev dA (s:Stmt):Arguments:=match s with
 | .FunctionDef _ a _ _ _ _ _ _ _ _=>a
 | _=>{ posonlyargs:=[],args:=[],vararg:=none,kwonlyargs:=[],kw_defaults:=[],kwarg:=none,defaults:=[] }
abbrev dB (s:Stmt):List Stmt:=match s with
 | .FunctionDef _ _ b _ _ _ _ _ _ _=>b
 | _=>[]
abbrev dS (s:Stmt):Scope:=match s with
 | .FunctionDef _ _ _ _ _ _ sc _ _ _=>sc
 | _=>{ kind:=.function,names:=[],isGenerator:=false,isCoroutine:=false }
abbrev en (P:Params) (k:Str) (t:Nat) (v:Value):DictEntry:=⟨PyData.keyHash P k,.str k t,v⟩
abbrev tu (l:List Value):Obj:=⟨.type "tuple",none,.seq l.toArray 0,#[]⟩
abbrev di (l:List DictEntry):Obj:=⟨.type "dict",none,.dict l.toArray 0,#[]⟩
abbrev co (n:Str) (t1:Nat) (q:Str) (t2 t3:Nat) (l c:Int) (a b:Nat) (x y:Value) (z:Nat) (d:Int) (t4:Nat):Obj:=⟨.type "code",none,.fields #[.str n t1,.str q t2,.str "/claim/cut.py" t3,.int l 0,.int c 0,.int 0 0,.int 0 0,.int 3 0,.ref a,.bool true,.int 181 0,.ref b,.none,x,y,.ref z,.int d 0,.int l 0,.str "/claim/cut.py" t4],#[]⟩
abbrev fu (n q:Str) (st:Stmt) (m:Str) (t c:Nat):Obj:=⟨.type "function",none,.func ⟨n,q,dA st,.stmts (dB st),dS st,3,[],.none,.none,.none,.str m t,none,.ref c,.none,0⟩,#[]⟩
abbrev cl (n:Str) (self ns a t1 t2:Nat):Obj:=⟨.type "type",none,.cls ⟨n,[.ref 24],[.ref self,.ref 24,.type "ValueError",.type "Exception",.type "BaseException",.type "object"],ns,n,true,[],[],false,none,false⟩,#[some (.ref a),none,some (.str n t1),some (.str n t2),some (.builtin "ValueError.__new__"),some (.bool true)]⟩
noncomputable def K (P:Params):Frag:=
 (nat_lit 2,⟨.none,none,.dict #[],#[]⟩) ::
 (nat_lit 3,⟨.type "dict",none,.dict #[en P "__name__" 165 (.str "law_ownbeat_k37_whole_windows_in_order" 398),en P "__doc__" 166 (.none),en P "__package__" 167 (.none),en P "__loader__" 168 (.builtin "__main__.__loader__#opaque"),en P "__spec__" 169 (.none),en P "__annotations__" 170 (.ref 6),en P "__builtins__" 171 (.ref 4),en P "__file__" 173 (.str "/claim/cut.py" 172),en P "__cached__" 174 (.none),en P "is_whole" 195 (.ref 21),en P "texts_from" 209 (.ref 28),en P "state_texts" 217 (.ref 35),en P "reached" 224 (.ref 42),en P "every_state" 231 (.ref 49),en P "pair_graph" 242 (.ref 56),en P "pair_steps" 256 (.ref 63),en P "layers_of" 266 (.ref 70),en P "layer_behind" 278 (.ref 77),en P "comes_back" 286 (.ref 84),en P "late" 297 (.ref 91),en P "first_pairs" 308 (.ref 98),en P "settles" 319 (.ref 105),en P "backward_graph" 331 (.ref 112),en P "unlike_pairs" 340 (.ref 119),en P "WIDEST" 344 (.int 6 343),en P "tells" 353 (.ref 126),en P "is_window" 361 (.ref 133),en P "graph_tells" 371 (.ref 140),en P "pairs_behind" 381 (.ref 147),en P "unlike_steps" 387 (.ref 152),en P "least_window" 397 (.ref 159),en P "_law_cell" 407 (.ref 166),en P "_law_store" 415 (.ref 173),en P "_law_take" 425 (.ref 180),en P "_law_word" 435 (.ref 187),en P "_law_branch" 452 (.ref 194),en P "_law_code" 458 (.ref 199),en P "_law_copy" 464 (.ref 204),en P "_law_rows" 470 (.ref 209),en P "_law_sent" 482 (.ref 216),en P "_law_unlike" 488 (.ref 221),en P "_law_in_order" 498 (.ref 228),en P "law" 513 (.ref 235)] 43,#[]⟩) ::
 (nat_lit 15,tu []) ::
 (nat_lit 17,tu [.str "thing" 192]) ::
 (nat_lit 18,tu []) ::
 (nat_lit 20,co "is_whole" 189 "is_whole" 190 191 2 1 15 16 (.ref 17) (.ref 18) 19 193 194) ::
 (nat_lit 21,fu "is_whole" "is_whole" (tp 1) "ownbeat.walks" 187 20) ::
 (nat_lit 22,tu []) ::
 (nat_lit 24,tu [.str "start" 199,.str "steps" 200,.str "texts" 201,.str "queue" 202,.str "place" 203,.str "node" 204,.str "letter" 205,.str "to" 206]) ::
 (nat_lit 25,tu []) ::
 (nat_lit 27,co "texts_from" 196 "texts_from" 197 198 4 2 22 23 (.ref 24) (.ref 25) 26 207 208) ::
 (nat_lit 28,fu "texts_from" "texts_from" (tp 2) "ownbeat.walks" 187 27) ::
 (nat_lit 29,tu []) ::
 (nat_lit 31,tu [.str "code" 213]) ::
 (nat_lit 32,tu [.str "code" 214]) ::
 (nat_lit 34,co "state_texts" 210 "state_texts" 211 212 16 1 29 30 (.ref 31) (.ref 32) 33 215 216) ::
 (nat_lit 35,fu "state_texts" "state_texts" (tp 3) "ownbeat.walks" 187 34) ::
 (nat_lit 36,tu []) ::
 (nat_lit 38,tu [.str "code" 221]) ::
 (nat_lit 39,tu []) ::
 (nat_lit 41,co "reached" 218 "reached" 219 220 18 1 36 37 (.ref 38) (.ref 39) 40 222 223) ::
 (nat_lit 42,fu "reached" "reached" (tp 4) "ownbeat.walks" 187 41) ::
 (nat_lit 43,tu []) ::
 (nat_lit 45,tu [.str "code" 228]) ::
 (nat_lit 46,tu []) ::
 (nat_lit 48,co "every_state" 225 "every_state" 226 227 20 1 43 44 (.ref 45) (.ref 46) 47 229 230) ::
 (nat_lit 49,fu "every_state" "every_state" (tp 5) "ownbeat.walks" 187 48) ::
 (nat_lit 50,tu []) ::
 (nat_lit 52,tu [.str "code" 235,.str "states" 236,.str "graph" 237,.str "one" 238,.str "other" 239]) ::
 (nat_lit 53,tu []) ::
 (nat_lit 55,co "pair_graph" 232 "pair_graph" 233 234 22 2 50 51 (.ref 52) (.ref 53) 54 240 241) ::
 (nat_lit 56,fu "pair_graph" "pair_graph" (tp 6) "ownbeat.walks" 187 55) ::
 (nat_lit 57,tu []) ::
 (nat_lit 59,tu [.str "code" 246,.str "one" 247,.str "other" 248,.str "steps" 249,.str "letter" 250,.str "row" 251,.str "another" 252,.str "beside" 253]) ::
 (nat_lit 60,tu []) ::
 (nat_lit 62,co "pair_steps" 243 "pair_steps" 244 245 28 3 57 58 (.ref 59) (.ref 60) 61 254 255) ::
 (nat_lit 63,fu "pair_steps" "pair_steps" (tp 7) "ownbeat.walks" 187 62) ::
 (nat_lit 64,tu []) ::
 (nat_lit 66,tu [.str "first" 260,.str "graph" 261,.str "layers" 262,.str "layer" 263]) ::
 (nat_lit 67,tu []) ::
 (nat_lit 69,co "layers_of" 257 "layers_of" 258 259 35 2 64 65 (.ref 66) (.ref 67) 68 264 265) ::
 (nat_lit 70,fu "layers_of" "layers_of" (tp 8) "ownbeat.walks" 187 69) ::
 (nat_lit 71,tu []) ::
 (nat_lit 73,tu [.str "layer" 270,.str "graph" 271,.str "behind" 272,.str "node" 273,.str "label" 274,.str "to" 275]) ::
 (nat_lit 74,tu []) ::
 (nat_lit 76,co "layer_behind" 267 "layer_behind" 268 269 42 2 71 72 (.ref 73) (.ref 74) 75 276 277) ::
 (nat_lit 77,fu "layer_behind" "layer_behind" (tp 9) "ownbeat.walks" 187 76) ::
 (nat_lit 78,tu []) ::
 (nat_lit 80,tu [.str "layers" 282,.str "graph" 283]) ::
 (nat_lit 81,tu []) ::
 (nat_lit 83,co "comes_back" 279 "comes_back" 280 281 49 2 78 79 (.ref 80) (.ref 81) 82 284 285) ::
 (nat_lit 84,fu "comes_back" "comes_back" (tp 10) "ownbeat.walks" 187 83) ::
 (nat_lit 85,tu []) ::
 (nat_lit 87,tu [.str "code" 292,.str "graph" 293,.str "layers" 294]) ::
 (nat_lit 88,tu []) ::
 (nat_lit 90,co "late" 289 "late" 290 291 52 1 85 86 (.ref 87) (.ref 88) 89 295 296) ::
 (nat_lit 91,fu "late" "late" (tp 12) "ownbeat.reading" 287 90) ::
 (nat_lit 92,tu []) ::
 (nat_lit 94,tu [.str "code" 301,.str "pairs" 302,.str "state" 303,.str "label" 304,.str "pair" 305]) ::
 (nat_lit 95,tu []) ::
 (nat_lit 97,co "first_pairs" 298 "first_pairs" 299 300 56 1 92 93 (.ref 94) (.ref 95) 96 306 307) ::
 (nat_lit 98,fu "first_pairs" "first_pairs" (tp 13) "ownbeat.reading" 287 97) ::
 (nat_lit 99,tu []) ::
 (nat_lit 101,tu [.str "code" 314,.str "graph" 315,.str "layers" 316]) ::
 (nat_lit 102,tu []) ::
 (nat_lit 104,co "settles" 311 "settles" 312 313 64 1 99 100 (.ref 101) (.ref 102) 103 317 318) ::
 (nat_lit 105,fu "settles" "settles" (tp 15) "ownbeat.settling" 309 104) ::
 (nat_lit 106,tu []) ::
 (nat_lit 108,tu [.str "code" 323,.str "forward" 324,.str "graph" 325,.str "pair" 326,.str "label" 327,.str "to" 328]) ::
 (nat_lit 109,tu []) ::
 (nat_lit 111,co "backward_graph" 320 "backward_graph" 321 322 68 1 106 107 (.ref 108) (.ref 109) 110 329 330) ::
 (nat_lit 112,fu "backward_graph" "backward_graph" (tp 16) "ownbeat.settling" 309 111) ::
 (nat_lit 113,tu []) ::
 (nat_lit 115,tu [.str "graph" 335,.str "pairs" 336,.str "pair" 337]) ::
 (nat_lit 116,tu []) ::
 (nat_lit 118,co "unlike_pairs" 332 "unlike_pairs" 333 334 77 1 113 114 (.ref 115) (.ref 116) 117 338 339) ::
 (nat_lit 119,fu "unlike_pairs" "unlike_pairs" (tp 17) "ownbeat.settling" 309 118) ::
 (nat_lit 120,tu []) ::
 (nat_lit 122,tu [.str "code" 348,.str "back" 349,.str "ahead" 350]) ::
 (nat_lit 123,tu []) ::
 (nat_lit 125,co "tells" 345 "tells" 346 347 85 3 120 121 (.ref 122) (.ref 123) 124 351 352) ::
 (nat_lit 126,fu "tells" "tells" (tp 20) "ownbeat.windows" 341 125) ::
 (nat_lit 127,tu []) ::
 (nat_lit 129,tu [.str "back" 357,.str "ahead" 358]) ::
 (nat_lit 130,tu []) ::
 (nat_lit 132,co "is_window" 354 "is_window" 355 356 87 2 127 128 (.ref 129) (.ref 130) 131 359 360) ::
 (nat_lit 133,fu "is_window" "is_window" (tp 21) "ownbeat.windows" 341 132) ::
 (nat_lit 134,tu []) ::
 (nat_lit 136,tu [.str "graph" 365,.str "back" 366,.str "ahead" 367,.str "pairs" 368]) ::
 (nat_lit 137,tu []) ::
 (nat_lit 139,co "graph_tells" 362 "graph_tells" 363 364 89 3 134 135 (.ref 136) (.ref 137) 138 369 370) ::
 (nat_lit 140,fu "graph_tells" "graph_tells" (tp 22) "ownbeat.windows" 341 139) ::
 (nat_lit 141,tu []) ::
 (nat_lit 143,tu [.str "pairs" 375,.str "graph" 376,.str "count" 377,.str "place" 378]) ::
 (nat_lit 144,tu []) ::
 (nat_lit 146,co "pairs_behind" 372 "pairs_behind" 373 374 93 3 141 142 (.ref 143) (.ref 144) 145 379 380) ::
 (nat_lit 147,fu "pairs_behind" "pairs_behind" (tp 23) "ownbeat.windows" 341 146) ::
 (nat_lit 148,tu []) ::
 (nat_lit 151,co "unlike_steps" 382 "unlike_steps" 383 384 97 1 148 149 (.none) (.none) 150 385 386) ::
 (nat_lit 152,fu "unlike_steps" "unlike_steps" (tp 24) "ownbeat.windows" 341 151) ::
 (nat_lit 153,tu []) ::
 (nat_lit 155,tu [.str "code" 391,.str "graph" 392,.str "both" 393,.str "back" 394]) ::
 (nat_lit 156,tu []) ::
 (nat_lit 158,co "least_window" 388 "least_window" 389 390 102 1 153 154 (.ref 155) (.ref 156) 157 395 396) ::
 (nat_lit 159,fu "least_window" "least_window" (tp 25) "ownbeat.windows" 341 158) ::
 (nat_lit 160,tu []) ::
 (nat_lit 162,tu [.str "script" 403,.str "k" 404]) ::
 (nat_lit 163,tu []) ::
 (nat_lit 165,co "_law_cell" 400 "_law_cell" 401 402 110 2 160 161 (.ref 162) (.ref 163) 164 405 406) ::
 (nat_lit 166,fu "_law_cell" "_law_cell" (tp 27) "law_ownbeat_k37_whole_windows_in_order" 398 165) ::
 (nat_lit 167,tu []) ::
 (nat_lit 169,tu [.str "cell" 411,.str "great" 412]) ::
 (nat_lit 170,tu []) ::
 (nat_lit 172,co "_law_store" 408 "_law_store" 409 410 114 1 167 168 (.ref 169) (.ref 170) 171 413 414) ::
 (nat_lit 173,fu "_law_store" "_law_store" (tp 28) "law_ownbeat_k37_whole_windows_in_order" 398 172) ::
 (nat_lit 174,tu []) ::
 (nat_lit 176,tu [.str "store" 419,.str "many" 420,.str "told" 421,.str "one" 422]) ::
 (nat_lit 177,tu []) ::
 (nat_lit 179,co "_law_take" 416 "_law_take" 417 418 119 2 174 175 (.ref 176) (.ref 177) 178 423 424) ::
 (nat_lit 180,fu "_law_take" "_law_take" (tp 29) "law_ownbeat_k37_whole_windows_in_order" 398 179) ::
 (nat_lit 181,tu []) ::
 (nat_lit 183,tu [.str "number" 429,.str "n" 430,.str "word" 431,.str "k" 432]) ::
 (nat_lit 184,tu []) ::
 (nat_lit 186,co "_law_word" 426 "_law_word" 427 428 129 2 181 182 (.ref 183) (.ref 184) 185 433 434) ::
 (nat_lit 187,fu "_law_word" "_law_word" (tp 30) "law_ownbeat_k37_whole_windows_in_order" 398 186) ::
 (nat_lit 188,tu []) ::
 (nat_lit 190,tu [.str "store" 439,.str "kind" 440,.str "pool" 441,.str "place" 442,.str "letter" 443,.str "sizes" 444,.str "k" 445,.str "n" 446,.str "many" 447,.str "behind" 448,.str "word" 449]) ::
 (nat_lit 191,tu []) ::
 (nat_lit 193,co "_law_branch" 436 "_law_branch" 437 438 135 6 188 189 (.ref 190) (.ref 191) 192 450 451) ::
 (nat_lit 194,fu "_law_branch" "_law_branch" (tp 31) "law_ownbeat_k37_whole_windows_in_order" 398 193) ::
 (nat_lit 195,tu []) ::
 (nat_lit 198,co "_law_code" 453 "_law_code" 454 455 148 2 195 196 (.none) (.none) 197 456 457) ::
 (nat_lit 199,fu "_law_code" "_law_code" (tp 32) "law_ownbeat_k37_whole_windows_in_order" 398 198) ::
 (nat_lit 217,tu []) ::
 (nat_lit 220,co "_law_unlike" 483 "_law_unlike" 484 485 174 1 217 218 (.none) (.none) 219 486 487) ::
 (nat_lit 221,fu "_law_unlike" "_law_unlike" (tp 36) "law_ownbeat_k37_whole_windows_in_order" 398 220) ::
 (nat_lit 222,tu []) ::
 (nat_lit 224,tu [.str "good" 492,.str "found" 493,.str "back" 494,.str "beside" 495]) ::
 (nat_lit 225,tu []) ::
 (nat_lit 227,co "_law_in_order" 489 "_law_in_order" 490 491 179 2 222 223 (.ref 224) (.ref 225) 226 496 497) ::
 (nat_lit 228,fu "_law_in_order" "_law_in_order" (tp 37) "law_ownbeat_k37_whole_windows_in_order" 398 227) ::
 (nat_lit 229,tu []) ::
 (nat_lit 231,tu [.str "script" 502,.str "at" 503,.str "store" 504,.str "code" 505,.str "good" 506,.str "back" 507,.str "beside" 508,.str "d" 509,.str "many" 510]) ::
 (nat_lit 232,tu []) ::
 (nat_lit 234,co "law" 499 "law" 500 501 189 1 229 230 (.ref 231) (.ref 232) 233 511 512) ::
 (nat_lit 235,fu "law" "law" (tp 38) "law_ownbeat_k37_whole_windows_in_order" 398 234) :: []
def V:Program:=view Pw [1,2,3,4,5,6,7,8,9,10,12,13,15,16,17,19,20,21,22,23,24,25,27,28,29,30,31,32,33,34,35,36,37,38]
noncomputable abbrev hk:Hook:=kmHook K [2,3,15,17,18,20,21,22,24,25,27,28,29,31,32,34,35,36,38,39,41,42,43,45,46,48,49,50,52,53,55,56,57,59,60,62,63,64,66,67,69,70,71,73,74,76,77,78,80,81,83,84,85,87,88,90,91,92,94,95,97,98,99,101,102,104,105,106,108,109,111,112,113,115,116,118,119,120,122,123,125,126,127,129,130,132,133,134,136,137,139,140,141,143,144,146,147,148,151,152,153,155,156,158,159,160,162,163,165,166,167,169,170,172,173,174,176,177,179,180,181,183,184,186,187,188,190,191,193,194,195,198,199,217,220,221,222,224,225,227,228,229,231,232,234,235] (fun _=>by kernel_rfl) [30]
theorem HL:LeftO (Rw.row).prog V [] (fun s=>xlAt V [] s && recOk (RowW.records (OpenRow.toRowW Rw.row)) s) (Hook.obs hk) (Hook.val hk) 2296:=by
 intro w
 rw [Fast.te14364793385576792824,Fast.te4187177175401517315,Fast.te5923862056798008813]
 kernel_rfl
end KH
noncomputable def PySem.W.Fast.tw10557746124084197529:PySem.Program:=PySem.Challenge.pw_ownbeat_k37_whole_windows_in_order
theorem PySem.W.Fast.te10557746124084197529:PySem.Challenge.pw_ownbeat_k37_whole_windows_in_order=PySem.W.Fast.tw10557746124084197529:=rfl
noncomputable def PySem.W.Fast.tw12735528447926731413:PySem.W.OpenLaw:=PySem.Challenge.rw_ownbeat_k37_whole_windows_in_order
theorem PySem.W.Fast.te12735528447926731413:PySem.Challenge.rw_ownbeat_k37_whole_windows_in_order=PySem.W.Fast.tw12735528447926731413:=rfl
noncomputable def PySem.W.Fast.tw5761066807429076752:PySem.Program:=KH.V
theorem PySem.W.Fast.te5761066807429076752:KH.V=PySem.W.Fast.tw5761066807429076752:=rfl
noncomputable def PySem.W.Fast.tw13718576055750932966:PySem.Params->PySem.W.Frag:=KH.K
theorem PySem.W.Fast.te13718576055750932966:KH.K=PySem.W.Fast.tw13718576055750932966:=rfl
noncomputable def PySem.W.Fast.tw770474345414848920:PySem.Program:=KH.Pw
theorem PySem.W.Fast.te770474345414848920:KH.Pw=PySem.W.Fast.tw770474345414848920:=rfl
noncomputable def PySem.W.Fast.tw14237125333626191895:PySem.W.OpenLaw:=KH.Rw
theorem PySem.W.Fast.te14237125333626191895:KH.Rw=PySem.W.Fast.tw14237125333626191895:=rfl
end
set_option compiler.extract_closed false
namespace L2
open PySem PySem.Spec PyProof.Rows
abbrev Key:=Sum Int Str
def keyIs:Key->Value->Bool
 | .inl k,v=>Value.isInt k v
 | .inr x,v=>Value.isStrOf x v
def keyH (w:World):Key->Int
 | .inl k=>hashInt k
 | .inr x=>hashStr w x
theorem keyIs_shape:∀ {k:Key} {v:Value},keyIs k v=true->(∃ i t,k=Sum.inl i/\v=Value.int i t)\/(∃ x t,k=Sum.inr x/\v=Value.str x t)
 | .inl i,v,h=>by
  obtain ⟨t,e⟩:=Value.isInt_shape (k:=i) (v:=v) h
  exact .inl ⟨i,t,rfl,e⟩
 | .inr x,v,h=>by
  obtain ⟨t,e⟩:=Value.isStrOf_shape (x:=x) (v:=v) h
  exact .inr ⟨x,t,rfl,e⟩
theorem keyIs_int (i:Int) (t:Tok):keyIs (.inl i) (.int i t)=true:=by simp [keyIs,Value.isInt]
theorem keyIs_str (x:Str) (t:Tok):keyIs (.inr x) (.str x t)=true:=by simp [keyIs,Value.isStrOf]
theorem key_ll (a b:Int):decide ((Sum.inl a:Key)=Sum.inl b)=(a == b):=by
 by_cases e:a=b
 ·subst e;simp
 ·have h:¬ (Sum.inl a:Key)=Sum.inl b:=fun q=>e (Sum.inl.inj q)
  rw [decide_eq_false h]
  exact (beq_eq_false_iff_ne.mpr e).symm
theorem key_rr (a b:Str):decide ((Sum.inr a:Key)=Sum.inr b)=decide (a=b):=by
 by_cases e:a=b
 ·subst e;simp
 ·have h:¬ (Sum.inr a:Key)=Sum.inr b:=fun q=>e (Sum.inr.inj q)
  rw [decide_eq_false h,decide_eq_false e]
theorem key_lr (a:Int) (b:Str):decide ((Sum.inl a:Key)=Sum.inr b)=false:=decide_eq_false (fun q=>nomatch q)
theorem key_rl (a:Str) (b:Int):decide ((Sum.inr a:Key)=Sum.inl b)=false:=decide_eq_false (fun q=>nomatch q)
def mixKind (prog:Program) (w:World):PySem.KeyKind prog w Key where
 is:=keyIs
 hash:=keyH w
 inj:=fun v a b ha hb=>by
  rcases keyIs_shape ha with ⟨i,t,rfl,rfl⟩ | ⟨x,t,rfl,rfl⟩
  ·rcases keyIs_shape hb with ⟨j,u,rfl,e⟩ | ⟨y,u,rfl,e⟩
   ·injection e with e1 _;rw [e1]
   ·exact nomatch e
  ·rcases keyIs_shape hb with ⟨j,u,rfl,e⟩ | ⟨y,u,rfl,e⟩
   ·exact nomatch e
   ·injection e with e1 _;rw [e1]
 byValue:=fun k v h=>by
  rcases keyIs_shape h with ⟨i,t,rfl,rfl⟩ | ⟨x,t,rfl,rfl⟩<;>rfl
 pyHash:=fun hv h=>by
  rcases keyIs_shape hv with ⟨i,t,rfl,rfl⟩ | ⟨x,t,rfl,rfl⟩
  ·exact wpAny_pyHash_int h
  ·exact wpAny_pyHash_str h
 eqBool:=fun hu hv h=>by
  rcases keyIs_shape hu with ⟨i,t,rfl,rfl⟩ | ⟨x,t,rfl,rfl⟩
  ·rcases keyIs_shape hv with ⟨j,u,rfl,rfl⟩ | ⟨y,u,rfl,rfl⟩
   ·rw [key_ll] at h;exact wpAny_eqBool_int h
   ·rw [key_lr] at h;exact SeqAt.EqAt.int_str i t y u _ _ _ _ h
  ·rcases keyIs_shape hv with ⟨j,u,rfl,rfl⟩ | ⟨y,u,rfl,rfl⟩
   ·rw [key_rl] at h;exact SeqAt.EqAt.str_int x t j u _ _ _ _ h
   ·rw [key_rr] at h;exact wpAny_eqBool_str h
 «strs» := fun k x t v h=>by
  rcases keyIs_shape h with ⟨i,u,rfl,e⟩ | ⟨y,u,rfl,e⟩
  ·exact nomatch e
  ·injection e with e1 _
   subst e1
   cases v<;>rfl
theorem mixKind_int (prog:Program) (w:World) (i:Int) (t:Tok):(mixKind prog w).is (.inl i) (.int i t)=true:=keyIs_int i t
theorem mixKind_str (prog:Program) (w:World) (x:Str) (t:Tok):(mixKind prog w).is (.inr x) (.str x t)=true:=keyIs_str x t
end L2
namespace L2
open PySem PySem.Spec PyProof.Rows
inductive V where
 | non | bl (b:Bool) | int (i:Int) | str (x:Str) | byt (b:Array UInt8) | flt (b:UInt64) | ref (a:Addr) | ty (n:String)
 deriving DecidableEq
def RelV:V->Value->Prop
 | .non,u=>u=Value.none
 | .bl b,u=>u=Value.bool b
 | .int i,u=>∃ t,u=Value.int i t
 | .str x,u=>∃ t,u=Value.str x t
 | .byt b,u=>∃ t,u=Value.bytes b t
 | .flt b,u=>∃ t,u=Value.float b t
 | .ref a,u=>u=Value.ref a
 | .ty n,u=>u=Value.type n
abbrev Vals:List V->List Value->Prop:=Paired RelV
theorem Vals.length {xs:List V} {us:List Value} (r:Vals xs us):xs.length=us.length:=Paired.length r
theorem Vals.get:∀ {xs:List V} {us:List Value} {i:Nat} {x:V},Vals xs us->xs[i]? = some x->∃ u,us[i]? = some u/\RelV x u
 | _,_,_,_,.nil,e=>by simp at e
 | _,_,0,_,.cons r _,e=>by simp at e;subst e;exact ⟨_,rfl,r⟩
 | _,_,i+1,x,.cons _ t,e=>by
  obtain ⟨u,h1,h2⟩:=Vals.get (i:=i) (x:=x) t (by simpa using e)
  exact ⟨u,by simpa using h1,h2⟩
theorem Vals.set {x:V} {u:Value} (r:RelV x u):∀ {xs:List V} {us:List Value} (i:Nat),Vals xs us->Vals (xs.set i x) (us.set i u)
 | _,_,_,.nil=>.nil
 | _,_,0,.cons _ t=>.cons r t
 | _,_,i+1,.cons q t=>.cons q (Vals.set r i t)
theorem Vals.append:∀ {xs ys:List V} {us ws:List Value},Vals xs us->Vals ys ws->Vals (xs++ys) (us++ws)
 | _,_,_,_,.nil,s=>s
 | _,_,_,_,.cons r t,s=>.cons r (Vals.append t s)
theorem Vals.take:∀ {xs:List V} {us:List Value} (n:Nat),Vals xs us->Vals (xs.take n) (us.take n)
 | _,_,0,_=>.nil
 | _,_,_+1,.nil=>.nil
 | _,_,n+1,.cons r t=>.cons r (Vals.take n t)
theorem Vals.drop:∀ {xs:List V} {us:List Value} (n:Nat),Vals xs us->Vals (xs.drop n) (us.drop n)
 | _,_,0,r=>r
 | _,_,_+1,.nil=>.nil
 | _,_,n+1,.cons _ t=>Vals.drop n t
def RelO:Option V->Option Value->Prop
 | some v,some u=>RelV v u
 | none,none=>True
 | _,_=>False
def KV {κ:Type}:List (κ×V)->List (κ×Value)->Prop:=Paired fun (p:κ×V) (q:κ×Value)=>p.1=q.1/\RelV p.2 q.2
def kV:Key->V
 | .inl i=>.int i
 | .inr x=>.str x
inductive HO where
  | lst (xs:List V)
  | tup (xs:List V)
  | dK (kvs:List (Key×V)) | dT (kvs:List (List Key×V))
  | set (S:Int->Bool) (n:Nat)
  | ins (C dx:Addr) (fs:List (Str×V))
  | own (x:Addr)
  | xd (fs:List (Str×V))
  | met (f x:Addr)
  | rng (lo hi:Int)
  | frz (o:Obj) (u:HO)
  | tbl (ps:Array Value)
  | ext (φ:Heap->Prop)
abbrev Hp:=Addr->Option HO
def upd (H:Hp) (a:Addr) (o:HO):Hp:=fun b=>if b=a then some o else H b
theorem upd_same {H:Hp} {a:Addr} {o:HO}:upd H a o a=some o:=by unfold upd;rw [if_pos rfl]
theorem upd_ne {H:Hp} {a b:Addr} {o:HO} (h:b≠a):upd H a o b=H b:=by unfold upd;rw [if_neg h]
theorem upd_upd {H:Hp} {a:Addr} {o u:HO}:upd (upd H a o) a u=upd H a u:=by
 funext b;unfold upd;split<;>rfl
theorem ne_of {H:Hp} {a b:Addr} {o u:HO} (h:H a=some o) (h':H b=some u) (d:o≠u):a≠b:=by
 intro e;subst e;rw [h] at h';exact d (Option.some.inj h')
theorem ne_of_none {H:Hp} {a b:Addr} {o:HO} (h:H a=some o) (h':H b=none):a≠b:=by
 intro e;subst e;rw [h] at h';cases h'
section
variable (P:Program) (w:World)
def ObjOk (H:Hp) (h:Heap) (a:Addr):HO->Prop
 | .lst xs=>xs.length<=sizeLine/\∃ (its:List Value) (n:Nat),Vals xs its/\h.get? a=some { cls:=.type "list",data:=.seq its.toArray n }
 | .tup xs=>xs.length<=sizeLine/\∃ its:List Value,Vals xs its/\IsTup h a its.toArray
 | .dK kvs=>kvs.length<=sizeLine/\(a == sysModules)=false/\∃ vs,KV kvs vs/\h.DictOf (mixKind P w) a vs
 | .dT kvs=>kvs.length<=sizeLine/\(a == sysModules)=false/\∃ xs:List (List Key×Addr×Value),
   Paired (fun (p:List Key×V) (q:List Key×Addr×Value)=>p.1=q.1/\H q.2.1=some (.tup (p.1.map kV))/\RelV p.2 q.2.2) kvs xs ∧
   ∃ o es ep,h.get? a=some o/\o.ExactDict/\o.data = .dict es ep/\es.toList=xs.map (entryOfKey (tupleKind (mixKind P w)))/\(xs.map (·.1)).Nodup
 | .set S n=>h.SetOf (intKind P w) a S n
 | .ins C dx fs=>H dx=some (.own a)/\fs.length<=1000/\dx≠a/\h.get? a=some (PySem.W.instObj C dx) ∧
   ∃ mA,h.Ns1 dx mA/\(∀ f,RelO (fs.lookup f) (mA f))/\PySem.Within mA (fs.map (·.1))
 | .own _=>∃ o,h.get? a=some o
 | .xd fs=>∃ mA,h.Ns1 a mA/\∀ f,RelO (fs.lookup f) (mA f)
 | .rng lo hi=>∃ t u v,h.get? a=some { cls:=.type "range",data:=.fields #[.int lo t,.int hi u,.int 1 v] }
 | .frz o u=>h.get? a=some o/\ObjOk H h a u
 | .tbl ps=>h.get? a=some { cls:=.none,data:=.fields ps }
 | .met f x=>h.get? a=some (PySem.W.methodObj (.ref f) (.ref x))
 | .ext φ=>φ h/\(∃ o,h.get? a=some o)/\∀ h1 h2:Heap,φ h1->(∀ o,h1.get? a=some o->h2.get? a=some o)->φ h2
def HOk (H:Hp) (h:Heap):Prop:=∀ a o,H a=some o->ObjOk P w H h a o
end
section
variable {P:Program} {w:World} {H H':Hp} {h h':Heap} {a:Addr} {o:HO}
theorem ObjOk.lt (x:ObjOk P w H h a o):a < h.objs.size:=by
 cases o with
 | lst xs=>obtain ⟨_,_,_,_,e⟩:=x;exact Heap.lt_size e
 | tup xs=>obtain ⟨_,_,_,p⟩:=x;exact p.lt
 | dK kvs=>obtain ⟨_,_,_,_,o,_,_,e,_⟩:=x;exact Heap.lt_size e
 | dT kvs=>obtain ⟨_,_,_,_,o,_,_,e,_⟩:=x;exact Heap.lt_size e
 | set S n=>obtain ⟨o,_,_,_,e,_⟩:=x;exact Heap.lt_size e
 | ins C dx fs=>obtain ⟨_,_,_,e,_⟩:=x;exact Heap.lt_size e
 | own y=>obtain ⟨_,e⟩:=x;exact Heap.lt_size e
 | xd fs=>obtain ⟨_,⟨_,_,_,e,_⟩,_⟩:=x;exact Heap.lt_size e
 | rng lo hi=>obtain ⟨_,_,_,e⟩:=x;exact Heap.lt_size e
 | frz ob u=>obtain ⟨e,_⟩:=x;exact Heap.lt_size e
 | tbl ps=>exact Heap.lt_size (show h.get? a=some _ from x)
 | met f y=>exact Heap.lt_size (show h.get? a=some _ from x)
 | ext φ=>obtain ⟨_,⟨_,e⟩,_⟩:=x;exact Heap.lt_size e
theorem Paired.mapP {α β:Type} {F G:α->β->Prop}:∀ {l₁:List α} {l₂:List β},Paired F l₁ l₂->(∀ a b,F a b->G a b)->Paired G l₁ l₂
 | _,_,.nil,_=>.nil
 | _,_,.cons r t,f=>.cons (f _ _ r) (Paired.mapP t f)
theorem ObjOk.stay (x:ObjOk P w H h a o) (k:∀ b u,(b=a\/H b=some (.own a))->h.get? b=some u->h'.get? b=some u)
  (ho:∀ b,H b=some (.own a)->H' b=some (.own a)) (ht:∀ b xs,H b=some (.tup xs)->H' b=some (.tup xs)):ObjOk P w H' h' a o:=by
 induction o with
 | lst xs=>obtain ⟨z,its,n,r,e⟩:=x;exact ⟨z,its,n,r,k _ _ (.inl rfl) e⟩
 | tup xs=>obtain ⟨z,its,r,ob,e,c⟩:=x;exact ⟨z,its,r,ob,k _ _ (.inl rfl) e,c⟩
 | dK kvs=>obtain ⟨z,y,vs,r,ob,es,ep,e,c⟩:=x;exact ⟨z,y,vs,r,ob,es,ep,k _ _ (.inl rfl) e,c⟩
 | dT kvs=>
  obtain ⟨z,y,xs,r,ob,es,ep,e,c⟩:=x
  exact ⟨z,y,xs,Paired.mapP r fun p q z=>⟨z.1,ht _ _ z.2.1,z.2.2⟩,ob,es,ep,k _ _ (.inl rfl) e,c⟩
 | set S n=>obtain ⟨ob,es,ep,t,e,c⟩:=x;exact ⟨ob,es,ep,t,k _ _ (.inl rfl) e,c⟩
 | ins C dx fs=>
  obtain ⟨d,z,ne,e,mA,⟨od,es,ep,e2,c⟩,r⟩:=x
  exact ⟨ho _ d,z,ne,k _ _ (.inl rfl) e,mA,⟨od,es,ep,k _ _ (.inr d) e2,c⟩,r⟩
 | own y=>obtain ⟨ob,e⟩:=x;exact ⟨ob,k _ _ (.inl rfl) e⟩
 | xd fs=>obtain ⟨mA,⟨od,es,ep,e,c⟩,r⟩:=x;exact ⟨mA,⟨od,es,ep,k _ _ (.inl rfl) e,c⟩,r⟩
 | rng lo hi=>obtain ⟨t,u,v,e⟩:=x;exact ⟨t,u,v,k _ _ (.inl rfl) e⟩
 | frz ob u ih=>obtain ⟨e,q⟩:=x;exact ⟨k _ _ (.inl rfl) e,ih q⟩
 | tbl ps=>
  have e:h.get? a=some { cls:=.none,data:=.fields ps }:=x
  show h'.get? a=some { cls:=.none,data:=.fields ps }
  exact k a _ (.inl rfl) e
 | met f y=>
  have e:h.get? a=some (PySem.W.methodObj (.ref f) (.ref y)):=x
  show h'.get? a=some (PySem.W.methodObj (.ref f) (.ref y))
  exact k a _ (.inl rfl) e
 | ext φ=>obtain ⟨p,⟨o,e⟩,st⟩:=x;exact ⟨st _ _ p fun o q=>k _ _ (.inl rfl) q,⟨o,k _ _ (.inl rfl) e⟩,st⟩
theorem HOk.lt (x:HOk P w H h) (e:H a=some o):a < h.objs.size:=(x a o e).lt
theorem HOk.fresh (x:HOk P w H h) (e:h.objs.size<=a):H a=none:=by
 cases q:H a with
 | none=>rfl
 | some u=>exact absurd (Nat.lt_of_lt_of_le (x.lt q) e) (Nat.lt_irrefl _)
theorem HOk.kept (x:HOk P w H h) (k:∀ b u,h.get? b=some u->h'.get? b=some u):HOk P w H h':=fun a o e=>
 (x a o e).stay (fun b u _ q=>k b u q) (fun _ q=>q) fun _ _ q=>q
theorem HOk.laid (x:HOk P w H h) (k:∀ b u,h.get? b=some u->h'.get? b=some u) (hp:h.objs.size<=a) (new:ObjOk P w (upd H a o) h' a o):HOk P w (upd H a o) h':=fun b u e=>by
 have hn:=x.fresh hp
 by_cases hb:b=a
 ·subst hb;rw [upd_same] at e;cases e;exact new
 ·rw [upd_ne hb] at e
  exact (x b u e).stay (fun c v _ q=>k c v q) (fun c q=>by rw [upd_ne (ne_of_none q hn)];exact q) fun c xs q=>by rw [upd_ne (ne_of_none q hn)];exact q
end
def Rd (H:Hp) (a:Addr) (u:HO):Prop:=H a=some u\/∃ o,H a=some (.frz o u)
theorem Rd.of {H:Hp} {a:Addr} {u:HO} (h:H a=some u):Rd H a u:=.inl h
theorem Rd.ok {P:Program} {w:World} {H:Hp} {h:Heap} {a:Addr} {u:HO} (r:Rd H a u) (x:HOk P w H h):ObjOk P w H h a u:=by
 rcases r with r | ⟨o,r⟩
 ·exact x a u r
 ·obtain ⟨_,q⟩:=x a _ r
  exact q
def Mut:Option HO->Prop
 | some (.lst _)=>True
 | some (.dK _)=>True
 | some (.dT _)=>True
 | some (.set _ _)=>True
 | some (.ins _ _ _)=>True
 | some (.ext _)=>True
 | _=>False
section
variable {P:Program} {w:World} {H:Hp} {h h':Heap} {x e:Addr} {o':HO}
theorem HOk.write (ok:HOk P w H h) (mu:Mut (H x)) (he:e=x\/H e=some (.own x)) (k:∀ b u,b≠e->h.get? b=some u->h'.get? b=some u) (heo:∃ u,h'.get? e=some u)
  (new:ObjOk P w (upd H x o') h' x o'):HOk P w (upd H x o') h':=fun b u q=>by
 have nown:∀ c y,H c=some (.own y)->c≠x:=fun c y r z=>by subst z;rw [r] at mu;exact mu
 have ntup:∀ c xs,H c=some (.tup xs)->c≠x:=fun c xs r z=>by subst z;rw [r] at mu;exact mu
 by_cases hb:b=x
 ·subst hb;rw [upd_same] at q;cases q;exact new
 ·rw [upd_ne hb] at q
  by_cases hbe:b=e
  ·have q':H b=some (.own x):=by
    rcases he with z | z
    ·exact absurd (hbe.trans z) hb
    ·rw [hbe];exact z
   rw [q] at q';cases q'
   obtain ⟨v,hv⟩:=heo
   exact ⟨v,by rw [hbe];exact hv⟩
  ·refine (ok b u q).stay (fun c v hc r=>k c v ?_ r) (fun c r=>by rw [upd_ne (nown c b r)];exact r) fun c xs r=>by rw [upd_ne (ntup c xs r)];exact r
   rcases hc with rfl | hc
   ·exact hbe
   ·rintro rfl
    rcases he with z | z
    ·exact nown c b hc z
    ·rw [hc] at z;cases z;exact hb rfl
end
structure Un (fs ex:List Addr) (H H':Hp) (h h':Heap):Prop where
 keep:∀ b o,h.get? b=some o->H b=none->b ∉ fs->b ∉ ex->h'.get? b=some o
 slot:∀ b o,h.get? b=some o->H b=none->b∈fs->b ∉ ex->∃ sl,h'.get? b=some { o with slots:=sl }
 free:∀ b o,h.get? b=some o->H b=none->b ∉ ex->H' b=none
 there:∀ b o,h.get? b=some o->b ∉ ex->∃ o',h'.get? b=some o'
 tups:∀ b xs,H b=some (.tup xs)->H' b=some (.tup xs)
 frzs:∀ b o u,H b=some (.frz o u)->H' b=some (.frz o u)
 tbls:∀ b ps,H b=some (.tbl ps)->∃ more,H' b=some (.tbl (ps++more))
section
variable {fs fs' ex ex':List Addr} {H H1 H2:Hp} {h h1 h2 h':Heap} {a x e:Addr} {o:HO}
theorem Un.any (u:Un fs ex H H1 h h1) {b:Addr} {ob:Obj} (q:h.get? b=some ob) (n:H b=none) (hx:b ∉ ex):∃ sl,h1.get? b=some { ob with slots:=sl }:=by
 by_cases hb:b∈fs
 ·exact u.slot b ob q n hb hx
 ·exact ⟨ob.slots,u.keep b ob q n hb hx⟩
theorem Un.trans (a:Un fs ex H H1 h h1) (b:Un fs ex H1 H2 h1 h2):Un fs ex H H2 h h2 where
 keep:=fun c ob q n hc hx=>b.keep c ob (a.keep c ob q n hc hx) (a.free c ob q n hx) hc hx
 slot:=fun c ob q n hc hx=>by
  obtain ⟨sl,e1⟩:=a.slot c ob q n hc hx
  obtain ⟨sl',e2⟩:=b.slot c _ e1 (a.free c ob q n hx) hc hx
  exact ⟨sl',e2⟩
 free:=fun c ob q n hx=>by
  obtain ⟨o',e1⟩:=a.there c ob q hx
  exact b.free c o' e1 (a.free c ob q n hx) hx
 there:=fun c ob q hx=>by
  obtain ⟨o',e1⟩:=a.there c ob q hx
  exact b.there c o' e1 hx
 tups:=fun c xs q=>b.tups c xs (a.tups c xs q)
 frzs:=fun c ob xs q=>b.frzs c ob xs (a.frzs c ob xs q)
 tbls:=fun c ps q=>by
  obtain ⟨m1,e1⟩:=a.tbls c ps q
  obtain ⟨m2,e2⟩:=b.tbls c _ e1
  exact ⟨m1++m2,by rw [e2,Array.append_assoc]⟩
theorem Un.kept (k:∀ b u,h.get? b=some u->h'.get? b=some u):Un fs ex H H h h':=
 ⟨fun b ob q _ _ _=>k b ob q,fun b ob q _ _ _=>⟨ob.slots,k b ob q⟩,fun _ _ _ n _=>n,fun b ob q _=>⟨ob,k b ob q⟩,fun _ _ q=>q,fun _ _ _ q=>q,fun _ ps q=>⟨#[],by rw [q];simp⟩⟩
theorem Un.refl:Un fs ex H H h h:=Un.kept fun _ _ q=>q
theorem Un.laid (k:∀ b u,h.get? b=some u->h'.get? b=some u) (hp:h.objs.size<=a) (hn:H a=none):Un fs ex H (upd H a o) h h' where
 keep:=fun b u q _ _ _=>k b u q
 slot:=fun b u q _ _ _=>⟨u.slots,k b u q⟩
 free:=fun b u q n _=>by rw [upd_ne (Nat.ne_of_lt (Nat.lt_of_lt_of_le (Heap.lt_size q) hp))];exact n
 there:=fun b u q _=>⟨u,k b u q⟩
 tups:=fun b xs q=>by rw [upd_ne (ne_of_none q hn)];exact q
 frzs:=fun b u xs q=>by rw [upd_ne (ne_of_none q hn)];exact q
 tbls:=fun b ps q=>⟨#[],by rw [upd_ne (ne_of_none q hn),q];simp⟩
theorem Un.write (mu:Mut (H x)) (he:e=x\/H e=some (.own x)) (k:∀ b u,b≠e->h.get? b=some u->h'.get? b=some u) (heo:∃ u,h'.get? e=some u):Un fs ex H (upd H x o) h h':=by
 have hx:∀ b,H b=none->b≠x:=fun b n z=>by subst z;rw [n] at mu;exact mu
 have hb:∀ b,H b=none->b≠e:=fun b n z=>by
  subst z
  rcases he with r | r
  ·exact hx b n r
  ·rw [n] at r;cases r
 have hm:∀ b u,H b=some u->¬ Mut (some u)->b≠x:=fun b u q nm z=>by subst z;rw [q] at mu;exact nm mu
 refine ⟨fun b u q n _ _=>k b u (hb b n) q,fun b u q n _ _=>⟨u.slots,k b u (hb b n) q⟩,fun b u q n _=>by rw [upd_ne (hx b n)];exact n,fun b u q _=>?_,
  fun b xs q=>by rw [upd_ne (hm b _ q fun z=>z)];exact q,fun b u xs q=>by rw [upd_ne (hm b _ q fun z=>z)];exact q,fun b ps q=>⟨#[],by rw [upd_ne (hm b _ q fun z=>z),q];simp⟩⟩
 by_cases hbe:b=e
 ·subst hbe;exact heo
 ·exact ⟨u,k b u hbe q⟩
theorem Un.mono (u:Un fs ex H H1 h h1) (hs:∀ b∈fs,b∈fs') (hx:∀ b∈ex,b∈ex'):Un fs' ex' H H1 h h1:=
 ⟨fun b ob q n hb he=>u.keep b ob q n (fun z=>hb (hs b z)) fun z=>he (hx b z),fun _ _ q n _ he=>u.any q n fun z=>he (hx _ z),fun b ob q n he=>u.free b ob q n fun z=>he (hx b z),fun b ob q he=>u.there b ob q fun z=>he (hx b z),u.tups,u.frzs,u.tbls⟩
end
def trk (h:Heap) (H:Hp):List Addr:=(List.range h.objs.size).filter fun a=>(H a).isSome
def hidT (h:Heap) (H:Hp):Heap:=PySem.W.hideAll h (trk h H)
theorem hidT_size (h:Heap) (H:Hp):(hidT h H).objs.size=h.objs.size:=PySem.W.hideAll_size _ _
theorem hidT_get {h:Heap} {H:Hp} {b:Addr} {o:Obj} (e:h.get? b=some o) (n:H b=none):(hidT h H).get? b=some o:=
 PySem.W.hideAll_get _ e fun hm=>by
  have q:(H b).isSome=true:=(List.mem_filter.mp hm).2
  rw [n] at q;simp at q
theorem of_hidT {h:Heap} {H:Hp} {b:Addr} {o:Obj} (e:(hidT h H).get? b=some o):h.get? b=some o/\H b=none:=by
 have e':h.get? b=some o:=PySem.W.of_hideAll (trk h H) e
 refine ⟨e',?_⟩
 cases q:H b with
 | none=>rfl
 | some x=>
  have hm:b∈trk h H:=List.mem_filter.mpr ⟨List.mem_range.mpr (Heap.lt_size e'),by simp [q]⟩
  have z:(hidT h H).get? b=none:=PySem.W.hideAll_none (trk h H) hm
  rw [z] at e;cases e
def allNews (g h:Heap) (L:Addr):List (Addr×Obj):=(List.range h.objs.size).filterMap fun a=>if a=L\/(g.get? a).isSome=true then none else (h.get? a).map fun o=>(a,o)
def rest (g h:Heap) (L d:Addr):List (Addr×Obj):=(allNews g h L).filter fun p=>decide (p.1≠d)
end L2
namespace L2
open PySem PySem.Spec PyProof.Rows
structure Mod (K:PySem.W.Frag) (mg:Str->Option Value) (base:Heap):Prop where
 kin:K.In base
 glob:base.Ns mainGlobals mg
 blt:∃ mb,base.Ns builtinsNs mb/\∀ x:Str,x≠"__name__"->mb x=bootBuiltins x
 nolimit:base.NoLimit
structure Cx where
 prog:Program
 w:World
 K:PySem.W.Frag
 mg:Str->Option Value
 base:Heap
 A:Around
 N:List Str
 s₀:Shared
 H₀:Hp
 env:Env
 outer:List Env
 stack:List Env
 ex:List Addr
 fn:Str->Bool
 calm:Bool
 pn:List (Addr×Obj)
 xe:Value->Shared->Prop
def frs (l:List Env):List Addr:=l.filterMap (·.frame)
abbrev Cx.fs (X:Cx):List Addr:=frs X.outer
def Vis (sc:Scope) (x:Str):Prop:=sc.names.lookup x=some .local\/sc.names.lookup x=some .cell\/sc.names.lookup x=some .free
def Loc (sc:Scope) (x:Str):Prop:=sc.names.lookup x=some .local\/sc.names.lookup x=some .cell
def Look (env:Env) (h:Heap) (m:Str->Option Value) (x:Str) (u:Value):Prop:=
 (env.kindOf x=some .local/\m x=some u)\/((env.kindOf x=some .cell\/env.kindOf x=some .free)/\∃ c,env.cells.lookup x=some c/\h.IsCell c (some u))
structure Cx.Ok (X:Cx):Prop where
 mod:Mod X.K X.mg X.base
 kind:X.env.scope.kind = .function
 glob:X.env.globals=mainGlobals
 blt:X.env.builtins=builtinsNs
 above:X.s₀.heap.objs.size<=X.env.locals
 inj:∀ x y c,X.env.cells.lookup x=some c->X.env.cells.lookup y=some c->x=y
 has:∀ x,(X.env.kindOf x=some .cell\/X.env.kindOf x=some .free)->∃ c,X.env.cells.lookup x=some c
 cab:∀ x c,X.fn x=true->X.env.cells.lookup x=some c->X.s₀.heap.objs.size<=c
 hd:X.calm=true->X.A.handled=none
 frames:X.A.frames=some X.stack
 stk:X.stack=X.outer\/(X.stack=X.env :: X.outer/\X.env.frame=some X.env.locals)
 exf:∀ b∈X.ex,b≠X.env.locals/\∀ x c,X.env.cells.lookup x=some c->c≠b
 bs:∀ b o,X.base.get? b=some o->X.s₀.heap.get? b=some o/\X.H₀ b=none
 bsz:X.base.objs.size<=X.s₀.heap.objs.size
 noex:∀ b o,X.base.get? b=some o->b ∉ X.ex
 exfs:∀ b∈X.ex,b ∉ X.fs
 funs:X.s₀.heap.FunFrames X.base X.outer
 frf:∀ b∈X.fs,X.H₀ b=none
structure Inv (X:Cx) (pins:List (Addr×Obj)) (σ:List (Option V)) (H:Hp) (s:Shared):Prop where
 ok:X.Ok
 os:s.os=X.s₀.os
 bare:AllBare s.gens
 base:Un X.fs X.ex X.H₀ H X.s₀.heap s.heap
 loc:∃ m,s.heap.Ns X.env.locals m/\∀ (i:Nat) (x:Str) (v:V),X.N[i]? = some x->σ[i]? = some (some v)->Vis X.env.scope x->∃ u,RelV v u/\Look X.env s.heap m x u
 cell:∀ x c,X.env.cells.lookup x=some c->∃ v,s.heap.IsCell c v
 free:H X.env.locals=none
 freeC:∀ x c,X.env.cells.lookup x=some c->H c=none
 pin:∀ p∈X.pn++pins,s.heap.get? p.1=some p.2/\H p.1=none/\p.1≠X.env.locals/\p.1 ∉ X.fs/\∀ v,p.2.data≠.cell v
 hok:HOk X.prog X.w H s.heap
 len:σ.length=X.N.length
section
variable {X:Cx} {pins:List (Addr×Obj)} {σ:List (Option V)} {H H':Hp} {s:Shared} {h':Heap}
theorem Cx.Ok.nofr (ok:X.Ok) {b:Addr} {o:Obj} (e:X.base.get? b=some o):b ∉ X.fs:=fun hb=>by
 have:=(ok.funs.mem hb).1
 rw [e] at this;cases this
theorem Inv.bs (I:Inv X pins σ H s):∀ b o,X.base.get? b=some o->s.heap.get? b=some o/\H b=none:=fun b o e=>
 ⟨I.base.keep b o (I.ok.bs b o e).1 (I.ok.bs b o e).2 (I.ok.nofr e) (I.ok.noex b o e),I.base.free b o (I.ok.bs b o e).1 (I.ok.bs b o e).2 (I.ok.noex b o e)⟩
theorem Inv.bk (I:Inv X pins σ H s):∀ b o,X.base.get? b=some o->s.heap.get? b=some o:=fun b o e=>(I.bs b o e).1
theorem Inv.mod (I:Inv X pins σ H s):Mod X.K X.mg X.base:=I.ok.mod
theorem Inv.kIn (I:Inv X pins σ H s):X.K.In s.heap:=I.ok.mod.kin.keeps I.bk
theorem Inv.nolimit (I:Inv X pins σ H s):s.heap.NoLimit:=I.ok.mod.nolimit.keeps I.bk
theorem Inv.fr (I:Inv X pins σ H s):∃ m,Fr X.base X.env.locals s.heap m:=
 let ⟨m,hn,_⟩:=I.loc
 ⟨m,hn,I.bk,Nat.le_trans I.ok.bsz I.ok.above⟩
theorem Inv.lt (I:Inv X pins σ H s):X.env.locals < s.heap.objs.size:=let ⟨_,hn,_⟩:=I.loc;hn.lt
theorem Inv.sz (I:Inv X pins σ H s):X.s₀.heap.objs.size<=s.heap.objs.size:=Nat.le_trans I.ok.above (Nat.le_of_lt I.lt)
theorem Inv.nofs (I:Inv X pins σ H s) {a:Addr} (h:s.heap.objs.size<=a):a ∉ X.fs:=fun hb=>by
 obtain ⟨_,o,ho,_⟩:=I.ok.funs.mem hb
 exact absurd (Nat.lt_of_lt_of_le (Heap.lt_size ho) (Nat.le_trans I.sz h)) (Nat.lt_irrefl _)
theorem Inv.cne (I:Inv X pins σ H s):∀ x c,X.env.cells.lookup x=some c->c≠X.env.locals:=fun x c e z=>by
 obtain ⟨v,o,ho,hd⟩:=I.cell x c e
 obtain ⟨m,⟨o',es,ep,ho',hd',_⟩,_⟩:=I.loc
 rw [z,ho'] at ho;cases ho;rw [hd'] at hd;cases hd
theorem Inv.funs (I:Inv X pins σ H s):s.heap.FunFrames X.base X.outer:=by
 have all:∀ (l:List Env),(∀ b∈frs l,b∈X.fs)->X.s₀.heap.FunFrames X.base l->s.heap.FunFrames X.base l:=by
  intro l
  induction l with
  | nil=>intro _ _;trivial
  | cons env r ih=>
   intro hs hl
   obtain ⟨hk,⟨L,o,hf,hn,ho,hd⟩,hr⟩:=hl
   have hL:L∈X.fs:=hs L (by unfold frs;rw [List.filterMap_cons,hf];exact List.mem_cons_self)
   obtain ⟨sl,e⟩:=I.base.slot L o ho (I.ok.frf L hL) hL fun z=>I.ok.exfs L z hL
   exact ⟨hk,⟨L,_,hf,hn,e,hd⟩,ih (fun b hb=>hs b (by unfold frs;rw [List.filterMap_cons,hf];exact List.mem_cons_of_mem _ hb)) hr⟩
 exact all X.outer (fun _ hb=>hb) I.ok.funs
theorem Inv.stack (I:Inv X pins σ H s):s.heap.FunFrames X.base X.stack:=by
 rcases I.ok.stk with e | ⟨e,hf⟩
 ·rw [e];exact I.funs
 ·rw [e]
  obtain ⟨m,hn,_⟩:=I.loc
  refine .cons (by rw [I.ok.kind];decide) hf hn ?_ I.funs
  exact Heap.get?_none_of_le (Nat.le_trans I.ok.bsz I.ok.above)
theorem Inv.stkSub (I:Inv X pins σ H s):∀ b∈frs X.stack,b∈X.env.locals :: X.fs:=fun b hb=>by
 rcases I.ok.stk with e | ⟨e,hf⟩
 ·rw [e] at hb;exact List.mem_cons_of_mem _ hb
 ·rw [e] at hb
  unfold frs at hb
  rw [List.filterMap_cons,hf] at hb
  exact hb
theorem Inv.stkFree (I:Inv X pins σ H s):∀ b∈frs X.stack,H b=none:=fun b hb=>by
 rcases List.mem_cons.mp (I.stkSub b hb) with e | hb
 ·rw [e];exact I.free
 ·obtain ⟨_,o,ho,_⟩:=I.ok.funs.mem hb
  exact I.base.free b o ho (I.ok.frf b hb) fun z=>I.ok.exfs b z hb
theorem Inv.step {g':Array GenState} {t':Nat} {d':Drawn} {ch:List Addr} (I:Inv X pins σ H s)
  (hch:∀ b∈ch,(b∈X.ex\/X.s₀.heap.objs.size<=b)/\b≠X.env.locals/\(∀ x c,X.env.cells.lookup x=some c->c≠b)/\∀ p∈X.pn++pins,p.1≠b)
  (keep:∀ b o,b≠X.env.locals->b ∉ X.fs->b ∉ ch->s.heap.get? b=some o->H b=none->h'.get? b=some o)
  (slot:∀ b o,b≠X.env.locals->b∈X.fs->b ∉ ch->s.heap.get? b=some o->H b=none->∃ sl,h'.get? b=some { o with slots:=sl }) (free:∀ b o,b ∉ ch->s.heap.get? b=some o->H b=none->H' b=none)
  (there:∀ b o,b ∉ ch->s.heap.get? b=some o->∃ o',h'.get? b=some o')
  (tups:∀ b xs,H b=some (.tup xs)->H' b=some (.tup xs)) (frzs:∀ b o u,H b=some (.frz o u)->H' b=some (.frz o u)) (tbls:∀ b ps,H b=some (.tbl ps)->∃ more,H' b=some (.tbl (ps++more)))
  (ns:∀ m,s.heap.Ns X.env.locals m->h'.Ns X.env.locals m) (hok:HOk X.prog X.w H' h') (hg:AllBare g') :
  Inv X pins σ H' { s with heap:=h',gens:=g',drawn:=d',toks:=t' }:=by
 have neL:∀ b o,X.s₀.heap.get? b=some o->b≠X.env.locals:=fun b o e=>Nat.ne_of_lt (Nat.lt_of_lt_of_le (Heap.lt_size e) I.ok.above)
 have neC:∀ b o,X.s₀.heap.get? b=some o->b ∉ X.ex->b ∉ ch:=fun b o e hx hb=>by
  rcases (hch b hb).1 with z | z
  ·exact hx z
  ·exact absurd (Nat.lt_of_lt_of_le (Heap.lt_size e) z) (Nat.lt_irrefl _)
 have cellK:∀ x c,X.env.cells.lookup x=some c->∀ v,s.heap.IsCell c v->h'.IsCell c v:=fun x c e v ⟨o,ho,hd⟩=>by
  have nch:c ∉ ch:=fun z=>(hch c z).2.2.1 x c e rfl
  by_cases hc:c∈X.fs
  ·obtain ⟨sl,q⟩:=slot c o (I.cne x c e) hc nch ho (I.freeC x c e)
   exact ⟨_,q,hd⟩
  ·exact ⟨o,keep c o (I.cne x c e) hc nch ho (I.freeC x c e),hd⟩
 refine ⟨I.ok,I.os,hg,⟨fun b o e n hb hx=>?_,fun b o e n hb hx=>?_,fun b o e n hx=>?_,fun b o e hx=>?_,fun b xs e=>tups b xs (I.base.tups b xs e),fun b o xs e=>frzs b o xs (I.base.frzs b o xs e),fun b ps e=>?_⟩,?_,fun x c e=>?_,?_,fun x c e=>?_,fun p hp=>?_,hok,I.len⟩
 ·exact keep b o (neL b o e) hb (neC b o e hx) (I.base.keep b o e n hb hx) (I.base.free b o e n hx)
 ·obtain ⟨sl,e1⟩:=I.base.slot b o e n hb hx
  obtain ⟨sl',e2⟩:=slot b _ (neL b o e) hb (neC b o e hx) e1 (I.base.free b o e n hx)
  exact ⟨sl',e2⟩
 ·obtain ⟨o',e1⟩:=I.base.there b o e hx
  exact free b o' (neC b o e hx) e1 (I.base.free b o e n hx)
 ·obtain ⟨o',e1⟩:=I.base.there b o e hx
  exact there b o' (neC b o e hx) e1
 ·obtain ⟨m1,e1⟩:=I.base.tbls b ps e
  obtain ⟨m2,e2⟩:=tbls b _ e1
  exact ⟨m1++m2,by rw [e2,Array.append_assoc]⟩
 ·obtain ⟨m,hn,hl⟩:=I.loc
  refine ⟨m,ns m hn,fun i x v e1 e2 e3=>?_⟩
  obtain ⟨u,r,l⟩:=hl i x v e1 e2 e3
  refine ⟨u,r,?_⟩
  rcases l with l | ⟨k,c,e,z⟩
  ·exact .inl l
  ·exact .inr ⟨k,c,e,cellK x c e _ z⟩
 ·obtain ⟨v,z⟩:=I.cell x c e
  exact ⟨v,cellK x c e v z⟩
 ·obtain ⟨m,⟨o,_,_,ho,_⟩,_⟩:=I.loc
  exact free _ o (fun z=>(hch _ z).2.1 rfl) ho I.free
 ·obtain ⟨v,o,ho,hd⟩:=I.cell x c e
  exact free c o (fun z=>(hch c z).2.2.1 x c e rfl) ho (I.freeC x c e)
 ·obtain ⟨e,n,ne,nf,d⟩:=I.pin p hp
  have nch:p.1 ∉ ch:=fun z=>(hch p.1 z).2.2.2 p hp rfl
  exact ⟨keep p.1 p.2 ne nf nch e n,free p.1 p.2 nch e n,ne,nf,d⟩
theorem Inv.un {t':Nat} (I:Inv X pins σ H s) (u:Un X.fs [] H H' s.heap h') (hok:HOk X.prog X.w H' h'):Inv X pins σ H' { s with heap:=h',toks:=t' }:=by
 obtain ⟨m,⟨o,es,ep,ho,r⟩,_⟩:=id I.loc
 obtain ⟨sl,hL⟩:=u.any ho I.free (by simp)
 exact I.step (g':=s.gens) (d':=s.drawn) (ch:=[]) (fun _ z=>nomatch z) (fun b o _ hb _ e n=>u.keep b o e n hb (by simp)) (fun b o _ hb _ e n=>u.slot b o e n hb (by simp)) (fun b o _ e n=>u.free b o e n (by simp)) (fun b o _ e=>u.there b o e (by simp)) u.tups u.frzs u.tbls (fun m' hm=>by
  obtain ⟨o',es',ep',ho',r'⟩:=hm
  rw [ho] at ho';cases ho'
  exact ⟨_,es',ep',hL,r'⟩) hok I.bare
theorem Inv.call {g':Array GenState} {t':Nat} {d':Drawn} {ch:List Addr} (I:Inv X pins σ H s) (u:Un (frs X.stack) ch H H' s.heap h') (hok:HOk X.prog X.w H' h') (hg:AllBare g')
  (hch:∀ b∈ch,(b∈X.ex\/X.s₀.heap.objs.size<=b)/\b≠X.env.locals/\(∀ x c,X.env.cells.lookup x=some c->c≠b)/\∀ p∈X.pn++pins,p.1≠b) :
  Inv X pins σ H' { s with heap:=h',gens:=g',drawn:=d',toks:=t' }:=by
 obtain ⟨m,⟨o,es,ep,ho,r⟩,_⟩:=id I.loc
 obtain ⟨sl,hL⟩:=u.any ho I.free fun z=>(hch _ z).2.1 rfl
 exact I.step (ch:=ch) hch (fun b o hL hb hc e n=>u.keep b o e n (fun z=>(List.mem_cons.mp (I.stkSub b z)).elim hL hb) hc) (fun b o _ _ hc e n=>u.any e n hc) (fun b o hc e n=>u.free b o e n hc) (fun b o hc e=>u.there b o e hc) u.tups u.frzs u.tbls (fun m' hm=>by
  obtain ⟨o',es',ep',ho',r'⟩:=hm
  rw [ho] at ho';cases ho'
  exact ⟨_,es',ep',hL,r'⟩) hok hg
theorem Inv.turned {t':Nat} {it:Addr} (I:Inv X pins σ H s) (k:∀ b o,b≠it->s.heap.get? b=some o->h'.get? b=some o) (hn:H it=none) (hL:it≠X.env.locals)
  (h1:it∈X.ex\/X.s₀.heap.objs.size<=it) (h2:∀ x c,X.env.cells.lookup x=some c->c≠it) (h3:∀ p∈X.pn++pins,p.1≠it):Inv X pins σ H { s with heap:=h',toks:=t' }:=by
 have nit:∀ b u,H b=some u->b≠it:=fun b u e z=>by rw [z,hn] at e;cases e
 refine I.step (g':=s.gens) (d':=s.drawn) (ch:=[it]) (fun b hb=>?_) (fun b o _ _ hc e _=>k b o (fun z=>hc (by simp [z])) e) (fun b o _ _ hc e _=>⟨o.slots,k b o (fun z=>hc (by simp [z])) e⟩) (fun _ _ _ _ n=>n)
  (fun b o hc e=>⟨o,k b o (fun z=>hc (by simp [z])) e⟩) (fun _ _ e=>e) (fun _ _ _ e=>e) (fun b ps e=>⟨#[],by rw [e];simp⟩) (fun m hm=>?_) (fun b u e=>?_) I.bare
 ·have e:b=it:=by simpa using hb
  subst e
  exact ⟨h1,hL,h2,h3⟩
 ·obtain ⟨o,es,ep,ho,r⟩:=hm
  exact ⟨o,es,ep,k _ o (Ne.symm hL) ho,r⟩
 ·refine (I.hok b u e).stay (fun c v hc q=>k c v ?_ q) (fun _ q=>q) fun _ _ q=>q
  rcases hc with z | z
  ·rw [z];exact nit b u e
  ·exact nit c _ z
theorem Inv.tok (I:Inv X pins σ H s) (t:Nat):Inv X pins σ H { s with toks:=t }:=I.un (h':=s.heap) (t':=t) Un.refl I.hok
theorem Inv.kept {t':Nat} (I:Inv X pins σ H s) (k:∀ b u,s.heap.get? b=some u->h'.get? b=some u):Inv X pins σ H { s with heap:=h',toks:=t' }:=I.un (Un.kept k) (I.hok.kept k)
theorem Inv.laid {a:Addr} {o:HO} {t':Nat} (I:Inv X pins σ H s) (k:∀ b u,s.heap.get? b=some u->h'.get? b=some u) (hp:s.heap.objs.size<=a) (new:ObjOk X.prog X.w (upd H a o) h' a o) :
  Inv X pins σ (upd H a o) { s with heap:=h',toks:=t' }:=I.un (Un.laid k hp (I.hok.fresh hp)) (I.hok.laid k hp new)
theorem Inv.write {x e:Addr} {o:HO} {t':Nat} (I:Inv X pins σ H s) (mu:Mut (H x)) (he:e=x\/H e=some (.own x)) (k:∀ b u,b≠e->s.heap.get? b=some u->h'.get? b=some u) (heo:∃ u,h'.get? e=some u)
  (new:ObjOk X.prog X.w (upd H x o) h' x o):Inv X pins σ (upd H x o) { s with heap:=h',toks:=t' }:=I.un (Un.write mu he k heo) (I.hok.write mu he k heo new)
theorem Inv.pins_of {pins':List (Addr×Obj)} (I:Inv X pins σ H s) (h:∀ p∈pins',s.heap.get? p.1=some p.2/\H p.1=none/\p.1≠X.env.locals/\p.1 ∉ X.fs/\∀ v,p.2.data≠.cell v):Inv X pins' σ H s:=
 ⟨I.ok,I.os,I.bare,I.base,I.loc,I.cell,I.free,I.freeC,fun p hp=>(List.mem_append.mp hp).elim (fun z=>I.pin p (List.mem_append_left _ z)) (h p),I.hok,I.len⟩
theorem nodup_ix {N:List Str} (hN:N.Nodup) {i j:Nat} {x:Str} (a:N[i]? = some x) (b:N[j]? = some x):i=j:=by
 obtain ⟨h1,e1⟩:=List.getElem?_eq_some_iff.mp a
 obtain ⟨h2,e2⟩:=List.getElem?_eq_some_iff.mp b
 exact (List.getElem_inj hN).mp (e1.trans e2.symm)
theorem store_ok2 {M:Model} {A:Around} {E:Value->Shared->Prop} {i:Nat} {x:Str} {v:V} {u:Value} {Q:Unit->Shared->Prop} (I:Inv X pins σ H s) (hN:X.N.Nodup) (hi:X.N[i]? = some x) (hx:Loc X.env.scope x) (r:RelV v u)
  (h:∀ s',Inv X pins (σ.set i (some v)) H s'->(∃ a,Heap.SameBut a s.heap s'.heap/\(a=X.env.locals\/X.env.cells.lookup x=some a))->Q () s') (hf:X.fn x=true\/X.env.scope.names.lookup x=some .local:=by first | exact .inl rfl | exact .inr rfl | assumption):wpAny M A (storeName X.env x u) Q E s:=by
 obtain ⟨m,hn,hl⟩:=id I.loc
 have hcls:(X.env.scope.kind == .class || (X.env.scope.kind == .module && X.env.locals != X.env.globals))=false:=by rw [I.ok.kind];rfl
 have hiσ:i < σ.length:=by rw [I.len];exact (List.getElem?_eq_some_iff.mp hi).1
 have cne:=I.cne
 have tracked:∀ {a:Addr} {h':Heap},(∃ o,s.heap.get? a=some o/\H a=none)->Heap.SameBut a s.heap h'->HOk X.prog X.w H h':=fun {a h'} ha hs b ob e=>by
  obtain ⟨_,_,hfree⟩:=ha
  refine (I.hok b ob e).stay (fun c w' hc q=>(hs.2 c ?_).trans q) (fun _ q=>q) fun _ _ q=>q
  rintro rfl
  rcases hc with rfl | hc
  ·rw [hfree] at e;cases e
  ·rw [hfree] at hc;cases hc
 rcases hx with hk | hk
 ·refine wpAny_storeName_local hk hn (fun h' hn' hs=>?_) hcls
  obtain ⟨oL,_,_,hoL,_⟩:=id hn
  refine h _ ⟨I.ok,I.os,I.bare,⟨fun b o e n hb hx=>?_,fun b o e n hb hx=>?_,I.base.free,fun b o e hx=>?_,I.base.tups,I.base.frzs,I.base.tbls⟩,⟨_,hn',fun j y v' e1 e2 e3=>?_⟩,fun y c e=>?_,I.free,I.freeC,fun p hp=>?_,tracked ⟨oL,hoL,I.free⟩ hs,by simpa using I.len⟩ ⟨_,hs,.inl rfl⟩
  ·exact (hs.2 b (Nat.ne_of_lt (Nat.lt_of_lt_of_le (Heap.lt_size e) I.ok.above))).trans (I.base.keep b o e n hb hx)
  ·obtain ⟨sl,e1⟩:=I.base.slot b o e n hb hx
   exact ⟨sl,(hs.2 b (Nat.ne_of_lt (Nat.lt_of_lt_of_le (Heap.lt_size e) I.ok.above))).trans e1⟩
  ·obtain ⟨o',e1⟩:=I.base.there b o e hx
   exact ⟨o',(hs.2 b (Nat.ne_of_lt (Nat.lt_of_lt_of_le (Heap.lt_size e) I.ok.above))).trans e1⟩
  ·by_cases hj:j=i
   ·subst hj
    rw [hi] at e1;cases e1
    rw [List.getElem?_set_self hiσ] at e2
    cases e2
    exact ⟨u,r,.inl ⟨hk,by simp⟩⟩
   ·rw [List.getElem?_set_ne (Ne.symm hj)] at e2
    obtain ⟨u',r',q⟩:=hl j y v' e1 e2 e3
    refine ⟨u',r',?_⟩
    rcases q with ⟨k,e⟩ | ⟨k,c,e,z⟩
    ·refine .inl ⟨k,?_⟩
     have:y≠x:=fun e=>hj (nodup_ix hN e1 (e ▸ hi))
     simp [this,e]
    ·exact .inr ⟨k,c,e,z.sameBut hs (cne y c e)⟩
  ·obtain ⟨w',z⟩:=I.cell y c e
   exact ⟨w',z.sameBut hs (cne y c e)⟩
  ·obtain ⟨e,n,ne,nf,d⟩:=I.pin p hp
   exact ⟨(hs.2 p.1 ne).trans e,n,ne,nf,d⟩
 ·have hfn:X.fn x=true:=by
   rcases hf with z | z
   ·exact z
   ·rw [z] at hk;cases hk
  obtain ⟨c,hc⟩:=I.ok.has x (.inl hk)
  obtain ⟨w',z⟩:=I.cell x c hc
  refine wpAny_storeName_cell I.ok.kind hk hc z (fun h' hc' hs=>?_)
  obtain ⟨oc,hoc,hocd⟩:=id z
  refine h { s with heap:=h' } ⟨I.ok,I.os,I.bare,⟨fun b o e n hb hx=>?_,fun b o e n hb hx=>?_,I.base.free,fun b o e hx=>?_,I.base.tups,I.base.frzs,I.base.tbls⟩,⟨m,hn.sameBut hs (Ne.symm (cne x c hc)),fun j y v' e1 e2 e3=>?_⟩,fun y c' e=>?_,I.free,I.freeC,fun p hp=>?_,tracked ⟨oc,hoc,I.freeC x c hc⟩ hs,by simpa using I.len⟩ ⟨c,hs,.inr hc⟩
  ·exact (hs.2 b (Nat.ne_of_lt (Nat.lt_of_lt_of_le (Heap.lt_size e) (I.ok.cab x c hfn hc)))).trans (I.base.keep b o e n hb hx)
  ·obtain ⟨sl,e1⟩:=I.base.slot b o e n hb hx
   exact ⟨sl,(hs.2 b (Nat.ne_of_lt (Nat.lt_of_lt_of_le (Heap.lt_size e) (I.ok.cab x c hfn hc)))).trans e1⟩
  ·obtain ⟨o',e1⟩:=I.base.there b o e hx
   exact ⟨o',(hs.2 b (Nat.ne_of_lt (Nat.lt_of_lt_of_le (Heap.lt_size e) (I.ok.cab x c hfn hc)))).trans e1⟩
  ·by_cases hj:j=i
   ·subst hj
    rw [hi] at e1;cases e1
    rw [List.getElem?_set_self hiσ] at e2
    cases e2
    exact ⟨u,r,.inr ⟨.inl hk,c,hc,hc'⟩⟩
   ·rw [List.getElem?_set_ne (Ne.symm hj)] at e2
    obtain ⟨u',r',q⟩:=hl j y v' e1 e2 e3
    refine ⟨u',r',?_⟩
    rcases q with q | ⟨k,c',e,z'⟩
    ·exact .inl q
    ·refine .inr ⟨k,c',e,z'.sameBut hs ?_⟩
     rintro rfl
     exact hj (nodup_ix hN e1 (I.ok.inj _ _ _ e hc ▸ hi))
  ·by_cases hcc:c'=c
   ·subst hcc;exact ⟨_,hc'⟩
   ·obtain ⟨w2,z2⟩:=I.cell y c' e
    exact ⟨w2,z2.sameBut hs hcc⟩
  ·obtain ⟨e,n,ne,nf,d⟩:=I.pin p hp
   refine ⟨(hs.2 p.1 ?_).trans e,n,ne,nf,d⟩
   intro q
   rw [q,hoc] at e
   have q':oc=p.2:=Option.some.inj e
   exact d w' (by rw [<-q'];exact hocd)
theorem store_ok {M:Model} {A:Around} {E:Value->Shared->Prop} {i:Nat} {x:Str} {v:V} {u:Value} {Q:Unit->Shared->Prop} (I:Inv X pins σ H s) (hN:X.N.Nodup) (hi:X.N[i]? = some x) (hx:Loc X.env.scope x) (r:RelV v u)
  (h:∀ s',Inv X pins (σ.set i (some v)) H s'->Q () s') (hf:X.fn x=true\/X.env.scope.names.lookup x=some .local:=by first | exact .inl rfl | exact .inr rfl | assumption):wpAny M A (storeName X.env x u) Q E s:=
 store_ok2 I hN hi hx r (fun s' I' _=>h s' I') hf
theorem Inv.call' {s':Shared} {ch:List Addr} (I:Inv X pins σ H s) (ho:s'.os=s.os) (u:Un (frs X.stack) ch H H' s.heap s'.heap) (hok:HOk X.prog X.w H' s'.heap) (hg:AllBare s'.gens)
  (hch:∀ b∈ch,(b∈X.ex\/X.s₀.heap.objs.size<=b)/\b≠X.env.locals/\(∀ x c,X.env.cells.lookup x=some c->c≠b)/\∀ p∈X.pn++pins,p.1≠b):Inv X pins σ H' s':=by
 obtain ⟨h',g',d',t',o'⟩:=s'
 have e:o'=s.os:=ho
 subst e
 exact I.call (g':=g') (t':=t') (d':=d') u hok hg hch
end
abbrev XK:=Value->Option Addr->Hp->Prop
abbrev St:=List (Option V)
abbrev VK:=V->Hp->Prop
abbrev TE:=St->Hp->VK->Prop
abbrev TT:=St->Hp->(Bool->Hp->Prop)->Prop
abbrev TA:=St->Hp->(List V->Hp->Prop)->Prop
structure Ends where
 nx:St->Hp->Prop
 rt:VK
 bk:St->Hp->Prop:=fun _ _=>False
 ct:St->Hp->Prop:=fun _ _=>False
abbrev TS:=Ends->St->Hp->Prop
def EP (X:Cx) (pins:List (Addr×Obj)) (σ:St) (Q:VK) (u:Value) (s':Shared):Prop:=∃ v H',Inv X pins σ H' s'/\RelV v u/\Q v H'
def TP (X:Cx) (pins:List (Addr×Obj)) (σ:St) (Q:Bool->Hp->Prop) (b:Bool) (s':Shared):Prop:=∃ H',Inv X pins σ H' s'/\Q b H'
def AP (X:Cx) (pins:List (Addr×Obj)) (σ:St) (Q:List V->Hp->Prop) (us:List Value) (s':Shared):Prop:=∃ vs H',Inv X pins σ H' s'/\Vals vs us/\Q vs H'
def SP (X:Cx) (pins:List (Addr×Obj)) (D:Ends) (f:Flow) (s':Shared):Prop:=
 match f with
 | .next=>∃ σ' H',Inv X pins σ' H' s'/\D.nx σ' H'
 | .brk=>∃ σ' H',Inv X pins σ' H' s'/\D.bk σ' H'
 | .cont=>∃ σ' H',Inv X pins σ' H' s'/\D.ct σ' H'
 | .ret u=>∃ v σ' H',Inv X pins σ' H' s'/\RelV v u/\D.rt v H'
def PE (X:Cx) (e:Expr) (t:TE):Prop:=
 ∀ (pins:List (Addr×Obj)) (s:Shared) (σ:St) (H:Hp) (Q:VK),Inv X pins σ H s->t σ H Q->wpAny (model X.prog X.w) X.A (eval e X.env) (EP X pins σ Q) X.xe s
def PT (X:Cx) (e:Expr) (t:TT):Prop:=
 ∀ (pins:List (Addr×Obj)) (s:Shared) (σ:St) (H:Hp) (Q:Bool->Hp->Prop),Inv X pins σ H s->t σ H Q->wpAny (model X.prog X.w) X.A (isTrue e X.env (eval e X.env)) (TP X pins σ Q) X.xe s
def PW (X:Cx) (e:Expr) (t:TT):Prop:=
 ∀ (whole:Sem Value) (pins:List (Addr×Obj)) (s:Shared) (σ:St) (H:Hp) (Q:Bool->Hp->Prop),Inv X pins σ H s->t σ H Q->wpAny (model X.prog X.w) X.A (isTrue e X.env whole) (TP X pins σ Q) X.xe s
theorem PW.pt {X:Cx} {e:Expr} {t:TT} (h:PW X e t):PT X e t:=h _
def PA (X:Cx) (es:List Expr) (t:TA):Prop:=
 ∀ (pos:Pos) (pins:List (Addr×Obj)) (s:Shared) (σ:St) (H:Hp) (Q:List V->Hp->Prop),Inv X pins σ H s->t σ H Q->wpAny (model X.prog X.w) X.A (spliced (backTo pos (starEach es X.env))) (AP X pins σ Q) X.xe s
def PS (X:Cx) (st:Stmt) (t:TS):Prop:=
 ∀ (pins:List (Addr×Obj)) (s:Shared) (σ:St) (H:Hp) (D:Ends),Inv X pins σ H s->t D σ H->wpAny (model X.prog X.w) X.A (exec st X.env) (SP X pins D) X.xe s
def PSs (X:Cx) (st:List Stmt) (t:TS):Prop:=
 ∀ (pins:List (Addr×Obj)) (s:Shared) (σ:St) (H:Hp) (D:Ends),Inv X pins σ H s->t D σ H->wpAny (model X.prog X.w) X.A (execs st X.env) (SP X pins D) X.xe s
theorem thn {α:Type} {t:Sem α} {Q Q':α->Shared->Prop} {M:Model} {A:Around} {E:Value->Shared->Prop} {s:Shared} (h:wpAny M A t Q E s) (hQ:∀ a s,Q a s->Q' a s):wpAny M A t Q' E s:=wpAny_mono h hQ fun _ _ x=>x
end L2
namespace L2
open PySem PySem.Spec PyProof.Rows
section
variable {X:Cx}
def tVar (i:Nat):TE:=fun σ H Q=>∃ v,σ[i]? = some (some v)/\Q v H
def tC (v:V):TE:=fun _ H Q=>Q v H
theorem pe_var {i:Nat} {x:Str} {pos:Pos} (hN:X.N[i]? = some x) (hv:Vis X.env.scope x) (hd:(x == ("__debug__" : Str))=false:=by decide) (hcd:(x == ("__classdict__" : Str))=false:=by decide):PE X (.Name x pos) (tVar i):=by
 intro pins s σ H Q I h
 obtain ⟨v,e,h⟩:=h
 obtain ⟨m,hn,hl⟩:=I.loc
 obtain ⟨u,r,l⟩:=hl i x v hN e hv
 have fin:EP X pins σ Q u s:=⟨v,H,I,r,h⟩
 rcases l with ⟨hk,hm⟩ | ⟨hk,c,hc,hcell⟩
 ·exact wpAny_Name (wpAny_loadName_local I.ok.kind hk hn hm fin) hd
 ·rcases hk with hk | hk
  ·exact wpAny_Name (wpAny_loadName_cell I.ok.kind hk hc hcell fin) hd
  ·exact wpAny_Name (wpAny_loadName_free I.ok.kind hk hc hcell fin hcd) hd
theorem pe_int {i j pos}:PE X (.Constant (.int i) j pos) (tC (.int i)):=fun _ _ _ H _ I h=>wpAny_Constant_int ⟨.int i,H,I.tok _,⟨_,rfl⟩,h⟩
theorem pe_bl {b j pos}:PE X (.Constant (.bool b) j pos) (tC (.bl b)):=fun _ _ _ H _ I h=>Constant_bool ⟨.bl b,H,I,rfl,h⟩
theorem pe_non {j pos}:PE X (.Constant .none j pos) (tC .non):=fun _ _ _ H _ I h=>Constant_none ⟨.non,H,I,rfl,h⟩
theorem pe_str {x j pos}:PE X (.Constant (.str x) j pos) (tC (.str x)):=fun _ _ _ H _ I h=>Calls.Constant_str ⟨.str x,H,I.tok _,⟨_,rfl⟩,h⟩
def Gl (X:Cx) (x:Str):Prop:=X.env.kindOf x=some .globalImplicit
theorem ld_glob {E:Value->Shared->Prop} {pins:List (Addr×Obj)} {s:Shared} {σ:St} {H:Hp} {x:Str} {u:Value} {pos:Pos} {Q:Value->Shared->Prop} (I:Inv X pins σ H s) (hg:Gl X x) (hm:X.mg x=some u) (h:Q u s)
  (hd:(x == ("__debug__" : Str))=false:=by decide):wpAny (model X.prog X.w) X.A (eval (.Name x pos) X.env) Q E s:=
 Calls.Name_function_global I.ok.kind hg (Calls.loadGlobal_global (by rw [I.ok.glob];exact I.mod.glob.keeps I.bk) hm h) hd
theorem ld_blt {E:Value->Shared->Prop} {pins:List (Addr×Obj)} {s:Shared} {σ:St} {H:Hp} {x:Str} {u:Value} {pos:Pos} {Q:Value->Shared->Prop} (I:Inv X pins σ H s) (hg:Gl X x) (hm:X.mg x=none) (hv:bootBuiltins x=some u) (h:Q u s)
  (hn:x≠"__name__" := by decide) (hd:(x == ("__debug__" : Str))=false:=by decide):wpAny (model X.prog X.w) X.A (eval (.Name x pos) X.env) Q E s:=by
 obtain ⟨mb,h1,h2⟩:=I.mod.blt
 exact Calls.Name_function_global I.ok.kind hg (Calls.loadGlobal_builtin (by rw [I.ok.glob];exact I.mod.glob.keeps I.bk) hm (by rw [I.ok.blt];exact h1.keeps I.bk) ((h2 x hn).trans hv) h) hd
theorem pe_glob {x:Str} {v:V} {u:Value} {pos:Pos} (hg:Gl X x) (hm:X.mg x=some u) (r:RelV v u) (hd:(x == ("__debug__" : Str))=false:=by decide):PE X (.Name x pos) (tC v):=
 fun _ _ _ H _ I h=>ld_glob I hg hm ⟨v,H,I,r,h⟩ hd
theorem pe_bltn {x:Str} {v:V} {u:Value} {pos:Pos} (hg:Gl X x) (hm:X.mg x=none) (hv:bootBuiltins x=some u) (r:RelV v u) (hn:x≠"__name__" := by decide) (hd:(x == ("__debug__" : Str))=false:=by decide):PE X (.Name x pos) (tC v):=
 fun _ _ _ H _ I h=>ld_blt I hg hm hv ⟨v,H,I,r,h⟩ hn hd
variable {a b:Expr} {ta tb:TE} {pos:Pos}
variable {tA tB':TT} {rest:List Expr}
def tAnd (t u:TT):TT:=fun σ H Q=>t σ H fun c H1=>if c=true then u σ H1 Q else Q false H1
def tOr (t u:TT):TT:=fun σ H Q=>t σ H fun c H1=>if c=true then Q true H1 else u σ H1 Q
def tNot (t:TT):TT:=fun σ H Q=>t σ H fun c H1=>Q (!c) H1
theorem pw_and1 (ha:PT X a tA):PW X (.BoolOp .And [a] pos) tA:=by
 intro wh pins s σ H Q I h
 refine isTrue_and (thn (ha pins s σ H Q I h) fun c s1 e=>?_)
 cases c with
 | true=>exact isTrue_and_nil e
 | false=>exact e
theorem pw_or1 (ha:PT X a tA):PW X (.BoolOp .Or [a] pos) tA:=by
 intro wh pins s σ H Q I h
 refine isTrue_or (thn (ha pins s σ H Q I h) fun c s1 e=>?_)
 cases c with
 | false=>exact isTrue_or_nil e
 | true=>exact e
theorem pw_and (ha:PT X a tA) (hb:PW X (.BoolOp .And (b :: rest) pos) tB'):PW X (.BoolOp .And (a :: b :: rest) pos) (tAnd tA tB'):=by
 intro wh pins s σ H Q I h
 refine isTrue_and (thn (ha pins s σ H _ I h) fun c s1 ⟨H1,I1,q1⟩=>?_)
 cases c with
 | true=>exact hb wh pins s1 σ H1 Q I1 q1
 | false=>exact ⟨H1,I1,q1⟩
theorem pw_or (ha:PT X a tA) (hb:PW X (.BoolOp .Or (b :: rest) pos) tB'):PW X (.BoolOp .Or (a :: b :: rest) pos) (tOr tA tB'):=by
 intro wh pins s σ H Q I h
 refine isTrue_or (thn (ha pins s σ H _ I h) fun c s1 ⟨H1,I1,q1⟩=>?_)
 cases c with
 | true=>exact ⟨H1,I1,q1⟩
 | false=>exact hb wh pins s1 σ H1 Q I1 q1
theorem pt_not (ha:PT X a tA):PT X (.UnaryOp .Not a pos) (tNot tA):=by
 intro pins s σ H Q I h
 exact isTrue_not (ha pins s σ H (fun c H1=>Q (!c) H1) I h)
theorem pe_one {op} {t:TE} (h:PE X a t):PE X (.BoolOp op [a] pos) t:=fun pins s σ H Q I hw=>BoolOp_one (h pins s σ H Q I hw)
def tIf (t:TT) (ta tb:TE):TE:=fun σ H Q=>t σ H fun c H1=>if c=true then ta σ H1 Q else tb σ H1 Q
theorem pe_ifExp {c:Expr} (hc:PT X c tA) (ha:PE X a ta) (hb:PE X b tb):PE X (.IfExp c a b pos) (tIf tA ta tb):=by
 intro pins s σ H Q I h
 refine wpAny_IfExp (thn (hc pins s σ H _ I h) fun d s1 ⟨H1,I1,q1⟩=>?_)
 cases d with
 | true=>exact ha pins s1 σ H1 Q I1 q1
 | false=>exact hb pins s1 σ H1 Q I1 q1
end
end L2
namespace L2
open PySem PySem.Spec PyProof.Rows
def SqL (K:PySem.W.Frag) (H:Hp) (a:Addr) (xs:List V):Prop:=
 Rd H a (.lst xs) ∨
  ∃ (o:Obj) (its:Array Value) (n:Nat),K.lookup a=some o/\o.cls = .type "list"/\o.dict=none/\o.data = .seq its n/\its.size<=sizeLine/\Vals xs its.toList
def SqT (K:PySem.W.Frag) (H:Hp) (a:Addr) (xs:List V):Prop:=
 Rd H a (.tup xs) ∨
  ∃ (o:Obj) (its:Array Value) (n:Nat),K.lookup a=some o/\o.cls = .type "tuple"/\o.data = .seq its n/\its.size<=sizeLine/\Vals xs its.toList
def absV:Value->Option V
 | .none=>some .non
 | .bool b=>some (.bl b)
 | .int i _=>some (.int i)
 | .str x _=>some (.str x)
 | .bytes b _=>some (.byt b)
 | .float b _=>some (.flt b)
 | .ref a=>some (.ref a)
 | .type n=>some (.ty n)
 | _=>none
theorem RelV.abs {x:V} {u:Value} (r:RelV x u):absV u=some x:=by
 cases x with
 | non=>cases r;rfl
 | bl _=>cases r;rfl
 | int _=>obtain ⟨t,rfl⟩:=r;rfl
 | str _=>obtain ⟨t,rfl⟩:=r;rfl
 | byt _=>obtain ⟨t,rfl⟩:=r;rfl
 | flt _=>obtain ⟨t,rfl⟩:=r;rfl
 | ref _=>cases r;rfl
 | ty _=>cases r;rfl
theorem RelV.inj {x y:V} {u:Value} (r:RelV x u) (q:RelV y u):x=y:=Option.some.inj (r.abs.symm.trans q.abs)
theorem Vals.inj:∀ {xs ys:List V} {us:List Value},Vals xs us->Vals ys us->xs=ys
 | _,_,_,.nil,.nil=>rfl
 | _,_,_,.cons r t,.cons r' t'=>by rw [r.inj r',Vals.inj t t']
section
variable {X:Cx} {pins:List (Addr×Obj)} {σ:St} {H:Hp} {s:Shared} {a:Addr} {xs ys:List V}
theorem SqL.of {K:PySem.W.Frag} (h:H a=some (.lst xs)):SqL K H a xs:=.inl (.inl h)
theorem SqT.of {K:PySem.W.Frag} (h:H a=some (.tup xs)):SqT K H a xs:=.inl (.inl h)
theorem Inv.list (I:Inv X pins σ H s) (h:SqL X.K H a xs):∃ its:List Value,Vals xs its/\PlainL s.heap a its.toArray/\xs.length<=sizeLine:=by
 rcases h with h | ⟨o,its,n,hk,hc,hd,hs,hz,r⟩
 ·obtain ⟨z,its,n,r,e⟩:=h.ok I.hok
  exact ⟨its,r,⟨_,n,e,rfl,rfl,rfl⟩,z⟩
 ·refine ⟨its.toList,r,⟨o,n,I.kIn a o hk,hc,hd,by simpa using hs⟩,?_⟩
  have e:=r.length
  simp only [Array.length_toList] at e
  omega
theorem Inv.tuple (I:Inv X pins σ H s) (h:SqT X.K H a xs):∃ its:List Value,Vals xs its/\IsTup s.heap a its.toArray/\xs.length<=sizeLine:=by
 rcases h with h | ⟨o,its,n,hk,hc,hs,hz,r⟩
 ·obtain ⟨z,its,r,p⟩:=h.ok I.hok
  exact ⟨its,r,p,z⟩
 ·refine ⟨its.toList,r,⟨o,I.kIn a o hk,hc,n,by simpa using hs⟩,?_⟩
  have e:=r.length
  simp only [Array.length_toList] at e
  omega
theorem Inv.list_inj (I:Inv X pins σ H s) (h:SqL X.K H a xs) (h':SqL X.K H a ys):xs=ys:=by
 obtain ⟨its,r,⟨o,n,e,_,_,d⟩,_⟩:=I.list h
 obtain ⟨its',r',⟨o',n',e',_,_,d'⟩,_⟩:=I.list h'
 rw [e] at e';cases e'
 rw [d] at d'
 injection d' with d1 _
 have:its=its':=by simpa using congrArg Array.toList d1
 subst this
 exact r.inj r'
end
abbrev Cx.wish (X:Cx) (E:Value->Shared->Prop):Cx:={ X with xe:=E }
abbrev Cx.nox (X:Cx):Cx:=X.wish fun _ _=>False
theorem Cx.Ok.wish {X:Cx} (ok:X.Ok) (E:Value->Shared->Prop):(X.wish E).Ok:=
 ⟨ok.mod,ok.kind,ok.glob,ok.blt,ok.above,ok.inj,ok.has,ok.cab,ok.hd,ok.frames,ok.stk,ok.exf,ok.bs,ok.bsz,ok.noex,ok.exfs,ok.funs,ok.frf⟩
theorem Cx.Ok.unwish {X:Cx} {E:Value->Shared->Prop} (ok:(X.wish E).Ok):X.Ok:=
 ⟨ok.mod,ok.kind,ok.glob,ok.blt,ok.above,ok.inj,ok.has,ok.cab,ok.hd,ok.frames,ok.stk,ok.exf,ok.bs,ok.bsz,ok.noex,ok.exfs,ok.funs,ok.frf⟩
section
variable {X:Cx} {pins:List (Addr×Obj)} {σ:St} {H:Hp} {s:Shared} {E:Value->Shared->Prop}
theorem Inv.wish (I:Inv X pins σ H s) (E:Value->Shared->Prop):Inv (X.wish E) pins σ H s:=⟨I.ok.wish E,I.os,I.bare,I.base,I.loc,I.cell,I.free,I.freeC,I.pin,I.hok,I.len⟩
theorem Inv.unwish (I:Inv (X.wish E) pins σ H s):Inv X pins σ H s:=⟨I.ok.unwish,I.os,I.bare,I.base,I.loc,I.cell,I.free,I.freeC,I.pin,I.hok,I.len⟩
theorem SP.unwish {D:Ends} {f:Flow} {s':Shared} (h:SP (X.wish E) pins D f s'):SP X pins D f s':=by
 cases f with
 | next=>obtain ⟨σ',H',I,q⟩:=h;exact ⟨σ',H',I.unwish,q⟩
 | brk=>obtain ⟨σ',H',I,q⟩:=h;exact ⟨σ',H',I.unwish,q⟩
 | cont=>obtain ⟨σ',H',I,q⟩:=h;exact ⟨σ',H',I.unwish,q⟩
 | ret u=>obtain ⟨v,σ',H',I,r,q⟩:=h;exact ⟨v,σ',H',I.unwish,r,q⟩
theorem PE.nox {e:Expr} {t:TE} (h:PE X.nox e t):PE X e t:=fun pins s σ H Q I hw=>
 wpAny_mono (h pins s σ H Q (I.wish _) hw) (fun _ _ ⟨v,H',I',r,q⟩=>⟨v,H',I'.unwish,r,q⟩) fun _ _ z=>False.elim z
theorem PT.nox {e:Expr} {t:TT} (h:PT X.nox e t):PT X e t:=fun pins s σ H Q I hw=>
 wpAny_mono (h pins s σ H Q (I.wish _) hw) (fun _ _ ⟨H',I',q⟩=>⟨H',I'.unwish,q⟩) fun _ _ z=>False.elim z
theorem PSs.nox {st:List Stmt} {t:TS} (h:PSs X.nox st t):PSs X st t:=fun pins s σ H D I hw=>
 wpAny_mono (h pins s σ H D (I.wish _) hw) (fun _ _ q=>q.unwish) fun _ _ z=>False.elim z
end
section
variable {X:Cx} {st:Stmt} {rest:List Stmt} {t u:TS} {e:Expr} {te:TE} {pos:Pos}
def tNext:TS:=fun D σ H=>D.nx σ H
def tSeq (t u:TS):TS:=fun D σ H=>t { D with nx:=u D } σ H
theorem pss_nil:PSs X [] tNext:=fun _ _ σ H _ I h=>wpAny_execs_nil ⟨σ,H,I,h⟩
theorem pss_cons (h1:PS X st t) (h2:PSs X rest u):PSs X (st :: rest) (tSeq t u):=by
 intro pins s σ H D I h
 refine wpAny_execs_cons (thn (h1 pins s σ H { D with nx:=u D } I h) fun f s1 q=>?_)
 cases f with
 | next=>
  obtain ⟨σ',H',I',q⟩:=q
  exact h2 pins s1 σ' H' D I' q
 | ret v=>exact q
 | brk=>exact q
 | cont=>exact q
theorem pss_one (h1:PS X st t):PSs X [st] t:=by
 intro pins s σ H D I h
 refine wpAny_execs_cons (thn (h1 pins s σ H D I h) fun f s1 q=>?_)
 cases f with
 | next=>exact wpAny_execs_nil q
 | ret v=>exact q
 | brk=>exact q
 | cont=>exact q
theorem Inv.quiet {pins:List (Addr×Obj)} {σ:St} {H:Hp} {s:Shared} (I:Inv X pins σ H s):interactive X.env=false:=by simp [interactive,I.ok.kind]
def tDrop (te:TE):TS:=fun D σ H=>te σ H fun _ H1=>D.nx σ H1
theorem ps_expr (he:PE X e te) (hs:swapsWith e none pos.line X.env=pure false:=by rfl):PS X (.Expr e pos) (tDrop te):=by
 intro pins s σ H D I h
 exact wpAny_Expr_any (thn (he pins s σ H _ I h) fun v s1 ⟨x,H1,I1,r1,q1⟩=>⟨σ,H1,I1,q1⟩) I.quiet hs
def tRet (te:TE):TS:=fun D σ H=>te σ H D.rt
theorem ps_ret (he:PE X e te):PS X (.Return (some e) pos) (tRet te):=by
 intro pins s σ H D I h
 exact wpAny_Return_some (thn (he pins s σ H _ I h) fun v s1 ⟨x,H1,I1,r1,q1⟩=>⟨x,σ,H1,I1,r1,q1⟩)
def tIfS (c:TT) (t u:TS):TS:=fun D σ H=>c σ H fun b H1=>if b=true then t D σ H1 else u D σ H1
theorem ps_if {c:Expr} {a b:List Stmt} {tc:TT} (hc:PT X c tc) (ha:PSs X a t) (hb:PSs X b u):PS X (.If c a b pos) (tIfS tc t u):=by
 intro pins s σ H D I h
 refine wpAny_If (thn (hc pins s σ H _ I h) fun d s1 ⟨H1,I1,q1⟩=>?_)
 cases d with
 | true=>exact ha pins s1 σ H1 D I1 q1
 | false=>exact hb pins s1 σ H1 D I1 q1
end
abbrev TG:=V->St->Hp->(St->Hp->Prop)->Prop
abbrev TGs:=List V->St->Hp->(St->Hp->Prop)->Prop
def PG (X:Cx) (target:Expr) (t:TG):Prop:=
 ∀ (pins:List (Addr×Obj)) (s:Shared) (σ:St) (H:Hp) (v:V) (u:Value) (Q:St->Hp->Prop),Inv X pins σ H s->RelV v u->t v σ H Q →
  wpAny (model X.prog X.w) X.A (assign target X.env u) (fun _ s'=>∃ σ' H',Inv X pins σ' H' s'/\Q σ' H') X.xe s
def PGs (X:Cx) (ts:List Expr) (t:TGs):Prop:=
 ∀ (pins:List (Addr×Obj)) (s:Shared) (σ:St) (H:Hp) (vs:List V) (us:List Value) (Q:St->Hp->Prop),Inv X pins σ H s->Vals vs us->t vs σ H Q →
  wpAny (model X.prog X.w) X.A (assignInOrder ((assignEach ts X.env).map (·.2)) us) (fun _ s'=>∃ σ' H',Inv X pins σ' H' s'/\Q σ' H') X.xe s
abbrev TSet:=V->V->V->Hp->(Hp->Prop)->Prop
def PSet (X:Cx) (t:TSet):Prop:=
 ∀ (pins:List (Addr×Obj)) (s:Shared) (σ:St) (H:Hp) (o i v:V) (ov iv u:Value) (Q:Hp->Prop),Inv X pins σ H s->RelV o ov->RelV i iv->RelV v u->t o i v H Q →
  wpAny (model X.prog X.w) X.A (setItem ov iv u) (fun _ s'=>∃ H',Inv X pins σ H' s'/\Q H') X.xe s
abbrev TIp:=V->V->Hp->VK->Prop
def PIp (X:Cx) (op:Operator) (t:TIp):Prop:=
 ∀ (pins:List (Addr×Obj)) (s:Shared) (σ:St) (H:Hp) (x y:V) (v u:Value) (Q:VK),Inv X pins σ H s->RelV x v->RelV y u->t x y H Q →
  wpAny (model X.prog X.w) X.A (inplaceOp op v u) (EP X pins σ Q) X.xe s
section
variable {X:Cx} {pos:Pos}
def gName (i:Nat):TG:=fun v σ H Q=>Q (σ.set i (some v)) H
theorem pg_name {i:Nat} {x:Str} (hN:X.N.Nodup) (hi:X.N[i]? = some x) (hx:Loc X.env.scope x) (hf:X.fn x=true\/X.env.scope.names.lookup x=some .local:=by first | exact .inl rfl | exact .inr rfl | assumption):PG X (.Name x pos) (gName i):=by
 intro pins s σ H v u Q I r h
 exact wpAny_assign_Name (store_ok I hN hi hx r (fun s' I'=>⟨_,H,I',h⟩) hf)
def gNil:TGs:=fun vs σ H Q=>vs=[]/\Q σ H
def gCons (t:TG) (u:TGs):TGs:=fun vs σ H Q=>∃ v r,vs=v :: r/\t v σ H fun σ' H'=>u r σ' H' Q
theorem pgs_nil:PGs X [] gNil:=by
 intro pins s σ H vs us Q I r h
 obtain ⟨e,h⟩:=h
 subst e
 cases r
 exact assignInOrder_nil ⟨σ,H,I,h⟩
theorem pgs_cons {e:Expr} {es:List Expr} {t:TG} {u:TGs} (h1:PG X e t) (h2:PGs X es u)
  (hs:(assignEach (e :: es) X.env).map (·.2)=assign e X.env :: (assignEach es X.env).map (·.2):=by rfl):PGs X (e :: es) (gCons t u):=by
 intro pins s σ H vs us Q I r h
 obtain ⟨v,vr,e1,h⟩:=h
 subst e1
 cases r with
 | cons r rr=>
  rw [hs]
  refine assignInOrder_cons (thn (h1 pins s σ H _ _ _ I r h) fun _ s1 ⟨σ1,H1,I1,q1⟩=>?_)
  exact h2 pins s1 σ1 H1 _ _ Q I1 rr q1
def gTup (K:PySem.W.Frag) (n:Nat) (t:TGs):TG:=fun v σ H Q=>∃ a xs,v = .ref a/\SqT K H a xs/\xs.length=n/\t xs σ H Q
theorem pg_tup {es:List Expr} {k:Nat} {t:TGs} {n:Nat} (hc:X.calm=true) (h:PGs X es t)
  (hn:(assignEach es X.env).length=n:=by rfl) (hst:(assignEach es X.env).findIdx? (·.1)=none:=by rfl):PG X (.Tuple es k pos) (gTup X.K n t):=by
 intro pins s σ H v u Q I r hw
 obtain ⟨a,xs,e1,hq,hl,hw⟩:=hw
 subst e1
 cases r
 obtain ⟨its,rv,ht,hz⟩:=I.tuple hq
 refine assign_Tuple_tuple (I.ok.hd hc) ht (by simp [hn,<-hl,rv.length]) hst fun h' hx=>?_
 have I1:Inv X pins σ H { s with heap:=h' }:=I.kept (t':=s.toks) fun b o e=>hx b o (Nat.ne_of_lt (Heap.lt_size e)) e
 exact h pins _ σ H xs _ Q I1 (by simpa using rv) hw
def gSub (to ti:TE) (t:TSet):TG:=fun v σ H Q=>to σ H fun o H1=>ti σ H1 fun i H2=>t o i v H2 fun H3=>Q σ H3
theorem pg_sub {o i:Expr} {to ti:TE} {t:TSet} (ho:PE X o to) (hi:PE X i ti) (hs:PSet X t)
  (ha:∀ v,assign (.Subscript o i pos) X.env v=(do
   let ov <-holding [v] (eval o X.env)
   let iv <-holding [v,ov] (eval i X.env)
   standAt pos
   holding [v,ov,iv] (setItem ov iv v)
   release [v,ov,iv] []):=by intro _;rfl):PG X (.Subscript o i pos) (gSub to ti t):=by
 intro pins s σ H v u Q I r h
 rw [ha]
 refine wpAny_bind (wpAny_holding (thn (ho pins s σ H _ I h) fun ov s1 ⟨x,H1,I1,r1,q1⟩=>?_))
 refine wpAny_bind (wpAny_holding (thn (hi pins s1 σ H1 _ I1 q1) fun iv s2 ⟨y,H2,I2,r2,q2⟩=>?_))
 refine wpAny_bind (wpAny_standAt (wpAny_bind (wpAny_holding (thn (hs pins s2 σ H2 x y v ov iv u _ I2 r1 r2 r q2) fun _ s3 ⟨H3,I3,q3⟩=>?_))))
 exact wpAny_release ⟨σ,H3,I3,q3⟩
def tAsg (te:TE) (g:TG):TS:=fun D σ H=>te σ H fun x H1=>g x σ H1 D.nx
theorem ps_asg {tg e:Expr} {te:TE} {g:TG} (he:PE X e te) (hg:PG X tg g) (hs:swapsWithSole [tg] e pos.line X.env=pure false:=by rfl) (hw:swappedStores [tg] e X.env=pure none:=by rfl)
  (h1:(assignEach [tg] X.env).map (·.2)=[assign tg X.env]:=by rfl):PS X (.Assign [tg] e pos) (tAsg te g):=by
 intro pins s σ H D I h
 refine wpAny_Assign_stores (thn (he pins s σ H _ I h) fun v s1 ⟨x,H1,I1,r1,q1⟩=>?_) hs hw
 rw [h1]
 exact thn (hg pins s1 σ H1 x v _ I1 r1 q1) fun _ s2 q=>q
def tAug (i:Nat) (te:TE) (ti:TIp):TS:=fun D σ H=>∃ x,σ[i]? = some (some x)/\te σ H fun y H1=>ti x y H1 fun z H2=>D.nx (σ.set i (some z)) H2
theorem ps_aug {i:Nat} {x:Str} {e:Expr} {te:TE} {op:Operator} {ti:TIp} {pos':Pos} (hN:X.N.Nodup) (hi:X.N[i]? = some x) (hx:Loc X.env.scope x) (he:PE X e te) (ho:PIp X op ti) (hf:X.fn x=true\/X.env.scope.names.lookup x=some .local:=by first | exact .inl rfl | exact .inr rfl | assumption) :
  PS X (.AugAssign (.Name x pos') op e pos) (tAug i te ti):=by
 intro pins s σ H D I h
 obtain ⟨v,e1,h⟩:=h
 obtain ⟨m,hn,hl⟩:=I.loc
 have vis:Vis X.env.scope x:=by rcases hx with k | k;exact .inl k;exact .inr (.inl k)
 obtain ⟨u,r,l⟩:=hl i x v hi e1 vis
 refine wpAny_AugAssign_Name ?_
 have go:wpAny (model X.prog X.w) X.A (eval e X.env) (fun w s₂=>wpAny (model X.prog X.w) X.A (inplaceOp op u w) (fun r s₃=>wpAny (model X.prog X.w) X.A (storeName X.env x r) (fun _=>SP X pins D .next) X.xe s₃) X.xe s₂) X.xe s:=by
  refine thn (he pins s σ H _ I h) fun w s1 ⟨y,H1,I1,r1,q1⟩=>?_
  refine thn (ho pins s1 σ H1 v y u w _ I1 r r1 q1) fun z s2 ⟨zv,H2,I2,r2,q2⟩=>?_
  exact store_ok I2 hN hi hx r2 (fun s3 I3=>⟨_,H2,I3,q2⟩) hf
 rcases l with ⟨hk,hm⟩ | ⟨hk,c,hc,hcell⟩
 ·exact wpAny_loadName_local I.ok.kind hk hn hm go
 ·rcases hk with hk | hk
  ·exact wpAny_loadName_cell I.ok.kind hk hc hcell go
  ·rcases hx with k | k
   ·have:X.env.scope.names.lookup x=some .free:=hk
    rw [k] at this;cases this
   ·have:X.env.scope.names.lookup x=some .free:=hk
    rw [k] at this;cases this
def ipI (f:Int->Int->Int):TIp:=fun x y H Q=>∃ i j,x = .int i/\y = .int j/\Q (.int (f i j)) H
theorem ip_add:PIp X .Add (ipI fun i j=>i+j):=by
 intro pins s σ H x y v u Q I r1 r2 h
 obtain ⟨i,j,e1,e2,q⟩:=h
 subst e1;subst e2
 obtain ⟨t,rfl⟩:=r1
 obtain ⟨t',rfl⟩:=r2
 exact iadd_int ⟨.int _,H,I.tok _,⟨_,rfl⟩,q⟩
end
section
variable {X:Cx} {pos:Pos}
def tWhile (c:TT) (tb:TS):TS:=fun D σ H=>∃ W:Nat->St->Hp->Prop,(∃ m,W m σ H)/\∀ m σ H,W m σ H →
 c σ H fun b H1=>if b=true then ∃ N:St->Hp->Prop,(∀ σ' H',N σ' H'->∃ m',m' < m/\W m' σ' H')/\tb { D with nx:=N,ct:=N,bk:=D.nx } σ H1 else D.nx σ H1
theorem ps_while {c:Expr} {body:List Stmt} {tc:TT} {tb:TS} (hp:PassesOwn (model X.prog X.w) X.A X.env X.xe) (hc:PT X c tc) (hb:PSs X body tb):PS X (.While c body [] pos) (tWhile tc tb):=by
 intro pins s σ H D I h
 obtain ⟨W,⟨m0,w0⟩,turn⟩:=h
 refine wpAny_While (codeAny_whileLoop (fun n s'=>∃ σ' H',Inv X pins σ' H' s'/\W n σ' H') ?_ m0 ⟨σ,H,I,w0⟩)
 rintro n s1 ⟨σ1,H1,I1,w1⟩
 refine wpAny_passesOwn hp (thn (hc pins s1 σ1 H1 _ I1 (turn n σ1 H1 w1)) fun b s2 ⟨H2,I2,q2⟩=>?_)
 cases b with
 | true=>
  obtain ⟨N,hN,q2⟩:=q2
  rw [if_pos rfl]
  refine wpAny_passesOwn hp (thn (hb pins s2 σ1 H2 _ I2 q2) fun f s3 q3=>?_)
  cases f with
  | next=>
   obtain ⟨σ3,H3,I3,n3⟩:=q3
   obtain ⟨m',hm,w3⟩:=hN σ3 H3 n3
   exact ⟨m',hm,σ3,H3,I3,w3⟩
  | cont=>
   obtain ⟨σ3,H3,I3,n3⟩:=q3
   obtain ⟨m',hm,w3⟩:=hN σ3 H3 n3
   exact ⟨m',hm,σ3,H3,I3,w3⟩
  | brk=>exact q3
  | ret v=>exact q3
 | false=>
  rw [if_neg Bool.false_ne_true]
  exact wpAny_execs_nil ⟨σ1,H2,I2,q2⟩
end
structure It where
 go:Nat->Hp->Prop
 yld:Nat->Hp->V->Hp->Prop
 stop:Nat->Hp->Prop
def FpOk (X:Cx) (pins:List (Addr×Obj)) (H:Hp) (b:Addr):Prop:=
 H b=none/\b≠X.env.locals/\b ∉ X.fs/\(b∈X.ex\/X.s₀.heap.objs.size<=b)/\(∀ x c,X.env.cells.lookup x=some c->c≠b)/\∀ p∈X.pn++pins,p.1≠b
theorem Inv.fpOk {X:Cx} {pins:List (Addr×Obj)} {σ:St} {H H':Hp} {s:Shared} {b:Addr} (I:Inv X pins σ H s) (hb:s.heap.objs.size<=b) (hn:H' b=none):FpOk X pins H' b:=by
 refine ⟨hn,Nat.ne_of_gt (Nat.lt_of_lt_of_le I.lt hb),I.nofs hb,.inr (Nat.le_trans I.sz hb),fun x c e z=>?_,fun p hp z=>?_⟩
 ·obtain ⟨v,q⟩:=I.cell x c e
  exact absurd (Nat.lt_of_lt_of_le q.lt (by rw [z];exact hb)) (Nat.lt_irrefl _)
 ·exact absurd (Nat.lt_of_lt_of_le (Heap.lt_size (I.pin p hp).1) (by rw [z];exact hb)) (Nat.lt_irrefl _)
structure Turn (P:Program) (w:World) (K:PySem.W.Frag) (tg:Expr) (J:It) (fp:List Addr) (it:Addr) (tn:Nat->Heap->Prop):Prop where
 mem:it∈fp
 obj:∀ i h,tn i h->∀ b∈fp,∃ o,h.get? b=some o/\∀ v,o.data≠.cell v
 keep:∀ i h h',tn i h->(∀ b∈fp,∀ o,h.get? b=some o->h'.get? b=some o)->tn i h'
 item:∀ (X:Cx),X.prog=P->X.w=w->X.K=K->X.calm=true->∀ (i:Nat) (pins:List (Addr×Obj)) (s:Shared) (σ:St) (H:Hp) (E:Value->Shared->Prop),Inv X pins σ H s->(∀ b∈fp,FpOk X pins H b)->tn i s.heap->J.go i H →
  wpAny (model P w) X.A (pyNext (.ref it)) (fun r s1=>∃ u,r=some u ∧
   wpAny (model P w) X.A (letOwnedTupleGo tg (.ref it) u) (fun _ s2=>∃ x H',Inv X pins σ H' s2/\RelV x u/\J.yld i H x H'/\tn (i+1) s2.heap/\∀ b∈fp,H' b=none) E s1) E s
 done:∀ (X:Cx),X.prog=P->X.w=w->X.K=K->X.calm=true->∀ (i:Nat) (pins:List (Addr×Obj)) (s:Shared) (σ:St) (H:Hp) (E:Value->Shared->Prop),Inv X pins σ H s->(∀ b∈fp,FpOk X pins H b)->tn i s.heap->J.stop i H →
  wpAny (model P w) X.A (pyNext (.ref it)) (fun r s1=>r=none/\Inv X pins σ H s1) E s
 self:∀ (A:Around) (i:Nat) (s:Shared) (Q:Value->Shared->Prop) (E:Value->Shared->Prop),tn i s.heap->Q (.ref it) s->wpAny (model P w) A (pyIter (.ref it)) Q E s
abbrev TI:=St->Hp->(It->Hp->Prop)->Prop
def PIE (X:Cx) (pins:List (Addr×Obj)) (σ:St) (tg:Expr) (R:It->Hp->Prop) (itv:Value) (s2:Shared):Prop:=
 ∃ (it:Addr) (fp:List Addr) (tn:Nat->Heap->Prop) (J:It) (H':Hp),itv = .ref it/\Inv X pins σ H' s2/\Turn X.prog X.w X.K tg J fp it tn/\tn 0 s2.heap/\(∀ b∈fp,FpOk X pins H' b)/\R J H'
def PI (X:Cx) (tg iter:Expr) (wi:TI):Prop:=
 ∀ (pins:List (Addr×Obj)) (s:Shared) (σ:St) (H:Hp) (R:It->Hp->Prop),Inv X pins σ H s->wi σ H R →
  wpAny (model X.prog X.w) X.A (eval iter X.env) (fun v s1=>wpAny (model X.prog X.w) X.A (pyIter v) (PIE X pins σ tg R) X.xe s1) X.xe s
theorem go_of {M:Model} {A:Around} {E:Value->Shared->Prop} {s:Shared} {tg:Expr} {it:Addr} {u:Value} {o:Obj} {n:String} {vs:Array Value} {Q:Unit->Shared->Prop} (ho:s.heap.get? it=some o) (hc:o.cls = .type n) (hd:o.data = .fields vs)
  (hn:["enumerate","zip","dict_itemiterator","dict_reverseitemiterator","odict_iterator","itertools.zip_longest","itertools.pairwise"].contains n=false) (hQ:Q () s):wpAny M A (letOwnedTupleGo tg (.ref it) u) Q E s:=by
 unfold letOwnedTupleGo
 cases tg<;>first
  | exact wpAny_pure hQ
  | (cases u<;>first
    | exact wpAny_pure hQ
    | (refine wpAny_bind (wpAny_load ho ?_)
       rw [hc,hd]
       show wpAny M A (if (["enumerate","zip","dict_itemiterator","dict_reverseitemiterator","odict_iterator","itertools.zip_longest","itertools.pairwise"].contains n && vs[0]? == some (rawInt _))=true then _ else _) Q E s
       rw [if_neg (by intro h;rw [hn,Bool.false_and] at h;cases h)]
       exact wpAny_pure hQ))
def Itl (K:PySem.W.Frag) (a:Addr):It:=
 ⟨fun i H=>∃ xs x,SqL K H a xs/\xs[i]? = some x,fun i H x H'=>H'=H/\∀ xs,SqL K H a xs->xs[i]? = some x,fun i H=>∃ xs,SqL K H a xs/\xs.length<=i⟩
def Itr (lo:Int) (n:Nat):It:=⟨fun i _=>i < n,fun i H x H'=>H'=H/\x = .int (lo+i),fun i _=>n<=i⟩
theorem turn_list {P:Program} {w:World} {K:PySem.W.Frag} {tg:Expr} (a it:Addr):Turn P w K tg (Itl K a) [it] it (fun i h=>h.IsListIter it a i) where
 mem:=by simp
 obj:=fun i h st b hb=>by
  have e:b=it:=by simpa using hb
  subst e
  obtain ⟨o,e,c,d⟩:=st
  exact ⟨o,e,fun v z=>by rw [d] at z;cases z⟩
 keep:=fun i h h' st k=>st.at fun o e=>k it (by simp) o e
 item:=by
  intro X hP hw hK hc i pins s σ H E I hf st hg
  subst hP hw hK
  obtain ⟨xs,x,hq,hx⟩:=hg
  obtain ⟨its,rv,p,hz⟩:=I.list hq
  obtain ⟨u,hu,ru⟩:=rv.get hx
  obtain ⟨f0,f1,f2,f3,f4,f5⟩:=hf it (by simp)
  refine wpAny_pyNext_list_item st p.isList (x:=u) (by simpa using hu) fun h' st' sb=>?_
  have I1:Inv X pins σ H { s with heap:=h' }:=I.turned (t':=s.toks) (fun b o hb e=>(sb.2 b hb).trans e) f0 f1 f3 f4 f5
  obtain ⟨o,e,c,d⟩:=id st'
  exact ⟨u,rfl,go_of (s:={ s with heap:=h' }) e c d (by decide) ⟨x,H,I1,ru,⟨rfl,fun ys hy=>by rw [I.list_inj hy hq];exact hx⟩,st',fun b hb=>(hf b hb).1⟩⟩
 done:=by
  intro X hP hw hK hc i pins s σ H E I hf st hg
  subst hP hw hK
  obtain ⟨xs,hq,hx⟩:=hg
  obtain ⟨its,rv,p,hz⟩:=I.list hq
  obtain ⟨f0,f1,f2,f3,f4,f5⟩:=hf it (by simp)
  have hl:=rv.length
  exact wpAny_pyNext_list_end (I.ok.hd hc) st p.isList (by simp;omega) fun h' eb=>⟨rfl,I.turned (t':=s.toks) (fun b o hb e=>eb b o hb e) f0 f1 f3 f4 f5⟩
 self:=fun _ _ _ _ _ st h=>wpAny_pyIter_listiter st h
theorem turn_range {P:Program} {w:World} {K:PySem.W.Frag} {tg:Expr} (it:Addr) (lo:Int) (n:Nat):Turn P w K tg (Itr lo n) [it] it (fun i h=>IsRangeIter h it (lo+(i:Nat) * 1) ((n:Int) - (i:Nat)) 1) where
 mem:=by simp
 obj:=fun i h st b hb=>by
  have e:b=it:=by simpa using hb
  subst e
  exact ⟨_,st,fun v z=>by
   have z':Data.fields _=Data.cell v:=z
   cases z'⟩
 keep:=fun i h h' st k=>k it (by simp) _ st
 item:=by
  intro X hP hw hK hc i pins s σ H E I hf st hg
  subst hP hw hK
  obtain ⟨f0,f1,f2,f3,f4,f5⟩:=hf it (by simp)
  have W:=Walks.range (prog:=X.prog) (w:=X.w) (I.ok.hd hc) it lo 1 n
  refine W.item i s _ _ hg st fun v h' tk hv st' kk=>?_
  obtain ⟨t,rfl⟩:=hv
  have I1:Inv X pins σ H { s with heap:=h',toks:=tk }:=I.turned (fun b o hb e=>kk b o (by simpa using hb) e) f0 f1 f3 f4 f5
  refine ⟨_,rfl,go_of (s:={ s with heap:=h',toks:=tk }) (n:= "range_iterator") st' rfl rfl (by decide) ⟨.int (lo+i),H,I1,⟨t,?_⟩,⟨rfl,rfl⟩,st',fun b hb=>(hf b hb).1⟩⟩
  rw [Int.mul_one]
 done:=by
  intro X hP hw hK hc i pins s σ H E I hf st hg
  subst hP hw hK
  obtain ⟨f0,f1,f2,f3,f4,f5⟩:=hf it (by simp)
  exact wpAny_pyNext_range_end (I.ok.hd hc) st (by have:n<=i:=hg;omega) fun h' eb=>⟨rfl,I.turned (t':=s.toks) (fun b o hb e=>eb b o hb e) f0 f1 f3 f4 f5⟩
 self:=fun _ _ _ _ _ st h=>wpAny_pyIter_rangeiter st h
end L2
namespace L2
open PySem PySem.Spec PyProof.Rows
section
variable {X:Cx} {tg:Expr}
theorem range_it {pins:List (Addr×Obj)} {σ:St} {H:Hp} {s:Shared} {R:It->Hp->Prop} {E:Value->Shared->Prop} {lo hi:Int} {t u v:Tok} {tk:Nat} (I:Inv X pins σ H s) (h1 : -(2 ^ 62)<=lo) (h2:lo < 2 ^ 62) (h3 : -(2 ^ 62)<=hi) (h4:hi < 2 ^ 62)
  (q:R (Itr lo (hi - lo).toNat) H):wpAny (model X.prog X.w) X.A (pyIter (.ref s.heap.objs.size)) (PIE X pins σ tg R) E { s with heap:=s.heap.push { cls:=.type "range",data:=.fields #[.int lo t,.int hi u,.int 1 v] },toks:=tk }:=by
 refine wpAny_pyIter_range (IsRange.new ..) (small_one h1 h2 h3 h4) ?_
 have I1:Inv X pins σ H { s with heap:=s.heap.push { cls:=.type "range",data:=.fields #[.int lo t,.int hi u,.int 1 v] },toks:=tk }:=I.kept fun b o e=>Heap.get?_push_of_some _ e
 refine ⟨(s.heap.push { cls:=.type "range",data:=.fields #[.int lo t,.int hi u,.int 1 v] }).objs.size,[(s.heap.push { cls:=.type "range",data:=.fields #[.int lo t,.int hi u,.int 1 v] }).objs.size],_,_,H,rfl,
  I1.kept (t':=tk) fun b o e=>Heap.get?_push_of_some _ e,turn_range _ lo (hi - lo).toNat,?_,fun b hb=>?_,q⟩
 ·have e1:lo+((0:Nat):Int) * 1=lo:=by simp
  have e2:(((hi - lo).toNat:Nat):Int) - ((0:Nat):Int)=Builtin.Range.rangeSize lo hi 1:=by rw [rangeSize_one];split<;>omega
  show IsRangeIter _ _ (lo+((0:Nat):Int) * 1) ((((hi - lo).toNat:Nat):Int) - ((0:Nat):Int)) 1
  rw [e1,e2]
  exact Heap.get?_push_size _ rfl
 ·have e:b=(s.heap.push { cls:=.type "range",data:=.fields #[.int lo t,.int hi u,.int 1 v] }).objs.size:=by simpa using hb
  subst e
  exact I1.fpOk (Nat.le_refl _) (I1.hok.fresh (Nat.le_refl _))
def tFor (wi:TI) (g:TG) (tb:TS):TS:=fun D σ H=>wi σ H fun J H1=>∃ W:Nat->Nat->St->Hp->Prop,(∃ m,W 0 m σ H1)/\∀ i m σ H,W i m σ H →
 (J.stop i H/\D.nx σ H)\/(J.go i H/\∃ N:St->Hp->Prop,(∀ σ' H',N σ' H'->∃ m',m' < m/\W (i+1) m' σ' H')/\∀ x H',J.yld i H x H'->g x σ H' fun σ2 H2=>tb { D with nx:=N,ct:=N,bk:=D.nx } σ2 H2)
def pinsAt (fp:List Addr) (h:Heap):List (Addr×Obj):=fp.filterMap fun b=>(h.get? b).map fun o=>(b,o)
theorem mem_pinsAt {fp:List Addr} {h:Heap} {b:Addr} {o:Obj} (hb:b∈fp) (e:h.get? b=some o):(b,o)∈pinsAt fp h:=List.mem_filterMap.mpr ⟨b,hb,by rw [e];rfl⟩
theorem of_pinsAt {fp:List Addr} {h:Heap} {p:Addr×Obj} (hp:p∈pinsAt fp h):p.1∈fp/\h.get? p.1=some p.2:=by
 obtain ⟨b,hb,e⟩:=List.mem_filterMap.mp hp
 cases q:h.get? b with
 | none=>rw [q] at e;cases e
 | some o=>
  rw [q] at e
  have e':(b,o)=p:=Option.some.inj e
  subst e'
  exact ⟨hb,q⟩
theorem Inv.pinned {pins:List (Addr×Obj)} {σ:St} {H:Hp} {s:Shared} {fp:List Addr} (I:Inv X pins σ H s) (hf:∀ b∈fp,FpOk X pins H b) (ho:∀ b∈fp,∃ o,s.heap.get? b=some o/\∀ v,o.data≠.cell v):Inv X (pins++pinsAt fp s.heap) σ H s:=
 I.pins_of fun p hp=>(List.mem_append.mp hp).elim (fun z=>I.pin p (List.mem_append_right _ z)) fun z=>by
  obtain ⟨hb,e⟩:=of_pinsAt z
  obtain ⟨f0,f1,f2,_⟩:=hf p.1 hb
  obtain ⟨o,e',d⟩:=ho p.1 hb
  rw [e] at e';cases e'
  exact ⟨e,f0,f1,f2,d⟩
theorem Inv.unpinned {pins pl:List (Addr×Obj)} {σ:St} {H:Hp} {s:Shared} (I:Inv X (pins++pl) σ H s):Inv X pins σ H s:=I.pins_of fun p hp=>I.pin p (List.mem_append_right _ (List.mem_append_left _ hp))
theorem ps_for {iter:Expr} {body:List Stmt} {wi:TI} {g:TG} {tb:TS} {pos:Pos} (hp:PassesOwn (model X.prog X.w) X.A X.env X.xe) (hc:X.calm=true) (hi:PI X tg iter wi) (hg:PG X tg g) (hb:PSs X body tb)
  (hs:∀ x,foldedSetIterable iter X.env x=pure x:=by intro _;rfl):PS X (.For tg iter body [] pos) (tFor wi g tb):=by
 intro pins s σ H D I h
 refine wpAny_For (thn (hi pins s σ H _ I h) fun v s1 h1=>thn h1 fun itv s2 h2=>?_) hs
 obtain ⟨it,fp,tn,J,H2,e,I2,T,st2,f2,W,⟨m0,w0⟩,turn⟩:=h2
 subst e
 have stat:∀ {H':Hp},(∀ b∈fp,H' b=none)->∀ b∈fp,FpOk X pins H' b:=fun hn b hb=>⟨hn b hb,(f2 b hb).2⟩
 refine codeAny_forLoop_any (fun n s'=>∃ i σ' H',Inv X pins σ' H' s'/\tn i s'.heap/\(∀ b∈fp,H' b=none)/\W i n σ' H') ?_ m0 ⟨0,σ,H2,I2,st2,fun b hb=>(f2 b hb).1,w0⟩
 rintro n s3 ⟨i,σ3,H3,I3,st3,fr3,w3⟩
 rcases turn i n σ3 H3 w3 with ⟨stop,qn⟩ | ⟨go,N,hN,step⟩
 ·refine wpAny_passesOwn hp (thn (T.done X rfl rfl rfl hc i pins s3 σ3 H3 X.xe I3 (stat fr3) st3 stop) fun r s4 ⟨hr,I4⟩=>?_)
  subst hr
  exact wpAny_execs_nil ⟨σ3,H3,I4,qn⟩
 ·refine wpAny_passesOwn hp (thn (T.item X rfl rfl rfl hc i pins s3 σ3 H3 X.xe I3 (stat fr3) st3 go) fun r s4 ⟨u,hr,h4⟩=>?_)
  subst hr
  refine wpAny_passesOwn hp (thn h4 fun _ s5 ⟨x,H5,I5,r5,y5,st5,fr5⟩=>?_)
  have I5':=I5.pinned (stat fr5) (T.obj _ _ st5)
  refine wpAny_passesOwn hp (thn (hg _ s5 σ3 H5 x u _ I5' r5 (step x H5 y5)) fun _ s6 ⟨σ6,H6,I6,q6⟩=>?_)
  refine wpAny_passesOwn hp (thn (hb _ s6 σ6 H6 _ I6 q6) fun f s7 q7=>?_)
  have again:∀ {σ7:St} {H7:Hp},Inv X (pins++pinsAt fp s5.heap) σ7 H7 s7->N σ7 H7->∃ m,m < n/\∃ i σ' H',Inv X pins σ' H' s7/\tn i s7.heap/\(∀ b∈fp,H' b=none)/\W i m σ' H':=fun {σ7 H7} I7 n7=>by
   obtain ⟨m',hm,w7⟩:=hN σ7 H7 n7
   refine ⟨m',hm,i+1,σ7,H7,I7.unpinned,T.keep _ _ _ st5 fun b hb o e=>(I7.pin (b,o) (List.mem_append_right _ (List.mem_append_right _ (mem_pinsAt hb e)))).1,fun b hb=>?_,w7⟩
   obtain ⟨o,e,d⟩:=T.obj _ _ st5 b hb
   exact (I7.pin (b,o) (List.mem_append_right _ (List.mem_append_right _ (mem_pinsAt hb e)))).2.1
  cases f with
  | next=>obtain ⟨σ7,H7,I7,n7⟩:=q7;exact again I7 n7
  | cont=>obtain ⟨σ7,H7,I7,n7⟩:=q7;exact again I7 n7
  | brk=>obtain ⟨σ7,H7,I7,q7⟩:=q7;exact ⟨σ7,H7,I7.unpinned,q7⟩
  | ret v=>obtain ⟨x7,σ7,H7,I7,r7,q7⟩:=q7;exact ⟨x7,σ7,H7,I7.unpinned,r7,q7⟩
end
end L2
namespace L2
open PySem PySem.Spec PyProof.Rows
abbrev R2:=V->V->Hp->VK->Prop
def OpR (X:Cx) (f:Value->Value->Sem Value) (r:R2):Prop:=
 ∀ (pins:List (Addr×Obj)) (s:Shared) (σ:St) (H:Hp) (x y:V) (v u:Value) (Q:VK),Inv X pins σ H s->RelV x v->RelV y u->r x y H Q →
  wpAny (model X.prog X.w) X.A (f v u) (EP X pins σ Q) X.xe s
def CallR (X:Cx) (f:Value) (r:List V->Hp->VK->Prop):Prop:=
 ∀ (pins:List (Addr×Obj)) (s:Shared) (σ:St) (H:Hp) (xs:List V) (us:List Value) (Q:VK),Inv X pins σ H s->Vals xs us->r xs H Q →
  wpAny (model X.prog X.w) X.A (call f us) (EP X pins σ Q) X.xe s
def TruR (X:Cx) (r:V->Hp->(Bool->Hp->Prop)->Prop):Prop:=
 ∀ (pins:List (Addr×Obj)) (s:Shared) (σ:St) (H:Hp) (x:V) (v:Value) (Q:Bool->Hp->Prop),Inv X pins σ H s->RelV x v->r x H Q →
  wpAny (model X.prog X.w) X.A (truthy v) (TP X pins σ Q) X.xe s
def tOp (r:R2) (ta tb:TE):TE:=fun σ H Q=>ta σ H fun x H1=>tb σ H1 fun y H2=>r x y H2 Q
def rI (C:Int->Int->Prop) (g:Int->Int->V):R2:=fun x y H Q=>∃ i j,x = .int i/\y = .int j/\C i j/\Q (g i j) H
def rI0 (g:Int->Int->V):R2:=fun x y H Q=>∃ i j,x = .int i/\y = .int j/\Q (g i j) H
section
variable {X:Cx} {a b c:Expr} {ta tb tc:TE} {pos:Pos}
theorem binT (ha:PE X a ta) (hb:PE X b tb) {pins:List (Addr×Obj)} {s:Shared} {σ:St} {H:Hp} {R:V->V->Hp->Prop} (I:Inv X pins σ H s)
  (h:ta σ H fun x H1=>tb σ H1 fun y H2=>R x y H2) {Q:Value->Shared->Prop} {f:Value->Value->Sem Value}
  (hf:∀ v u s2 x y H2,Inv X pins σ H2 s2->RelV x v->RelV y u->R x y H2->wpAny (model X.prog X.w) X.A (f v u) Q X.xe s2) :
  wpAny (model X.prog X.w) X.A (eval a X.env) (fun v s₁=>wpAny (model X.prog X.w) X.A (eval b X.env) (fun u s₂=>wpAny (model X.prog X.w) X.A (f v u) Q X.xe s₂) X.xe s₁) X.xe s:=by
 refine thn (ha pins s σ H _ I h) fun v s1 ⟨x,H1,I1,r1,q1⟩=>?_
 refine thn (hb pins s1 σ H1 _ I1 q1) fun u s2 ⟨y,H2,I2,r2,q2⟩=>?_
 exact hf v u s2 x y H2 I2 r1 r2 q2
theorem pe_op {op:Operator} {r:R2} (ho:OpR X (binaryOp op) r) (ha:PE X a ta) (hb:PE X b tb):PE X (.BinOp a op b pos) (tOp r ta tb):=by
 intro pins s σ H Q I h
 exact wpAny_BinOp (binT ha hb I h fun v u s2 x y H2 I2 rx ry q=>ho pins s2 σ H2 x y v u Q I2 rx ry q)
theorem opI {f:Value->Value->Sem Value} {C:Int->Int->Prop} {g:Int->Int->Int}
  (rule:∀ (i j:Int) (t u:Tok) (s:Shared) (Q:Value->Shared->Prop) (E:Value->Shared->Prop),C i j->Q (.int (g i j) s.toks) { s with toks:=s.toks+1 }->wpAny (model X.prog X.w) X.A (f (.int i t) (.int j u)) Q E s) :
  OpR X f (rI C fun i j=>.int (g i j)):=by
 intro pins s σ H x y v u Q I rx ry h
 obtain ⟨i,j,rfl,rfl,hc,q⟩:=h
 obtain ⟨t,rfl⟩:=rx
 obtain ⟨t',rfl⟩:=ry
 exact rule i j t t' s _ _ hc ⟨.int (g i j),H,I.tok _,⟨_,rfl⟩,q⟩
theorem opI0 {f:Value->Value->Sem Value} {g:Int->Int->Int}
  (rule:∀ (i j:Int) (t u:Tok) (s:Shared) (Q:Value->Shared->Prop) (E:Value->Shared->Prop),Q (.int (g i j) s.toks) { s with toks:=s.toks+1 }->wpAny (model X.prog X.w) X.A (f (.int i t) (.int j u)) Q E s) :
  OpR X f (rI0 fun i j=>.int (g i j)):=by
 intro pins s σ H x y v u Q I rx ry h
 obtain ⟨i,j,rfl,rfl,q⟩:=h
 obtain ⟨t,rfl⟩:=rx
 obtain ⟨t',rfl⟩:=ry
 exact rule i j t t' s _ _ ⟨.int (g i j),H,I.tok _,⟨_,rfl⟩,q⟩
theorem opB0 {f:Value->Value->Sem Value} {g:Int->Int->Bool}
  (rule:∀ (i j:Int) (t u:Tok) (s:Shared) (Q:Value->Shared->Prop) (E:Value->Shared->Prop),Q (.bool (g i j)) s->wpAny (model X.prog X.w) X.A (f (.int i t) (.int j u)) Q E s) :
  OpR X f (rI0 fun i j=>.bl (g i j)):=by
 intro pins s σ H x y v u Q I rx ry h
 obtain ⟨i,j,rfl,rfl,q⟩:=h
 obtain ⟨t,rfl⟩:=rx
 obtain ⟨t',rfl⟩:=ry
 exact rule i j t t' s _ _ ⟨.bl (g i j),H,I,rfl,q⟩
def CDiv (i j:Int):Prop:=0 < j/\j < 1073741824
def CPow (i j:Int):Prop:=0<=j/\j<=1000000/\i.natAbs < 2 ^ 64
def CMul (i j:Int):Prop:=(-(2 ^ 64) < i/\i < 2 ^ 64)\/(-(2 ^ 64) < j/\j < 2 ^ 64)
theorem CMul.ok {i j:Int} (h:CMul i j):IntMulOk i j:=by
 rcases h with ⟨h1,h2⟩ | ⟨h1,h2⟩
 ·exact .of_left (intBits_le_64 h1 h2)
 ·exact .of_right (intBits_le_64 h1 h2)
theorem op_add:OpR X (binaryOp .Add) (rI0 fun i j=>.int (i+j)):=opI0 fun _ _ _ _ _ _ _ q=>add_int q
theorem op_sub:OpR X (binaryOp .Sub) (rI0 fun i j=>.int (i - j)):=opI0 fun _ _ _ _ _ _ _ q=>sub_int q
theorem op_mul:OpR X (binaryOp .Mult) (rI CMul fun i j=>.int (i * j)):=opI fun _ _ _ _ _ _ _ hc q=>mul_int q hc.ok
theorem op_fdiv:OpR X (binaryOp .FloorDiv) (rI CDiv fun i j=>.int (i / j)):=opI fun i j _ _ _ _ _ hc q=>by
 have h1:(0:Int) < j:=hc.1
 have h2:j < 1073741824:=hc.2
 exact floordiv_int (by omega) (by rw [Int.fdiv_eq_ediv_of_nonneg i (by omega)];exact q) (.inl (PyProof.noPylong_small (by omega)))
theorem op_mod:OpR X (binaryOp .Mod) (rI (fun _ j=>0 < j) fun i j=>.int (i % j)):=opI fun i j _ _ _ _ _ hc q=>by
 have h1:(0:Int) < j:=hc
 exact mod_int' (by omega) (by rw [Int.fmod_eq_emod_of_nonneg i (by omega)];exact q)
theorem op_pow:OpR X (binaryOp .Pow) (rI CPow fun i j=>.int (i ^ j.toNat)):=opI fun _ _ _ _ _ _ _ hc q=>pow_int_small hc.1 hc.2.1 hc.2.2 q
end
def scal:V->V->Bool
 | .non,.non=>true | .non,.int _=>true | .int _,.non=>true | .non,.bl _=>true | .bl _,.non=>true | .non,.str _=>true | .str _,.non=>true
 | .int _,.int _=>true | .bl _,.bl _=>true | .str _,.str _=>true | .byt _,.byt _=>true
 | .int _,.str _=>true | .str _,.int _=>true | .bl _,.str _=>true | .str _,.bl _=>true
 | _,_=>false
def rEq:R2:=fun x y H Q=>scal x y=true/\Q (.bl (decide (x=y))) H
def rNe:R2:=fun x y H Q=>scal x y=true/\Q (.bl (!decide (x=y))) H
theorem dec_int {i j:Int}:decide (V.int i=V.int j)=(i == j):=by
 rw [Bool.eq_iff_iff]
 simp
theorem dec_bl {i j:Bool}:decide (V.bl i=V.bl j)=(i == j):=by
 rw [Bool.eq_iff_iff]
 simp
theorem dec_str {i j:Str}:decide (V.str i=V.str j)=(i == j):=by
 rw [Bool.eq_iff_iff]
 simp
theorem dec_byt {i j:Array UInt8}:decide (V.byt i=V.byt j)=(i.toList == j.toList):=by
 rw [Bool.eq_iff_iff]
 cases i
 cases j
 simp
section
variable {X:Cx} {a b c:Expr} {ta tb tc:TE} {pos:Pos}
theorem fin_bl {pins:List (Addr×Obj)} {σ:St} {H:Hp} {s:Shared} {Q:VK} {k k':Bool} (I:Inv X pins σ H s) (q:Q (.bl k) H) (e:k=k'):EP X pins σ Q (.bool k') s:=by
 subst e
 exact ⟨.bl k,H,I,rfl,q⟩
theorem op_eq:OpR X (compareOp .Eq) rEq:=by
 intro pins s σ H x y v u Q I rx ry h
 obtain ⟨hs,q⟩:=h
 cases x with
 | non=>
  cases rx
  cases y with
  | non=>cases ry;exact PySem.EqNone.eq_none_none (fin_bl I q (by simp))
  | bl j=>cases ry;exact PySem.EqNone.eq_none_bool (fin_bl I q (by simp))
  | int j=>obtain ⟨t',rfl⟩:=ry;exact PySem.EqNone.eq_none_int (fin_bl I q (by simp))
  | str j=>obtain ⟨t',rfl⟩:=ry;exact PySem.EqNone.eq_none_str (fin_bl I q (by simp))
  | _=>exact absurd (show false=true from hs) Bool.false_ne_true
 | bl i=>
  cases rx
  cases y with
  | non=>cases ry;exact PySem.EqNone.eq_bool_none (fin_bl I q (by simp))
  | bl j=>cases ry;exact eq_bool (fin_bl I q dec_bl)
  | str j=>obtain ⟨t',rfl⟩:=ry;exact PySem.EqMixed.eq_bool_str (fin_bl I q (by simp))
  | _=>exact absurd (show false=true from hs) Bool.false_ne_true
 | int i=>
  obtain ⟨t,rfl⟩:=rx
  cases y with
  | non=>cases ry;exact PySem.EqNone.eq_int_none (fin_bl I q (by simp))
  | int j=>obtain ⟨t',rfl⟩:=ry;exact eq_int (fin_bl I q dec_int)
  | str j=>obtain ⟨t',rfl⟩:=ry;exact PySem.EqMixed.eq_int_str (fin_bl I q (by simp))
  | _=>exact absurd (show false=true from hs) Bool.false_ne_true
 | str i=>
  obtain ⟨t,rfl⟩:=rx
  cases y with
  | non=>cases ry;exact PySem.EqNone.eq_str_none (fin_bl I q (by simp))
  | bl j=>cases ry;exact PySem.EqMixed.eq_str_bool (fin_bl I q (by simp))
  | int j=>obtain ⟨t',rfl⟩:=ry;exact PySem.EqMixed.eq_str_int (fin_bl I q (by simp))
  | str j=>obtain ⟨t',rfl⟩:=ry;exact eq_str (fin_bl I q dec_str)
  | _=>exact absurd (show false=true from hs) Bool.false_ne_true
 | byt i=>
  obtain ⟨t,rfl⟩:=rx
  cases y with
  | byt j=>obtain ⟨t',rfl⟩:=ry;exact PySem.W.eq_bytes (fin_bl I q dec_byt)
  | _=>exact absurd (show false=true from hs) Bool.false_ne_true
 | _=>cases y<;>exact absurd (show false=true from hs) Bool.false_ne_true
theorem op_ne:OpR X (compareOp .NotEq) rNe:=by
 intro pins s σ H x y v u Q I rx ry h
 obtain ⟨hs,q⟩:=h
 cases x with
 | non=>
  cases rx
  cases y with
  | non=>cases ry;exact PySem.EqNone.ne_none_none (fin_bl I q (by simp))
  | bl j=>cases ry;exact PySem.EqNone.ne_none_bool (fin_bl I q (by simp))
  | int j=>obtain ⟨t',rfl⟩:=ry;exact PySem.EqNone.ne_none_int (fin_bl I q (by simp))
  | str j=>obtain ⟨t',rfl⟩:=ry;exact PySem.EqNone.ne_none_str (fin_bl I q (by simp))
  | _=>exact absurd (show false=true from hs) Bool.false_ne_true
 | bl i=>
  cases rx
  cases y with
  | non=>cases ry;exact PySem.EqNone.ne_bool_none (fin_bl I q (by simp))
  | bl j=>cases ry;exact ne_bool (fin_bl I q (congrArg not dec_bl))
  | str j=>obtain ⟨t',rfl⟩:=ry;exact PySem.EqMixed.ne_bool_str (fin_bl I q (by simp))
  | _=>exact absurd (show false=true from hs) Bool.false_ne_true
 | int i=>
  obtain ⟨t,rfl⟩:=rx
  cases y with
  | non=>cases ry;exact PySem.EqNone.ne_int_none (fin_bl I q (by simp))
  | int j=>obtain ⟨t',rfl⟩:=ry;exact ne_int (fin_bl I q (congrArg not dec_int))
  | str j=>obtain ⟨t',rfl⟩:=ry;exact PySem.EqMixed.ne_int_str (fin_bl I q (by simp))
  | _=>exact absurd (show false=true from hs) Bool.false_ne_true
 | str i=>
  obtain ⟨t,rfl⟩:=rx
  cases y with
  | non=>cases ry;exact PySem.EqNone.ne_str_none (fin_bl I q (by simp))
  | bl j=>cases ry;exact PySem.EqMixed.ne_str_bool (fin_bl I q (by simp))
  | int j=>obtain ⟨t',rfl⟩:=ry;exact PySem.EqMixed.ne_str_int (fin_bl I q (by simp))
  | str j=>obtain ⟨t',rfl⟩:=ry;exact ne_str (fin_bl I q (congrArg not dec_str))
  | _=>exact absurd (show false=true from hs) Bool.false_ne_true
 | byt i=>
  obtain ⟨t,rfl⟩:=rx
  cases y with
  | byt j=>obtain ⟨t',rfl⟩:=ry;exact PySem.W.ne_bytes (fin_bl I q (congrArg not dec_byt))
  | _=>exact absurd (show false=true from hs) Bool.false_ne_true
 | _=>cases y<;>exact absurd (show false=true from hs) Bool.false_ne_true
theorem op_lt:OpR X (compareOp .Lt) (rI0 fun i j=>.bl (decide (i < j))):=opB0 fun _ _ _ _ _ _ _ q=>lt_int q
theorem op_le:OpR X (compareOp .LtE) (rI0 fun i j=>.bl (decide (i<=j))):=opB0 fun _ _ _ _ _ _ _ q=>le_int q
theorem op_gt:OpR X (compareOp .Gt) (rI0 fun i j=>.bl (decide (j < i))):=opB0 fun _ _ _ _ _ _ _ q=>gt_int q
theorem op_ge:OpR X (compareOp .GtE) (rI0 fun i j=>.bl (decide (j<=i))):=opB0 fun _ _ _ _ _ _ _ q=>ge_int q
theorem op_isN:OpR X (compareOp .Is) (fun x y H Q=>y = .non/\Q (.bl (decide (x = .non))) H):=by
 intro pins s σ H x y v u Q I rx ry h
 obtain ⟨rfl,q⟩:=h
 cases ry
 refine is_none_gen (fin_bl I q ?_)
 cases x<;>first
  | (cases rx;rfl)
  | (obtain ⟨t,rfl⟩:=rx;rfl)
theorem op_notN:OpR X (compareOp .IsNot) (fun x y H Q=>y = .non/\Q (.bl (!decide (x = .non))) H):=by
 intro pins s σ H x y v u Q I rx ry h
 obtain ⟨rfl,q⟩:=h
 cases ry
 refine isnot_none_gen (fin_bl I q ?_)
 cases x<;>first
  | (cases rx;rfl)
  | (obtain ⟨t,rfl⟩:=rx;rfl)
theorem OpR.or {f:Value->Value->Sem Value} {r r':R2} (h:OpR X f r) (h':OpR X f r'):OpR X f (fun x y H Q=>r x y H Q\/r' x y H Q):=by
 intro pins s σ H x y v u Q I rx ry q
 rcases q with q | q
 ·exact h pins s σ H x y v u Q I rx ry q
 ·exact h' pins s σ H x y v u Q I rx ry q
theorem nomark (b:Expr) {op:CmpOp} (h:op≠.In:=by decide) (h2:op≠.NotIn:=by decide):behindInMarks op b=false:=by
 have e1:(op == CmpOp.In)=false:=by cases op<;>first | rfl | exact absurd rfl h
 have e2:(op == CmpOp.NotIn)=false:=by cases op<;>first | rfl | exact absurd rfl h2
 cases b<;>simp [behindInMarks,e1,e2]
theorem pe_cmpR {op:CmpOp} {r:R2} (ho:OpR X (compareOp op) r) (ha:PE X a ta) (hb:PE X b tb) (hm:behindInMarks op b=false):PE X (.Compare a [op] [b] pos) (tOp r ta tb):=by
 intro pins s σ H Q I h
 exact wpAny_Compare1 (binT ha hb I h fun v u s2 x y H2 I2 rx ry q=>ho pins s2 σ H2 x y v u Q I2 rx ry q) hm
def TruV (K:PySem.W.Frag) (x:V) (H:Hp) (k:Bool):Prop:=
 match x with
 | .non=>k=false
 | .bl b=>k=b
 | .int i=>k=(i != 0)
 | .str y=>y.length<=sizeLine/\k=((y.length:Int) != 0)
 | .byt y=>y.size<=sizeLine/\k=((y.size:Int) != 0)
 | .ref p=>(∃ xs,SqL K H p xs/\k=!xs.isEmpty)\/(∃ xs,SqT K H p xs/\k=!xs.isEmpty)\/∃ kvs,H p=some (.dK kvs)/\k=!kvs.isEmpty
 | _=>False
theorem isEmpty_kv {κ:Type} {kvs:List (κ×V)} {vs:List (κ×Value)} (r:KV kvs vs):(!vs.isEmpty)=!kvs.isEmpty:=by
 cases r<;>rfl
theorem isEmpty_of {xs:List V} {its:List Value} (r:Vals xs its):(!its.toArray.isEmpty)=!xs.isEmpty:=by
 cases r<;>simp
theorem line63:(sizeLine:Nat) < 2 ^ 63:=by rw [sizeLine_eq];decide
theorem tru_ok:TruR X (fun x H Q=>∃ k,TruV X.K x H k/\Q k H):=by
 intro pins s σ H x v Q I rx h
 obtain ⟨k,e,q⟩:=h
 have hl:=line63
 have hs:sizeLine=16777216:=sizeLine_eq
 cases x with
 | non=>
  cases rx
  have e':k=false:=e
  subst e'
  exact truthy_none ⟨H,I,q⟩
 | bl b=>
  cases rx
  have e':k=b:=e
  subst e'
  exact wpAny_truthy_bool ⟨H,I,q⟩
 | int i=>
  obtain ⟨t,rfl⟩:=rx
  have e':k=(i != 0):=e
  subst e'
  exact PySem.P.truthy_int ⟨H,I,q⟩
 | str y=>
  obtain ⟨t,rfl⟩:=rx
  obtain ⟨hy,e'⟩ : y.length<=sizeLine/\k=((y.length:Int) != 0):=e
  subst e'
  exact PySem.P.truthy_str (by omega) ⟨H,I.tok _,q⟩
 | byt y=>
  obtain ⟨t,rfl⟩:=rx
  obtain ⟨hy,e'⟩ : y.size<=sizeLine/\k=((y.size:Int) != 0):=e
  subst e'
  exact PySem.W.truthy_bytes (by omega) ⟨H,I.tok _,q⟩
 | ref p=>
  cases rx
  have e':(∃ xs,SqL X.K H p xs/\k=!xs.isEmpty)\/(∃ xs,SqT X.K H p xs/\k=!xs.isEmpty)\/∃ kvs,H p=some (.dK kvs)/\k=!kvs.isEmpty:=e
  rcases e' with ⟨xs,hx,e'⟩ | ⟨xs,hx,e'⟩ | ⟨kvs,hx,e'⟩
  ·subst e'
   obtain ⟨its,r,pl,hz⟩:=I.list hx
   have hlen:=r.length
   exact wpAny_truthy_list pl.isList (by simp only [List.size_toArray];omega) ⟨H,I.tok _,by rw [isEmpty_of r];exact q⟩
  ·subst e'
   obtain ⟨its,r,pl,hz⟩:=I.tuple hx
   have hlen:=r.length
   exact truthy_tuple pl (by simp only [List.size_toArray];omega) ⟨H,I.tok _,by rw [isEmpty_of r];exact q⟩
  ·subst e'
   obtain ⟨hz,hS,vs,r,m⟩ : kvs.length<=sizeLine/\(p == sysModules)=false/\∃ vs,KV kvs vs/\s.heap.DictOf (mixKind X.prog X.w) p vs:=I.hok p _ hx
   have hlen:kvs.length=vs.length:=Paired.length r
   exact wpAny_truthy_dict hS m (by omega) ⟨H,I.tok _,by rw [isEmpty_kv r];exact q⟩
 | _=>exact (show False from e).elim
theorem op_add_str:OpR X (binaryOp .Add) (fun x y H Q=>∃ i j,x = .str i/\y = .str j/\i.length+j.length<=sizeLine/\Q (.str (i++j)) H):=by
 intro pins s σ H x y v u Q I rx ry h
 obtain ⟨i,j,rfl,rfl,hz,q⟩:=h
 obtain ⟨t,rfl⟩:=rx
 obtain ⟨t',rfl⟩:=ry
 exact add_str (fun t' tk=>⟨.str (i++j),H,I.tok _,⟨_,rfl⟩,q⟩) hz
theorem vals1 {x:V} {us:List Value} (r:Vals [x] us):∃ u,us=[u]/\RelV x u:=by
 cases r with
 | cons r1 r2=>cases r2;exact ⟨_,rfl,r1⟩
theorem vals2 {x y:V} {us:List Value} (r:Vals [x,y] us):∃ u w',us=[u,w']/\RelV x u/\RelV y w':=by
 cases r with
 | cons r1 r2=>
  cases r2 with
  | cons r3 r4=>cases r4;exact ⟨_,_,rfl,r1,r3⟩
theorem call_max2 (hc:X.calm=true):CallR X (.builtin "max") (fun xs H Q=>∃ i j,xs=[.int i,.int j]/\Q (.int (if j > i then j else i)) H):=by
 intro pins s σ H xs us Q I r h
 obtain ⟨i,j,rfl,q⟩:=h
 obtain ⟨u,w',rfl,⟨t,rfl⟩,⟨t',rfl⟩⟩:=vals2 r
 refine max_two_ints (I.ok.hd hc) fun h' tk k=>⟨_,H,I.kept k,?_,q⟩
 by_cases hj:j > i
 ·rw [if_pos hj,if_pos hj];exact ⟨_,rfl⟩
 ·rw [if_neg hj,if_neg hj];exact ⟨_,rfl⟩
theorem call_min2 (hc:X.calm=true):CallR X (.builtin "min") (fun xs H Q=>∃ i j,xs=[.int i,.int j]/\Q (.int (if j < i then j else i)) H):=by
 intro pins s σ H xs us Q I r h
 obtain ⟨i,j,rfl,q⟩:=h
 obtain ⟨u,w',rfl,⟨t,rfl⟩,⟨t',rfl⟩⟩:=vals2 r
 refine min_two_ints (I.ok.hd hc) fun h' tk k=>⟨_,H,I.kept k,?_,q⟩
 by_cases hj:j < i
 ·rw [if_pos hj,if_pos hj];exact ⟨_,rfl⟩
 ·rw [if_neg hj,if_neg hj];exact ⟨_,rfl⟩
end
end L2
namespace L2
open PySem PySem.Spec PyProof.Rows
section
variable {prog:Program} {w:World} {A:Around} {E:Value->Shared->Prop} {s:Shared} {K:PySem.W.Frag} {x dx C f:Addr} {mA:Str->Option Value} {name:Str} {v:Value}
end
def putF (f:Str) (v:V):List (Str×V)->List (Str×V)
 | []=>[(f,v)]
 | (g,x) :: r=>if g=f then (g,v) :: r else (g,x) :: putF f v r
theorem RelO.some_of {v:V} {o:Option Value} (r:RelO (some v) o):∃ u,o=some u/\RelV v u:=by
 cases o with
 | none=>exact (show False from r).elim
 | some u=>exact ⟨u,rfl,r⟩
section
variable {P:Program} {w:World} {H H':Hp} {h h':Heap} {a C dx:Addr} {fs fs':List (Str×V)}
end
section
variable {X:Cx} {pins:List (Addr×Obj)} {σ:St} {H:Hp} {s:Shared} {a C dx:Addr} {fs:List (Str×V)} {f:Str} {v:V} {A:Around} {E:Value->Shared->Prop}
theorem Inv.made (I:Inv X pins σ H s):Inv X pins σ (upd (upd H s.heap.objs.size (.own (s.heap.objs.size+1))) (s.heap.objs.size+1) (.ins C s.heap.objs.size []))
  { s with heap:=(s.heap.push PySem.W.emptyDict).push (PySem.W.instObj C s.heap.objs.size) }:=by
 have e1:(s.heap.push PySem.W.emptyDict).get? s.heap.objs.size=some PySem.W.emptyDict:=Heap.get?_push_size s.heap rfl
 have e2:((s.heap.push PySem.W.emptyDict).push (PySem.W.instObj C s.heap.objs.size)).get? (s.heap.objs.size+1)=some (PySem.W.instObj C s.heap.objs.size):=by
  have:=Heap.get?_push_size (s.heap.push PySem.W.emptyDict) (o:=PySem.W.instObj C s.heap.objs.size) rfl
  rwa [Heap.size_push] at this
 have e3:(s.heap.push PySem.W.emptyDict).Ns s.heap.objs.size (fun _=>none):=⟨PySem.W.emptyDict,#[],_,e1,rfl,(fun e he=>absurd he (by simp)),fun _=>rfl⟩
 have I1:=I.laid (a:=s.heap.objs.size) (o:=.own (s.heap.objs.size+1)) (h':=s.heap.push PySem.W.emptyDict) (t':=s.toks) (fun b u q=>Heap.get?_push_of_some _ q) (Nat.le_refl _) ⟨_,e1⟩
 refine I1.laid (a:=s.heap.objs.size+1) (o:=.ins C s.heap.objs.size []) (t':=s.toks) (fun b u q=>Heap.get?_push_of_some _ q) (Nat.le_of_eq (Heap.size_push _ _)) ?_
 have ne:s.heap.objs.size≠s.heap.objs.size+1:=Nat.ne_of_lt (Nat.lt_succ_self _)
 refine ⟨by rw [upd_ne ne,upd_same],Nat.zero_le _,ne,e2,fun _=>none,(Heap.Ns1.of_empty e3).at fun o q=>Heap.get?_push_of_some _ q,fun _=>True.intro,fun y hy=>absurd rfl hy⟩
end
section
variable {X:Cx} {o e value:Expr} {f:Str} {pos pos' tpos:Pos} {ta tv:TE}
end
section
variable {X:Cx} {pins:List (Addr×Obj)} {σ:St} {H:Hp} {s:Shared} {A:Around} {E:Value->Shared->Prop} {Q:Value->Shared->Prop} {c:Value} {b:Bool}
end
end L2
namespace L2
open PySem PySem.Spec PyProof.Rows
structure Room (k:Nat) (A:Around):Prop where
 hd:A.handled=none
 dp:A.depth+3 * k+5 < recursionLimit
 un:A.units+16 * k+200 < cLine
theorem Room.mono {j k:Nat} {A:Around} (r:Room k A) (h:j<=k):Room j A:=⟨r.hd,by have:=r.dp;omega,by have:=r.un;omega⟩
theorem Room.deeper {k:Nat} {A:Around} (r:Room (k+1) A) (env:Env):Room k (A.deeper env):=
 ⟨r.hd,by have:=r.dp;show A.depth+1+3 * k+5 < _;omega,by have:=r.un;show A.units+3+16 * k+200 < _;omega⟩
theorem Room.in1 {k:Nat} {A:Around} (r:Room (k+1) A):Room k A.in1:=
 ⟨r.hd,by have:=r.dp;show A.depth+3 * k+5 < _;omega,by have:=r.un;show A.units+1+16 * k+200 < _;omega⟩
theorem Room.depth {k:Nat} {A:Around} (r:Room k A):A.depth < recursionLimit:=by have:=r.dp;omega
theorem Room.units {k:Nat} {A:Around} (r:Room k A):A.units+64 < cLine:=by have:=r.un;omega
def tNil:TA:=fun _ H Q=>Q [] H
def tCons (ta:TE) (tr:TA):TA:=fun σ H Q=>ta σ H fun x H1=>tr σ H1 fun xs H2=>Q (x :: xs) H2
section
variable {X:Cx} {e:Expr} {es:List Expr} {te:TE} {t:TA} {pos:Pos}
theorem pa_nil:PA X [] tNil:=fun _ _ _ _ H Q I h=>Calls.spliced_nil ⟨[],H,I,.nil,h⟩
theorem pa_cons (ha:PE X e te) (hr:PA X es t) (hs:starEach (e :: es) X.env=(false,eval e X.env) :: starEach es X.env:=by rfl):PA X (e :: es) (tCons te t):=by
 intro pos pins s σ H Q I h
 rw [hs]
 show wpAny _ _ (spliced ((false,eval e X.env) :: backTo pos (starEach es X.env))) _ _ s
 refine Calls.spliced_cons (thn (ha pins s σ H _ I h) fun u s1 ⟨x,H1,I1,r1,q1⟩=>?_)
 exact thn (hr pos pins s1 σ H1 _ I1 q1) fun us s2 ⟨xs,H2,I2,r2,q2⟩=>⟨x :: xs,H2,I2,.cons r1 r2,q2⟩
def tTup (t:TA):TE:=fun σ H Q=>t σ H fun xs H1=>xs.length<=sizeLine/\∀ p,H1 p=none->Q (.ref p) (upd H1 p (.tup xs))
def tLst (t:TA):TE:=fun σ H Q=>t σ H fun xs H1=>xs.length<=sizeLine/\∀ p,H1 p=none->Q (.ref p) (upd H1 p (.lst xs))
theorem pe_tup {x1} (h:PA X es t):PE X (.Tuple es x1 pos) (tTup t):=by
 intro pins s σ H Q I hq
 refine wpAny_Tuple_spliced (thn (h pos pins s σ H _ I hq) fun us s1 ⟨xs,H1,I1,r,z,q⟩=>⟨by rw [<-r.length];exact z,?_⟩)
 have hf:H1 s1.heap.objs.size=none:=I1.hok.fresh (Nat.le_refl _)
 refine ⟨.ref s1.heap.objs.size,upd H1 s1.heap.objs.size (.tup xs),I1.laid (t':=s1.toks) (fun b u e=>Heap.get?_push_of_some _ e) (Nat.le_refl _) ?_,rfl,q _ hf⟩
 exact ⟨z,us,r,⟨_,Heap.get?_push_size _ rfl,rfl,_,rfl⟩⟩
theorem pe_lst (h:PA X es t):PE X (.List es pos) (tLst t):=by
 intro pins s σ H Q I hq
 refine wpAny_List_spliced (thn (h pos pins s σ H _ I hq) fun us s1 ⟨xs,H1,I1,r,z,q⟩=>⟨by rw [<-r.length];exact z,?_⟩)
 have hf:H1 s1.heap.objs.size=none:=I1.hok.fresh (Nat.le_refl _)
 refine ⟨.ref s1.heap.objs.size,upd H1 s1.heap.objs.size (.lst xs),I1.laid (t':=s1.toks) (fun b u e=>Heap.get?_push_of_some _ e) (Nat.le_refl _) ?_,rfl,q _ hf⟩
 exact ⟨z,us,0,r,Heap.get?_push_size _ rfl⟩
end
abbrev Sp:=List V->Hp->VK->XK->Prop
abbrev CXT:=List Env->Hp->Shared->XK->Value->Shared->Prop
structure Env0 (P:Program) (w:World) (K:PySem.W.Frag) (mg:Str->Option Value) (base:Heap) (A:Around) (outer:List Env) (s:Shared) (H:Hp):Prop where
 frames:A.frames=some outer
 mod:Mod K mg base
 bs:∀ b o,base.get? b=some o->s.heap.get? b=some o/\H b=none
 bsz:base.objs.size<=s.heap.objs.size
 funs:s.heap.FunFrames base outer
 frf:∀ b∈frs outer,H b=none
 hok:HOk P w H s.heap
 bare:AllBare s.gens
def CE (outer:List Env) (P:Program) (w:World) (H:Hp) (s:Shared) (Q:VK) (u:Value) (s':Shared):Prop:=
 ∃ v H',s'.os=s.os/\AllBare s'.gens/\Un (frs outer) [] H H' s.heap s'.heap/\HOk P w H' s'.heap/\RelV v u/\Q v H'
def CR (CX:CXT) (outer:List Env) (P:Program) (w:World) (H:Hp) (s:Shared) (Q:VK) (E:XK) (r:Result) (s':Shared):Prop:=
 match r with
 | .ok (.ret u)=>CE outer P w H s Q u s'
 | .ok _=>False
 | .error e=>CX outer H s E e s'
structure FnOk (P:Program) (w:World) (K:PySem.W.Frag) (mg:Str->Option Value) (base:Heap) (CX:CXT) (k:Nat) (f:Addr) (fd:FuncData) (ps:List Str) (sp:Sp):Prop where
 len:∀ vs H Q E,sp vs H Q E->vs.length=ps.length
 run:∀ (A:Around) (outer:List Env) (s:Shared) (H:Hp) (args:Args) (us:List Value) (vs:List V) (Q:VK) (E:XK),Room k A->Env0 P w K mg base A outer s H->BindsTo s fd args (ps.zip us)->Vals vs us->sp vs H Q E →
  codeAny (model P w) A (.call (.ref f) args) (CR CX outer P w H s Q E) s
theorem FnOk.mono {P:Program} {w:World} {K:PySem.W.Frag} {mg:Str->Option Value} {base:Heap} {CX:CXT} {j k:Nat} {f:Addr} {fd:FuncData} {ps:List Str} {sp:Sp} (F:FnOk P w K mg base CX j f fd ps sp) (h:j<=k) :
  FnOk P w K mg base CX k f fd ps sp:=⟨F.len,fun A outer s H args us vs Q E hr=>F.run A outer s H args us vs Q E (hr.mono h)⟩
theorem FnOk.imp {P:Program} {w:World} {K:PySem.W.Frag} {mg:Str->Option Value} {base:Heap} {CX:CXT} {k:Nat} {f:Addr} {fd:FuncData} {ps:List Str} {sp sp':Sp} (F:FnOk P w K mg base CX k f fd ps sp)
  (h:∀ vs H Q E,sp' vs H Q E->sp vs H Q E):FnOk P w K mg base CX k f fd ps sp':=
 ⟨fun vs H Q E q=>F.len vs H Q E (h _ _ _ _ q),fun A outer s H args us vs Q E hr he hb hv hs=>F.run A outer s H args us vs Q E hr he hb hv (h _ _ _ _ hs)⟩
theorem Env0.in1 {P:Program} {w:World} {K:PySem.W.Frag} {mg:Str->Option Value} {base:Heap} {A:Around} {outer:List Env} {s:Shared} {H:Hp} (e:Env0 P w K mg base A outer s H) :
  Env0 P w K mg base A.in1 outer s H:=⟨e.frames,e.mod,e.bs,e.bsz,e.funs,e.frf,e.hok,e.bare⟩
section
variable {X:Cx} {pins:List (Addr×Obj)} {σ:St} {H:Hp} {s s':Shared}
theorem Inv.env0 (I:Inv X pins σ H s):Env0 X.prog X.w X.K X.mg X.base X.A X.stack s H:=
 ⟨I.ok.frames,I.ok.mod,I.bs,Nat.le_trans I.ok.bsz I.sz,I.stack,I.stkFree,I.hok,I.bare⟩
theorem Inv.after {Q:VK} {u:Value} (I:Inv X pins σ H s) (h:CE X.stack X.prog X.w H s Q u s'):EP X pins σ Q u s':=by
 obtain ⟨v,H',os,bare,un,hok,r,q⟩:=h
 obtain ⟨hh,g,d,t,os'⟩:=s'
 obtain rfl:os'=s.os:=os
 exact ⟨v,H',I.call (h':=hh) (g':=g) (d':=d) (t':=t) (ch:=[]) un hok bare (fun b z=>absurd z (by simp)),r,q⟩
end
def tCall (sp:Sp) (dvs:List V) (E:XK) (t:TA):TE:=fun σ H Q=>t σ H fun vs H1=>sp (vs++dvs) H1 Q E
def Binds (K:PySem.W.Frag) (fd:FuncData) (ps:List Str) (ds:List Value):Prop:=
 ∀ (s:Shared) (us:List Value),K.In s.heap->(us++ds).length=ps.length->BindsTo s fd ⟨us,[]⟩ (ps.zip (us++ds))
theorem Binds.all {K:PySem.W.Frag} {fd:FuncData} {ps:List Str} (h:∀ us:List Value,us.length=ps.length->bindArgs fd ⟨us,[]⟩=pure (ps.zip us)):Binds K fd ps []:=fun s us _ hl=>by
 rw [List.append_nil] at hl ⊢
 exact .of_eq (h us hl)
def Passes (CX:CXT) (X:Cx) (E:XK):Prop:=∀ (pins:List (Addr×Obj)) (σ:St) (H:Hp) (s:Shared) (e:Value) (s':Shared),Inv X pins σ H s->CX X.stack H s E e s'->X.xe e s'
section
variable {X:Cx} {CX:CXT} {k:Nat} {f C:Addr} {fd:FuncData} {ps:List Str} {sp:Sp} {dvs:List V} {ds:List Value} {E:XK} {x m:Str} {p pos apos:Pos} {e o:Expr} {es:List Expr} {ta:TE} {t:TA}
theorem run_fn {pins:List (Addr×Obj)} {σ:St} {H:Hp} {s:Shared} {Q:VK} {us:List Value} {vs:List V} (F:FnOk X.prog X.w X.K X.mg X.base CX k f fd ps sp) (hr:Room k X.A) (hb:Binds X.K fd ps ds) (hd:Vals dvs ds) (hx:Passes CX X E)
  (I:Inv X pins σ H s) (r:Vals vs us) (h:sp (vs++dvs) H Q E):wpAny (model X.prog X.w) X.A (call (.ref f) us) (EP X pins σ Q) X.xe s:=by
 have r2:Vals (vs++dvs) (us++ds):=r.append hd
 have hl:(us++ds).length=ps.length:=by rw [<-r2.length];exact F.len _ _ _ _ h
 refine wpAny_call (codeAny_mono (F.run X.A X.stack s H ⟨us,[]⟩ (us++ds) (vs++dvs) Q E hr I.env0 (hb s us I.kIn hl) r2 h) fun r s' hq=>?_)
 cases r with
 | error e=>exact hx pins σ H s e s' I hq
 | ok fl=>
  cases fl with
  | ret u=>exact I.after hq
  | next=>exact False.elim hq
  | brk=>exact False.elim hq
  | cont=>exact False.elim hq
theorem pe_call (F:FnOk X.prog X.w X.K X.mg X.base CX k f fd ps sp) (hr:Room k X.A) (hg:Gl X x) (hm:X.mg x=some (.ref f)) (hk:PySem.W.keepIn X.K (.ref f)=true) (hb:Binds X.K fd ps ds) (hd:Vals dvs ds) (hx:Passes CX X E)
  (ha:PA X (e :: es) t) (hdb:(x == ("__debug__" : Str))=false:=by decide) (he:starEach (e :: es) X.env=(false,eval e X.env) :: starEach es X.env:=by rfl) (hpl:(backTo pos (starEach es X.env)).any (·.1)=false:=by rfl) :
  PE X (.Call (.Name x p) (e :: es) [] pos) (tCall sp dvs E t):=by
 intro pins s σ H Q I h
 refine wpAny_Call_Name_kw (ld_glob I hg hm ?_ hdb)
 refine PySem.W.callWith_K (h₀:=X.base) I.ok.mod.kin hk (thn (ha pos pins s σ H _ I h) fun us s1 ⟨vs,H1,I1,r,q⟩=>⟨I1.kIn,?_⟩) he hpl
 exact run_fn F hr hb hd hx I1 r q
end
section
variable {X:Cx} {CX:CXT} {k:Nat} {f C:Addr} {fd:FuncData} {ps ks:List Str} {sp:Sp} {E:XK} {x m:Str} {p pos apos kpos:Pos} {e o:Expr} {es:List Expr} {kws:List Keyword} {te ta:TE} {t tk:TA} {nm:Option Str}
variable {g:List Value->List Value->List Value} {gV:List V->List V->List V}
end
structure FnScope (N P:List Str) (sc:Scope):Prop where
 kind:sc.kind = .function
 co:sc.isCoroutine=false
 gen:sc.isGenerator=false
 nd:N.Nodup
 pre:N.take P.length=P
 par:∀ x∈P,sc.names.lookup x=some .local\/sc.names.lookup x=some .cell
 nofree:∀ y∈sc.names,y.2≠.free
theorem bindL_out {kindOf:Str->Option NameKind} {x:Str}:∀ {binds:List (Str×Value)} {m:Str->Option Value},(∀ v,(x,v) ∉ binds)->bindL kindOf binds m x=m x
 | [],_,_=>rfl
 | (n,v) :: r,m,h=>by
  unfold bindL
  rw [bindL_out fun w hw=>h w (List.mem_cons_of_mem _ hw)]
  split
  ·have:x≠n:=by rintro rfl;exact h v List.mem_cons_self
   simp [this]
  ·rfl
theorem bindC_out {kindOf:Str->Option NameKind} {x:Str}:∀ {binds:List (Str×Value)} {m:Str->Option Value},(∀ v,(x,v) ∉ binds)->bindC kindOf binds m x=m x
 | [],_,_=>rfl
 | (n,v) :: r,m,h=>by
  unfold bindC
  rw [bindC_out fun w hw=>h w (List.mem_cons_of_mem _ hw)]
  split
  ·rfl
  ·have:x≠n:=by rintro rfl;exact h v List.mem_cons_self
   simp [this]
theorem bindL_get {kindOf:Str->Option NameKind} {x:Str} {v:Value}:∀ {P:List Str} {vs:List Value} {i:Nat} {m:Str->Option Value},P.Nodup->P[i]? = some x->vs[i]? = some v->kindOf x=some .local →
  bindL kindOf (P.zip vs) m x=some v
 | [],_,_,_,_,h,_,_=>by simp at h
 | _ :: _,[],_,_,_,_,h,_=>by simp at h
 | p :: P,w :: vs,0,m,nd,h1,h2,hk=>by
  simp at h1 h2;subst h1;subst h2
  show bindL kindOf ((p,w) :: P.zip vs) m p=_
  unfold bindL
  rw [bindL_out fun v hv=>(List.nodup_cons.mp nd).1 (List.of_mem_zip hv).1,if_pos hk]
  simp
 | p :: P,w :: vs,i+1,m,nd,h1,h2,hk=>by
  show bindL kindOf ((p,w) :: P.zip vs) m x=_
  unfold bindL
  exact bindL_get (i:=i) (List.nodup_cons.mp nd).2 (by simpa using h1) (by simpa using h2) hk
theorem bindC_get {kindOf:Str->Option NameKind} {x:Str} {v:Value}:∀ {P:List Str} {vs:List Value} {i:Nat} {m:Str->Option Value},P.Nodup->P[i]? = some x->vs[i]? = some v->kindOf x≠some .local →
  bindC kindOf (P.zip vs) m x=some v
 | [],_,_,_,_,h,_,_=>by simp at h
 | _ :: _,[],_,_,_,_,h,_=>by simp at h
 | p :: P,w :: vs,0,m,nd,h1,h2,hk=>by
  simp at h1 h2;subst h1;subst h2
  show bindC kindOf ((p,w) :: P.zip vs) m p=_
  unfold bindC
  rw [bindC_out fun v hv=>(List.nodup_cons.mp nd).1 (List.of_mem_zip hv).1,if_neg hk]
  simp
 | p :: P,w :: vs,i+1,m,nd,h1,h2,hk=>by
  show bindC kindOf ((p,w) :: P.zip vs) m x=_
  unfold bindC
  exact bindC_get (i:=i) (List.nodup_cons.mp nd).2 (by simpa using h1) (by simpa using h2) hk
def start (N:List Str) (vs:List V):St:=vs.map some++List.replicate (N.length - vs.length) none
def cxOf (CX:CXT) (P:Program) (w:World) (K:PySem.W.Frag) (mg:Str->Option Value) (base:Heap) (N:List Str) (qual:Str) (scope:Scope) (f:Addr) (cd:Value) (A:Around) (outer:List Env) (s:Shared) (H:Hp) (E:XK):Cx where
 prog:=P
 w:=w
 K:=K
 mg:=mg
 base:=base
 A:=A.deeper (envOfC qual scope s.heap.objs.size f cd)
 N:=N
 s₀:=s
 H₀:=H
 env:=envOfC qual scope s.heap.objs.size f cd
 outer:=outer
 stack:=envOfC qual scope s.heap.objs.size f cd :: outer
 ex:=[]
 calm:=true
 fn:=fun _=>true
 pn:=[]
 xe:=fun e s'=>wpAny (model P w) (A.deeper (envOfC qual scope s.heap.objs.size f cd)) (leaving (envOfC qual scope s.heap.objs.size f cd) e) (fun _ s''=>CX outer H s E e s'') (fun e' s''=>CX outer H s E e' s'') s'
theorem cell_has {sc:Scope} {n:Nat} {x:Str} (h:sc.names.lookup x=some .cell):∃ c,(cellsFrom n sc.names []).lookup x=some c:=by
 have q:=PySem.W.cellsFrom_some sc.names n [] (.inl h)
 exact Option.isSome_iff_exists.mp q
theorem inv_start {CX:CXT} {P:Program} {w:World} {K:PySem.W.Frag} {mg:Str->Option Value} {base:Heap} {N ps:List Str} {qual:Str} {scope:Scope} {f:Addr} {cd:Value} {A:Around} {outer:List Env} {s s1:Shared} {H:Hp} {E:XK} {us:List Value} {vs:List V}
  (S:FnScope N ps scope) (hd:A.handled=none) (e0:Env0 P w K mg base A outer s H) (hl:vs.length=ps.length) (r:Vals vs us)
  (x:InCallC s s.heap.objs.size (bindL (envOfC qual scope s.heap.objs.size f cd).kindOf (ps.zip us) fun _=>none) (cellsFrom (s.heap.objs.size+1) scope.names []) (bindC (envOfC qual scope s.heap.objs.size f cd).kindOf (ps.zip us) fun _=>none) s1) :
  Inv (cxOf CX P w K mg base N qual scope f cd A outer s H E) [] (start N vs) H s1:=by
 have hpl:ps.length<=N.length:=by have:=congrArg List.length S.pre;rw [List.length_take] at this;omega
 obtain ⟨h1,tk,rfl,hk⟩:=x.done
 have noA:∀ b:Addr,b ∉ (cxOf CX P w K mg base N qual scope f cd A outer s H E).ex:=fun b z=>absurd (show b∈([]:List Addr) from z) (by simp)
 refine ⟨⟨e0.mod,S.kind,rfl,rfl,Nat.le_refl _,fun y z c h1 h2=>?_,fun y hy=>?_,fun y c _ h=>?_,fun _=>hd,Around.frames_deeper e0.frames,.inr ⟨rfl,rfl⟩,fun b z=>absurd z (noA b),e0.bs,e0.bsz,fun b _ _=>noA b,fun b z=>absurd z (noA b),e0.funs,e0.frf⟩,
  rfl,e0.bare,Un.kept hk,⟨_,x.toInCall.ns,fun i y v h1 h2 h3=>?_⟩,fun y c h=>⟨_,x.cell y c h⟩,e0.hok.fresh (Nat.le_refl _),fun y c h=>?_,fun p hp=>absurd (show p∈([]:List (Addr×Obj)) from hp) (by simp),e0.hok.kept hk,?_⟩
 ·exact name_of_addr x.apart (PySem.mem_of_lookup h1) (PySem.mem_of_lookup h2)
 ·have hy:scope.names.lookup y=some .cell\/scope.names.lookup y=some .free:=hy
  rcases hy with hy | hy
  ·exact cell_has hy
  ·exact absurd rfl (S.nofree _ (PySem.mem_of_lookup hy))
 ·exact Nat.le_of_lt (x.above y c (PySem.mem_of_lookup h))
 ·have hi:i < vs.length:=by
   unfold start at h2
   by_cases hi:i < vs.length
   ·exact hi
   ·rw [List.getElem?_append_right (by simpa using hi)] at h2
    rw [List.getElem?_replicate] at h2
    split at h2<;>cases h2
  have ha:vs[i]? = some v:=by
   unfold start at h2
   rw [List.getElem?_append_left (by simpa using hi),List.getElem?_map] at h2
   cases e:vs[i]? with
   | none=>rw [e] at h2;cases h2
   | some a=>rw [e] at h2;cases h2;rfl
  obtain ⟨u,hu,rv⟩:=r.get ha
  have hp:ps[i]? = some y:=by
   rw [<-S.pre,List.getElem?_take_of_lt (by omega)];exact h1
  have ndP:ps.Nodup:=by rw [<-S.pre];exact S.nd.sublist (List.take_sublist _ _)
  refine ⟨u,rv,?_⟩
  rcases S.par y (List.mem_of_getElem? hp) with k | k
  ·exact .inl ⟨k,bindL_get ndP hp hu k⟩
  ·obtain ⟨c,e⟩:=cell_has (n:=s.heap.objs.size+1) k
   refine .inr ⟨.inl k,c,e,?_⟩
   have q:=x.cell y c e
   rw [bindC_get ndP hp hu (by show scope.names.lookup y≠_;rw [k];decide)] at q
   exact q
 ·exact e0.hok.fresh (Nat.le_of_lt (x.above y c (PySem.mem_of_lookup h)))
 ·unfold start
  show _=N.length
  rw [List.length_append,List.length_map,List.length_replicate]
  omega
theorem fn_of {CX:CXT} {P:Program} {w:World} {K:PySem.W.Frag} {mg:Str->Option Value} {base:Heap} {k:Nat} {f:Addr} {name qual:Str} {params:Arguments} {body:List Stmt} {scope:Scope} {dV kV doc pm cdv ct oc:Value} {an od:Option Addr}
  {osl:Array (Option Value)} {N ps:List Str} {sp:Sp} (lk:K.lookup f=some ⟨oc,od,.func (PySem.W.fnOf name qual params body scope dV kV doc pm an cdv ct),osl⟩) (hcd:PySem.W.codeIn K cdv qual=true) (S:FnScope N ps scope)
  (len:∀ vs H Q E,sp vs H Q E->vs.length=ps.length)
  (hbody:∀ (A:Around) (outer:List Env) (s:Shared) (H:Hp) (vs:List V) (Q:VK) (E:XK),Room k (A.deeper (envOfC qual scope s.heap.objs.size f cdv))->sp vs H Q E →
   ∃ t,PSs (cxOf CX P w K mg base N qual scope f cdv A outer s H E) body t/\t { nx:=fun _ H'=>Q .non H',rt:=Q } (start N vs) H) :
  FnOk P w K mg base CX (k+1) f (PySem.W.fnOf name qual params body scope dV kV doc pm an cdv ct) ps sp:=by
 refine ⟨len,fun A outer s H args us vs Q E hr e0 hb r hsp=>?_⟩
 have hl:=len _ _ _ _ hsp
 have KX:K.In s.heap:=e0.mod.kin.keeps fun b o e=>(e0.bs b o e).1
 have lim:s.heap.NoLimit:=e0.mod.nolimit.keeps fun b o e=>(e0.bs b o e).1
 have hkind:∀ y∈ps.zip us,scope.names.lookup y.1=some .local\/(scope.names.lookup y.1=some .cell/\((cellsFrom (s.heap.objs.size+1) scope.names []).lookup y.1).isSome=true):=fun ⟨n,v⟩ hy=>by
  rcases S.par n (List.of_mem_zip hy).1 with q | q
  ·exact .inl q
  ·exact .inr ⟨q,PySem.W.cellsFrom_some _ _ _ (.inl q)⟩
 refine codeAny_call_function hr.depth (KX _ _ lk) rfl S.co S.gen rfl (PySem.W.codeRec_of KX hcd) (hb _ _ _ _ ?_)
 refine wpAny_newFunctionEnv_cells S.kind hkind fun env he s1 x=>?_
 subst he
 refine ⟨lim.keeps x.toInCall.keep,codeAny_func ?_⟩
 obtain ⟨t,ht,hq⟩:=hbody A outer s H vs Q E (hr.deeper _) hsp
 have I:Inv (cxOf CX P w K mg base N qual scope f cdv A outer s H E) [] (start N vs) H s1:=inv_start S hr.hd e0 hl r x
 refine wpAny_mono (ht [] s1 (start N vs) H _ I hq) (fun fl s' hs=>?_) fun e s' hs=>hs
 have fin:∀ {σ':St} {H':Hp} {v:V} {u:Value},Inv (cxOf CX P w K mg base N qual scope f cdv A outer s H E) [] σ' H' s'->RelV v u->Q v H'->CE outer P w H s Q u s':=
  fun {σ' H' v u} J rv q=>⟨v,H',J.os,J.bare,J.base,J.hok,rv,q⟩
 cases fl with
 | ret u=>
  obtain ⟨v,σ',H',J,rv,q⟩:=hs
  exact fin J rv q
 | next=>
  obtain ⟨σ',H',J,q⟩:=hs
  exact fin (v:=V.non) (u:=Value.none) J rfl q
 | brk=>
  obtain ⟨_,_,_,q⟩:=hs
  exact False.elim q
 | cont=>
  obtain ⟨_,_,_,q⟩:=hs
  exact False.elim q
end L2
namespace L2
open PySem PySem.Spec PyProof.Rows
section
variable {X:Cx} {x:Str} {p pos:Pos} {e:Expr} {es:List Expr} {t:TA} {id T:String} {r:List V->Hp->VK->Prop}
def tCB (r:List V->Hp->VK->Prop) (t:TA):TE:=fun σ H Q=>t σ H fun vs H1=>r vs H1 Q
theorem pe_callB (hc:CallR X (.builtin id) r) (hg:Gl X x) (hm:X.mg x=none) (hv:bootBuiltins x=some (.builtin id)) (ha:PA X (e :: es) t) (hn:x≠"__name__" := by decide) (hdb:(x == ("__debug__" : Str))=false:=by decide)
  (he:starEach (e :: es) X.env=(false,eval e X.env) :: starEach es X.env:=by rfl) (hpl:(backTo pos (starEach es X.env)).any (·.1)=false:=by rfl):PE X (.Call (.Name x p) (e :: es) [] pos) (tCB r t):=by
 intro pins s σ H Q I h
 refine wpAny_Call_Name_kw (ld_blt I hg hm hv ?_ hn hdb)
 exact PyProof.Rows.callWith_builtin1 (thn (ha pos pins s σ H _ I h) fun us s1 ⟨vs,H1,I1,r1,q1⟩=>hc pins s1 σ H1 vs us Q I1 r1 q1) he hpl
theorem pe_callTy (hc:CallR X (.type T) r) (hg:Gl X x) (hm:X.mg x=none) (hv:bootBuiltins x=some (.type T)) (ha:PA X (e :: es) t) (hn:x≠"__name__" := by decide) (hdb:(x == ("__debug__" : Str))=false:=by decide)
  (he:starEach (e :: es) X.env=(false,eval e X.env) :: starEach es X.env:=by rfl) (hpl:(backTo pos (starEach es X.env)).any (·.1)=false:=by rfl):PE X (.Call (.Name x p) (e :: es) [] pos) (tCB r t):=by
 intro pins s σ H Q I h
 refine wpAny_Call_Name_kw (ld_blt I hg hm hv ?_ hn hdb)
 exact PyProof.Rows.callWith_type1 (thn (ha pos pins s σ H _ I h) fun us s1 ⟨vs,H1,I1,r1,q1⟩=>hc pins s1 σ H1 vs us Q I1 r1 q1) he hpl
end
end L2
namespace HT
open PySem PyProof.Rows
section
open PySem.SeqAt
open PySem.AutoSeq1 (wpAny_loadPart')
open PySem.MeetsSeq PySem.MeetsSeq2 PySem.MeetsSeq3
end
section
variable {prog:Program} {w:World} {A:Around} {E:Value->Shared->Prop} {s:Shared}
end
end HT
namespace L2
open PySem PySem.Spec PyProof.Rows
abbrev TO:=St->Hp->(Option Int->Hp->Prop)->Prop
section
variable {X:Cx} {e:Expr} {te:TE} {lo hi:Option Expr} {tl th:TO} {pos p2:Pos}
end
end L2
namespace L2
open PySem PySem.Spec PyProof.Rows
def ixN (n:Nat) (i:Int):Option Nat:=if 0<=i then (if i < n then some i.toNat else none) else if -(n:Int)<=i then some (i+n).toNat else none
def atI {α:Type} (xs:List α) (i:Int):Option α:=(ixN xs.length i).bind fun j=>xs[j]?
theorem ixN_seq {n:Nat} {i:Int} {j:Nat} (h:ixN n i=some j):seqIndex? i n=some j/\j < n/\-(n:Int)<=i/\i < n:=by
 unfold ixN at h
 by_cases h0:0<=i
 ·rw [if_pos h0] at h
  by_cases h1:i < n
  ·rw [if_pos h1] at h
   have e:i.toNat=j:=Option.some.inj h
   exact ⟨by rw [seqIndex_of h0 h1,e],by omega,by omega,h1⟩
  ·rw [if_neg h1] at h;cases h
 ·rw [if_neg h0] at h
  by_cases h1 : -(n:Int)<=i
  ·rw [if_pos h1] at h
   have e:(i+n).toNat=j:=Option.some.inj h
   exact ⟨by rw [seqIndex_neg (by omega) h1,e],by omega,h1,by omega⟩
  ·rw [if_neg h1] at h;cases h
theorem atI_get {α:Type} {xs:List α} {i:Int} {v:α} (h:atI xs i=some v):∃ j,seqIndex? i xs.length=some j/\xs[j]? = some v/\j < xs.length/\-(xs.length:Int)<=i/\i < xs.length:=by
 unfold atI at h
 cases e:ixN xs.length i with
 | none=>rw [e] at h;cases h
 | some j=>
  rw [e] at h
  obtain ⟨h1,h2,h3,h4⟩:=ixN_seq e
  exact ⟨j,h1,h,h2,h3,h4⟩
theorem atI_nat {α:Type} {xs:List α} {j:Nat} {v:α} (h:xs[j]? = some v):atI xs (j:Int)=some v:=by
 have hj:j < xs.length:=(List.getElem?_eq_some_iff.mp h).1
 have e:ixN xs.length (j:Int)=some j:=by
  unfold ixN
  rw [if_pos (by omega),if_pos (by omega)];simp
 unfold atI;rw [e];exact h
def PlainIx (b:Expr):Prop:=∀ o i,subscripted b false o i=operate [o,i] (getItem o i)
def IxR (X:Cx) (r:R2):Prop:=
 ∀ (value slice:Expr) (pins:List (Addr×Obj)) (s:Shared) (σ:St) (H:Hp) (x y:V) (v u:Value) (Q:VK),Inv X pins σ H s->RelV x v->RelV y u->r x y H Q →
  subscripted slice false v u=operate [v,u] (getItem v u)->wpAny (model X.prog X.w) X.A (subscriptTail value slice v u) (EP X pins σ Q) X.xe s
section
variable {X:Cx} {a b:Expr} {ta tb:TE} {pos:Pos}
theorem IxR.or {r r':R2} (h:IxR X r) (h':IxR X r'):IxR X (fun x y H Q=>r x y H Q\/r' x y H Q):=by
 intro value slice pins s σ H x y v u Q I rx ry q hs
 rcases q with q | q
 ·exact h value slice pins s σ H x y v u Q I rx ry q hs
 ·exact h' value slice pins s σ H x y v u Q I rx ry q hs
theorem pe_ix {r:R2} (hr:IxR X r) (ha:PE X a ta) (hb:PE X b tb) (hs:PlainIx b):PE X (.Subscript a b pos) (tOp r ta tb):=by
 intro pins s σ H Q I h
 exact Subscript_ (binT ha hb I h fun v u s2 x y H2 I2 rx ry q=>hr a b pins s2 σ H2 x y v u Q I2 rx ry q (hs _ _))
def rIxL (K:PySem.W.Frag):R2:=fun x y H Q=>∃ p xs i v,x = .ref p/\y = .int i/\SqL K H p xs/\atI xs i=some v/\Q v H
def rIxT (K:PySem.W.Frag):R2:=fun x y H Q=>∃ p xs i v,x = .ref p/\y = .int i/\SqT K H p xs/\atI xs i=some v/\Q v H
def rIxS:R2:=fun x y H Q=>∃ z i c,x = .str z/\y = .int i/\z.length<=sizeLine/\atI z.cps.toList i=some c/\Q (.str ⟨#[c]⟩) H
theorem ix_list:IxR X (rIxL X.K):=by
 intro value slice pins s σ H x y v u Q I rx ry h hs
 obtain ⟨p,xs,i,z,rfl,rfl,hq,he,q⟩:=h
 cases rx
 obtain ⟨t,rfl⟩:=ry
 obtain ⟨its,r,pl,hz⟩:=I.list hq
 obtain ⟨j,h1,h2,h3,h4,h5⟩:=atI_get he
 obtain ⟨w,ew,rw'⟩:=r.get h2
 have hl:=r.length
 have hn:=line63
 have fin:EP X pins σ Q w s:=⟨z,H,I,rw',q⟩
 by_cases h0:0<=i
 ·have hj:i.toNat=j:=by
   rw [seqIndex_of h0 h5] at h1
   exact Option.some.inj h1
  exact item_listR pl.isList h0 (by omega) (by rw [hj];simpa using ew) fin hs
 ·have hj:(i+(its.toArray.size:Int)).toNat=j:=by
   rw [seqIndex_neg (by omega) h4] at h1
   rw [List.size_toArray,<-hl]
   exact Option.some.inj h1
  exact subscriptTail_builtinR (x:=w) pl.isList.typeIs slot_list_getitem.lookup
   (wpAny_getItem_list_neg (Q:=fun r s'=>r=w/\EP X pins σ Q r s') pl.isList (by omega) (by rw [List.size_toArray]<;>omega) (by omega) (by rw [hj];simpa using ew) ⟨rfl,fin⟩) hs
theorem ix_tup:IxR X (rIxT X.K):=by
 intro value slice pins s σ H x y v u Q I rx ry h hs
 obtain ⟨p,xs,i,z,rfl,rfl,hq,he,q⟩:=h
 cases rx
 obtain ⟨t,rfl⟩:=ry
 obtain ⟨its,r,pl,hz⟩:=I.tuple hq
 obtain ⟨j,h1,h2,h3,h4,h5⟩:=atI_get he
 obtain ⟨w,ew,rw'⟩:=r.get h2
 have hl:=r.length
 have hn:=line63
 have fin:EP X pins σ Q w s:=⟨z,H,I,rw',q⟩
 exact subscriptTail_builtinR (x:=w) pl.typeIs slot_tuple_getitem.lookup
  (getItem_tuple (j:=j) (Q:=fun r s'=>r=w/\EP X pins σ Q r s') pl (by omega) (by omega) (by rw [List.size_toArray,<-hl];exact h1) (by simpa using ew) ⟨rfl,fin⟩) hs
theorem ix_str:IxR X rIxS:=by
 intro value slice pins s σ H x y v u Q I rx ry h hs
 obtain ⟨z,i,c,rfl,rfl,hz,he,q⟩:=h
 obtain ⟨t,rfl⟩:=rx
 obtain ⟨t',rfl⟩:=ry
 obtain ⟨j,h1,h2,h3,h4,h5⟩:=atI_get he
 have hl:z.cps.toList.length=z.length:=by simp [Str.length]
 rw [hl] at h1 h4 h5
 have hn:=line63
 exact tail_any (typeIs_str s z t) slot_str_getitem.lookup (getItem_str (c:=c) (by
  have e1:decide (i < -(2 ^ 63:Int))=false:=decide_eq_false (by omega)
  have e2:decide (i ≥ 2 ^ 63)=false:=decide_eq_false (by omega)
  rw [e1,e2,Bool.or_false]) (by rw [h1];simpa using h2) ⟨.str ⟨#[c]⟩,H,I.tok _,⟨_,rfl⟩,q⟩) hs
def rIx (K:PySem.W.Frag):R2:=fun x y H Q=>rIxL K x y H Q\/rIxT K x y H Q\/rIxS x y H Q
theorem ix_seq:IxR X (rIx X.K):=ix_list.or (ix_tup.or ix_str)
theorem mapSeq_set (its:List Value) (n j:Nat) (u:Value):Obj.mapSeq (·.setIfInBounds j u) { cls:=.type "list",data:=.seq its.toArray n }={ cls:=.type "list",data:=.seq (its.set j u).toArray n }:=by
 simp [Obj.mapSeq]
theorem Inv.lst {pins:List (Addr×Obj)} {σ:St} {H:Hp} {s:Shared} {p:Addr} {xs:List V} (I:Inv X pins σ H s) (h:H p=some (.lst xs)) :
  ∃ (its:List Value) (n:Nat),Vals xs its/\s.heap.get? p=some { cls:=.type "list",data:=.seq its.toArray n }/\xs.length<=sizeLine:=by
 obtain ⟨z,its,n,r,e⟩:=I.hok p _ h
 exact ⟨its,n,r,e,z⟩
theorem Inv.lstUpd {pins:List (Addr×Obj)} {σ:St} {H:Hp} {s:Shared} {p:Addr} {xs ys:List V} {its its':List Value} {n n':Nat} {f:Obj->Obj} (I:Inv X pins σ H s) (h:H p=some (.lst xs))
  (ho:s.heap.get? p=some { cls:=.type "list",data:=.seq its.toArray n }) (hf:f { cls:=.type "list",data:=.seq its.toArray n }={ cls:=.type "list",data:=.seq its'.toArray n' }) (r:Vals ys its') (hz:ys.length<=sizeLine) (t:Nat) :
  Inv X pins σ (upd H p (.lst ys)) { s with heap:=s.heap.update p f,toks:=t }:=by
 have e:(s.heap.update p f).get? p=some { cls:=.type "list",data:=.seq its'.toArray n' }:=by
  rw [Heap.get?_update_self f ho (by rw [hf]<;>rfl),hf]
 refine I.write (x:=p) (e:=p) (by rw [h];trivial) (.inl rfl) (fun b u hb q=>(Heap.get?_update_other _ _ (Ne.symm hb)).trans q) ⟨_,e⟩ ?_
 exact ⟨hz,its',n',r,e⟩
def rSetL:V->V->V->Hp->(Hp->Prop)->Prop:=fun o i v H Q=>∃ p xs k j,o = .ref p/\i = .int k/\H p=some (.lst xs)/\ixN xs.length k=some j/\Q (upd H p (.lst (xs.set j v)))
theorem set_list:PSet X rSetL:=by
 intro pins s σ H o i v ov iv u Q I ro ri rv h
 obtain ⟨p,xs,k,j,rfl,rfl,hp,hj,q⟩:=h
 cases ro
 obtain ⟨t,rfl⟩:=ri
 obtain ⟨its,n,r,ho,hz⟩:=I.lst hp
 obtain ⟨h1,h2,h3,h4⟩:=ixN_seq hj
 have hl:=r.length
 have hn:=line63
 have I':Inv X pins σ (upd H p (.lst (xs.set j v))) { s with heap:=s.heap.update p (Obj.mapSeq (·.setIfInBounds j u)) }:=
  I.lstUpd hp ho (mapSeq_set its n j u) (r.set rv j) (by rw [List.length_set];exact hz) s.toks
 by_cases h0:0<=k
 ·have hk:k.toNat=j:=by
   rw [seqIndex_of h0 h4] at h1
   exact Option.some.inj h1
  exact PySem.W.ki_setAt ho h0 (by omega) (by rw [List.size_toArray,<-hl];exact h4) (by rw [hk];exact ⟨_,I',q⟩)
 ·have hk:(k+(its.toArray.size:Int)).toNat=j:=by
   rw [seqIndex_neg (by omega) h3] at h1
   rw [List.size_toArray,<-hl]
   exact Option.some.inj h1
  exact PySem.W.ki_setBack ho (by omega) (by rw [List.size_toArray,<-hl];exact h3) (by omega) (by rw [hk];exact ⟨_,I',q⟩)
theorem call_len_seq:CallR X (.builtin "len") (fun xs H Q=>∃ p ys,xs=[.ref p]/\(SqL X.K H p ys\/SqT X.K H p ys)/\Q (.int ys.length) H):=by
 intro pins s σ H xs us Q I r h
 obtain ⟨p,ys,rfl,hq,q⟩:=h
 obtain ⟨u,rfl,rx⟩:=vals1 r
 cases rx
 have hn:=line63
 rcases hq with hq | hq
 ·obtain ⟨its,r',pl,hz⟩:=I.list hq
  have hlen:=r'.length
  exact Calls.call_len_list pl.isList (by simp only [List.size_toArray]<;>omega) ⟨.int ys.length,H,I.tok _,⟨s.toks+1,by rw [List.size_toArray,hlen]⟩,q⟩
 ·obtain ⟨its,r',pl,hz⟩:=I.tuple hq
  have hlen:=r'.length
  exact len_tuple pl (by simp only [List.size_toArray]<;>omega) ⟨.int ys.length,H,I.tok _,⟨s.toks+1,by rw [List.size_toArray,hlen]⟩,q⟩
theorem call_len_str:CallR X (.builtin "len") (fun xs H Q=>∃ z,xs=[.str z]/\z.length<=sizeLine/\Q (.int z.length) H):=by
 intro pins s σ H xs us Q I r h
 obtain ⟨z,rfl,hz,q⟩:=h
 obtain ⟨u,rfl,t,rfl⟩:=vals1 r
 have hn:=line63
 exact len_str (by omega) ⟨.int z.length,H,I.tok _,⟨_,rfl⟩,q⟩
theorem CallR.or {f:Value} {r r':List V->Hp->VK->Prop} (h:CallR X f r) (h':CallR X f r'):CallR X f (fun xs H Q=>r xs H Q\/r' xs H Q):=by
 intro pins s σ H xs us Q I rs q
 rcases q with q | q
 ·exact h pins s σ H xs us Q I rs q
 ·exact h' pins s σ H xs us Q I rs q
theorem call_list_of:CallR X (.type "list") (fun xs H Q=>∃ p ys,xs=[.ref p]/\(SqL X.K H p ys\/SqT X.K H p ys)/\∀ l,H l=none->Q (.ref l) (upd H l (.lst ys))):=by
 intro pins s σ H xs us Q I r h
 obtain ⟨p,ys,rfl,hq,q⟩:=h
 obtain ⟨u,rfl,rx⟩:=vals1 r
 cases rx
 have fin:∀ (its:List Value),Vals ys its->ys.length<=sizeLine->∀ (h':Heap) (c':Nat),(∀ b o',s.heap.get? b=some o'->h'.get? b=some o') →
   h'.get? s.heap.objs.size=some { cls:=.type "list",dict:=none,data:=.seq its.toArray c',slots:=#[] }->EP X pins σ Q (.ref s.heap.objs.size) { s with heap:=h' }:=fun its r' hz h' c' kp e=>
  ⟨.ref s.heap.objs.size,_,I.laid (t':=s.toks) kp (Nat.le_refl _) (show ObjOk X.prog X.w _ h' _ (.lst ys) from ⟨hz,its,c',r',e⟩),rfl,q _ (I.hok.fresh (Nat.le_refl _))⟩
 rcases hq with hq | hq
 ·obtain ⟨its,r',pl,hz⟩:=I.list hq
  have hlen:=r'.length
  obtain ⟨o,ho,hc,n,hd⟩:=pl.isList
  exact call_list_seq p (.inl rfl) ho hc hd (fun h' c' kp e=>fin its r' hz h' c' kp e) (by simp only [List.size_toArray]<;>omega)
 ·obtain ⟨its,r',pl,hz⟩:=I.tuple hq
  have hlen:=r'.length
  obtain ⟨o,ho,hc,n,hd⟩:=pl
  exact call_list_seq p (.inr rfl) ho hc hd (fun h' c' kp e=>fin its r' hz h' c' kp e) (by simp only [List.size_toArray]<;>omega)
def tyV (K:PySem.W.Frag) (T:String) (x:V) (H:Hp):Prop:=match x with
 | .str _=>T = "str"
 | .int _=>T = "int"
 | .ref p=>(T = "list"/\∃ xs,SqL K H p xs)\/(T = "tuple"/\∃ o,K.lookup p=some o/\o.cls = .type "tuple"/\o.dict=none) ∨
   (T = "dict"/\((∃ kvs,H p=some (.dK kvs))\/∃ kvs,H p=some (.dT kvs)))\/(T = "set"/\∃ S n,H p=some (.set S n))
 | _=>False
theorem tyV_is {pins:List (Addr×Obj)} {σ:St} {H:Hp} {s:Shared} {T:String} {x:V} {v:Value} (I:Inv X pins σ H s) (r:RelV x v) (ty:tyV X.K T x H) :
  s.TypeIs v T/\∀ a,v = .ref a->∃ ob,s.heap.get? a=some ob/\ob.dict=none:=by
 cases x with
 | str z=>
  obtain ⟨t,rfl⟩:=r
  cases (show T = "str" from ty)
  exact ⟨typeIs_str s z t,fun _ e=>nomatch e⟩
 | int i=>
  obtain ⟨t,rfl⟩:=r
  cases (show T = "int" from ty)
  exact ⟨typeIs_int s i t,fun _ e=>nomatch e⟩
 | ref p=>
  cases r
  rcases ty with ⟨rfl,xs,hq⟩ | ⟨rfl,o,hk,hc,hd⟩ | ⟨rfl,hk⟩ | ⟨rfl,S,n,hk⟩
  ·obtain ⟨its,_,pl,_⟩:=I.list hq
   refine ⟨pl.isList.typeIs,fun a e=>?_⟩
   cases e
   obtain ⟨o,n,e,c,hd,_⟩:=pl
   exact ⟨o,e,hd⟩
  ·refine ⟨⟨o,I.kIn p o hk,hc⟩,fun a e=>?_⟩
   cases e
   exact ⟨o,I.kIn _ o hk,hd⟩
  ·have z:∃ o,s.heap.get? p=some o/\o.ExactDict:=by
    rcases hk with ⟨kvs,hk⟩ | ⟨kvs,hk⟩
    ·obtain ⟨_,_,_,_,o,_,_,e,ex,_⟩:=I.hok p _ hk
     exact ⟨o,e,ex⟩
    ·obtain ⟨_,_,_,_,o,_,_,e,ex,_⟩:=I.hok p _ hk
     exact ⟨o,e,ex⟩
   obtain ⟨o,e,ex⟩:=z
   refine ⟨⟨o,e,ex.1⟩,fun a e2=>?_⟩
   cases e2
   exact ⟨o,e,ex.2.1⟩
  ·obtain ⟨o,_,_,_,e,ex,_⟩:=I.hok p _ hk
   refine ⟨⟨o,e,ex.1⟩,fun a e2=>?_⟩
   cases e2
   exact ⟨o,e,ex.2.1⟩
 | _=>exact False.elim ty
variable {o e:Expr} {es:List Expr} {to:TE} {t:TA} {name:Str} {apos cpos:Pos} {T id:String} {r:V->List V->Hp->VK->Prop}
/- xs.append(e),list.index on a module's tuple .. are MtR facts of 06m -/
end
end L2
namespace L2
open PySem PySem.Spec PyProof.Rows
def MtM (X:Cx) (id:String) (r:V->List V->Hp->VK->Prop):Prop:=
 ∀ (pins:List (Addr×Obj)) (s:Shared) (σ:St) (H:Hp) (x:V) (xs:List V) (v:Value) (us:List Value) (Q:VK),Inv X pins σ H s->RelV x v->Vals xs us->r x xs H Q →
  wpAny (model X.prog X.w) X.A (call (.builtin id) (v :: us)) (EP X pins σ Q) X.xe s
theorem Vals.one:∀ {x:V} {us:List Value},Vals [x] us->∃ u,us=[u]/\RelV x u
 | _,_,.cons r .nil=>⟨_,rfl,r⟩
theorem Vals.zero:∀ {us:List Value},Vals [] us->us=[]
 | _,.nil=>rfl
theorem Vals.eraseIdx:∀ {xs:List V} {us:List Value} (i:Nat),Vals xs us->Vals (xs.eraseIdx i) (us.eraseIdx i)
 | _,_,_,.nil=>.nil
 | _,_,0,.cons _ t=>t
 | _,_,i+1,.cons r t=>.cons r (Vals.eraseIdx i t)
theorem Vals.reverse {xs:List V} {us:List Value} (h:Vals xs us):Vals xs.reverse us.reverse:=by
 induction h with
 | nil=>exact .nil
 | cons r t ih=>rw [List.reverse_cons,List.reverse_cons];exact Vals.append ih (.cons r .nil)
theorem Vals.rep {xs:List V} {us:List Value} (h:Vals xs us):∀ k:Nat,Vals (List.replicate k xs).flatten (List.replicate k us).flatten
 | 0=>.nil
 | k+1=>by
  rw [List.replicate_succ,List.replicate_succ,List.flatten_cons,List.flatten_cons]
  exact Vals.append h (Vals.rep h k)
theorem foldl_rep (its:List Value):∀ (k:Nat) (acc:List Value),
  List.foldl (fun x1 x2=>x1++x2) acc.toArray (List.replicate k its.toArray)=(acc++(List.replicate k its).flatten).toArray
 | 0,acc=>by simp
 | k+1,acc=>by
  have e:acc.toArray++its.toArray=(acc++its).toArray:=by simp
  have e2:(acc++its)++(List.replicate k its).flatten=acc++(List.replicate (k+1) its).flatten:=by
   rw [List.replicate_succ,List.flatten_cons,List.append_assoc]
  rw [<-e2,<-foldl_rep its k (acc++its),<-e,List.replicate_succ,List.foldl_cons]
section
variable {X:Cx} {pins:List (Addr×Obj)} {σ:St} {H:Hp} {s:Shared} {l b:Addr} {xs ys zs:List V}
theorem Inv.lset {its its':List Value} {n:Nat} {f:Array Value->Array Value} {t':Nat} (I:Inv X pins σ H s) (hH:H l=some (.lst xs))
  (e:s.heap.get? l=some { cls:=.type "list",data:=.seq its.toArray n }) (hf:f its.toArray=its'.toArray) (hv:Vals ys its') (hz:ys.length<=sizeLine) :
  Inv X pins σ (upd H l (.lst ys)) { s with heap:=s.heap.update l (Obj.mapSeq f),toks:=t' }:=by
 have q:=PySem.IsL.update e f
 rw [hf] at q
 refine I.write (x:=l) (e:=l) (by rw [hH];exact trivial) (.inl rfl) (fun b' u hb hu=>(Heap.get?_update_other s.heap (Obj.mapSeq f) (Ne.symm hb)).trans hu) ⟨_,q⟩ ?_
 exact ⟨hz,its',_,hv,q⟩
theorem Inv.lnew {its:List Value} {t':Nat} (I:Inv X pins σ H s) (hv:Vals ys its) (hz:ys.length<=sizeLine) :
  Inv X pins σ (upd H s.heap.objs.size (.lst ys)) { s with heap:=s.heap.push { cls:=.type "list",data:=.seq its.toArray },toks:=t' }:=
 I.laid (fun _ _ q=>Heap.get?_push_of_some _ q) (Nat.le_refl _) ⟨hz,its,0,hv,Heap.get?_push_size _ rfl⟩
theorem Inv.fresh (I:Inv X pins σ H s):H s.heap.objs.size=none:=I.hok.fresh (Nat.le_refl _)
theorem Inv.lstM (I:Inv X pins σ H s) (hH:H l=some (.lst xs)):xs.length<=sizeLine/\∃ (its:List Value) (n:Nat),Vals xs its/\xs.length=its.length/\s.heap.get? l=some { cls:=.type "list",data:=.seq its.toArray n }:=by
 obtain ⟨z,its,n,r,e⟩:=I.hok l _ hH
 exact ⟨z,its,n,r,r.length,e⟩
theorem notLongL {n:Nat} (h:n<=sizeLine):Builtin.List.listTooLong n=false:=by
 unfold Builtin.List.listTooLong
 exact decide_eq_false (by omega)
end
section
variable {X:Cx}
def rAppend:V->List V->Hp->VK->Prop:=fun x vs H Q=>∃ l xs y,x = .ref l/\vs=[y]/\H l=some (.lst xs)/\xs.length < sizeLine/\Q .non (upd H l (.lst (xs++[y])))
theorem mt_append:MtM X "list.append" rAppend:=by
 intro pins s σ H x vs v us Q I rx rv h
 obtain ⟨l,xs,y,rfl,rfl,hH,hz,q⟩:=h
 cases rx
 obtain ⟨u,rfl,ru⟩:=rv.one
 obtain ⟨z,its,n,r,hl,e⟩:=I.lstM hH
 refine call_meets F.slot_list_append ⟨_,e,rfl⟩ F.entry_list_append (F.args_list_append_2 _ _) (PySem.list_append l its.toArray n u (by rw [List.size_toArray];omega)) ⟨e,?_⟩
 refine ⟨.non,_,I.lset (its':=its++[u]) hH e (by simp) (r.append (.cons ru .nil)) ?_,rfl,q⟩
 rw [List.length_append,List.length_singleton]
 omega
def rCat:R2:=fun x y H Q=>∃ l b xs zs,x = .ref l/\y = .ref b/\H l=some (.lst xs)/\H b=some (.lst zs)/\xs.length+zs.length<=sizeLine/\∀ p,H p=none->Q (.ref p) (upd H p (.lst (xs++zs)))
theorem op_cat:OpR X (binaryOp .Add) rCat:=by
 intro pins s σ H x y v u Q I rx ry h
 obtain ⟨l,b,xs,zs,rfl,rfl,hH,hB,hz,q⟩:=h
 cases rx
 cases ry
 obtain ⟨z,its,n,r,hl,e⟩:=I.lstM hH
 obtain ⟨z2,its2,n2,r2,hl2,e2⟩:=I.lstM hB
 refine PySem.P.add_list e e2 ?_ (by rw [List.size_toArray,List.size_toArray];omega)
 have ea:its.toArray++its2.toArray=(its++its2).toArray:=by simp
 rw [ea]
 exact ⟨.ref _,_,I.lnew (t':=s.toks) (r.append r2) (by rw [List.length_append];omega),rfl,q _ I.fresh⟩
def rRep:R2:=fun x y H Q=>∃ l k xs,x = .ref l/\y = .int k/\H l=some (.lst xs)/\-(2 ^ 63)<=k/\k < 2 ^ 63/\xs.length * k.toNat<=sizeLine ∧
 ∀ p,H p=none->Q (.ref p) (upd H p (.lst (List.replicate k.toNat xs).flatten))
theorem len_rep {α:Type} (xs:List α) (k:Nat):(List.replicate k xs).flatten.length=k * xs.length:=by
 induction k with
 | zero=>simp
 | succ k ih=>rw [List.replicate_succ,List.flatten_cons,List.length_append,ih,Nat.succ_mul,Nat.add_comm]
theorem op_rep:OpR X (binaryOp .Mult) rRep:=by
 intro pins s σ H x y v u Q I rx ry h
 obtain ⟨l,k,xs,rfl,rfl,hH,h1,h2,hz,q⟩:=h
 cases rx
 obtain ⟨t,rfl⟩:=ry
 obtain ⟨z,its,n,r,hl,e⟩:=I.lstM hH
 have hlen:its.toArray.size * k.toNat<=sizeLine:=by rw [List.size_toArray,<-hl];exact hz
 have hcap:¬ its.toArray.size * k.toNat > (2 ^ 63 - 1) / 8:=by
  have:(sizeLine:Nat)<=(2 ^ 63 - 1) / 8:=by decide
  omega
 have hfit:¬ (!Builtin.List.listFitsIndex k)=true:=by
  rw [fitsIndex_both h1 h2]
  exact Bool.false_ne_true
 have hlong:¬ Builtin.List.listTooLong (its.toArray.size * k.toNat)=true:=by
  rw [notLongL hlen]
  exact Bool.false_ne_true
 have hnew:List.foldl (fun x1 x2=>x1++x2) #[] (List.replicate (if its.toArray.isEmpty=true then 0 else k.toNat) its.toArray)=(List.replicate k.toNat its).flatten.toArray:=by
  have f0:∀ m:Nat,List.foldl (fun x1 x2=>x1++x2) #[] (List.replicate m its.toArray)=(List.replicate m its).flatten.toArray:=fun m=>by
   have:=foldl_rep its m []
   rw [List.nil_append] at this
   exact this
  rw [f0]
  cases its with
  | nil=>simp
  | cons a r'=>rw [if_neg (by simp)]
 refine wpAny_binaryOp_repeat_ref (T:= "list") (U:= "int") (by decide) ⟨_,e,rfl⟩ (fun s'=>typeIs_int s' k t) noFill_list_mul F.fills_int_mul F.slot_int_rmul repeat_list F.slot_int_index.lookup
  (call_meets F.slot_int_rmul (typeIs_int s k t) F.entry_int_rmul (F.args_int_rmul_2 _ _) (int___rmul___int_list k t l its.toArray n)
   ⟨e,rfl,⟨_,e,rfl⟩,call_meets F.slot_list_mul ⟨_,e,rfl⟩ F.entry_list_mul (F.args_list_mul_2 _ _) (AutoListH.list___mul___list_int_3 l its.toArray n k t hfit hcap hlong) ⟨e,?_⟩⟩)
 rw [hnew]
 exact ⟨.ref _,_,I.lnew (t':=s.toks) (r.rep k.toNat) (by rw [len_rep,Nat.mul_comm];exact hz),rfl,q _ I.fresh⟩
end
section
variable {prog:Program} {w:World} {A:Around} {E:Value->Shared->Prop} {s:Shared}
set_option maxRecDepth 100000 in
end
section
variable {X:Cx}
end
end L2
namespace Att
open PySem PySem.W PySem.Calls PyProof.Rows
theorem ints_of_wellAll {P:Params} {h:Heap}:∀ (ns:List Int) (vs:List Value),WellAll P h vs (ns.map WData.int)->IntsAre vs ns:=by
 intro ns
 induction ns with
 | nil=>
  intro vs w
  rw [List.map_nil] at w
  cases w
  exact .nil
 | cons n ns ih=>
  intro vs w
  rw [List.map_cons] at w
  cases w with
  | cons a b=>
   cases a
   exact .cons _ _ (ih _ b)
theorem script_of {l:OpenLaw} {n:Nat} (hn:l.most=some n) {P:Params} {h:Heap} {args:List WData} {vals:List Value}
  (hpre:l.row.toRowW.claim.pre args=true) (hwl:WellAll P h vals args) :
  ∃ a vs ns,vals=[Value.ref a]/\args=[WData.list (ns.map WData.int)]/\h.get? a=some { cls:=.type "list",data:=.seq vs.toArray }/\IntsAre vs ns/\ns.length<=n:=by
 have hsh:WShape.hasAll [] args [.list .int]=true:=(pre_splitW hpre).1
 have hc:l.pre.holds [] { args:=args }=true:=(pre_splitW hpre).2
 obtain ⟨d,r,rfl,h1,h2⟩:=hasAllW_cons hsh
 obtain rfl:=hasAllW_nil h2
 obtain ⟨xs,rfl,h3⟩:=hasW_list h1
 obtain ⟨ns,rfl⟩:=items_int h3
 have hlen:ns.length<=n:=by
  unfold OpenLaw.pre at hc
  have h4:(WTm.not (.lt (.lit (.int (n:Int))) (.len (.arg 0)))).holds [] { args:=[.list (ns.map .int)] }=true:=by
   have h4:=(holds_andW hc).1
   rw [hn] at h4
   exact h4
  have h5:=condW_of h4 (w_not (w_lt w_lit (w_len_list (w_arg rfl))))
  rw [List.length_map] at h5
  refine Nat.le_of_not_lt fun q=>?_
  have q':(n:Int) < ((ns.length:Nat):Int):=by omega
  first
   | (rw [decide_eq_true q'] at h5;exact absurd h5 (by decide))
   | (simp at h5;omega)
 cases hwl with
 | cons w1 w2=>
  cases w2
  cases w1 with
  | list ho hall=>exact ⟨_,_,ns,rfl,rfl,ho,ints_of_wellAll ns _ hall,hlen⟩
theorem post_true (l:OpenLaw) (args:List WData):l.row.toRowW.claim.post args (.bool true) args=true:=
 postW_of (r:=l.row.toRowW) (X:=(true == true))
  (show WShape.has [] (.bool true) .bool=true by first | rfl | decide | simp [WShape.has,WShape.arms,WShape.armsAll])
  (show (WTm.eq .res (.lit (.bool true))).value [] { args:=args,res:=some (.bool true),after:=args }=some (.bool (true == true)) from w_eq_bool (w_res rfl) w_lit) rfl
theorem attach_call {l:OpenLaw} {n:Nat} {q:Program} {loose:List Str} {XP:(Str->Option Value)->Heap->Prop} {YP:World->Heap->Prop} {d:DefRec}
  (hn:l.most=some n) (hdf:d.params.defaults=[])
  (call:∀ (w:World) (s₀ s₁:Shared) (mg mb:Str->Option Value) (fa:Addr) (o:Obj) (pm cd doc:Value) (a:Addr) (vs:List Value) (ns:List Int),
   Ground q loose [] XP w s₀ mg mb s₁.heap->YP w s₁.heap →
   s₁.heap.get? fa=some o->o.data = .func (docDef d.name d.params d.body d.scope pm cd doc)->s₁.heap.CodeRec cd d.name->mg d.name=some (.ref fa) →
   s₁.heap.get? a=some { cls:=.type "list",data:=.seq vs.toArray }->IntsAre vs ns->ns.length<=n->s₁.gens = #[] →
   codeAny (model l.prog w) callerA (.call (.ref fa) ⟨[.ref a],[]⟩) (fun r s'=>r = .ok (.ret (.bool true))/\OldK s₁.heap s'.heap/\s'.os=s₁.os/\AllBare s'.gens) s₁) :
  WalkO q loose XP YP l.row.toRowW d [] (fun f vs=>PySem.call f vs):=by
 intro w s₀ s₁ mg mb G Y fa o pm cd doc dV kV ho hd hcd hD hmg hg args vals as hpre hlay hrd hwl hlo
 obtain rfl:dV = .none:=Dflts.none hD hdf
 obtain rfl:kV = .none:=Dflts.noKw hD
 obtain ⟨a,vs,ns,rfl,rfl,hobj,hints,hlen⟩:=script_of hn hpre hwl
 refine enter_call (codeAny_mono (call w s₀ s₁ mg mb fa o pm cd doc a vs ns G Y ho (fd_plain hd) hcd hmg hobj hints hlen hg) fun r s' hq=>?_)
 obtain ⟨rfl,h2,h3,h4⟩:=hq
 exact ⟨.inl ⟨.bool true,.bool true,[],rfl,fun _=>rfl,.bool true,post_true l _,fun _=>⟨List.Pairwise.nil,fun _ hm=>(nomatch hm)⟩⟩,h2,h3,h4⟩
section
variable {prog:Program} {w:World} {A:Around} {E:Value->Shared->Prop} {s:Shared} {K:Frag}
end
end Att
namespace L2
open PySem PySem.Spec PyProof.Rows
theorem vals_ints:∀ {vs:List Value} {ns:List Int},IntsAre vs ns->Vals (ns.map V.int) vs
 | _,_,.nil=>.nil
 | _,_,.cons n t h=>.cons ⟨t,rfl⟩ (vals_ints h)
def Only (H:Hp):Prop:=∀ b,H b=none\/∃ o xs,H b=some (.frz o (.lst xs))
theorem law_call {P:Program} {w:World} {K:PySem.W.Frag} {mg mb:Str->Option Value} {CX:CXT} {k:Nat} {fa a:Addr} {fd:FuncData} {x:Str} {sp:Sp} {s₁:Shared} {vs:List Value} {ns:List Int}
  (KX:K.In s₁.heap) (hns:s₁.heap.Ns mainGlobals mg) (hb:s₁.heap.Ns builtinsNs mb) (hbb:∀ x:Str,x≠"__name__"->mb x=bootBuiltins x) (hlim:s₁.heap.NoLimit) (hg:s₁.gens = #[])
  (ha:s₁.heap.get? a=some { cls:=.type "list",data:=.seq vs.toArray }) (hi:IntsAre vs ns) (hl:ns.length<=sizeLine) (hr:Room k callerA)
  (F:∀ base:Heap,K.In base->base.Ns mainGlobals mg->FnOk P w K mg base CX k fa fd [x] sp) (hbind:∀ (s:Shared) (u:Value),BindsTo s fd ⟨[u],[]⟩ [(x,u)])
  (hsp:∀ H:Hp,Only H->SqL K H a (ns.map V.int)->sp [.ref a] H (fun v _=>v = .bl true) fun _ _ _=>False)
  (hCX:∀ H e s',CX [] H s₁ (fun _ _ _=>False) e s'->False) :
  codeAny (model P w) callerA (.call (.ref fa) ⟨[.ref a],[]⟩) (fun r s'=>r = .ok (.ret (.bool true))/\OldK s₁.heap s'.heap/\s'.os=s₁.os/\AllBare s'.gens) s₁:=by
 have rv:=vals_ints hi
 have lenV:=hi.length
 have core:∀ H:Hp,Only H->SqL K H a (ns.map V.int)->HOk P w H s₁.heap->(∀ b,H b≠none->b=a)->(H a≠none->K.lookup a=none) →
   codeAny (model P w) callerA (.call (.ref fa) ⟨[.ref a],[]⟩) (fun r s'=>r = .ok (.ret (.bool true))/\OldK s₁.heap s'.heap/\s'.os=s₁.os/\AllBare s'.gens) s₁:=by
  intro H hO hS hok hA hK
  have base_of:∀ {b:Addr} {o:Obj},s₁.heap.get? b=some o->H b=none->(hidT s₁.heap H).get? b=some o:=fun e n=>hidT_get e n
  have noA:∀ {b:Addr} {o:Obj} {es:Array DictEntry} {ep:Nat},s₁.heap.get? b=some o->o.data = .dict es ep->H b=none:=fun {b o es ep} e d=>by
   cases q:H b with
   | none=>rfl
   | some u=>
    have e':b=a:=hA b (by rw [q];simp)
    subst e'
    rw [ha] at e;cases e
    have d':Data.seq vs.toArray _=Data.dict es ep:=d
    cases d'
  have nsK:∀ {b:Addr} {m:Str->Option Value},s₁.heap.Ns b m->(hidT s₁.heap H).Ns b m:=fun {b m} ⟨o,es,ep,e,d,r⟩=>⟨o,es,ep,base_of e (noA e d),d,r⟩
  have hKb:K.In (hidT s₁.heap H):=fun b o e=>base_of (KX b o e) (by
   cases q:H b with
   | none=>rfl
   | some u=>
    have e':b=a:=hA b (by rw [q];simp)
    subst e'
    rw [hK (by rw [q];simp)] at e;cases e)
  have hM:Mod K mg (hidT s₁.heap H):=⟨hKb,nsK hns,⟨mb,nsK hb,hbb⟩,let ⟨mc,h1,h2⟩:=hlim;⟨mc,nsK h1,h2⟩⟩
  have e0:Env0 P w K mg (hidT s₁.heap H) callerA [] s₁ H:=⟨rfl,hM,fun b o e=>of_hidT e,Nat.le_of_eq (hidT_size _ _),trivial,fun b hb=>absurd (show b∈([]:List Addr) from hb) (by simp),hok,.of_eq hg⟩
  refine codeAny_mono ((F _ hKb (nsK hns)).run callerA [] s₁ H ⟨[.ref a],[]⟩ [.ref a] [.ref a] _ _ hr e0 (hbind s₁ (.ref a)) (.cons rfl .nil) (hsp H hO hS)) fun r s' h=>?_
  cases r with
  | error e=>exact (hCX H e s' h).elim
  | ok fl=>
   cases fl with
   | next=>exact False.elim h
   | brk=>exact False.elim h
   | cont=>exact False.elim h
   | ret u=>
    obtain ⟨v,H',os,bare,un,hok',r',q⟩:=h
    have q':v = .bl true:=q
    subst q'
    obtain rfl:u=Value.bool true:=r'
    refine ⟨rfl,OldK.of_keep fun b o e=>?_,os,bare⟩
    cases q:H b with
    | none=>exact un.keep b o e q (by intro z;exact absurd (show b∈([]:List Addr) from z) (by simp)) (by simp)
    | some u=>
     rcases hO b with z | ⟨ob,xs,z⟩
     ·rw [q] at z;cases z
     ·have z2:=un.frzs b ob _ z
      obtain ⟨e1,_⟩:=hok b _ z
      obtain ⟨e2,_⟩:=hok' b _ z2
      rw [e] at e1;cases e1
      exact e2
 cases hk:K.lookup a with
 | some o=>
  have e:=KX a o hk
  rw [ha] at e
  cases e
  refine core (fun _=>none) (fun _=>.inl rfl) (.inr ⟨_,vs.toArray,_,hk,rfl,rfl,rfl,by rw [List.size_toArray,lenV];exact hl,by simpa using rv⟩) (fun b u z=>by have z':(none:Option HO)=some u:=z;cases z') (fun b z=>absurd rfl z) fun z=>absurd rfl z
 | none=>
  refine core (fun b=>if b=a then some (.frz { cls:=.type "list",data:=.seq vs.toArray } (.lst (ns.map V.int))) else none) (fun b=>?_) (.inl (.inr ⟨{ cls:=.type "list",data:=.seq vs.toArray },if_pos rfl⟩)) (fun b u z=>?_) (fun b z=>?_) fun _=>hk
  ·by_cases hb:b=a
   ·exact .inr ⟨_,_,if_pos hb⟩
   ·exact .inl (if_neg hb)
  ·by_cases hb:b=a
   ·have z':=(if_pos hb).symm.trans z
    cases z'
    subst hb
    exact ⟨ha,by rw [List.length_map];exact hl,vs,_,rv,ha⟩
   ·have z':=(if_neg hb).symm.trans z
    cases z'
  ·by_cases hb:b=a
   ·exact hb
   ·exact absurd (if_neg hb) z
end L2
namespace L2
open PySem PySem.Spec PyProof.Rows
abbrev KOf {K:PySem.W.Frag} {h:Heap} (_:K.In h):PySem.W.Frag:=K
theorem walk_of {l:PySem.W.OpenLaw} {n k:Nat} {q:Program} {loose:List Str} {XP:(Str->Option Value)->Heap->Prop} {YP:World->Heap->Prop} {d:DefRec} {K:Params->PySem.W.Frag} {CX:World->CXT} {sp:World->Sp} {x:Str}
  (hn:l.most=some n) (hn2:n<=sizeLine) (hdf:d.params.defaults=[]) (hr:Room k callerA)
  (hY:∀ (w:World) (h:Heap),YP w h->(K w.params).In h)
  (F:∀ (w:World) (mg:Str->Option Value) (fa:Addr) (h:Heap),(K w.params).In h->h.Ns mainGlobals mg->mg d.name=some (.ref fa) →
   ∃ fd:FuncData,(∀ (s:Shared) (u:Value),BindsTo s fd ⟨[u],[]⟩ [(x,u)]) ∧
    ∀ base:Heap,(K w.params).In base->base.Ns mainGlobals mg->FnOk l.prog w (K w.params) mg base (CX w) k fa fd [x] (sp w))
  (hsp:∀ (w:World) (H:Hp) (a:Addr) (ns:List Int),ns.length<=n->Only H->SqL (K w.params) H a (ns.map V.int)->sp w [.ref a] H (fun v _=>v = .bl true) fun _ _ _=>False)
  (hCX:∀ (w:World) (H:Hp) (s:Shared) (e:Value) (s':Shared),CX w [] H s (fun _ _ _=>False) e s'->False) :
  PySem.W.WalkO q loose XP YP l.row.toRowW d [] (fun f vs=>PySem.call f vs):=by
 refine Att.attach_call hn hdf fun w s₀ s₁ mg mb fa o pm cd doc a vs ns G Y ho hd hcd hmg hobj hints hlen hg=>?_
 have KX:=hY w _ Y
 obtain ⟨fd,hb,hF⟩:=F w mg fa _ KX G.T.g hmg
 exact law_call KX G.T.g G.T.b G.T.builtins G.T.nolimit hg hobj hints (Nat.le_trans hlen hn2) hr hF hb (fun H hO hS=>hsp w H a ns hlen hO hS) fun H e s'=>hCX w H s₁ e s'
end L2
/- THE LAST THEOREM (shape;LID,My.* are yours):
   My.Adr: a structure of the addresses that your layer names (classes,functions);My.Txt K t: a structure (Prop) of the equations over K;
   My.txt_mk:{K} {implicit addresses ..} (e1:nsIn K mainGlobals "law" = some (some (.ref f))) (e2:K.lookup f=some ⟨oc,od,.func (fnOf "law" "law" params body scope dV kV doc pm an cdv ct),sl⟩) (e3:codeIn K cdv "law" = true) .. : ∃ t,My.Txt K t
set_option maxRecDepth 100000 in
set_option maxHeartbeats 0 in
theorem PySem.Challenge.cw_LID_holds : PySem.Challenge.rw_LID.Holds := by
 w_on;o_law;k_head;(case hw=>w_witness2)
 k_fill
 refine L2.walk_of (l:=PySem.Challenge.rw_LID) (n:=63) (k:=40) (x:= "script") (CX:=fun w=>..) (sp:=fun _=>My.sp_law) rfl (by decide) rfl ⟨rfl,by decide,by decide⟩ (fun w h Y=>PySem.W.kIn_of Y) ?F ?S ?C
 case F=>
  intro w mg fa h KX G hmg
  have T:∃ t,My.Txt (L2.KOf KX) t:=by
   dsimp only [L2.KOf]                          -- K must stand as «<heap const> w.params» for k_is
   refine' My.txt_mk ?e1 ?e2 ?e3 ..
   (case e1=>PySem.W.k_is)                    -- in the order: a name -> its address -> its object -> its parts
   (case e2=>PySem.W.k_is)
   ..
  obtain ⟨t,T⟩:=T
  have e0:=hmg.symm.trans (PySem.W.mg_of KX G T.law)
  cases e0                                       -- fa is the law's own address
  exact ⟨_,fun s u=>.of_eq rfl,fun base kb nb=>My.law_fn T kb nb⟩     -- if «.of_eq rfl» comes too early: refine' ⟨_,?b,fun base kb nb=>My.law_fn T kb nb⟩;exact fun s u=>.of_eq rfl
 case S=>exact fun w H a ns hl hO hS=>..
 case C=>exact ..
(the tactic k_is has no namespace: write k_is) -/
namespace L2
open PySem PySem.Spec PyProof.Rows
def defArgs (s:Stmt):Arguments:=match s with
 | .FunctionDef _ a _ _ _ _ _ _ _ _=>a
 | _=>{ posonlyargs:=[],args:=[],vararg:=none,kwonlyargs:=[],kw_defaults:=[],kwarg:=none,defaults:=[] }
def defBody (s:Stmt):List Stmt:=match s with
 | .FunctionDef _ _ b _ _ _ _ _ _ _=>b
 | _=>[]
def defScope (s:Stmt):Scope:=match s with
 | .FunctionDef _ _ _ _ _ _ sc _ _ _=>sc
 | _=>{ kind:=.function,names:=[],isGenerator:=false,isCoroutine:=false }
abbrev CX0:CXT:=fun _ _ _ _ _ _=>False
abbrev E0:XK:=fun _ _ _=>False
theorem pass0 {X:Cx}:Passes CX0 X E0:=fun _ _ _ _ _ _ _ h=>h.elim
structure Fun (K:PySem.W.Frag) (x qual:Str) (st:Stmt) (f:Addr) (fd:FuncData):Prop where
 ex:∃ (oc:Value) (od:Option Addr) (kV doc pm:Value) (an:Option Addr) (cdv ct:Value) (osl:Array (Option Value)),
  fd=PySem.W.fnOf x qual (defArgs st) (defBody st) (defScope st) .none kV doc pm an cdv ct/\K.lookup f=some ⟨oc,od,.func fd,osl⟩/\PySem.W.codeIn K cdv qual=true
 kp:PySem.W.keepIn K (.ref f)=true
section
variable {P:Program} {w:World} {K:PySem.W.Frag} {mg:Str->Option Value} {base:Heap}
theorem Fun.ok {x qual:Str} {st:Stmt} {f:Addr} {fd:FuncData} {N ps:List Str} {k:Nat} {sp:Sp} (F:Fun K x qual st f fd) (S:FnScope N ps (defScope st)) (len:∀ vs H Q E,sp vs H Q E->vs.length=ps.length)
  (hbody:∀ (cdv:Value) (A:Around) (outer:List Env) (s:Shared) (H:Hp) (vs:List V) (Q:VK) (E:XK),Room k (A.deeper (envOfC qual (defScope st) s.heap.objs.size f cdv))->sp vs H Q E →
   ∃ t,PSs (cxOf CX0 P w K mg base N qual (defScope st) f cdv A outer s H E).nox (defBody st) t/\t { nx:=fun _ H'=>Q .non H',rt:=Q } (start N vs) H):FnOk P w K mg base CX0 (k+1) f fd ps sp:=by
 obtain ⟨oc,od,kV,doc,pm,an,cdv,ct,osl,rfl,lk,hcd⟩:=F.ex
 refine fn_of lk hcd S len fun A outer s H vs Q E hr hsp=>?_
 obtain ⟨t,h,q⟩:=hbody cdv A outer s H vs Q E hr hsp
 exact ⟨t,h.nox,q⟩
theorem Fun.binds {x qual:Str} {st:Stmt} {f:Addr} {fd:FuncData} {ps:List Str} (F:Fun K x qual st f fd)
  (h:∀ (kV doc pm:Value) (an:Option Addr) (cdv ct:Value) (us:List Value),us.length=ps.length->bindArgs (PySem.W.fnOf x qual (defArgs st) (defBody st) (defScope st) .none kV doc pm an cdv ct) ⟨us,[]⟩=pure (ps.zip us)):Binds K fd ps []:=by
 obtain ⟨oc,od,kV,doc,pm,an,cdv,ct,osl,rfl,lk,hcd⟩:=F.ex
 exact .all (h kV doc pm an cdv ct)
theorem fun_mk {x qual:Str} {st:Stmt} {f:Addr} {oc:Value} {od an:Option Addr} {osl:Array (Option Value)} {kV doc pm cdv ct:Value} (l:K.lookup f=some ⟨oc,od,.func (PySem.W.fnOf x qual (defArgs st) (defBody st) (defScope st) .none kV doc pm an cdv ct),osl⟩)
  (c:PySem.W.codeIn K cdv qual=true) (k:PySem.W.keepIn K (.ref f)=true):Fun K x qual st f (PySem.W.fnOf x qual (defArgs st) (defBody st) (defScope st) .none kV doc pm an cdv ct):=⟨⟨oc,od,kV,doc,pm,an,cdv,ct,osl,rfl,l,c⟩,k⟩
end
section
variable {X:Cx}
end
theorem iteF {A B:Prop} (h:B):if false=true then A else B:=by
 rw [if_neg Bool.false_ne_true]
 exact h
theorem ite2 {c A B:Prop} [Decidable c] (h1:c->A) (h2:¬ c->B):if c then A else B:=by
 by_cases h:c
 ·rw [if_pos h]
  exact h1 h
 ·rw [if_neg h]
  exact h2 h
def Same (H H':Hp):Prop:=∀ b o,H b=some o->H' b=some o
theorem Same.refl (H:Hp):Same H H:=fun _ _ h=>h
theorem Same.trans {H H1 H2:Hp} (a:Same H H1) (b:Same H1 H2):Same H H2:=fun c o h=>b c o (a c o h)
theorem Same.free {H H':Hp} (e:Same H H') {l:Addr} (h:H' l=Option.none):H l=Option.none:=by
 cases q:H l with
 | none=>rfl
 | some o=>
  rw [e l o q] at h
  cases h
theorem Same.seq {K:PySem.W.Frag} {H H':Hp} {a:Addr} {xs:List V} (e:Same H H') (h:SqL K H a xs):SqL K H' a xs:=by
 rcases h with (h | ⟨o,h⟩) | h
 ·exact .inl (.inl (e _ _ h))
 ·exact .inl (.inr ⟨o,e _ _ h⟩)
 ·exact .inr h
end L2
section
namespace L2
open PySem
section
variable {prog:Program} {w:World} {A:Around} {R:Result->Shared->Prop} {s:Shared}
theorem compLoop_any {elt target iter:Expr} {ifs:List Expr} {scope:Scope} {pos:Pos} {it acc:Value} {env:Env} (I:Nat->Shared->Prop)
  (turn:∀ n s,I n s->wpAny (model prog w) A (pyNext it) (fun r s₁=>match r with
   | none=>R (.ok .next) s₁
   | some v=>wpAny (model prog w) A (letOwnedTupleGo target it v) (fun _ s₁'=>wpAny (model prog w) A (assign target env v) (fun _ s₂=>
     wpAny (model prog w) A (forIn ifs true fun c r=>if r=true then do let ok <-isTrue c env (eval c env);pure (ForInStep.yield ok) else pure (ForInStep.yield r)) (fun ok s₃=>
      if ok=true then wpAny (model prog w) A (eval elt env) (fun x s₄=>
       wpAny (model prog w) A (call (.builtin "list.append") [acc,x]) (fun _ s₅=>∃ m,m < n/\I m s₅) (fun _ _=>False) s₄) (fun _ _=>False) s₃
      else ∃ m,m < n/\I m s₃) (fun _ _=>False) s₂) (fun _ _=>False) s₁') (fun _ _=>False) s₁) (fun _ _=>False) s)
  (n:Nat) (h:I n s) :
  codeAny (model prog w) A (.compLoop (.ListComp elt [⟨target,iter,ifs,0⟩] scope pos) 0 it acc env) R s:=by
 refine codeAny_loop rfl I (fun n s hI=>?_) n h
 show wpAny _ A ((compTurn (.ListComp elt [⟨target,iter,ifs,0⟩] scope pos) 0 it acc env).onRaise (fun x=>do noteFrame x env;theTreesLotGoes x)) _ _ s
 refine wpAny_noted ?_
 rw [compTurn_list]
 refine wpAny_bind (wpAny_standAt (wpAny_bind (wpAny_mono (turn n s hI) (fun r s₁ h₁=>?_) fun _ _ h'=>h'.elim)))
 cases r with
 | none=>exact wpAny_pure h₁
 | some v=>
  refine wpAny_bind (wpAny_mono h₁ (fun _ s₁' h₁'=>?_) fun _ _ h'=>h'.elim)
  refine wpAny_bind (wpAny_mono h₁' (fun _ s₂ h₂=>wpAny_bind (wpAny_mono h₂ (fun ok s₃ h₃=>?_) fun _ _ h'=>h'.elim)) fun _ _ h'=>h'.elim)
  cases ok with
  | false=>exact wpAny_pure ⟨rfl,h₃⟩
  | true=>
   exact wpAny_bind (wpAny_bind (wpAny_mono h₃ (fun x s₄ h₄=>wpAny_bind (wpAny_mono h₄ (fun _ s₅ h₅=>wpAny_pure (wpAny_pure ⟨rfl,h₅⟩)) fun _ _ h'=>h'.elim)) fun _ _ h'=>h'.elim))
end
theorem closure_from {env:Env}:∀ (names:List (Str×NameKind)) (acc:List (Str×Addr)),(∀ y∈names,y.2 = .free->∃ c,env.cells.lookup y.1=some c)->(∀ x c,acc.lookup x=some c->env.cells.lookup x=some c) →
  ∃ cl:List (Str×Addr),(forIn names acc fun (x:Str×NameKind) (r:List (Str×Addr))=>(match x with | (name,kind)=>if (kind == NameKind.free)=true then do let a <-cellOf env name;pure (ForInStep.yield ((name,a) :: r)) else pure (ForInStep.yield r):Sem (ForInStep (List (Str×Addr)))))=pure cl ∧
   (∀ x c,cl.lookup x=some c->env.cells.lookup x=some c)/\(∀ y∈names,y.2 = .free->∃ c,cl.lookup y.1=some c)/\∀ x c,acc.lookup x=some c->∃ c',cl.lookup x=some c'
 | [],acc,_,h=>⟨acc,rfl,h,(fun y z=>by cases z),fun _ c e=>⟨c,e⟩⟩
 | (name,kind) :: r,acc,hf,h=>by
  by_cases hk:kind = .free
  ·subst hk
   obtain ⟨c,hc⟩:=hf (name,.free) List.mem_cons_self rfl
   have h2:∀ x d,((name,c) :: acc).lookup x=some d->env.cells.lookup x=some d:=fun x d e=>by
    rw [List.lookup_cons] at e
    cases hx:x == name with
    | true=>rw [hx] at e;cases e;rw [eq_of_beq hx];exact hc
    | false=>rw [hx] at e;exact h x d e
   obtain ⟨cl,e,h3,h4,h5⟩:=closure_from r ((name,c) :: acc) (fun y hy=>hf y (List.mem_cons_of_mem _ hy)) h2
   refine ⟨cl,?_,h3,fun y hy hyf=>?_,fun x d hx=>?_⟩
   ·rw [List.forIn_cons]
    simp only [beq_self_eq_true,if_true,cellOf,hc,pure_bind]
    exact e
   ·rcases List.mem_cons.mp hy with rfl | hy
    ·exact h5 name c (by simp [List.lookup_cons])
    ·exact h4 y hy hyf
   ·cases hxn:x == name with
    | true=>exact h5 x c (by rw [List.lookup_cons,hxn])
    | false=>exact h5 x d (by rw [List.lookup_cons,hxn];exact hx)
  ·obtain ⟨cl,e,h3,h4,h5⟩:=closure_from r acc (fun y hy=>hf y (List.mem_cons_of_mem _ hy)) h
   have hb:(kind == NameKind.free)=false:=by simpa using hk
   refine ⟨cl,?_,h3,fun y hy hyf=>?_,h5⟩
   ·rw [List.forIn_cons]
    simp only [hb,Bool.false_eq_true,if_false,pure_bind]
    exact e
   ·rcases List.mem_cons.mp hy with rfl | hy
    ·exact absurd hyf hk
    ·exact h4 y hy hyf
theorem closure_ok {env:Env} {scope:Scope} (hf:∀ y∈scope.names,y.2 = .free->∃ c,env.cells.lookup y.1=some c) :
  ∃ cl,closureFor scope env=pure cl/\(∀ x c,cl.lookup x=some c->env.cells.lookup x=some c)/\∀ y∈scope.names,y.2 = .free->∃ c,cl.lookup y.1=some c:=by
 obtain ⟨cl,e,h1,h2,_⟩:=closure_from (env:=env) scope.names [] hf (fun x c e=>by simp at e)
 refine ⟨cl,?_,h1,h2⟩
 unfold closureFor
 exact (congrArg (· >>= pure) e).trans (pure_bind _ _)
end L2
end
section
namespace L2
open PySem PySem.Spec PyProof.Rows
abbrev Cx.block (X:Cx) (scope:Scope) (cl:List (Str×Addr)) (C:Addr) (N:List Str) (s:Shared) (H:Hp) (fp:List Addr):Cx:=
 { X with N:=N,s₀:=s,H₀:=H,env:=compEnvC scope cl C X.env,outer:=X.stack,ex:=fp,fn:=fun _=>false,pn:=[],xe:=fun _ _=>False }
def compOk (osc:Scope) (oN:List Str) (sc:Scope) (N:List Str) (js:List Nat):Bool:=
 sc.names.all (fun y=>y.2 != .cell) && (sc.names.all (fun y=>y.2 != .local || sc.names.lookup y.1 == some .local) && (decide (js.length<=N.length) &&
  (sc.names.all (fun y=>y.2 != .free || (osc.names.lookup y.1 == some .cell || osc.names.lookup y.1 == some .free)) &&
   (List.range js.length).all (fun i=>match N[N.length - js.length+i]?,oN[js.getD i 0]? with | some x,some y=>x == y && sc.names.lookup x == some .free | _,_=>false))))
structure CompSc (osc:Scope) (oN:List Str) (sc:Scope) (N:List Str) (js:List Nat):Prop where
 nocell:∀ y∈sc.names,y.2≠.cell
 names:∀ y∈sc.names,y.2 = .local->sc.names.lookup y.1=some .local
 len:js.length<=N.length
 tk:∀ y∈sc.names,y.2 = .free->osc.names.lookup y.1=some .cell\/osc.names.lookup y.1=some .free
 fr:∀ (i j:Nat),js[i]? = some j->∃ x,N[N.length - js.length+i]? = some x/\oN[j]? = some x/\sc.names.lookup x=some .free
theorem compOk_sc {osc:Scope} {oN:List Str} {sc:Scope} {N:List Str} {js:List Nat} (h:compOk osc oN sc N js=true):CompSc osc oN sc N js:=by
 unfold compOk at h
 simp only [Bool.and_eq_true] at h
 obtain ⟨h1,h2,h3,h4,h5⟩:=h
 refine ⟨fun y hy=>?_,fun y hy hl=>?_,of_decide_eq_true h3,fun y hy hf=>?_,fun i j hj=>?_⟩
 ·have:=List.all_eq_true.mp h1 y hy
  simpa using this
 ·have:=List.all_eq_true.mp h2 y hy
  rw [hl] at this
  simpa using this
 ·have:=List.all_eq_true.mp h4 y hy
  rw [hf] at this
  simpa using this
 ·have hi:i < js.length:=(List.getElem?_eq_some_iff.mp hj).1
  have:=List.all_eq_true.mp h5 i (List.mem_range.mpr hi)
  have e:js.getD i 0=j:=by rw [List.getD_eq_getElem?_getD,hj];rfl
  rw [e] at this
  split at this
  ·rename_i x y e1 e2
   simp only [Bool.and_eq_true,beq_iff_eq] at this
   obtain ⟨rfl,h⟩:=this
   exact ⟨x,e1,e2,h⟩
  ·cases this
def blk (n:Nat) (js:List Nat) (σ:St):St:=List.replicate n none++js.map fun j=>(σ[j]?).join
theorem blk_get {n:Nat} {js:List Nat} {σ:St} {i:Nat} {v:V} (h:(blk n js σ)[i]? = some (some v)):∃ k j,i=n+k/\js[k]? = some j/\σ[j]? = some (some v):=by
 unfold blk at h
 by_cases hi:i < n
 ·rw [List.getElem?_append_left (by simpa using hi),List.getElem?_replicate] at h
  split at h<;>cases h
 ·rw [List.getElem?_append_right (by simpa using hi),List.length_replicate,List.getElem?_map] at h
  cases e:js[i - n]? with
  | none=>rw [e] at h;cases h
  | some j=>
   rw [e] at h
   refine ⟨i - n,j,by omega,e,?_⟩
   have h':(σ[j]?).join=some v:=by simpa using h
   cases q:σ[j]? with
   | none=>rw [q] at h';cases h'
   | some o=>
    rw [q] at h'
    have:o=some v:=h'
    rw [this]
theorem relabel_lookup {env:Env}:∀ {names:List (Str×NameKind)} {x:Str} {k:NameKind},
  (names.map fun (n,k)=>if (k == NameKind.free && env.scope.kind == .function && env.kindOf n == some .cell) then (n,NameKind.cell) else (n,k)).lookup x=some k->k = .cell\/k = .free->(∀ y∈names,y.2≠.cell)->(x,NameKind.free)∈names
 | [],_,_,h,_,_=>by simp at h
 | (n,k1) :: r,x,k,h,hk,hc=>by
  have ih:=@relabel_lookup env r x k
  have hc':∀ y∈r,y.2≠.cell:=fun y hy=>hc y (List.mem_cons_of_mem _ hy)
  have h1:k1≠.cell:=hc (n,k1) List.mem_cons_self
  have h:List.lookup x ((if (k1 == NameKind.free && env.scope.kind == .function && env.kindOf n == some .cell)=true then (n,NameKind.cell) else (n,k1)) :: _)=some k:=h
  by_cases c:(k1 == NameKind.free && env.scope.kind == .function && env.kindOf n == some .cell)=true
  ·rw [if_pos c,List.lookup_cons] at h
   cases hx:x == n with
   | true=>
    have e:k1 = .free:=by simp only [Bool.and_eq_true,beq_iff_eq] at c;exact c.1.1
    rw [eq_of_beq hx,e]
    exact List.mem_cons_self
   | false=>rw [hx] at h;exact List.mem_cons_of_mem _ (ih h hk hc')
  ·rw [if_neg c,List.lookup_cons] at h
   cases hx:x == n with
   | true=>
    rw [hx] at h
    have e:k1=k:=Option.some.inj h
    have e2:k1 = .free:=by
     rcases hk with z | z
     ·exact absurd (e.trans z) h1
     ·exact e.trans z
    rw [eq_of_beq hx,e2]
    exact List.mem_cons_self
   | false=>rw [hx] at h;exact List.mem_cons_of_mem _ (ih h hk hc')
theorem relabel_free {env:Env}:∀ {names:List (Str×NameKind)} {x:Str},names.lookup x=some .free →
  (names.map fun (n,k)=>if (k == NameKind.free && env.scope.kind == .function && env.kindOf n == some .cell) then (n,NameKind.cell) else (n,k)).lookup x=some .cell ∨
  (names.map fun (n,k)=>if (k == NameKind.free && env.scope.kind == .function && env.kindOf n == some .cell) then (n,NameKind.cell) else (n,k)).lookup x=some .free
 | [],_,h=>by simp at h
 | (n,k1) :: r,x,h=>by
  have ih:=@relabel_free env r x
  show List.lookup x ((if (k1 == NameKind.free && env.scope.kind == .function && env.kindOf n == some .cell)=true then (n,NameKind.cell) else (n,k1)) :: _)=_\/List.lookup x ((if (k1 == NameKind.free && env.scope.kind == .function && env.kindOf n == some .cell)=true then (n,NameKind.cell) else (n,k1)) :: _)=_
  rw [List.lookup_cons] at h
  by_cases c:(k1 == NameKind.free && env.scope.kind == .function && env.kindOf n == some .cell)=true
  ·rw [if_pos c,List.lookup_cons]
   cases hx:x == n with
   | true=>exact .inl rfl
   | false=>rw [hx] at h;exact ih h
  ·rw [if_neg c,List.lookup_cons]
   cases hx:x == n with
   | true=>rw [hx] at h;exact .inr h
   | false=>rw [hx] at h;exact ih h
def PF (X:Cx) (ifs:List Expr) (t:TT):Prop:=
 ∀ (pins:List (Addr×Obj)) (s:Shared) (σ:St) (H:Hp) (Q:Bool->Hp->Prop),Inv X pins σ H s->t σ H Q →
  wpAny (model X.prog X.w) X.A (forIn ifs true fun c r=>if r=true then do let ok <-isTrue c X.env (eval c X.env);pure (ForInStep.yield ok) else pure (ForInStep.yield r)) (TP X pins σ Q) X.xe s
def tYes:TT:=fun _ H Q=>Q true H
theorem pf_nil {X:Cx}:PF X [] tYes:=fun _ _ _ H _ I h=>wpAny_tests_nil ⟨H,I,h⟩
theorem pf_one {X:Cx} {c:Expr} {t:TT} (h:PT X c t):PF X [c] t:=fun pins s σ H Q I hw=>wpAny_tests_one (h pins s σ H Q I hw)
def tComp (n:Nat) (js:List Nat) (wi:TI) (g:TG) (tt:TT) (te:TE):TE:=fun σ H Q=>wi σ H fun J H1=>∀ D,H1 D=none->∃ W:Nat->Nat->St->Hp->List V->Prop,
 (∃ m,W 0 m (blk n js σ) (upd H1 D (.lst [])) [])/\∀ i m τ H2 ys,W i m τ H2 ys->H2 D=some (.lst ys) ∧
  ((J.stop i H2/\Q (.ref D) H2)\/(J.go i H2/\ys.length < sizeLine/\∃ N:St->Hp->List V->Prop,(∀ τ' H' ys',N τ' H' ys'->∃ m',m' < m/\W (i+1) m' τ' H' ys')/\∀ x H3,J.yld i H2 x H3->g x τ H3 fun τ4 H4=>tt τ4 H4 fun b H5=>
   if b=true then te τ4 H5 fun y H6=>H6 D=some (.lst ys)/\N τ4 (upd H6 D (.lst (ys++[y]))) (ys++[y])
   else N τ4 H5 ys))
section
variable {X:Cx}
theorem block_inv {pins:List (Addr×Obj)} {σ:St} {H:Hp} {s:Shared} {h₁:Heap} {tk:Nat} {scope:Scope} {N:List Str} {js:List Nat} {cl:List (Str×Addr)} {fp:List Addr}
  (I:Inv X pins σ H s) (hk:scope.kind = .function) (hN:N.Nodup) (S:CompSc X.env.scope X.N scope N js) (hcl:∀ x c,cl.lookup x=some c->X.env.cells.lookup x=some c) (hcl2:∀ y∈scope.names,y.2 = .free->∃ c,cl.lookup y.1=some c)
  (hf:∀ b∈fp,b < s.heap.objs.size/\b≠X.env.locals/\b ∉ X.fs/\(b∈X.ex\/X.s₀.heap.objs.size<=b)/\(∀ x c,X.env.cells.lookup x=some c->c≠b))
  (hns:h₁.Ns s.heap.objs.size fun _=>none) (old:∀ b o,s.heap.get? b=some o->h₁.get? b=some o) :
  Inv (X.block scope cl s.heap.objs.size N s H fp) [] (blk (N.length - js.length) js σ) H { s with heap:=h₁,toks:=tk }:=by
 have look:∀ x,((relabel scope X.env).names.lookup x=some .cell\/(relabel scope X.env).names.lookup x=some .free)->∃ c,cl.lookup x=some c:=fun x hx=>by
  have hm:(x,NameKind.free)∈scope.names:=by
   rcases hx with z | z
   ·exact relabel_lookup z (.inl rfl) S.nocell
   ·exact relabel_lookup z (.inr rfl) S.nocell
  exact hcl2 _ hm rfl
 refine ⟨⟨I.ok.mod,hk,I.ok.glob,I.ok.blt,Nat.le_refl _,fun x y c h1 h2=>I.ok.inj x y c (hcl x c h1) (hcl y c h2),look,fun x c h=>(by cases h),I.ok.hd,I.ok.frames,.inl rfl,fun b hb=>?_,I.bs,Nat.le_trans I.ok.bsz I.sz,fun b o e hb=>?_,fun b hb z=>?_,I.stack,I.stkFree⟩,
  rfl,I.bare,Un.kept old,⟨_,hns,fun i x v h1 h2 h3=>?_⟩,fun x c h=>?_,I.hok.fresh (Nat.le_refl _),fun x c h=>I.freeC x c (hcl x c h),fun p hp=>absurd (show p∈([]:List (Addr×Obj)) from hp) (by simp),I.hok.kept old,?_⟩
 ·exact ⟨Nat.ne_of_lt (hf b hb).1,fun x c h=>(hf b hb).2.2.2.2 x c (hcl x c h)⟩
 ·rcases (hf b hb).2.2.2.1 with z | z
  ·exact I.ok.noex b o e z
  ·exact absurd (Nat.lt_of_lt_of_le (Heap.lt_size e) (Nat.le_trans I.ok.bsz z)) (Nat.lt_irrefl _)
 ·rcases List.mem_cons.mp (I.stkSub b z) with q | q
  ·exact (hf b hb).2.1 q
  ·exact (hf b hb).2.2.1 q
 ·obtain ⟨k,j,rfl,hj,hσ⟩:=blk_get h2
  obtain ⟨x',e1,e2,e3⟩:=S.fr k j hj
  rw [e1] at h1
  have ex:x'=x:=Option.some.inj h1
  subst ex
  have ok:=S.tk _ (PySem.mem_of_lookup e3) rfl
  obtain ⟨m,_,hl⟩:=I.loc
  obtain ⟨u,r,l⟩:=hl j x' v e2 hσ (.inr ok)
  refine ⟨u,r,?_⟩
  rcases l with ⟨hk',_⟩ | ⟨_,c,hc,hcell⟩
  ·have hk2:X.env.scope.names.lookup x'=some .local:=hk'
   rcases ok with z | z<;>(rw [hk2] at z;cases z)
  ·obtain ⟨c',hc'⟩:=hcl2 _ (PySem.mem_of_lookup e3) rfl
   have:c'=c:=Option.some.inj ((hcl _ _ hc').symm.trans hc)
   subst this
   obtain ⟨o,ho,hd⟩:=hcell
   exact .inr ⟨relabel_free e3,c',hc',⟨o,old _ _ ho,hd⟩⟩
 ·obtain ⟨v,o,ho,hd⟩:=I.cell x c (hcl x c h)
  exact ⟨v,o,old _ _ ho,hd⟩
 ·show (blk (N.length - js.length) js σ).length=N.length
  unfold blk
  rw [List.length_append,List.length_replicate,List.length_map]
  have:=S.len
  omega
theorem comp_block {pins:List (Addr×Obj)} {σ:St} {H:Hp} {s:Shared} {elt target iter:Expr} {ifs:List Expr} {scope:Scope} {pos:Pos} {N:List Str} {js:List Nat} {cl:List (Str×Addr)} {J:It} {fp:List Addr} {it:Addr} {tn:Nat->Heap->Prop}
  {g:TG} {tt:TT} {te:TE} {E:Value->Shared->Prop} {RR:Value->Addr->Result->Shared->Prop} {Q:VK}
  (hc:X.calm=true) (I:Inv X pins σ H s) (T:Turn X.prog X.w X.K target J fp it tn) (st:tn 0 s.heap) (hf:∀ b∈fp,FpOk X pins H b)
  (hk:scope.kind = .function) (hN:N.Nodup) (S:CompSc X.env.scope X.N scope N js) (hcl:∀ x c,cl.lookup x=some c->X.env.cells.lookup x=some c) (hcl2:∀ y∈scope.names,y.2 = .free->∃ c,cl.lookup y.1=some c)
  (hg:∀ cl C s H fp,PG (X.block scope cl C N s H fp) target g) (ht:∀ cl C s H fp,PF (X.block scope cl C N s H fp) ifs tt) (he:∀ cl C s H fp,PE (X.block scope cl C N s H fp) elt te)
  (h:∀ D,H D=none->∃ W:Nat->Nat->St->Hp->List V->Prop,(∃ m,W 0 m (blk (N.length - js.length) js σ) (upd H D (.lst [])) [])/\∀ i m τ H2 ys,W i m τ H2 ys->H2 D=some (.lst ys) ∧
   ((J.stop i H2/\Q (.ref D) H2)\/(J.go i H2/\ys.length < sizeLine/\∃ N:St->Hp->List V->Prop,(∀ τ' H' ys',N τ' H' ys'->∃ m',m' < m/\W (i+1) m' τ' H' ys')/\∀ x H3,J.yld i H2 x H3->g x τ H3 fun τ4 H4=>tt τ4 H4 fun b H5=>
    if b=true then te τ4 H5 fun y H6=>H6 D=some (.lst ys)/\N τ4 (upd H6 D (.lst (ys++[y]))) (ys++[y])
    else N τ4 H5 ys)))
  (hend:∀ D C H' s',(∃ m,s'.heap.Ns C m)->FpOk X pins H' C->Inv X pins σ H' s'->Q (.ref D) H'->RR (.ref D) C (.ok .next) s') :
  wpAny (model X.prog X.w) X.A (newList []) (fun acc s₃=>wpAny (model X.prog X.w) X.A (newFunctionEnv scope X.env.globals cl [] X.env.qual none .none (some X.env)) (fun cenv s₄=>
   codeAny (model X.prog X.w) X.A (.compStart (.ListComp elt [⟨target,iter,ifs,0⟩] scope pos) 0 (.ref it) acc { cenv with scope:=relabel scope X.env }) (RR acc cenv.locals) s₄) E s₃) E s:=by
 obtain ⟨W,⟨m0,w0⟩,turn⟩:=h s.heap.objs.size I.fresh
 refine wpAny_newObj_type (wpAny_newFunctionEnv S.nocell (by intro y hy;simp at hy) (fun h₁ hns₁ hsb₁=>?_) hk)
 have I3:Inv X pins σ (upd H s.heap.objs.size (.lst [])) { s with heap:=s.heap.push { cls:=.type "list",dict:=none,data:=.seq ([]:List Value).toArray } }:=I.lnew (its:=[]) (ys:=[]) (t':=s.toks) .nil (Nat.zero_le _)
 have hF3:∀ b∈fp,b < s.heap.objs.size:=fun b hb=>by
  obtain ⟨o,e,_⟩:=T.obj 0 s.heap st b hb
  exact Heap.lt_size e
 have st3:tn 0 (s.heap.push { cls:=.type "list",dict:=none,data:=.seq ([]:List Value).toArray }):=T.keep 0 _ _ st fun b hb o e=>Heap.get?_push_of_some _ e
 generalize hs3:({ s with heap:=s.heap.push { cls:=.type "list",dict:=none,data:=.seq ([]:List Value).toArray } }:Shared)=s3 at I3 hns₁ hsb₁ ⊢
 have e3:s3.heap=s.heap.push { cls:=.type "list",dict:=none,data:=.seq ([]:List Value).toArray }:=by rw [<-hs3]
 rw [<-e3] at st3
 have z3:s.heap.objs.size<=s3.heap.objs.size:=by rw [e3,Heap.size_push];exact Nat.le_succ _
 have old:∀ b o,s3.heap.get? b=some o->h₁.get? b=some o:=fun b o e=>hsb₁.extBut b o (Nat.ne_of_lt (Heap.lt_size e)) (Heap.get?_push_of_some _ e)
 have hf3:∀ b∈fp,b < s3.heap.objs.size/\b≠X.env.locals/\b ∉ X.fs/\(b∈X.ex\/X.s₀.heap.objs.size<=b)/\(∀ x c,X.env.cells.lookup x=some c->c≠b):=fun b hb=>
  let ⟨_,q1,q2,q3,q4,_⟩:=hf b hb
  ⟨Nat.lt_of_lt_of_le (hF3 b hb) z3,q1,q2,q3,q4⟩
 have nD:∀ b∈fp,upd H s.heap.objs.size (.lst []) b=none:=fun b hb=>by
  rw [upd_ne (Nat.ne_of_lt (hF3 b hb))]
  exact (hf b hb).1
 have I4:Inv (X.block scope cl s3.heap.objs.size N s3 (upd H s.heap.objs.size (.lst [])) fp) [] (blk (N.length - js.length) js σ) (upd H s.heap.objs.size (.lst [])) { s3 with heap:=h₁,toks:=s3.toks+([]:List (Str×Value)).length }:=
  block_inv I3 hk hN S hcl hcl2 hf3 hns₁ old
 have st4:tn 0 h₁:=T.keep 0 _ _ st3 fun b hb o e=>old b o e
 have hg':=hg cl s3.heap.objs.size s3 (upd H s.heap.objs.size (.lst [])) fp
 have ht':=ht cl s3.heap.objs.size s3 (upd H s.heap.objs.size (.lst [])) fp
 have he':=he cl s3.heap.objs.size s3 (upd H s.heap.objs.size (.lst [])) fp
 have stat:∀ {H':Hp},(∀ b∈fp,H' b=none)->∀ b∈fp,FpOk (X.block scope cl s3.heap.objs.size N s3 (upd H s.heap.objs.size (.lst [])) fp) [] H' b:=fun hn b hb=>
  ⟨hn b hb,(I4.ok.exf b hb).1,I4.ok.exfs b hb,.inl hb,(I4.ok.exf b hb).2,fun p hp=>absurd (show p∈([]:List (Addr×Obj)) from hp) (by simp)⟩
 have loop:codeAny (model X.prog X.w) X.A (.compLoop (.ListComp elt [⟨target,iter,ifs,0⟩] scope pos) 0 (.ref it) (.ref s.heap.objs.size) (compEnvC scope cl s3.heap.objs.size X.env)) (RR (.ref s.heap.objs.size) s3.heap.objs.size) { s3 with heap:=h₁,toks:=s3.toks+([]:List (Str×Value)).length }:=by
  refine compLoop_any (fun n s'=>∃ i τ H' ys,Inv (X.block scope cl s3.heap.objs.size N s3 (upd H s.heap.objs.size (.lst [])) fp) [] τ H' s'/\tn i s'.heap/\(∀ b∈fp,H' b=none)/\W i n τ H' ys) ?_ m0 ⟨0,_,_,[],I4,st4,nD,w0⟩
  rintro n s5 ⟨i,τ,H5,ys,I5,st5,fr5,w5⟩
  obtain ⟨hD,hw⟩:=turn i n τ H5 ys w5
  rcases hw with ⟨stop,qn⟩ | ⟨go,hz,M,hM,step⟩
  ·refine thn (T.done (X.block scope cl s3.heap.objs.size N s3 (upd H s.heap.objs.size (.lst [])) fp) rfl rfl rfl hc i [] s5 τ H5 (fun _ _=>False) I5 (stat fr5) st5 stop) fun r s6 ⟨hr,I6⟩=>?_
   subst hr
   refine hend _ _ H5 s6 (let ⟨m,hn,_⟩:=I6.loc;⟨m,hn⟩) (I3.fpOk (Nat.le_refl _) I6.free) ?_ qn
   exact I3.call' (ch:=fp) I6.os I6.base I6.hok I6.bare fun b hb=>⟨(hf b hb).2.2.2.1,(hf b hb).2.1,(hf b hb).2.2.2.2.1,(hf b hb).2.2.2.2.2⟩
  ·refine thn (T.item (X.block scope cl s3.heap.objs.size N s3 (upd H s.heap.objs.size (.lst [])) fp) rfl rfl rfl hc i [] s5 τ H5 (fun _ _=>False) I5 (stat fr5) st5 go) fun r s6 ⟨u,hr,h6⟩=>?_
   subst hr
   refine thn h6 fun _ s7 ⟨x,H7,I7,r7,y7,st7,fr7⟩=>?_
   have I7':=I7.pinned (stat fr7) (T.obj _ _ st7)
   refine thn (hg' _ s7 τ H7 x u _ I7' r7 (step x H7 y7)) fun _ s8 ⟨τ8,H8,I8,q8⟩=>?_
   refine thn (ht' _ s8 τ8 H8 _ I8 q8) fun b s9 ⟨H9,I9,q9⟩=>?_
   have again:∀ {τ':St} {H':Hp} {s':Shared} {ys':List V},Inv (X.block scope cl s3.heap.objs.size N s3 (upd H s.heap.objs.size (.lst [])) fp) ([]++pinsAt fp s7.heap) τ' H' s'->M τ' H' ys' →
     ∃ m,m < n/\∃ i τ H' ys,Inv (X.block scope cl s3.heap.objs.size N s3 (upd H s.heap.objs.size (.lst [])) fp) [] τ H' s'/\tn i s'.heap/\(∀ b∈fp,H' b=none)/\W i m τ H' ys:=fun {τ' H' s' ys'} I' hm'=>by
    obtain ⟨m',hm,w'⟩:=hM _ _ _ hm'
    refine ⟨m',hm,i+1,τ',H',ys',I'.unpinned,T.keep _ _ _ st7 fun b hb o e=>(I'.pin (b,o) (List.mem_append_right _ (List.mem_append_right _ (mem_pinsAt hb e)))).1,fun b hb=>?_,w'⟩
    obtain ⟨o,e,d⟩:=T.obj _ _ st7 b hb
    exact (I'.pin (b,o) (List.mem_append_right _ (List.mem_append_right _ (mem_pinsAt hb e)))).2.1
   cases b with
   | false=>exact again I9 q9
   | true=>
    refine thn (he' _ s9 τ8 H9 _ I9 q9) fun y s10 ⟨v10,H10,I10,r10,hD10,q10⟩=>?_
    refine thn (mt_append (X:=X.block scope cl s3.heap.objs.size N s3 (upd H s.heap.objs.size (.lst [])) fp) _ s10 τ8 H10 (.ref s.heap.objs.size) [v10] (.ref s.heap.objs.size) [y] (fun _ H'=>M τ8 H' (ys++[v10])) I10 rfl (.cons r10 .nil) ⟨_,ys,v10,rfl,rfl,hD10,hz,q10⟩) fun _ s11 ⟨_,H11,I11,_,q11⟩=>?_
    exact again I11 q11
 exact codeAny_compStart_list loop (T.self X.A 0 _ _ _ st4 loop)
variable {elt target iter:Expr} {ifs:List Expr} {scope:Scope} {pos spos:Pos} {wi:TI} {g:TG} {tt:TT} {te:TE}
theorem pe_comp (N:List Str) (js:List Nat) (hok:compOk X.env.scope X.N scope N js=true) (hN:N.Nodup) (hc:X.calm=true) (hi:PI X target iter wi)
  (hg:∀ cl C s H fp,PG (X.block scope cl C N s H fp) target g) (ht:∀ cl C s H fp,PF (X.block scope cl C N s H fp) ifs tt) (he:∀ cl C s H fp,PE (X.block scope cl C N s H fp) elt te)
  (hk:scope.kind = .function:=by rfl) (hs:∀ x,foldedSetIterable iter X.env x=pure x:=by intro _;rfl) :
  PE X (.ListComp elt [⟨target,iter,ifs,0⟩] scope pos) (tComp (N.length - js.length) js wi g tt te):=by
 intro pins s σ H Q I h
 have S:=compOk_sc hok
 obtain ⟨cl,hclos,hcl,hcl2⟩:=closure_ok (env:=X.env) (scope:=scope) fun y hy hf=>I.ok.has _ (S.tk y hy hf)
 rw [eval_ListComp]
 refine wpAny_comprehension_free (use:=none) rfl hs hclos hk S.names (thn (hi pins s σ H _ I h) fun v s1 h1=>thn h1 fun itv s2 h2=>?_)
 obtain ⟨it,fp,tn,J,H2,e,I2,T,st2,f2,hw⟩:=h2
 subst e
 refine comp_block (RR:=fun acc C=>compPost (model X.prog X.w) X.A X.xe none (EP X pins σ Q) acc C) (Q:=Q) hc I2 T st2 f2 hk hN S hcl hcl2 hg ht he hw ?_
 rintro D C H' s' ⟨m,hn⟩ ⟨c0,c1,c2,c3,c4,c5⟩ I' q
 exact ⟨m,hn,fun h' hs'=>⟨.ref D,H',I'.turned (t':=s'.toks) (fun b o hb e=>(hs'.2 b hb).trans e) c0 c1 c3 c4 c5,rfl,q⟩⟩
theorem ps_setComp {i:Nat} {y:Str} {py:Pos} (N:List Str) (js:List Nat) (hok:compOk X.env.scope X.N scope N js=true) (hN:N.Nodup) (hc:X.calm=true) (hXN:X.N.Nodup) (hyi:X.N[i]? = some y) (hy:Loc X.env.scope y) (hi:PI X target iter wi)
  (hg:∀ cl C s H fp,PG (X.block scope cl C N s H fp) target g) (ht:∀ cl C s H fp,PF (X.block scope cl C N s H fp) ifs tt) (he:∀ cl C s H fp,PE (X.block scope cl C N s H fp) elt te)
  (hsw:swapsWith (.ListComp elt [⟨target,iter,ifs,0⟩] scope pos) (some (.Name y py)) spos.line X.env=pure true:=by rfl)
  (hk:scope.kind = .function:=by rfl) (hs:∀ x,foldedSetIterable iter X.env x=pure x:=by intro _;rfl) (hf:X.fn y=true\/X.env.scope.names.lookup y=some .local:=by first | exact .inl rfl | exact .inr rfl | assumption) :
  PS X (.Assign [.Name y py] (.ListComp elt [⟨target,iter,ifs,0⟩] scope pos) spos) (tAsg (tComp (N.length - js.length) js wi g tt te) (gName i)):=by
 intro pins s σ H D I h
 have S:=compOk_sc hok
 obtain ⟨cl,hclos,hcl,hcl2⟩:=closure_ok (env:=X.env) (scope:=scope) fun y hy hf=>I.ok.has _ (S.tk y hy hf)
 rw [exec_Assign_Name_used _ _ _ _ hsw]
 refine wpAny_bind (wpAny_standAt (wpAny_bind ?_))
 show wpAny _ X.A (do let _ <-comprehension (.ListComp elt [⟨target,iter,ifs,0⟩] scope pos) scope X.env _ (newList []) false (eval iter X.env) (some (assign (.Name y py) X.env))) _ _ s
 refine wpAny_bind (wpAny_mono (wpAny_comprehension_free (use:=some (assign (.Name y py) X.env)) (Q:=fun _ s'=>SP X pins D .next s') rfl hs hclos hk S.names
  (thn (hi pins s σ H _ I h) fun v s1 h1=>thn h1 fun itv s2 h2=>?_)) (fun _ s' hq=>wpAny_pure (wpAny_pure hq)) fun _ _ e=>e)
 obtain ⟨it,fp,tn,J,H2,e,I2,T,st2,f2,hw⟩:=h2
 subst e
 refine comp_block (RR:=fun acc C=>compPost (model X.prog X.w) X.A X.xe (some (assign (.Name y py) X.env)) (fun _ s'=>SP X pins D .next s') acc C) (Q:=fun v H'=>D.nx (σ.set i (some v)) H') hc I2 T st2 f2 hk hN S hcl hcl2 hg ht he hw ?_
 rintro E C H' s' ⟨m,hn⟩ ⟨c0,c1,c2,c3,c4,c5⟩ I' q
 show wpAny _ X.A (assign (.Name y py) X.env (.ref E)) _ _ _
 obtain ⟨oC,es,ep,hoC,hdC,hrC⟩:=id hn
 have I2':Inv X (pins++[(C,oC)]) σ H' s':=I'.pins_of fun p hp=>(List.mem_append.mp hp).elim (fun z=>I'.pin p (List.mem_append_right _ z)) fun z=>by
  have e:p=(C,oC):=by simpa using z
  subst e
  exact ⟨hoC,c0,c1,c2,fun v z=>by rw [hdC] at z;cases z⟩
 refine wpAny_assign_Name (store_ok I2' hXN hyi hy (v:=.ref E) rfl (fun s'' I''=>?_) hf)
 have hC2:=(I''.pin (C,oC) (List.mem_append_right _ (List.mem_append_right _ (by simp)))).1
 have I3:Inv X pins (σ.set i (some (.ref E))) H' s'':=I''.unpinned
 exact ⟨m,⟨oC,es,ep,hC2,hdC,hrC⟩,fun h' hs'=>⟨_,H',I3.turned (t':=s''.toks) (fun b o hb e=>(hs'.2 b hb).trans e) c0 c1 c3 c4 c5,q⟩⟩
end
structure ItOk (J:It) (xs:List V) (ok:Hp->Prop):Prop where
 stop:∀ H,ok H->J.stop xs.length H
 go:∀ i H,ok H->i < xs.length->J.go i H
 yld:∀ i H x H',ok H->i < xs.length->J.yld i H x H'->H'=H/\xs[i]? = some x
theorem it_list (K:PySem.W.Frag) (a:Addr) (xs:List V):ItOk (Itl K a) xs fun H=>SqL K H a xs:=
 ⟨fun H h=>⟨xs,h,Nat.le_refl _⟩,fun i H h hi=>⟨xs,xs[i],h,by simp [hi]⟩,fun i H x H' h hi y=>⟨y.1,y.2 xs h⟩⟩
theorem it_range (lo:Int) (n:Nat):ItOk (Itr lo n) ((List.range n).map fun i=>V.int (lo+(i:Nat))) fun _=>True:=
 ⟨fun H _=>by show n<=_;simp,fun i H _ hi=>(by show i < n;simpa using hi),fun i H x H' _ hi y=>⟨y.1,by
  have hi':i < n:=by simpa using hi
  obtain ⟨_,rfl⟩:=y
  simp [hi']⟩⟩
theorem comp_by {J:It} {D:Addr} {xs:List V} {ok:Hp->Prop} {g:TG} {tt:TT} {te:TE} {Q:Hp->Prop} {τ:St} {H:Hp} (IO:ItOk J xs ok) (Pv:Nat->St->Hp->List V->Prop) (hz:xs.length<=sizeLine) (h0:Pv 0 τ H [])
  (hl:∀ i τ H ys,i<=xs.length->Pv i τ H ys->ok H/\H D=some (.lst ys)/\ys.length<=i)
  (hs:∀ i x τ H ys,i < xs.length->xs[i]? = some x->Pv i τ H ys->g x τ H fun τ4 H4=>tt τ4 H4 fun b H5=>
   if b=true then te τ4 H5 fun y H6=>H6 D=some (.lst ys)/\Pv (i+1) τ4 (upd H6 D (.lst (ys++[y]))) (ys++[y]) else Pv (i+1) τ4 H5 ys)
  (hd:∀ τ H ys,Pv xs.length τ H ys->Q H) :
  ∃ W:Nat->Nat->St->Hp->List V->Prop,(∃ m,W 0 m τ H [])/\∀ i m τ H2 ys,W i m τ H2 ys->H2 D=some (.lst ys) ∧
   ((J.stop i H2/\Q H2)\/(J.go i H2/\ys.length < sizeLine/\∃ N:St->Hp->List V->Prop,(∀ τ' H' ys',N τ' H' ys'->∃ m',m' < m/\W (i+1) m' τ' H' ys')/\∀ x H3,J.yld i H2 x H3->g x τ H3 fun τ4 H4=>tt τ4 H4 fun b H5=>
    if b=true then te τ4 H5 fun y H6=>H6 D=some (.lst ys)/\N τ4 (upd H6 D (.lst (ys++[y]))) (ys++[y])
    else N τ4 H5 ys)):=by
 refine ⟨fun i m τ H ys=>m=xs.length - i/\i<=xs.length/\Pv i τ H ys,⟨xs.length,by simp,Nat.zero_le _,h0⟩,?_⟩
 rintro i m τ H ys ⟨rfl,hi,p⟩
 obtain ⟨q,hD,hy⟩:=hl i τ H ys hi p
 refine ⟨hD,?_⟩
 by_cases hlt:i < xs.length
 ·refine .inr ⟨IO.go i H q hlt,by omega,Pv (i+1),fun τ' H' ys' p'=>⟨xs.length - (i+1),by omega,rfl,hlt,p'⟩,fun x H' y=>?_⟩
  obtain ⟨e,hx⟩:=IO.yld i H x H' q hlt y
  subst e
  exact hs i x τ _ ys hlt hx p
 ·have e:i=xs.length:=by omega
  subst e
  exact .inl ⟨IO.stop H q,hd τ H ys p⟩
theorem for_by {J:It} {xs:List V} {ok:Hp->Prop} {g:TG} {tb:TS} {D:Ends} {σ:St} {H:Hp} (IO:ItOk J xs ok) (Pv:Nat->St->Hp->Prop) (h0:Pv 0 σ H) (hl:∀ i σ H,i<=xs.length->Pv i σ H->ok H)
  (hs:∀ i x σ H,i < xs.length->xs[i]? = some x->Pv i σ H->g x σ H fun σ2 H2=>tb { D with nx:=Pv (i+1),ct:=Pv (i+1),bk:=D.nx } σ2 H2) (hd:∀ σ H,Pv xs.length σ H->D.nx σ H) :
  ∃ W:Nat->Nat->St->Hp->Prop,(∃ m,W 0 m σ H)/\∀ i m σ H,W i m σ H →
   (J.stop i H/\D.nx σ H)\/(J.go i H/\∃ N:St->Hp->Prop,(∀ σ' H',N σ' H'->∃ m',m' < m/\W (i+1) m' σ' H')/\∀ x H',J.yld i H x H'->g x σ H' fun σ2 H2=>tb { D with nx:=N,ct:=N,bk:=D.nx } σ2 H2):=by
 refine ⟨fun i m σ H=>m=xs.length - i/\i<=xs.length/\Pv i σ H,⟨xs.length,by simp,Nat.zero_le _,h0⟩,?_⟩
 rintro i m σ H ⟨rfl,hi,p⟩
 have q:=hl i σ H hi p
 by_cases hlt:i < xs.length
 ·refine .inr ⟨IO.go i H q hlt,Pv (i+1),fun σ' H' p'=>⟨xs.length - (i+1),by omega,rfl,hlt,p'⟩,fun x H' y=>?_⟩
  obtain ⟨e,hx⟩:=IO.yld i H x H' q hlt y
  subst e
  exact hs i x σ _ hlt hx p
 ·have e:i=xs.length:=by omega
  subst e
  exact .inl ⟨IO.stop H q,hd σ H p⟩
end L2
end
section
namespace L2
open PySem PySem.Spec PyProof.Rows
section
variable {X:Cx}
def tyN (H:Hp):V->Option String
 | .non=>some "NoneType"
 | .bl _=>some "bool"
 | .int _=>some "int"
 | .str _=>some "str"
 | .ref a=>match H a with
  | some (.lst _)=>some "list"
  | some (.tup _)=>some "tuple"
  | some (.dK _)=>some "dict"
  | _=>none
 | _=>none
theorem call_isinst:CallR X (.builtin "isinstance") (fun xs H Q=>∃ x T Tx,xs=[x,.ty T]/\tyN H x=some Tx/\T∈["int","bool","list","tuple","str"]/\Q (.bl (Tx == T || (Tx == "bool" && T == "int"))) H):=by
 intro pins s σ H xs us Q I r h
 obtain ⟨x,T,Tx,rfl,hT,hm,q⟩:=h
 obtain ⟨u,w',rfl,r1,r2⟩:=vals2 r
 obtain rfl:w' = .type T:=r2
 have no:∀ {b:Bool},b=(Tx == T || (Tx == "bool" && T == "int"))->∀ tk,EP X pins σ Q (.bool b) { s with toks:=tk }:=fun {b} hb tk=>⟨.bl b,H,I.tok _,rfl,by rw [hb];exact q⟩
 have ye:∀ {b:Bool},b=(Tx == T || (Tx == "bool" && T == "int"))->EP X pins σ Q (.bool b) s:=fun {b} hb=>⟨.bl b,H,I,rfl,by rw [hb];exact q⟩
 simp only [List.mem_cons,List.not_mem_nil,or_false] at hm
 cases x with
 | int i=>
  obtain ⟨t,rfl⟩:=r1
  cases hT
  rcases hm with rfl | rfl | rfl | rfl | rfl
  ·exact IsiPair.int_int (ye (by decide))
  ·exact IsiPair.int_bool (no (by decide) _)
  ·exact IsiPair.int_list (no (by decide) _)
  ·exact IsiPair.int_tuple (no (by decide) _)
  ·exact IsiPair.int_str (no (by decide) _)
 | str i=>
  obtain ⟨t,rfl⟩:=r1
  cases hT
  rcases hm with rfl | rfl | rfl | rfl | rfl
  ·exact IsiPair.str_int (no (by decide) _)
  ·exact IsiPair.str_bool (no (by decide) _)
  ·exact IsiPair.str_list (no (by decide) _)
  ·exact IsiPair.str_tuple (no (by decide) _)
  ·exact IsiPair.str_str (ye (by decide))
 | bl i=>
  cases r1
  cases hT
  rcases hm with rfl | rfl | rfl | rfl | rfl
  ·exact IsiPair.bool_int (ye (by decide))
  ·exact IsiPair.bool_bool (ye (by decide))
  ·exact IsiPair.bool_list (no (by decide) _)
  ·exact IsiPair.bool_tuple (no (by decide) _)
  ·exact IsiPair.bool_str (no (by decide) _)
 | ref a=>
  cases r1
  cases hH:H a with
  | none=>simp [tyN,hH] at hT
  | some o=>
   cases o with
   | lst ys=>
    simp [tyN,hH] at hT
    subst hT
    obtain ⟨_,its,n,_,e⟩:=I.hok a _ hH
    have hx:∃ o,s.heap.get? a=some o/\o.cls = .type "list" := ⟨_,e,rfl⟩
    rcases hm with rfl | rfl | rfl | rfl | rfl
    ·exact call_isinstance (isinstance_false_list (by decide +kernel) F.isi_meta_int F.sub_list_int) ⟨hx,no (by decide) _⟩
    ·exact call_isinstance (isinstance_false_list (by decide +kernel) F.isi_meta_bool F.sub_list_bool) ⟨hx,no (by decide) _⟩
    ·exact call_isinstance (isinstance_true (Tx:= "list") F.isi_meta_list F.sub_list_list) ⟨⟨_,e,rfl⟩,ye (by decide)⟩
    ·exact call_isinstance (isinstance_false_list (by decide +kernel) F.isi_meta_tuple F.sub_list_tuple) ⟨hx,no (by decide) _⟩
    ·exact call_isinstance (isinstance_false_list (by decide +kernel) F.isi_meta_str F.sub_list_str) ⟨hx,no (by decide) _⟩
   | tup ys=>
    simp [tyN,hH] at hT
    subst hT
    obtain ⟨_,its,_,o,e,hc,_⟩:=I.hok a _ hH
    have hx:∃ o,s.heap.get? a=some o/\o.cls = .type "tuple" := ⟨_,e,hc⟩
    rcases hm with rfl | rfl | rfl | rfl | rfl
    ·exact call_isinstance (isinstance_false_tuple (by decide +kernel) F.isi_meta_int F.sub_tuple_int) ⟨hx,no (by decide) _⟩
    ·exact call_isinstance (isinstance_false_tuple (by decide +kernel) F.isi_meta_bool F.sub_tuple_bool) ⟨hx,no (by decide) _⟩
    ·exact call_isinstance (isinstance_false_tuple (by decide +kernel) F.isi_meta_list F.sub_tuple_list) ⟨hx,no (by decide) _⟩
    ·exact call_isinstance (isinstance_true (Tx:= "tuple") F.isi_meta_tuple F.sub_tuple_tuple) ⟨⟨_,e,hc⟩,ye (by decide)⟩
    ·exact call_isinstance (isinstance_false_tuple (by decide +kernel) F.isi_meta_str F.sub_tuple_str) ⟨hx,no (by decide) _⟩
   | dK ys=>
    simp [tyN,hH] at hT
    subst hT
    obtain ⟨_,_,vs,_,dd⟩:=I.hok a _ hH
    obtain ⟨o,es,ep,e,hc,_⟩:=dd
    have hx:∃ o,s.heap.get? a=some o/\o.cls = .type "dict" := ⟨o,e,hc.1⟩
    rcases hm with rfl | rfl | rfl | rfl | rfl
    ·exact call_isinstance (isinstance_false_dict (by decide +kernel) F.isi_meta_int F.sub_dict_int) ⟨hx,no (by decide) _⟩
    ·exact call_isinstance (isinstance_false_dict (by decide +kernel) F.isi_meta_bool F.sub_dict_bool) ⟨hx,no (by decide) _⟩
    ·exact call_isinstance (isinstance_false_dict (by decide +kernel) F.isi_meta_list F.sub_dict_list) ⟨hx,no (by decide) _⟩
    ·exact call_isinstance (isinstance_false_dict (by decide +kernel) F.isi_meta_tuple F.sub_dict_tuple) ⟨hx,no (by decide) _⟩
    ·exact call_isinstance (isinstance_false_dict (by decide +kernel) F.isi_meta_str F.sub_dict_str) ⟨hx,no (by decide) _⟩
   | _=>simp [tyN,hH] at hT
 | non=>
  cases r1
  cases hT
  rcases hm with rfl | rfl | rfl | rfl | rfl
  ·exact IsiPair.NoneType_int (no (by decide) _)
  ·exact IsiPair.NoneType_bool (no (by decide) _)
  ·exact IsiPair.NoneType_list (no (by decide) _)
  ·exact IsiPair.NoneType_tuple (no (by decide) _)
  ·exact IsiPair.NoneType_str (no (by decide) _)
 | _=>cases hT
end
end L2
end
section
namespace L2
open PySem PySem.Spec PyProof.Rows
mutual
inductive DV (H:Hp):V->PyData->Prop
 | non:DV H .non .none
 | bl (b:Bool):DV H (.bl b) (.bool b)
 | int (i:Int):DV H (.int i) (.int i)
 | str (x:Str):DV H (.str x) (.str x)
 | lst {a:Addr} {xs:List V} {ds:List PyData}:H a=some (.lst xs)->DVs H xs ds->DV H (.ref a) (.list ds)
 | tup {a:Addr} {xs:List V} {ds:List PyData}:H a=some (.tup xs)->DVs H xs ds->DV H (.ref a) (.tuple ds)
 | dic {a:Addr}:H a=some (.dK [])->DV H (.ref a) (.dict [])
inductive DVs (H:Hp):List V->List PyData->Prop
 | nil:DVs H [] []
 | cons {x:V} {d:PyData} {xs:List V} {ds:List PyData}:DV H x d->DVs H xs ds->DVs H (x :: xs) (d :: ds)
end
mutual
theorem DV.mono {H H':Hp} (k:Same H H'):∀ {v:V} {d:PyData},DV H v d->DV H' v d
 | _,_,.non=>.non
 | _,_,.bl b=>.bl b
 | _,_,.int i=>.int i
 | _,_,.str x=>.str x
 | _,_,.lst h r=>.lst (k _ _ h) (DVs.mono k r)
 | _,_,.tup h r=>.tup (k _ _ h) (DVs.mono k r)
 | _,_,.dic h=>.dic (k _ _ h)
theorem DVs.mono {H H':Hp} (k:Same H H'):∀ {vs:List V} {ds:List PyData},DVs H vs ds->DVs H' vs ds
 | _,_,.nil=>.nil
 | _,_,.cons h r=>.cons (DV.mono k h) (DVs.mono k r)
end
section
variable {X:Cx} {pins:List (Addr×Obj)} {σ:St} {H:Hp} {s:Shared}
mutual
theorem DV.reads (I:Inv X pins σ H s):∀ {v:V} {d:PyData} {u:Value},DV H v d->d.canLay0=true->RelV v u->∃ as,Reads s.heap u d as
 | _,_,_,.non,_,r=>by cases r;exact ⟨_,.none⟩
 | _,_,_,.bl b,_,r=>by cases r;exact ⟨_,.bool b⟩
 | _,_,_,.int i,_,r=>by obtain ⟨t,rfl⟩:=r;exact ⟨_,.int i t⟩
 | _,_,_,.str x,_,r=>by obtain ⟨t,rfl⟩:=r;exact ⟨_,.str x t⟩
 | _,_,_,.lst h rr,c,r=>by
  cases r
  obtain ⟨_,its,n,rv,e⟩:=I.hok _ _ h
  obtain ⟨as,q⟩:=DVs.reads I rr (by simpa [PyData.canLay0] using c) rv
  exact ⟨_,.list e rfl rfl (by simpa using q)⟩
 | _,_,_,.tup h rr,c,r=>by
  cases r
  obtain ⟨_,its,rv,o,e,hc,n,hd⟩:=I.hok _ _ h
  obtain ⟨as,q⟩:=DVs.reads I rr (by simpa [PyData.canLay0] using c) rv
  exact ⟨_,.tuple e hc hd (by simpa using q)⟩
 | _,_,_,.dic h,c,r=>by simp [PyData.canLay0] at c
theorem DVs.reads (I:Inv X pins σ H s):∀ {vs:List V} {ds:List PyData} {us:List Value},DVs H vs ds->PyData.canLayAll0 ds=true->Vals vs us->∃ as,ReadsAll s.heap us ds as
 | _,_,_,.nil,_,r=>by cases r;exact ⟨_,.nil⟩
 | _,_,_,.cons h rr,c,r=>by
  have c':=by simpa [PyData.canLayAll0] using c
  cases r with
  | cons r1 r2=>
   obtain ⟨as,q⟩:=DV.reads I h c'.1 r1
   obtain ⟨bs,p⟩:=DVs.reads I rr c'.2 r2
   exact ⟨_,.cons q p⟩
end
end
section
variable {X:Cx}
theorem op_eqD (hu:X.A.units+64 < cLine):OpR X (compareOp .Eq) (fun x y H Q=>∃ d e,DV H x d/\DV H y e/\SeqAt.shaped d=true/\SeqAt.shaped e=true/\Q (.bl (PyData.eqv d e)) H):=by
 intro pins s σ H x y v u Q I rx ry h
 obtain ⟨d,e,hd,he,sd,se,q⟩:=h
 obtain ⟨as,ra⟩:=hd.reads I (SeqAt.canLay_of_shaped sd) rx
 obtain ⟨bs,rb⟩:=he.reads I (SeqAt.canLay_of_shaped se) ry
 exact eq_dataH ra rb sd se hu ⟨.bl _,H,I,rfl,q⟩
theorem op_neD (hu:X.A.units+64 < cLine):OpR X (compareOp .NotEq) (fun x y H Q=>∃ d e,DV H x d/\DV H y e/\SeqAt.shaped d=true/\SeqAt.shaped e=true/\Q (.bl (!PyData.eqv d e)) H):=by
 intro pins s σ H x y v u Q I rx ry h
 obtain ⟨d,e,hd,he,sd,se,q⟩:=h
 obtain ⟨as,ra⟩:=hd.reads I (SeqAt.canLay_of_shaped sd) rx
 obtain ⟨bs,rb⟩:=he.reads I (SeqAt.canLay_of_shaped se) ry
 exact ne_dataH ra rb sd se hu ⟨.bl _,H,I,rfl,q⟩
end
mutual
theorem eqv_refl:∀ d:PyData,d.canLay0=true->PyData.eqv d d=true
 | .none,_=>by simp [PyData.eqv]
 | .bool b,_=>by simp [PyData.eqv]
 | .int i,_=>by simp [PyData.eqv]
 | .str x,_=>by simp [PyData.eqv]
 | .list xs,h=>by rw [PyData.eqv];exact eqvAll_refl xs (by simpa [PyData.canLay0] using h)
 | .tuple xs,h=>by rw [PyData.eqv];exact eqvAll_refl xs (by simpa [PyData.canLay0] using h)
 | .dict xs,h=>by simp [PyData.canLay0] at h
theorem eqvAll_refl:∀ ds:List PyData,PyData.canLayAll0 ds=true->PyData.eqvAll ds ds=true
 | [],_=>by simp [PyData.eqvAll]
 | d :: ds,h=>by
  have h':d.canLay0=true/\PyData.canLayAll0 ds=true:=by simpa [PyData.canLayAll0] using h
  rw [PyData.eqvAll,eqv_refl d h'.1,eqvAll_refl ds h'.2];rfl
end
def sg (b:Bool):Nat:=if b then 49 else 48
def bs (w:List Bool):Str:=⟨(w.map sg).toArray⟩
theorem bs_len (w:List Bool):(bs w).length=w.length:=by show ((w.map sg).toArray).size=_;simp
theorem sg_inj {a b:Bool} (h:sg a=sg b):a=b:=by cases a<;>cases b<;>first | rfl | cases h
theorem bs_inj {v w:List Bool} (h:bs v=bs w):v=w:=by
 have h1:(v.map sg).toArray=(w.map sg).toArray:=congrArg Str.cps h
 have h2:v.map sg=w.map sg:=by simpa using congrArg Array.toList h1
 clear h h1
 induction v generalizing w with
 | nil=>cases w<;>simp_all
 | cons a v ih=>
  cases w with
  | nil=>simp at h2
  | cons b w=>
   simp only [List.map_cons,List.cons.injEq] at h2
   rw [sg_inj h2.1,ih h2.2]
theorem bs_app (v w:List Bool):bs v++bs w=bs (v++w):=by
 show (⟨(v.map sg).toArray++(w.map sg).toArray⟩ : Str)=⟨((v++w).map sg).toArray⟩
 simp
theorem bs_nil:("" : Str)=bs []:=by decide +kernel
end L2
end
section
namespace L2
open PySem PySem.Spec PyProof.Rows
section
variable {X:Cx} {a b c e o:Expr} {es:List Expr} {pos:Pos}
theorem PE.of {t t':TE} (h:PE X e t) (k:∀ σ H Q,t' σ H Q->t σ H Q):PE X e t':=fun pins s σ H Q I q=>h pins s σ H Q I (k _ _ _ q)
theorem OpR.of {f:Value->Value->Sem Value} {r r':R2} (h:OpR X f r) (k:∀ x y H Q,r' x y H Q->r x y H Q):OpR X f r':=fun pins s σ H x y v u Q I rx ry q=>h pins s σ H x y v u Q I rx ry (k _ _ _ _ q)
def tV (i:Nat):TE:=fun σ H Q=>match σ[i]? with
 | some (some v)=>Q v H
 | _=>False
theorem vr (i:Nat) {x:Str} (hN:X.N[i]? = some x:=by rfl) (hv:Vis X.env.scope x:=by first | exact Or.inl rfl | exact Or.inr (Or.inl rfl) | exact Or.inr (Or.inr rfl)) (hd:(x == ("__debug__" : Str))=false:=by decide)
  (hcd:(x == ("__classdict__" : Str))=false:=by decide):PE X (.Name x pos) (tV i):=(pe_var hN hv hd hcd).of fun σ H Q q=>by
 unfold tV at q
 split at q
 ·exact ⟨_,by assumption,q⟩
 ·exact q.elim
def rN (C:Int->Int->Prop) (g:Int->Int->V):R2:=fun x y H Q=>match x,y with
 | .int i,.int j=>C i j/\Q (g i j) H
 | _,_=>False
def rN0 (g:Int->Int->V):R2:=fun x y H Q=>match x,y with
 | .int i,.int j=>Q (g i j) H
 | _,_=>False
theorem OpR.n {f:Value->Value->Sem Value} {C:Int->Int->Prop} {g:Int->Int->V} (h:OpR X f (rI C g)):OpR X f (rN C g):=h.of fun x y H Q q=>by
 unfold rN at q
 split at q
 ·exact ⟨_,_,rfl,rfl,q⟩
 ·exact q.elim
theorem OpR.n0 {f:Value->Value->Sem Value} {g:Int->Int->V} (h:OpR X f (rI0 g)):OpR X f (rN0 g):=h.of fun x y H Q q=>by
 unfold rN0 at q
 split at q
 ·exact ⟨_,_,rfl,rfl,q⟩
 ·exact q.elim
def rAddU:R2:=fun x y H Q=>match x,y with
 | .int i,.int j=>Q (.int (i+j)) H
 | .str i,.str j=>i.length+j.length<=sizeLine/\Q (.str (i++j)) H
 | .ref p,.ref q=>∃ xs zs,H p=some (.lst xs)/\H q=some (.lst zs)/\xs.length+zs.length<=sizeLine/\∀ n,H n=none->Q (.ref n) (upd H n (.lst (xs++zs)))
 | _,_=>False
theorem op_addU:OpR X (binaryOp .Add) rAddU:=(op_add.or (op_add_str.or op_cat)).of fun x y H Q q=>by
 unfold rAddU at q
 split at q
 ·exact .inl ⟨_,_,rfl,rfl,q⟩
 ·exact .inr (.inl ⟨_,_,rfl,rfl,q⟩)
 ·obtain ⟨xs,zs,h1,h2,h3,h4⟩:=q
  exact .inr (.inr ⟨_,_,xs,zs,rfl,rfl,h1,h2,h3,h4⟩)
 ·exact q.elim
def rMulU:R2:=fun x y H Q=>match x,y with
 | .int i,.int j=>CMul i j/\Q (.int (i * j)) H
 | .ref p,.int k=>∃ xs,H p=some (.lst xs)/\-(2 ^ 63)<=k/\k < 2 ^ 63/\xs.length * k.toNat<=sizeLine/\∀ n,H n=none->Q (.ref n) (upd H n (.lst (List.replicate k.toNat xs).flatten))
 | _,_=>False
theorem op_mulU:OpR X (binaryOp .Mult) rMulU:=(op_mul.or op_rep).of fun x y H Q q=>by
 unfold rMulU at q
 split at q
 ·exact .inl ⟨_,_,rfl,rfl,q⟩
 ·obtain ⟨xs,h1,h2,h3,h4,h5⟩:=q
  exact .inr ⟨_,_,xs,rfl,rfl,h1,h2,h3,h4,h5⟩
 ·exact q.elim
def rEqU:R2:=fun x y H Q=>match x,y with
 | .int i,.int j=>Q (.bl (decide (i=j))) H
 | .str i,.str j=>Q (.bl (decide (i=j))) H
 | .bl i,.bl j=>Q (.bl (decide (i=j))) H
 | .ref p,.ref q=>∃ d e,DV H (.ref p) d/\DV H (.ref q) e/\SeqAt.shaped d=true/\SeqAt.shaped e=true/\Q (.bl (PyData.eqv d e)) H
 | _,_=>False
theorem vint_dec (i j:Int):decide (V.int i=V.int j)=decide (i=j):=by simp
theorem vstr_dec (i j:Str):decide (V.str i=V.str j)=decide (i=j):=by simp
theorem vbl_dec (i j:Bool):decide (V.bl i=V.bl j)=decide (i=j):=by simp
theorem op_eqU (hu:X.A.units+64 < cLine):OpR X (compareOp .Eq) rEqU:=(op_eq.or (op_eqD hu)).of fun x y H Q q=>by
 unfold rEqU at q
 split at q
 ·exact .inl ⟨rfl,by rw [vint_dec];exact q⟩
 ·exact .inl ⟨rfl,by rw [vstr_dec];exact q⟩
 ·exact .inl ⟨rfl,by rw [vbl_dec];exact q⟩
 ·exact .inr q
 ·exact q.elim
def rNeU:R2:=fun x y H Q=>rEqU x y H fun v H'=>match v with
 | .bl k=>Q (.bl (!k)) H'
 | _=>False
theorem op_neU (hu:X.A.units+64 < cLine):OpR X (compareOp .NotEq) rNeU:=(op_ne.or (op_neD hu)).of fun x y H Q q=>by
 unfold rNeU rEqU at q
 split at q
 ·exact .inl ⟨rfl,by rw [vint_dec];exact q⟩
 ·exact .inl ⟨rfl,by rw [vstr_dec];exact q⟩
 ·exact .inl ⟨rfl,by rw [vbl_dec];exact q⟩
 ·exact .inr q
 ·exact q.elim
def getV (H:Hp) (x:V) (i:Int):Option V:=match x with
 | .ref p=>match H p with
  | some (.lst xs)=>atI xs i
  | some (.tup xs)=>atI xs i
  | some (.frz _ (.lst xs))=>atI xs i
  | _=>none
 | .str z=>if z.length<=sizeLine then (atI z.cps.toList i).map fun c=>V.str ⟨#[c]⟩ else none
 | _=>none
theorem getV_lst {H:Hp} {p:Addr} {xs:List V} {i:Int} (h:H p=some (.lst xs)):getV H (.ref p) i=atI xs i:=by simp [getV,h]
theorem getV_tup {H:Hp} {p:Addr} {xs:List V} {i:Int} (h:H p=some (.tup xs)):getV H (.ref p) i=atI xs i:=by simp [getV,h]
def rIxU:R2:=fun x y H Q=>match y with
 | .int i=>∃ v,getV H x i=some v/\Q v H
 | _=>False
theorem ixU:IxR X rIxU:=by
 intro value slice pins s σ H x y v u Q I rx ry q hs
 refine ix_seq value slice pins s σ H x y v u Q I rx ry ?_ hs
 unfold rIxU at q
 split at q
 ·obtain ⟨z,hz,q⟩:=q
  unfold getV at hz
  split at hz
  ·split at hz
   ·rename_i xs hx
    exact .inl ⟨_,xs,_,z,rfl,rfl,SqL.of hx,hz,q⟩
   ·rename_i xs hx
    exact .inr (.inl ⟨_,xs,_,z,rfl,rfl,SqT.of hx,hz,q⟩)
   ·rename_i oo xs hx
    exact .inl ⟨_,xs,_,z,rfl,rfl,.inl (.inr ⟨_,hx⟩),hz,q⟩
   ·cases hz
  ·split at hz
   ·rename_i hl
    obtain ⟨c,hc,rfl⟩:=Option.map_eq_some_iff.mp hz
    exact .inr (.inr ⟨_,_,c,rfl,rfl,hl,hc,q⟩)
   ·cases hz
  ·cases hz
 ·exact q.elim
def tBU (t:TE):TT:=fun σ H Q=>t σ H fun x H1=>match x with
 | .bl c=>Q c H1
 | _=>False
theorem bu_of {Q:Bool->Hp->Prop} {x:V} {H1:Hp} (q:match x with | .bl c=>Q c H1 | _=>False):∃ c,x = .bl c/\Q c H1:=by
 split at q
 ·exact ⟨_,rfl,q⟩
 ·exact q.elim
theorem pt_cmpU {op:CmpOp} {r:R2} {ta tb:TE} (ho:OpR X (compareOp op) r) (ha:PE X a ta) (hb:PE X b tb) (hm:behindInMarks op b=false:=by first | exact nomark _ | rfl | (with_unfolding_all rfl)):PT X (.Compare a [op] [b] pos) (tBU (tOp r ta tb)):=by
 intro pins s σ H Q I h
 refine wpAny_isTrue_Compare1 (thn (ha pins s σ H _ I h) fun v s1 ⟨x,H1,I1,r1,q1⟩=>thn (hb pins s1 σ H1 _ I1 q1) fun u s2 ⟨y,H2,I2,r2,q2⟩=>
  thn (ho pins s2 σ H2 x y v u _ I2 r1 r2 q2) fun c s3 ⟨z,H3,I3,r3,q3⟩=>?_) hm
 obtain ⟨k,e,q3⟩:=bu_of q3
 subst e
 cases r3
 exact wpAny_truthy_bool ⟨H3,I3,q3⟩
theorem pe_cmpU {op:CmpOp} {r:R2} {ta tb:TE} (ho:OpR X (compareOp op) r) (ha:PE X a ta) (hb:PE X b tb) (hm:behindInMarks op b=false:=by first | exact nomark _ | rfl | (with_unfolding_all rfl)):PE X (.Compare a [op] [b] pos) (tOp r ta tb):=pe_cmpR ho ha hb hm
def tAndU (ta tb:TE):TE:=fun σ H Q=>ta σ H fun x H1=>match x with
 | .bl c=>if c=true then tb σ H1 Q else Q (.bl false) H1
 | _=>False
def tNotU (ta:TE):TE:=fun σ H Q=>ta σ H fun x H1=>match x with
 | .bl c=>Q (.bl (!c)) H1
 | _=>False
variable {ta tb tc:TE} {rest:List Expr}
theorem pe_andU (ha:PE X a ta) (hb:PE X (.BoolOp .And (b :: rest) pos) tb):PE X (.BoolOp .And (a :: b :: rest) pos) (tAndU ta tb):=by
 intro pins s σ H Q I h
 refine BoolOp_and (thn (ha pins s σ H _ I h) fun v s1 ⟨x,H1,I1,r1,q1⟩=>?_)
 dsimp only at q1
 split at q1
 ·rename_i c
  cases r1
  refine wpAny_truthy_bool ?_
  cases c with
  | true=>exact hb pins s1 σ H1 Q I1 q1
  | false=>exact ⟨.bl false,H1,I1,rfl,q1⟩
 ·exact q1.elim
theorem pe_notU (ha:PE X a ta):PE X (.UnaryOp .Not a pos) (tNotU ta):=by
 intro pins s σ H Q I h
 refine UnaryOp_ (thn (ha pins s σ H _ I h) fun v s1 ⟨x,H1,I1,r1,q1⟩=>?_)
 dsimp only at q1
 split at q1
 ·cases r1
  exact not_of (wpAny_truthy_bool ⟨.bl _,H1,I1,rfl,q1⟩)
 ·exact q1.elim
theorem CallR.of {f:Value} {r r':List V->Hp->VK->Prop} (h:CallR X f r) (k:∀ xs H Q,r' xs H Q->r xs H Q):CallR X f r':=fun pins s σ H xs us Q I rx q=>h pins s σ H xs us Q I rx (k _ _ _ q)
theorem MtM.of {id:String} {r r':V->List V->Hp->VK->Prop} (h:MtM X id r) (k:∀ x xs H Q,r' x xs H Q->r x xs H Q):MtM X id r':=fun pins s σ H x xs v us Q I rx rs q=>h pins s σ H x xs v us Q I rx rs (k _ _ _ _ q)
def lenV (H:Hp) (x:V):Option Nat:=match x with
 | .str z=>if z.length<=sizeLine then some z.length else none
 | .ref p=>match H p with
  | some (.lst xs)=>some xs.length
  | some (.tup xs)=>some xs.length
  | some (.frz _ (.lst xs))=>some xs.length
  | _=>none
 | _=>none
def rLen:List V->Hp->VK->Prop:=fun vs H Q=>match vs with
 | [x]=>∃ k:Nat,lenV H x=some k/\Q (.int k) H
 | _=>False
theorem call_lenU:CallR X (.builtin "len") rLen:=(call_len_seq.or call_len_str).of fun xs H Q q=>by
 unfold rLen at q
 split at q
 ·obtain ⟨k,hk,q⟩:=q
  unfold lenV at hk
  split at hk
  ·split at hk
   ·rename_i hl
    cases hk
    exact .inr ⟨_,rfl,hl,q⟩
   ·cases hk
  ·split at hk
   ·cases hk;exact .inl ⟨_,_,rfl,.inl (SqL.of (by assumption)),q⟩
   ·cases hk;exact .inl ⟨_,_,rfl,.inr (SqT.of (by assumption)),q⟩
   ·cases hk;exact .inl ⟨_,_,rfl,.inl (.inl (.inr ⟨_,by assumption⟩)),q⟩
   ·cases hk
  ·cases hk
 ·exact q.elim
def rListOf:List V->Hp->VK->Prop:=fun vs H Q=>match vs with
 | [.ref p]=>∃ xs,(H p=some (.lst xs)\/H p=some (.tup xs))/\∀ l,H l=none->Q (.ref l) (upd H l (.lst xs))
 | _=>False
theorem call_listU:CallR X (.type "list") rListOf:=call_list_of.of fun xs H Q q=>by
 unfold rListOf at q
 split at q
 ·obtain ⟨ys,h,q⟩:=q
  exact ⟨_,ys,rfl,h.elim (fun z=>.inl (SqL.of z)) (fun z=>.inr (SqT.of z)),q⟩
 ·exact q.elim
def rMax:List V->Hp->VK->Prop:=fun vs H Q=>match vs with
 | [.int i,.int j]=>Q (.int (if j > i then j else i)) H
 | _=>False
theorem call_maxU (hc:X.calm=true):CallR X (.builtin "max") rMax:=(call_max2 hc).of fun xs H Q q=>by
 unfold rMax at q
 split at q
 ·exact ⟨_,_,rfl,q⟩
 ·exact q.elim
def rMin:List V->Hp->VK->Prop:=fun vs H Q=>match vs with
 | [.int i,.int j]=>Q (.int (if j < i then j else i)) H
 | _=>False
theorem call_minU (hc:X.calm=true):CallR X (.builtin "min") rMin:=(call_min2 hc).of fun xs H Q q=>by
 unfold rMin at q
 split at q
 ·exact ⟨_,_,rfl,q⟩
 ·exact q.elim
def rIsI:List V->Hp->VK->Prop:=fun vs H Q=>match vs with
 | [x,.ty T]=>∃ Tx,tyN H x=some Tx/\T∈["int","bool","list","tuple","str"]/\Q (.bl (Tx == T || (Tx == "bool" && T == "int"))) H
 | _=>False
theorem call_isU:CallR X (.builtin "isinstance") rIsI:=call_isinst.of fun xs H Q q=>by
 unfold rIsI at q
 split at q
 ·obtain ⟨Tx,h1,h2,q⟩:=q
  exact ⟨_,_,Tx,rfl,h1,h2,q⟩
 ·exact q.elim
def rApp:V->List V->Hp->VK->Prop:=fun x vs H Q=>match x,vs with
 | .ref l,[y]=>∃ xs,H l=some (.lst xs)/\xs.length < sizeLine/\Q .non (upd H l (.lst (xs++[y])))
 | _,_=>False
theorem mt_appU:MtM X "list.append" rApp:=mt_append.of fun x xs H Q q=>by
 unfold rApp at q
 split at q
 ·obtain ⟨ys,h1,h2,q⟩:=q
  exact ⟨_,ys,_,rfl,rfl,h1,h2,q⟩
 ·exact q.elim
def tyU (H:Hp) (T:String):V->Prop
 | .str _=>T = "str"
 | .int _=>T = "int"
 | .ref p=>∃ xs,T = "list"/\H p=some (.lst xs)
 | _=>False
theorem tyU_of {K:PySem.W.Frag} {H:Hp} {T:String} {x:V} (h:tyU H T x):tyV K T x H:=by
 cases x with
 | str z=>exact h
 | int z=>exact h
 | ref p=>obtain ⟨xs,h1,h2⟩:=h;exact .inl ⟨h1,xs,SqL.of h2⟩
 | _=>exact h.elim
end
theorem le_line {n:Nat} (h:n<=1000):n<=sizeLine:=Nat.le_trans h (by decide)
theorem lt_line {n:Nat} (h:n<=1000):n < sizeLine:=Nat.lt_of_le_of_lt h (by decide)
theorem Same.upd {H:Hp} {p:Addr} {o:HO} (h:H p=none):Same H (upd H p o):=fun b u e=>by rw [upd_ne (ne_of_none e h)];exact e
theorem atI_int {α:Type} {xs:List α} {i:Int} {v:α} (h0:0<=i) (h:xs[i.toNat]? = some v):atI xs i=some v:=by
 have e:i=(i.toNat:Int):=by omega
 rw [e]
 exact atI_nat h
theorem gl {H:Hp} {p:Addr} {xs:List V} {i:Int} {v:V} (h:H p=some (.lst xs)) (h0:0<=i) (hv:xs[i.toNat]? = some v):getV H (.ref p) i=some v:=by rw [getV_lst h];exact atI_int h0 hv
theorem gt {H:Hp} {p:Addr} {xs:List V} {i:Int} {v:V} (h:H p=some (.tup xs)) (h0:0<=i) (hv:xs[i.toNat]? = some v):getV H (.ref p) i=some v:=by rw [getV_tup h];exact atI_int h0 hv
theorem lenL {H:Hp} {p:Addr} {xs:List V} (h:H p=some (.lst xs)):lenV H (.ref p)=some xs.length:=by simp [lenV,h]
theorem gs {H:Hp} {w:List Bool} {i:Int} {b:Bool} (hz:w.length<=sizeLine) (h0:0<=i) (hv:w[i.toNat]? = some b):getV H (.str (bs w)) i=some (.str (bs [b])):=by
 show (if (bs w).length<=sizeLine then (atI (bs w).cps.toList i).map fun c=>V.str ⟨#[c]⟩ else none)=_
 rw [if_pos (by rw [bs_len];exact hz)]
 have:atI (bs w).cps.toList i=some (sg b):=atI_int h0 (by show ((w.map sg).toArray.toList)[i.toNat]? = _;simp [hv])
 rw [this]
 rfl
end L2
end
section
namespace L2
open PySem
end L2
end
section
namespace L2
open PySem PySem.Spec PyProof.Rows
def FnX (K:PySem.W.Frag) (mg:Str->Option Value) (x:Str) (st:Stmt) (ps:List Str):Prop:=∃ f fd,Fun K x x st f fd/\mg x=some (.ref f)/\Binds K fd ps []
def Can (P:Program) (w:World) (K:PySem.W.Frag) (mg:Str->Option Value) (base:Heap) (x:Str) (k:Nat) (ps:List Str) (sp:Sp):Prop:=
 ∃ f fd,FnOk P w K mg base CX0 k f fd ps sp/\mg x=some (.ref f)/\PySem.W.keepIn K (.ref f)=true/\Binds K fd ps []
section
variable {P:Program} {w:World} {K:PySem.W.Frag} {mg:Str->Option Value} {base:Heap}
theorem can_fn {x:Str} {st:Stmt} {N ps:List Str} {k:Nat} {sp:Sp} (D:FnX K mg x st ps) (S:FnScope N ps (defScope st)) (len:∀ vs H Q E,sp vs H Q E->vs.length=ps.length)
  (hbody:∀ (f:Addr) (cdv:Value) (A:Around) (outer:List Env) (s:Shared) (H:Hp) (vs:List V) (Q:VK) (E:XK),Room k (A.deeper (envOfC x (defScope st) s.heap.objs.size f cdv))->sp vs H Q E →
   ∃ t,PSs (cxOf CX0 P w K mg base N x (defScope st) f cdv A outer s H E).nox (defBody st) t/\t { nx:=fun _ H'=>Q .non H',rt:=Q } (start N vs) H):Can P w K mg base x (k+1) ps sp:=by
 obtain ⟨f,fd,F,hm,hb⟩:=D
 exact ⟨f,fd,F.ok S len fun cdv A outer s H vs Q E hr h=>hbody f cdv A outer s H vs Q E hr h,hm,F.kp,hb⟩
end
section
variable {X:Cx} {x:Str} {p pos apos:Pos} {e o:Expr} {es:List Expr} {t:TA} {te to ti:TE} {k:Nat} {ps:List Str} {sp:Sp}
def tCan (sp:Sp) (t:TA):TE:=fun σ H Q=>t σ H fun vs H1=>sp vs H1 Q E0
theorem PA.of {t t':TA} (h:PA X es t) (k:∀ σ H Q,t' σ H Q->t σ H Q):PA X es t':=fun pos pins s σ H Q I q=>h pos pins s σ H Q I (k _ _ _ q)
theorem pe_can (C:Can X.prog X.w X.K X.mg X.base x k ps sp) (hr:Room k X.A) (ha:PA X (e :: es) t) (hg:Gl X x:=by rfl)
  (hdb:(x == ("__debug__" : Str))=false:=by decide) (he:starEach (e :: es) X.env=(false,eval e X.env) :: starEach es X.env:=by rfl) (hpl:(backTo pos (starEach es X.env)).any (·.1)=false:=by rfl) :
  PE X (.Call (.Name x p) (e :: es) [] pos) (tCan sp t):=by
 obtain ⟨f,fd,F,hm,hk,hb⟩:=C
 have h:=pe_call (pos:=pos) (p:=p) F hr hg hm hk hb .nil pass0 ha hdb he hpl
 intro pins s σ H Q I q
 refine thn (h pins s σ H Q I ?_) fun _ _ z=>z
 have ee:tCall sp [] E0 t=tCan sp t:=by funext σ H Q;unfold tCall tCan;simp only [List.append_nil]
 rw [ee]
 exact q
theorem pe_len (hm:X.mg "len" = none) (ha:PA X (e :: es) t) (hg:Gl X "len" := by rfl) (he:starEach (e :: es) X.env=(false,eval e X.env) :: starEach es X.env:=by rfl) (hpl:(backTo pos (starEach es X.env)).any (·.1)=false:=by rfl) :
  PE X (.Call (.Name "len" p) (e :: es) [] pos) (tCB rLen t):=pe_callB call_lenU hg hm PySem.boot_len ha (he:=he) (hpl:=hpl)
theorem pe_isinst (hm:X.mg "isinstance" = none) (ha:PA X (e :: es) t) (hg:Gl X "isinstance" := by rfl) (he:starEach (e :: es) X.env=(false,eval e X.env) :: starEach es X.env:=by rfl) (hpl:(backTo pos (starEach es X.env)).any (·.1)=false:=by rfl) :
  PE X (.Call (.Name "isinstance" p) (e :: es) [] pos) (tCB rIsI t):=pe_callB call_isU hg hm PyProof.Rows.boot_isinstance ha (he:=he) (hpl:=hpl)
theorem pe_max (hc:X.calm=true) (hm:X.mg "max" = none) (ha:PA X (e :: es) t) (hg:Gl X "max" := by rfl) (he:starEach (e :: es) X.env=(false,eval e X.env) :: starEach es X.env:=by rfl) (hpl:(backTo pos (starEach es X.env)).any (·.1)=false:=by rfl) :
  PE X (.Call (.Name "max" p) (e :: es) [] pos) (tCB rMax t):=pe_callB (call_maxU hc) hg hm PyProof.Rows.boot_max ha (he:=he) (hpl:=hpl)
theorem pe_min (hc:X.calm=true) (hm:X.mg "min" = none) (ha:PA X (e :: es) t) (hg:Gl X "min" := by rfl) (he:starEach (e :: es) X.env=(false,eval e X.env) :: starEach es X.env:=by rfl) (hpl:(backTo pos (starEach es X.env)).any (·.1)=false:=by rfl) :
  PE X (.Call (.Name "min" p) (e :: es) [] pos) (tCB rMin t):=pe_callB (call_minU hc) hg hm PyProof.Rows.boot_min ha (he:=he) (hpl:=hpl)
theorem pe_ty {T:String} (hb:bootBuiltins x=some (.type T)) (hm:X.mg x=none) (hg:Gl X x:=by rfl) (hn:x≠"__name__" := by decide) (hd:(x == ("__debug__" : Str))=false:=by decide):PE X (.Name x pos) (tC (.ty T)):=pe_bltn hg hm hb rfl hn hd
def tMt (T:String) (r:V->List V->Hp->VK->Prop) (to:TE) (t:TA):TE:=fun σ H Q=>to σ H fun x H1=>tyU H1 T x/\t σ H1 fun xs H2=>r x xs H2 Q
theorem pe_mt {T id:String} {name:Str} {cpos:Pos} {r:V->List V->Hp->VK->Prop} (pa:PlainAttrs T) (slot:Slot T name id) (hty:typeOf (.builtin id)=pure (.type "method_descriptor")) (hm:MtM X id r) (ho:PE X o to) (ha:PA X (e :: es) t)
  (hbase:attributeBase o name X.env (eval o X.env)=eval o X.env:=by rfl)
  (hfew:((backTo cpos (starEach (e :: es) X.env)).all (fun x=>!x.1) && (backToKw cpos (keywordEach [] X.env)).all (fun x=>x.1.isSome)
   && decide ((e :: es).length+([]:List Keyword).length+(if ([]:List Keyword).isEmpty then 0 else 1) < 30))=true:=by rfl)
  (hline:(apos.endLine == cpos.line)=true:=by rfl) (hs:starEach (e :: es) X.env=(false,eval e X.env) :: starEach es X.env:=by rfl) (hplain:(backTo cpos (starEach es X.env)).any (·.1)=false:=by rfl) :
  PE X (.Call (.Attribute o name apos) (e :: es) [] cpos) (tMt T r to t):=by
 intro pins s σ H Q I h
 refine wpAny_Call_method_late hbase hfew hline rfl (thn (ho pins s σ H _ I h) fun v s1 ⟨x,H1,I1,r1,ty,q1⟩=>?_)
 obtain ⟨h1,h2⟩:=tyV_is I1 r1 (tyU_of ty)
 refine ⟨T,id,pa,slot,hty,h1,h2,?_⟩
 have hA:=ha cpos pins s1 σ H1 _ I1 q1
 rw [hs] at hA ⊢
 refine Calls.callWith_builtin (by show (false || (backTo cpos (starEach es X.env)).any (·.1))=false;rw [hplain]<;>rfl) (Calls.evalArgs_plain ?_)
 exact thn hA fun us s2 ⟨vs,H2,I2,r2,q2⟩=>hm pins s2 σ H2 x vs v us Q I2 r1 r2 q2
def rSetU:V->V->V->Hp->(Hp->Prop)->Prop:=fun o i v H Q=>match o,i with
 | .ref p,.int k=>∃ xs j,H p=some (.lst xs)/\ixN xs.length k=some j/\Q (upd H p (.lst (xs.set j v)))
 | _,_=>False
theorem setU:PSet X rSetU:=by
 intro pins s σ H o i v ov iv u Q I ro ri rv q
 refine set_list pins s σ H o i v ov iv u Q I ro ri rv ?_
 unfold rSetU at q
 split at q
 ·obtain ⟨xs,j,h1,h2,q⟩:=q
  exact ⟨_,xs,_,j,rfl,rfl,h1,h2,q⟩
 ·exact q.elim
def gTupU (K:PySem.W.Frag) (n:Nat) (t:TGs):TG:=fun v σ H Q=>match v with
 | .ref a=>∃ xs,H a=some (.tup xs)/\xs.length=n/\t xs σ H Q
 | _=>False
def gConsU (t:TG) (u:TGs):TGs:=fun vs σ H Q=>match vs with
 | v :: r=>t v σ H fun σ' H'=>u r σ' H' Q
 | []=>False
theorem pgs_consU {es:List Expr} {t:TG} {u:TGs} (h1:PG X e t) (h2:PGs X es u)
  (hs:(assignEach (e :: es) X.env).map (·.2)=assign e X.env :: (assignEach es X.env).map (·.2):=by rfl):PGs X (e :: es) (gConsU t u):=by
 intro pins s σ H vs us Q I r hw
 refine pgs_cons h1 h2 hs pins s σ H vs us Q I r ?_
 unfold gConsU at hw
 split at hw
 ·exact ⟨_,_,rfl,hw⟩
 ·exact hw.elim
variable {tg:Expr}
def iLst (K:PySem.W.Frag) (tl:TE):TI:=fun σ H R=>tl σ H fun x H1=>match x with
 | .ref a=>(∃ xs,SqL K H1 a xs)/\R (Itl K a) H1
 | _=>False
theorem pi_lst {l:Expr} {tl:TE} (hl:PE X l tl):PI X tg l (iLst X.K tl):=by
 intro pins s σ H R I h
 refine thn (hl pins s σ H _ I h) fun v s1 ⟨x,H1,I1,r1,q1⟩=>?_
 dsimp only at q1
 split at q1
 ·rename_i a
  obtain ⟨⟨xs,hq⟩,q⟩:=q1
  cases r1
  obtain ⟨its,rv,p,hz⟩:=I1.list hq
  refine wpAny_pyIter_list p.isList ?_
  refine ⟨s1.heap.objs.size,[s1.heap.objs.size],_,_,H1,rfl,I1.kept (t':=s1.toks) fun b o e=>Heap.get?_push_of_some _ e,turn_list a _,⟨_,Heap.get?_push_size _ rfl,rfl,rfl⟩,fun b hb=>?_,q⟩
  have e:b=s1.heap.objs.size:=by simpa using hb
  subst e
  exact I1.fpOk (Nat.le_refl _) (I1.hok.fresh (Nat.le_refl _))
 ·exact q1.elim
def iR1 (ta:TA):TI:=fun σ H R=>ta σ H fun vs H1=>match vs with
 | [.int j]=>-(2 ^ 62)<=j/\j < 2 ^ 62/\R (Itr 0 j.toNat) H1
 | _=>False
theorem PI.of {iter:Expr} {w w':TI} (h:PI X tg iter w) (k:∀ σ H R,w' σ H R->w σ H R):PI X tg iter w':=fun pins s σ H R I q=>h pins s σ H R I (k _ _ _ q)
theorem pi_r1 {a:Expr} {ta:TA} (hm:X.mg "range" = none) (ha:PA X [a] ta) (hg:Gl X "range" := by rfl) (hs:starEach [a] X.env=[(false,eval a X.env)]:=by rfl):PI X tg (.Call (.Name "range" p) [a] [] pos) (iR1 ta):=by
 intro pins s σ H R I h
 refine Call_ (ld_blt I hg hm boot_range (PyProof.Rows.callWith_type1 (thn (ha pos pins s σ H _ I h) fun us s1 ⟨vs,H1,I1,r1,q1⟩=>?_) hs rfl))
 dsimp only at q1
 split at q1
 ·obtain ⟨q1,q2,q⟩:=q1
  obtain ⟨u,rfl,t,rfl⟩:=vals1 r1
  exact call_range_1 (range_it I1 (by omega) (by omega) q1 q2 (by simpa using q))
 ·exact q1.elim
end
end L2
end
section
namespace L2
open PySem PySem.Spec PyProof.Rows
def visB (sc:Scope) (x:Str):Bool:=(match sc.names.lookup x with
 | some .local=>true
 | some .cell=>true
 | some .free=>true
 | _=>false) && (!(x == ("__debug__" : Str)) && !(x == ("__classdict__" : Str)))
theorem vis_of {sc:Scope} {x:Str} (h:visB sc x=true):Vis sc x/\(x == ("__debug__" : Str))=false/\(x == ("__classdict__" : Str))=false:=by
 unfold visB at h
 simp only [Bool.and_eq_true,Bool.not_eq_true'] at h
 obtain ⟨h1,h2,h3⟩:=h
 refine ⟨?_,h2,h3⟩
 split at h1
 ·exact .inl (by assumption)
 ·exact .inr (.inl (by assumption))
 ·exact .inr (.inr (by assumption))
 ·cases h1
def locB (sc:Scope) (x:Str):Bool:=match sc.names.lookup x with
 | some .local=>true
 | some .cell=>true
 | _=>false
theorem loc_of {sc:Scope} {x:Str} (h:locB sc x=true):Loc sc x:=by
 unfold locB at h
 split at h
 ·exact .inl (by assumption)
 ·exact .inr (by assumption)
 ·cases h
section
variable {X:Cx} {x:Str} {pos:Pos}
theorem vk (i:Nat) (hN:X.N[i]? = some x:=by rfl) (hv:visB X.env.scope x=true:=by kernel_rfl):PE X (.Name x pos) (tV i):=
 vr i hN (vis_of hv).1 (vis_of hv).2.1 (vis_of hv).2.2
theorem gk (i:Nat) (hN:X.N.Nodup) (hi:X.N[i]? = some x:=by rfl) (hx:locB X.env.scope x=true:=by kernel_rfl) (hf:(X.fn x || X.env.scope.names.lookup x == some .local)=true:=by kernel_rfl):PG X (.Name x pos) (gName i):=
 pg_name hN hi (loc_of hx) (by
  rw [Bool.or_eq_true] at hf
  exact hf.elim .inl fun z=>.inr (eq_of_beq z))
theorem vn (x:Str) (i:Nat) (hN:X.N[i]? = some x:=by with_unfolding_all rfl) (hv:visB X.env.scope x=true:=by kernel_rfl):PE X (.Name x pos) (tV i):=vk i hN hv
theorem gn (x:Str) (i:Nat) (hN:X.N.Nodup) (hi:X.N[i]? = some x:=by with_unfolding_all rfl) (hx:locB X.env.scope x=true:=by kernel_rfl) (hf:(X.fn x || X.env.scope.names.lookup x == some .local)=true:=by kernel_rfl):PG X (.Name x pos) (gName i):=gk i hN hi hx hf
def gB (X:Cx) (x:Str):Bool:=X.env.scope.names.lookup x == some .globalImplicit
theorem gl_of (h:gB X x=true):Gl X x:=eq_of_beq h
variable {p apos:Pos} {e o:Expr} {es:List Expr} {t:TA} {te to ti:TE} {k:Nat} {ps:List Str} {sp:Sp} {tg:Expr}
theorem fn_can (x:Str) {P':Program} {w':World} {K':PySem.W.Frag} {mg':Str->Option Value} {base':Heap} (C:Can P' w' K' mg' base' x k ps sp) (hX:X.prog=P'/\X.w=w'/\X.K=K'/\X.mg=mg'/\X.base=base') (hr:Room k X.A) (ha:PA X (e :: es) t) (hg:gB X x=true:=by kernel_rfl)
  (hdb:(x == ("__debug__" : Str))=false:=by kernel_rfl) (he:starEach (e :: es) X.env=(false,eval e X.env) :: starEach es X.env:=by kernel_rfl) (hpl:(backTo pos (starEach es X.env)).any (·.1)=false:=by kernel_rfl) :
  PE X (.Call (.Name x p) (e :: es) [] pos) (tCan sp t):=by
 obtain ⟨rfl,rfl,rfl,rfl,rfl⟩:=hX
 exact pe_can C hr ha (gl_of hg) hdb he hpl
theorem fn_len {mg':Str->Option Value} (hm:mg' "len" = none) (hX:X.mg=mg') (ha:PA X (e :: es) t) (hg:gB X "len" = true:=by kernel_rfl) (he:starEach (e :: es) X.env=(false,eval e X.env) :: starEach es X.env:=by kernel_rfl) (hpl:(backTo pos (starEach es X.env)).any (·.1)=false:=by kernel_rfl) :
  PE X (.Call (.Name "len" p) (e :: es) [] pos) (tCB rLen t):=pe_len (by rw [hX];exact hm) ha (gl_of hg) he hpl
theorem fn_isinst {mg':Str->Option Value} (hm:mg' "isinstance" = none) (hX:X.mg=mg') (ha:PA X (e :: es) t) (hg:gB X "isinstance" = true:=by kernel_rfl) (he:starEach (e :: es) X.env=(false,eval e X.env) :: starEach es X.env:=by kernel_rfl) (hpl:(backTo pos (starEach es X.env)).any (·.1)=false:=by kernel_rfl) :
  PE X (.Call (.Name "isinstance" p) (e :: es) [] pos) (tCB rIsI t):=pe_isinst (by rw [hX];exact hm) ha (gl_of hg) he hpl
theorem fn_max {mg':Str->Option Value} (hm:mg' "max" = none) (hX:X.mg=mg') (ha:PA X (e :: es) t) (hc:X.calm=true:=by kernel_rfl) (hg:gB X "max" = true:=by kernel_rfl) (he:starEach (e :: es) X.env=(false,eval e X.env) :: starEach es X.env:=by kernel_rfl) (hpl:(backTo pos (starEach es X.env)).any (·.1)=false:=by kernel_rfl) :
  PE X (.Call (.Name "max" p) (e :: es) [] pos) (tCB rMax t):=pe_max hc (by rw [hX];exact hm) ha (gl_of hg) he hpl
theorem fn_min {mg':Str->Option Value} (hm:mg' "min" = none) (hX:X.mg=mg') (ha:PA X (e :: es) t) (hc:X.calm=true:=by kernel_rfl) (hg:gB X "min" = true:=by kernel_rfl) (he:starEach (e :: es) X.env=(false,eval e X.env) :: starEach es X.env:=by kernel_rfl) (hpl:(backTo pos (starEach es X.env)).any (·.1)=false:=by kernel_rfl) :
  PE X (.Call (.Name "min" p) (e :: es) [] pos) (tCB rMin t):=pe_min hc (by rw [hX];exact hm) ha (gl_of hg) he hpl
theorem ty_int {mg':Str->Option Value} (hm:mg' "int" = none) (hX:X.mg=mg') (hg:gB X "int" = true:=by kernel_rfl):PE X (.Name "int" pos) (tC (.ty "int")):=pe_ty PyProof.Rows.boot_int (by rw [hX];exact hm) (gl_of hg)
theorem ty_bool {mg':Str->Option Value} (hm:mg' "bool" = none) (hX:X.mg=mg') (hg:gB X "bool" = true:=by kernel_rfl):PE X (.Name "bool" pos) (tC (.ty "bool")):=pe_ty PyProof.Rows.boot_bool (by rw [hX];exact hm) (gl_of hg)
theorem it_r1 {a:Expr} {ta:TA} {mg':Str->Option Value} (hm:mg' "range" = none) (hX:X.mg=mg') (ha:PA X [a] ta) (hg:gB X "range" = true:=by kernel_rfl) (hs:starEach [a] X.env=[(false,eval a X.env)]:=by kernel_rfl):PI X tg (.Call (.Name "range" p) [a] [] pos) (iR1 ta):=pi_r1 (by rw [hX];exact hm) ha (gl_of hg) hs
theorem ix_at {a b:Expr} {ta tb:TE} (ha:PE X a ta) (hb:PE X b tb) (hs:∀ o i,subscripted b false o i=operate [o,i] (getItem o i):=by intro _ _;kernel_rfl):PE X (.Subscript a b pos) (tOp rIxU ta tb):=pe_ix ixU ha hb hs
theorem a_cons {e:Expr} {es:List Expr} {te:TE} {t:TA} (ha:PE X e te) (hr:PA X es t) (hs:starEach (e :: es) X.env=(false,eval e X.env) :: starEach es X.env:=by kernel_rfl):PA X (e :: es) (tCons te t):=pa_cons ha hr hs
theorem t_cmp {op:CmpOp} {r:R2} {a b:Expr} {ta tb:TE} (ho:OpR X (compareOp op) r) (ha:PE X a ta) (hb:PE X b tb) (hm:behindInMarks op b=false:=by kernel_rfl):PT X (.Compare a [op] [b] pos) (tBU (tOp r ta tb)):=pt_cmpU ho ha hb hm
theorem e_cmp {op:CmpOp} {r:R2} {a b:Expr} {ta tb:TE} (ho:OpR X (compareOp op) r) (ha:PE X a ta) (hb:PE X b tb) (hm:behindInMarks op b=false:=by kernel_rfl):PE X (.Compare a [op] [b] pos) (tOp r ta tb):=pe_cmpU ho ha hb hm
theorem s_asg {tg e:Expr} {te:TE} {g:TG} (he:PE X e te) (hg:PG X tg g) (hs:swapsWithSole [tg] e pos.line X.env=pure false:=by kernel_rfl) (hw:swappedStores [tg] e X.env=pure none:=by kernel_rfl)
  (h1:(assignEach [tg] X.env).map (·.2)=[assign tg X.env]:=by kernel_rfl):PS X (.Assign [tg] e pos) (tAsg te g):=ps_asg he hg hs hw h1
theorem s_expr {e:Expr} {te:TE} (he:PE X e te) (hs:swapsWith e none pos.line X.env=pure false:=by kernel_rfl):PS X (.Expr e pos) (tDrop te):=ps_expr he hs
theorem s_for {iter:Expr} {body:List Stmt} {wi:TI} {g:TG} {tb:TS} (hi:PI X tg iter wi) (hg:PG X tg g) (hb:PSs X body tb) (hp:PassesOwn (model X.prog X.w) X.A X.env X.xe:=by exact PassesOwn.never) (hc:X.calm=true:=by kernel_rfl)
  (hs:∀ x,foldedSetIterable iter X.env x=pure x:=by intro _;kernel_rfl):PS X (.For tg iter body [] pos) (tFor wi g tb):=ps_for hp hc hi hg hb hs
theorem s_while {c:Expr} {body:List Stmt} {tc:TT} {tb:TS} (hc:PT X c tc) (hb:PSs X body tb) (hp:PassesOwn (model X.prog X.w) X.A X.env X.xe:=by exact PassesOwn.never):PS X (.While c body [] pos) (tWhile tc tb):=ps_while hp hc hb
theorem gs_cons {es:List Expr} {t:TG} {u:TGs} (h1:PG X e t) (h2:PGs X es u)
  (hs:(assignEach (e :: es) X.env).map (·.2)=assign e X.env :: (assignEach es X.env).map (·.2):=by kernel_rfl):PGs X (e :: es) (gConsU t u):=pgs_consU h1 h2 hs
theorem g_sub {o i:Expr} {to ti:TE} (ho:PE X o to) (hi:PE X i ti) (ha:∀ v,assign (.Subscript o i pos) X.env v=(do
   let ov <-holding [v] (eval o X.env)
   let iv <-holding [v,ov] (eval i X.env)
   standAt pos
   holding [v,ov,iv] (setItem ov iv v)
   release [v,ov,iv] []):=by intro _;kernel_rfl):PG X (.Subscript o i pos) (gSub to ti rSetU):=pg_sub ho hi setU ha
theorem m_append {cpos:Pos} (ho:PE X o to) (ha:PA X (e :: es) t)
  (hbase:attributeBase o "append" X.env (eval o X.env)=eval o X.env:=by kernel_rfl)
  (hfew:((backTo cpos (starEach (e :: es) X.env)).all (fun x=>!x.1) && (backToKw cpos (keywordEach [] X.env)).all (fun x=>x.1.isSome)
   && decide ((e :: es).length+([]:List Keyword).length+(if ([]:List Keyword).isEmpty then 0 else 1) < 30))=true:=by kernel_rfl)
  (hline:(apos.endLine == cpos.line)=true:=by kernel_rfl) (hs:starEach (e :: es) X.env=(false,eval e X.env) :: starEach es X.env:=by kernel_rfl) (hplain:(backTo cpos (starEach es X.env)).any (·.1)=false:=by kernel_rfl) :
  PE X (.Call (.Attribute o "append" apos) (e :: es) [] cpos) (tMt "list" rApp to t):=pe_mt PySem.F.plainAttrs_list PySem.F.slot_list_append PySem.F.type_list_append mt_appU ho ha hbase hfew hline hs hplain
theorem c_comp (N:List Str) (js:List Nat) {elt target iter:Expr} {ifs:List Expr} {scope:Scope} {wi:TI} {g:TG} {tt:TT} {te:TE} (hN:N.Nodup) (hi:PI X target iter wi)
  (hg:∀ cl C s H fp,PG (X.block scope cl C N s H fp) target g) (ht:∀ cl C s H fp,PF (X.block scope cl C N s H fp) ifs tt) (he:∀ cl C s H fp,PE (X.block scope cl C N s H fp) elt te)
  (hok:compOk X.env.scope X.N scope N js=true:=by kernel_rfl) (hc:X.calm=true:=by kernel_rfl) (hk:scope.kind = .function:=by kernel_rfl) (hs:∀ x,foldedSetIterable iter X.env x=pure x:=by intro _;kernel_rfl) :
  PE X (.ListComp elt [⟨target,iter,ifs,0⟩] scope pos) (tComp (N.length - js.length) js wi g tt te):=pe_comp N js hok hN hc hi hg ht he hk hs
theorem s_comp (y:Str) (i:Nat) (N:List Str) (js:List Nat) {elt target iter:Expr} {ifs:List Expr} {scope:Scope} {wi:TI} {g:TG} {tt:TT} {te:TE} {py spos:Pos} (hN:N.Nodup) (hXN:X.N.Nodup) (hi:PI X target iter wi)
  (hg:∀ cl C s H fp,PG (X.block scope cl C N s H fp) target g) (ht:∀ cl C s H fp,PF (X.block scope cl C N s H fp) ifs tt) (he:∀ cl C s H fp,PE (X.block scope cl C N s H fp) elt te)
  (hyi:X.N[i]? = some y:=by with_unfolding_all rfl) (hy:locB X.env.scope y=true:=by kernel_rfl)
  (hok:compOk X.env.scope X.N scope N js=true:=by kernel_rfl) (hc:X.calm=true:=by kernel_rfl) (hk:scope.kind = .function:=by kernel_rfl) (hs:∀ x,foldedSetIterable iter X.env x=pure x:=by intro _;kernel_rfl)
  (hsw:swapsWith (.ListComp elt [⟨target,iter,ifs,0⟩] scope pos) (some (.Name y py)) spos.line X.env=pure true:=by kernel_rfl) (hf:(X.fn y || X.env.scope.names.lookup y == some .local)=true:=by kernel_rfl) :
  PS X (.Assign [.Name y py] (.ListComp elt [⟨target,iter,ifs,0⟩] scope pos) spos) (tAsg (tComp (N.length - js.length) js wi g tt te) (gName i)):=
 ps_setComp N js hok hN hc hXN hyi (loc_of hy) hi hg ht he hsw hk hs (by
  rw [Bool.or_eq_true] at hf
  exact hf.elim .inl fun z=>.inr (eq_of_beq z))
end
theorem iteP {c A B:Prop} [Decidable c] (hc:c) (h:A):if c then A else B:=by rw [if_pos hc];exact h
theorem iteQ {c A B:Prop} [Decidable c] (hc:¬ c) (h:B):if c then A else B:=by rw [if_neg hc];exact h
end L2
end
section
namespace L2
open PySem PySem.Spec PyProof.Rows
def Off (F:Addr->Prop) (H H':Hp):Prop:=∀ b o,H b=some o->¬ F b->H' b=some o
structure Deck (F:Addr->Prop) (H:Hp) (a:Addr):Prop where
 ex:∃ (p:Addr) (qs:List Addr) (n:Int),H a=some (.lst [.ref p,.int n])/\H p=some (.lst (qs.map V.ref))/\0 < qs.length/\qs.length<=63/\(∀ q∈qs,∃ c f m,H q=some (.lst [.int c,.int f,.int m]))/\∀ b,F b↔b=a\/b=p\/b∈qs
theorem Off.refl {F:Addr->Prop} {H:Hp}:Off F H H:=fun _ _ e _=>e
theorem Off.trans {F:Addr->Prop} {H H1 H2:Hp} (h:Off F H H1) (k:Off F H1 H2):Off F H H2:=fun b o e n=>k b o (h b o e n) n
theorem Same.off {F:Addr->Prop} {H H1:Hp} (h:Same H H1):Off F H H1:=fun b o e _=>h b o e
theorem Deck.same {F:Addr->Prop} {H H1:Hp} {a:Addr} (h:Deck F H a) (k:Same H H1):Deck F H1 a:=by
 obtain ⟨p,qs,n,h1,h2,h3,h4,h5,h6⟩:=h.ex
 exact ⟨p,qs,n,k _ _ h1,k _ _ h2,h3,h4,fun q hq=>let ⟨c,f,m,e⟩:=h5 q hq;⟨c,f,m,k _ _ e⟩,h6⟩
theorem Deck.there {F:Addr->Prop} {H:Hp} {a b:Addr} (h:Deck F H a) (hb:F b):∃ o,H b=some o:=by
 obtain ⟨p,qs,n,h1,h2,h3,h4,h5,h6⟩:=h.ex
 rcases (h6 b).mp hb with rfl | rfl | z
 ·exact ⟨_,h1⟩
 ·exact ⟨_,h2⟩
 ·obtain ⟨c,f,m,e⟩:=h5 b z
  exact ⟨_,e⟩
theorem Deck.new {F:Addr->Prop} {H:Hp} {a b:Addr} (h:Deck F H a) (hb:H b=none):¬ F b:=fun z=>by
 obtain ⟨o,e⟩:=h.there z
 rw [hb] at e
 cases e
end L2
namespace L2
open PySem PySem.Spec PyProof.Rows
section
variable {H:Hp}
theorem DV.lst_inv {v:V} {ds:List PyData} (h:DV H v (.list ds)):∃ a xs,v = .ref a/\H a=some (.lst xs)/\DVs H xs ds:=by
 cases h with
 | lst h r=>exact ⟨_,_,rfl,h,r⟩
theorem DV.tup_inv {v:V} {ds:List PyData} (h:DV H v (.tuple ds)):∃ a xs,v = .ref a/\H a=some (.tup xs)/\DVs H xs ds:=by
 cases h with
 | tup h r=>exact ⟨_,_,rfl,h,r⟩
theorem DV.int_inv {v:V} {i:Int} (h:DV H v (.int i)):v = .int i:=by cases h;rfl
theorem DV.str_inv {v:V} {x:Str} (h:DV H v (.str x)):v = .str x:=by cases h;rfl
theorem DVs.length:∀ {xs:List V} {ds:List PyData},DVs H xs ds->xs.length=ds.length
 | _,_,.nil=>rfl
 | _,_,.cons _ r=>by rw [List.length_cons,List.length_cons,DVs.length r]
theorem DVs.get:∀ {xs:List V} {ds:List PyData} {i:Nat} {d:PyData},DVs H xs ds->ds[i]? = some d->∃ x,xs[i]? = some x/\DV H x d
 | _,_,_,_,.nil,h=>by simp at h
 | _,_,0,_,.cons h _,e=>by
  simp at e
  subst e
  exact ⟨_,rfl,h⟩
 | _,_,i+1,d,.cons _ r,e=>by
  obtain ⟨x,h1,h2⟩:=DVs.get (i:=i) (d:=d) r (by simpa using e)
  exact ⟨x,by simpa using h1,h2⟩
theorem DVs.app:∀ {xs ys:List V} {ds es:List PyData},DVs H xs ds->DVs H ys es->DVs H (xs++ys) (ds++es)
 | _,_,_,_,.nil,s=>s
 | _,_,_,_,.cons h r,s=>.cons h (DVs.app r s)
theorem DVs.ints:∀ (ns:List Int),DVs H (ns.map V.int) (ns.map PyData.int)
 | []=>.nil
 | n :: r=>.cons (.int n) (DVs.ints r)
theorem DVs.strs:∀ (ws:List Str),DVs H (ws.map V.str) (ws.map PyData.str)
 | []=>.nil
 | n :: r=>.cons (.str n) (DVs.strs r)
end
end L2
end
section
namespace Om
abbrev Rows:=List (List (List Bool×Nat))
structure CodeOk (k n:Nat) (rows:Rows):Prop where
 k1:1<=k
 k3:k<=3
 n1:1<=n
 n6:n<=6
 s1:1<=rows.length
 s8:rows.length<=8
 len:∀ st∈rows,st.length=2 ^ k
 row:∀ st∈rows,∀ r∈st,r.1.length=n/\r.2 < rows.length
def step (rows:Rows) (s l:Nat):List Bool×Nat:=(rows.getD s []).getD l ([],0)
end Om
end
section
namespace L2
open PySem PySem.Spec PyProof.Rows
def rowD (r:List Bool×Nat):PyData:=.tuple [.str (bs r.1),.int (r.2:Nat)]
def stateD (st:List (List Bool×Nat)):PyData:=.list (st.map rowD)
def codeD (k n:Nat) (rows:Om.Rows):PyData:=.tuple [.int (k:Nat),.int (n:Nat),.list (rows.map stateD)]
end L2
namespace L2
open PySem PySem.Spec PyProof.Rows
theorem SqL.upd {K:PySem.W.Frag} {H:Hp} {a D:Addr} {xs:List V} {o:HO} (h:H a=some (.lst xs)) (hD:H D=none):SqL K (upd H D o) a xs:=SqL.of (Same.upd hD _ _ h)
end L2
end
section
namespace L2
open PySem PySem.Spec PyProof.Rows
section
variable {prog:Program} {w:World} {A:Around} {E:Value->Shared->Prop}
theorem draw_list {it l:Addr} {items:Array Value} (hne:l≠it):∀ (n i:Nat) (s:Shared) (Q:List Value->Shared->Prop),s.heap.IsListIter it l i->s.heap.IsList l items->i+n<=items.size →
  (∀ h',h'.IsListIter it l (i+n)->Heap.SameBut it s.heap h'->Q ((items.toList.drop i).take n) { s with heap:=h' })->wpAny (model prog w) A (draw (.ref it) n) Q E s
 | 0,i,s,Q,hit,_,_,hQ=>by
  show wpAny _ _ (pure []) Q E s
  exact wpAny_pure (by simpa using hQ s.heap hit (Heap.SameBut.refl ..))
 | n+1,i,s,Q,hit,ht,hle,hQ=>by
  have hlt:i < items.size:=by omega
  show wpAny _ _ (pyNext (.ref it) >>= _) Q E s
  refine wpAny_bind (wpAny_pyNext_list_item hit ht (x:=items[i]) (by simp [hlt]) fun h₁ hit₁ hs₁=>?_)
  refine wpAny_bind (wpAny_holding (draw_list hne n (i+1) _ _ hit₁ (ht.extBut hs₁.extBut hne) (by omega) fun h₂ hit₂ hs₂=>wpAny_pure ?_))
  have hd:items.toList.drop i=items[i] :: items.toList.drop (i+1):=by simp [List.drop_eq_getElem_cons,hlt]
  have:=hQ h₂ (by rw [show i+(n+1)=i+1+n by omega];exact hit₂) (hs₁.trans hs₂)
  rw [hd,List.take_succ_cons] at this
  exact this
theorem unpackItems_list {s:Shared} {t:Addr} {items:Array Value} {Q:List Value->Shared->Prop} (hh:A.handled=none) (ht:s.heap.IsList t items)
  (hQ:∀ h',Heap.ExtBut s.heap.objs.size s.heap h'->Q items.toList { s with heap:=h' }):wpAny (model prog w) A (unpackItems (.ref t) items.size none) Q E s:=by
 have hlt:t≠s.heap.objs.size:=by obtain ⟨o,ho,_⟩:=ht;exact Nat.ne_of_lt (Heap.lt_size ho)
 unfold unpackItems
 refine wpAny_bind ?_
 ·unfold notIterableAtAll
  refine wpAny_bind (wpAny_specialOf ht.typeIs slot_list_iter.lookup ?_)
  refine wpAny_pure ?_
  simp only [Bool.false_eq_true,if_false]
  refine wpAny_bind (wpAny_holding (wpAny_pyIter_list ht ?_))
  refine wpAny_bind (wpAny_holding (draw_list hlt items.size 0 _ _ ⟨_,Heap.get?_push_size _ rfl,rfl,rfl⟩ (ht.push _) (by omega) fun h₁ hit₁ hs₁=>?_))
  have hall:List.take items.size (List.drop 0 items.toList)=items.toList:=by
   rw [List.drop_zero];exact List.take_of_length_le (by simp)
  rw [hall]
  rw [if_neg (by simp)]
  have ht₁:h₁.IsList t items:=(ht.push _).extBut hs₁.extBut hlt
  refine wpAny_bind (wpAny_holding (wpAny_pyNext_list_end hh hit₁ ht₁ (by simp) fun h₂ he₂=>?_))
  simp only [Option.isSome_none,Bool.false_eq_true,if_false]
  refine wpAny_pure (hQ h₂ fun b o hb e=>he₂ b o hb (hs₁.extBut b o hb (Heap.get?_push_of_some _ e)))
theorem assign_Tuple_list {s:Shared} {env:Env} {elts:List Expr} {x1} {pos:Pos} {t:Addr} {items:Array Value} {Q:Unit->Shared->Prop} (hh:A.handled=none) (ht:s.heap.IsList t items)
  (hn:(assignEach elts env).length=items.size) (hstar:(assignEach elts env).findIdx? (·.1)=none)
  (h:∀ h',Heap.ExtBut s.heap.objs.size s.heap h'->wpAny (model prog w) A (assignInOrder ((assignEach elts env).map (·.2)) items.toList) Q E { s with heap:=h' }) :
  wpAny (model prog w) A (assign (.Tuple elts x1 pos) env (.ref t)) Q E s:=by
 rw [assign_Tuple]
 refine wpAny_bind (wpAny_standAt ?_)
 unfold unpack
 rw [hn,hstar]
 exact wpAny_bind (wpAny_holding (unpackItems_list hh ht h))
end
section
variable {X:Cx} {pos:Pos}
def gTupL (K:PySem.W.Frag) (n:Nat) (t:TGs):TG:=fun v σ H Q=>match v with
 | .ref a=>∃ xs,(H a=some (.tup xs)\/H a=some (.lst xs))/\xs.length=n/\t xs σ H Q
 | _=>False
theorem g_tupL {es:List Expr} {k:Nat} {t:TGs} (h:PGs X es t) (hc:X.calm=true:=by kernel_rfl)
  (hst:(assignEach es X.env).findIdx? (·.1)=none:=by kernel_rfl):PG X (.Tuple es k pos) (gTupL X.K (assignEach es X.env).length t):=by
 intro pins s σ H v u Q I r hw
 unfold gTupL at hw
 split at hw
 ·obtain ⟨xs,h1 | h1,h2,hw⟩:=hw
  ·exact pg_tup hc h rfl hst pins s σ H _ u Q I r ⟨_,xs,rfl,SqT.of h1,h2,hw⟩
  ·cases r
   obtain ⟨its,rv,p,hz⟩:=I.list (SqL.of h1)
   refine assign_Tuple_list (I.ok.hd hc) p.isList (by simp [<-rv.length,h2]) hst fun h' hx=>?_
   have I1:Inv X pins σ H { s with heap:=h' }:=I.kept (t':=s.toks) fun b o e=>hx b o (Nat.ne_of_lt (Heap.lt_size e)) e
   exact h pins _ σ H xs _ Q I1 (by simpa using rv) hw
 ·exact hw.elim
theorem op_isB:OpR X (compareOp .Is) (fun x y H Q=>match x,y with
  | .bl a,.bl b=>Q (.bl (a == b)) H
  | _,_=>False):=by
 intro pins s σ H x y v u Q I rx ry h
 split at h
 ·cases rx
  cases ry
  exact is_bool ⟨.bl _,H,I,rfl,h⟩
 ·exact h.elim
end
section
variable {X:Cx}
def tTru (t:TE):TT:=fun σ H Q=>t σ H fun x H1=>match x with
 | .bl c=>Q c H1
 | .ref p=>∃ xs,H1 p=some (.lst xs)/\Q (!xs.isEmpty) H1
 | _=>False
theorem t_tru {e:Expr} {t:TE} (h:PE X e t) (he:∀ whole,isTrue e X.env whole=(do let v <-whole;standAt e.pos;holding [v] (truthy v)):=by intro _;kernel_rfl):PT X e (tTru t):=by
 intro pins s σ H Q I hw
 refine isTrue_plain (thn (h pins s σ H _ I hw) fun v s1 ⟨x,H1,I1,r1,q1⟩=>?_) (he _)
 refine tru_ok pins s1 σ H1 x v Q I1 r1 ?_
 dsimp only at q1
 split at q1
 ·exact ⟨_,rfl,q1⟩
 ·obtain ⟨xs,h1,q⟩:=q1
  exact ⟨_,.inl ⟨xs,SqL.of h1,rfl⟩,q⟩
 ·exact q1.elim
end
section
variable {X:Cx}
end
section
variable {H:Hp}
theorem code_inv {cv:V} {k n:Nat} {rows:Om.Rows} (h:DV H cv (codeD k n rows)):∃ a b ss,cv = .ref a/\H a=some (.tup [.int k,.int n,.ref b])/\H b=some (.lst ss)/\DVs H ss (rows.map stateD):=by
 obtain ⟨a,xs,rfl,ha,hx⟩:=h.tup_inv
 cases hx with
 | cons h1 hx=>
  cases hx with
  | cons h2 hx=>
   cases hx with
   | cons h3 hx=>
    cases hx
    obtain rfl:=h1.int_inv
    obtain rfl:=h2.int_inv
    obtain ⟨b,ss,rfl,hb,hs⟩:=h3.lst_inv
    exact ⟨a,b,ss,rfl,ha,hb,hs⟩
theorem state_at {ss:List V} {rows:Om.Rows} (h:DVs H ss (rows.map stateD)) {s:Nat} {st:List (List Bool×Nat)} (hs:rows[s]? = some st):∃ q rs,ss[s]? = some (.ref q)/\H q=some (.lst rs)/\DVs H rs (st.map rowD):=by
 obtain ⟨x,hx,d⟩:=h.get (i:=s) (d:=stateD st) (by rw [List.getElem?_map,hs];rfl)
 obtain ⟨q,rs,rfl,hq,hr⟩:=d.lst_inv
 exact ⟨q,rs,hx,hq,hr⟩
theorem row_at {rs:List V} {st:List (List Bool×Nat)} (h:DVs H rs (st.map rowD)) {l:Nat} {r:List Bool×Nat} (hl:st[l]? = some r):∃ p,rs[l]? = some (.ref p)/\H p=some (.tup [.str (bs r.1),.int (r.2:Nat)]):=by
 obtain ⟨x,hx,d⟩:=h.get (i:=l) (d:=rowD r) (by rw [List.getElem?_map,hl];rfl)
 obtain ⟨p,xs,rfl,hp,hd⟩:=d.tup_inv
 cases hd with
 | cons h1 hd=>
  cases hd with
  | cons h2 hd=>
   cases hd
   obtain rfl:=h1.str_inv
   obtain rfl:=h2.int_inv
   exact ⟨p,hx,hp⟩
end
end L2
namespace Om
end Om
end
section
namespace L2
open PySem PySem.Spec PyProof.Rows
section
variable {X:Cx} {x:Str} {p pos:Pos} {e:Expr} {es:List Expr} {t:TA}
def rLenS (K:PySem.W.Frag):List V->Hp->VK->Prop:=fun vs H Q=>match vs with
 | [.ref a]=>∃ ys,SqL K H a ys/\Q (.int (ys.length:Nat)) H
 | _=>False
theorem fn_lenS {mg':Str->Option Value} (hm:mg' "len" = none) (hX:X.mg=mg') (ha:PA X (e :: es) t) (hg:gB X "len" = true:=by kernel_rfl) (he:starEach (e :: es) X.env=(false,eval e X.env) :: starEach es X.env:=by kernel_rfl) (hpl:(backTo pos (starEach es X.env)).any (·.1)=false:=by kernel_rfl) :
  PE X (.Call (.Name "len" p) (e :: es) [] pos) (tCB (rLenS X.K) t):=pe_callB (call_len_seq.of fun xs H Q q=>by
   unfold rLenS at q
   split at q
   ·obtain ⟨ys,h,q⟩:=q
    exact ⟨_,ys,rfl,.inl h,q⟩
   ·exact q.elim) (gl_of hg) (by rw [hX];exact hm) PySem.boot_len ha (he:=he) (hpl:=hpl)
def rIxS' (K:PySem.W.Frag):R2:=fun x y H Q=>match x,y with
 | .ref a,.int i=>∃ ys v,SqL K H a ys/\atI ys i=some v/\Q v H
 | _,_=>False
theorem ix_atS {a b:Expr} {ta tb:TE} (ha:PE X a ta) (hb:PE X b tb) (hs:∀ o i,subscripted b false o i=operate [o,i] (getItem o i):=by intro _ _;kernel_rfl):PE X (.Subscript a b pos) (tOp (rIxS' X.K) ta tb):=
 pe_ix (fun value slice pins s σ H x y v u Q I rx ry q hs=>ix_list value slice pins s σ H x y v u Q I rx ry (by
  unfold rIxS' at q
  split at q
  ·obtain ⟨ys,z,h1,h2,q⟩:=q
   exact ⟨_,ys,_,z,rfl,rfl,h1,h2,q⟩
  ·exact q.elim) hs) ha hb hs
end
theorem SqL.same {K:PySem.W.Frag} {H H':Hp} {a:Addr} {xs:List V} (h:SqL K H a xs) (s:Same H H'):SqL K H' a xs:=s.seq h
theorem bs_01:("01" : Str)=bs [false,true]:=by decide +kernel
theorem g01 {H:Hp} {r:Int} (h0:0<=r) (h1:r < 2):getV H (.str ("01" : Str)) r=some (.str (bs [decide (r=1)])):=by
 rw [bs_01]
 refine gs (le_line (Nat.le_of_ble_eq_true rfl)) h0 ?_
 have:r=0\/r=1:=by omega
 rcases this with rfl | rfl<;>rfl
theorem Off.upd_new {F:Addr->Prop} {H H':Hp} {p:Addr} {o:HO} (h:Off F H H') (hp:H' p=none):Off F H (upd H' p o):=h.trans (Same.upd hp).off
theorem Off.upd_own {F:Addr->Prop} {H H':Hp} {p:Addr} {o:HO} (h:Off F H H') (hp:H p=none):Off F H (upd H' p o):=fun b u e n=>by
 rw [upd_ne (ne_of_none e hp)]
 exact h b u e n
theorem Deck.own {F:Addr->Prop} {H:Hp} {a p:Addr} {o:HO} (h:Deck F H a) (hp:¬ F p):Deck F (upd H p o) a:=by
 obtain ⟨q,qs,n,h1,h2,h3,h4,h5,h6⟩:=h.ex
 refine ⟨q,qs,n,?_,?_,h3,h4,fun x hx=>?_,h6⟩
 ·rw [upd_ne (fun z=>hp ((h6 p).mpr (.inl z.symm)))];exact h1
 ·rw [upd_ne (fun z=>hp ((h6 p).mpr (.inr (.inl z.symm))))];exact h2
 ·obtain ⟨c,f,m,e⟩:=h5 x hx
  have np:x≠p:=fun z=>hp ((h6 p).mpr (.inr (.inr (by rw [<-z];exact hx))))
  exact ⟨c,f,m,by rw [upd_ne np];exact e⟩
end L2
end
section
namespace L2
open PySem PySem.Spec PyProof.Rows
theorem seq_by {t u:TS} {D:Ends} {σ:St} {H:Hp} (M:St->Hp->Prop) (fin:∀ σ' H',M σ' H'->u D σ' H') (h:(∀ σ' H',M σ' H'->u D σ' H')->t { D with nx:=u D } σ H):tSeq t u D σ H:=h fin
def WS (ws:List (List Bool)):HO:=.lst (ws.map fun w=>V.str (bs w))
theorem ws_len {ws:List (List Bool)}:(ws.map fun w=>V.str (bs w)).length=ws.length:=by simp
theorem ws_get {ws:List (List Bool)} {i:Nat} {w:List Bool} (h:ws[i]? = some w):(ws.map fun w=>V.str (bs w))[i]? = some (.str (bs w)):=by rw [List.getElem?_map,h];rfl
theorem depth_all {k:Nat}:∀ {ds:List PyData},(∀ d∈ds,d.depth<=k)->PyData.depthAll ds<=k
 | [],_=>Nat.zero_le _
 | d :: ds,h=>by
  rw [PyData.depthAll]
  exact Nat.max_le.mpr ⟨h d List.mem_cons_self,depth_all fun x hx=>h x (List.mem_cons_of_mem _ hx)⟩
end L2
namespace L2
open PySem PySem.Spec PyProof.Rows
end L2
end
section
namespace L2
open PySem PySem.Spec PyProof.Rows
structure Sub (F:Addr->Prop) (st:Addr) (G H:Hp):Prop where
 s:Same G H
 n:G st=none
 f:∀ b,F b->G b=none
theorem ne_F {F:Addr->Prop} {b p:Addr} (hb:F b) (hp:¬ F p):b≠p:=fun z=>hp (by rw [<-z];exact hb)
section
variable {F:Addr->Prop} {st p:Addr} {G H H':Hp} {o:HO}
theorem Sub.off (h:Sub F st G H) (k:Off F H H'):Sub F st G H':=⟨fun b u e=>k b u (h.s b u e) (fun z=>by rw [h.f b z] at e;cases e),h.n,h.f⟩
theorem Sub.more (h:Sub F st G H) (hp:H p=none):Sub F st G (upd H p o):=⟨h.s.trans (Same.upd hp),h.n,h.f⟩
theorem Sub.write (h:Sub F st G H):Sub F st G (upd H st o):=⟨fun b u e=>by rw [upd_ne (ne_of_none e h.n)];exact h.s b u e,h.n,h.f⟩
theorem Sub.new (h:Sub F st G H) (hp:H p=none) (hst:st≠p) (hF:¬ F p):Sub F st (upd G p o) (upd H p o):=by
 refine ⟨fun b u e=>?_,by rw [upd_ne hst];exact h.n,fun b hb=>by rw [upd_ne (ne_F hb hF)];exact h.f b hb⟩
 by_cases hb:b=p
 ·subst hb
  rw [upd_same] at e ⊢
  exact e
 ·rw [upd_ne hb] at e ⊢
  exact h.s b u e
theorem Sub.free (h:Sub F st G H) (hp:H p=none):G p=none:=h.s.free hp
theorem Sub.grow (h:Sub F st G H) (hp:H p=none):Same G (upd G p o):=Same.upd (h.free hp)
theorem Off.free (h:Off F H H') {a:Addr} (d:Deck F H' a) (hp:H' p=none):H p=none:=by
 cases e:H p with
 | none=>rfl
 | some u=>
  by_cases hf:F p
  ·obtain ⟨o',e'⟩:=d.there hf
   rw [hp] at e';cases e'
  ·rw [h _ _ e hf] at hp;cases hp
end
end L2
end
section
namespace L2
open PySem PySem.Spec PyProof.Rows
def gTupN (n:Nat) (t:TGs):TG:=fun v σ H Q=>match v with
 | .ref a=>∃ xs,(H a=some (.tup xs)\/H a=some (.lst xs))/\xs.length=n/\t xs σ H Q
 | _=>False
theorem g_tupN {X:Cx} {pos:Pos} {es:List Expr} {k:Nat} {t:TGs} (h:PGs X es t) (hc:X.calm=true:=by kernel_rfl)
  (hst:(assignEach es X.env).findIdx? (·.1)=none:=by kernel_rfl) (hn:(assignEach es X.env).length=es.length:=by kernel_rfl):PG X (.Tuple es k pos) (gTupN es.length t):=by
 intro pins s σ H v u Q I r hw
 exact g_tupL h hc hst pins s σ H v u Q I r (by
  unfold gTupN at hw
  unfold gTupL
  split at hw
  ·exact hn ▸ hw
  ·exact hw.elim)
end L2
namespace Om
section
variable {ord:List Nat} {rows:Rows} {k n:Nat}
end
end Om
end
section
namespace L2
open PySem PySem.Spec PyProof.Rows
theorem Deck.not_tup {F:Addr->Prop} {H:Hp} {a b:Addr} {xs:List V} (h:Deck F H a) (hb:H b=some (.tup xs)):¬ F b:=fun z=>by
 obtain ⟨p,qs,n,h1,h2,h3,h4,h5,h6⟩:=h.ex
 rcases (h6 b).mp z with rfl | rfl | z
 ·rw [h1] at hb;cases hb
 ·rw [h2] at hb;cases hb
 ·obtain ⟨c,f,m,e⟩:=h5 b z
  rw [e] at hb;cases hb
end L2
end
section
namespace L2
open PySem PySem.Spec PyProof.Rows
section
variable {X:Cx} {pins:List (Addr×Obj)} {σ:List (Option V)} {H:Hp} {s:Shared} {h':Heap}
theorem Inv.turnedL {t':Nat} {ch:List Addr} (I:Inv X pins σ H s) (hch:∀ b∈ch,FpOk X pins H b) (k:∀ b o,b ∉ ch->s.heap.get? b=some o->h'.get? b=some o):Inv X pins σ H { s with heap:=h',toks:=t' }:=by
 have nit:∀ b u,H b=some u->b ∉ ch:=fun b u e z=>by rw [(hch b z).1] at e;cases e
 refine I.step (g':=s.gens) (d':=s.drawn) (ch:=ch) (fun b hb=>?_) (fun b o _ _ hc e _=>k b o hc e) (fun b o _ _ hc e _=>⟨o.slots,k b o hc e⟩) (fun _ _ _ _ n=>n)
  (fun b o hc e=>⟨o,k b o hc e⟩) (fun _ _ e=>e) (fun _ _ _ e=>e) (fun b ps e=>⟨#[],by rw [e];simp⟩) (fun m hm=>?_) (fun b u e=>?_) I.bare
 ·obtain ⟨_,q1,_,q3,q4,q5⟩:=hch b hb
  exact ⟨q3,q1,q4,q5⟩
 ·obtain ⟨o,es,ep,ho,r⟩:=hm
  exact ⟨o,es,ep,k _ o (fun z=>(hch _ z).2.1 rfl) ho,r⟩
 ·refine (I.hok b u e).stay (fun c v hc q=>k c v ?_ q) (fun _ q=>q) fun _ _ q=>q
  rcases hc with z | z
  ·rw [z];exact nit b u e
  ·exact nit c _ z
theorem Inv.turnLaid {t':Nat} {ch:List Addr} {a:Addr} {o':HO} (I:Inv X pins σ H s) (hch:∀ b∈ch,FpOk X pins H b) (k:∀ b o,b ∉ ch->s.heap.get? b=some o->h'.get? b=some o)
  (hp:s.heap.objs.size<=a) (new:ObjOk X.prog X.w (upd H a o') h' a o'):Inv X pins σ (upd H a o') { s with heap:=h',toks:=t' }:=by
 have nit:∀ b u,H b=some u->b ∉ ch:=fun b u e z=>by rw [(hch b z).1] at e;cases e
 have ha:H a=none:=I.hok.fresh hp
 have na:∀ b o,s.heap.get? b=some o->b≠a:=fun b o e z=>absurd (Nat.lt_of_lt_of_le (Heap.lt_size e) hp) (by rw [z];exact Nat.lt_irrefl _)
 refine I.step (g':=s.gens) (d':=s.drawn) (ch:=ch) (fun b hb=>?_) (fun b o _ _ hc e _=>k b o hc e) (fun b o _ _ hc e _=>⟨o.slots,k b o hc e⟩) (fun b o _ e n=>by rw [upd_ne (na b o e)];exact n)
  (fun b o hc e=>⟨o,k b o hc e⟩) (fun b xs e=>by rw [upd_ne (ne_of_none e ha)];exact e) (fun b o u e=>by rw [upd_ne (ne_of_none e ha)];exact e) (fun b ps e=>⟨#[],by rw [upd_ne (ne_of_none e ha),e];simp⟩) (fun m hm=>?_) (fun b u e=>?_) I.bare
 ·obtain ⟨_,q1,_,q3,q4,q5⟩:=hch b hb
  exact ⟨q3,q1,q4,q5⟩
 ·obtain ⟨o,es,ep,ho,r⟩:=hm
  exact ⟨o,es,ep,k _ o (fun z=>(hch _ z).2.1 rfl) ho,r⟩
 ·by_cases hb:b=a
  ·subst hb
   rw [upd_same] at e
   cases e
   exact new
  ·rw [upd_ne hb] at e
   refine (I.hok b u e).stay (fun c v hc q=>k c v ?_ q) (fun c q=>by rw [upd_ne (ne_of_none q ha)];exact q) fun c xs q=>by rw [upd_ne (ne_of_none q ha)];exact q
   rcases hc with z | z
   ·rw [z];exact nit b u e
   ·exact nit c _ z
end
def Ite (K:PySem.W.Frag) (a:Addr):It:=
 ⟨fun i H=>∃ xs x,SqL K H a xs/\xs[i]? = some x,fun i H x H'=>∃ t y,(∀ xs,SqL K H a xs->xs[i]? = some y)/\H t=none/\x = .ref t/\H'=upd H t (.tup [.int (i:Nat),y]),fun i H=>∃ xs,SqL K H a xs/\xs.length<=i⟩
theorem turn_enum {P:Program} {w:World} {K:PySem.W.Frag} {es:List Expr} {k:Nat} {pos:Pos} (a it e:Addr) (hne:e≠it):Turn P w K (.Tuple es k pos) (Ite K a) [e,it] e (fun i h=>(∃ old,IsEnum h e it (i:Nat) old)/\h.IsListIter it a i) where
 mem:=by simp
 obj:=fun i h st b hb=>by
  obtain ⟨⟨old,he⟩,o,ho,c,d⟩:=st
  have hb':b=e\/b=it:=by simpa using hb
  rcases hb' with rfl | rfl
  ·exact ⟨_,he,fun v z=>by cases z⟩
  ·exact ⟨o,ho,fun v z=>by rw [d] at z;cases z⟩
 keep:=fun i h h' st k=>⟨let ⟨old,he⟩:=st.1;⟨old,k e (by simp) _ he⟩,st.2.at fun o e=>k it (by simp) o e⟩
 item:=by
  intro X hP hw hK hc i pins s σ H E I hf st hg
  subst hP hw hK
  obtain ⟨xs,x,hq,hx⟩:=hg
  obtain ⟨its,rv,p,hz⟩:=I.list hq
  obtain ⟨u,hu,ru⟩:=rv.get hx
  obtain ⟨⟨old,he⟩,hit⟩:=st
  have helt:e < s.heap.objs.size:=Heap.lt_size he
  have hilt:it < s.heap.objs.size:=by obtain ⟨_,x,_⟩:=hit;exact Heap.lt_size x
  have fT:=I.fresh
  refine wpAny_pyNext_enum_item he hit p.isList (x:=u) (by simpa using hu) hne fun h' ho hit' hT hsz hk=>⟨_,rfl,?_⟩
  refine wpAny_letOwnedTupleGo_enum ho fun h2 he2 hs2=>?_
  have hs2:Heap.SameBut e h' h2:=hs2
  have up:∀ b o,b ∉ [e,it]->s.heap.get? b=some o->h2.get? b=some o:=fun b o hb ee=>by
   have h1:b≠e:=fun z=>hb (by simp [z])
   have h2':b≠it:=fun z=>hb (by simp [z])
   exact (hs2.2 b h1).trans (hk b o h1 h2' ee)
  have hT2:h2.get? s.heap.objs.size=some { cls:=.type "tuple",data:=.seq #[.int (i:Nat) s.toks,u] }:=(hs2.2 _ (Nat.ne_of_gt helt)).trans hT
  refine ⟨.ref s.heap.objs.size,upd H s.heap.objs.size (.tup [.int (i:Nat),x]),?_,rfl,⟨_,x,fun ys hy=>by rw [I.list_inj hy hq];exact hx,fT,rfl,rfl⟩,⟨⟨_,by simpa using he2⟩,hit'.at fun o y=>(hs2.2 it hne.symm).trans y⟩,fun b hb=>?_⟩
  ·exact I.turnLaid (t':=s.toks+1) hf up (Nat.le_refl _) ⟨Nat.le_of_ble_eq_true rfl,[.int (i:Nat) s.toks,u],.cons ⟨_,rfl⟩ (.cons ru .nil),⟨_,hT2,rfl,0,rfl⟩⟩
  ·have hb':b=e\/b=it:=by simpa using hb
   rcases hb' with rfl | rfl
   ·rw [upd_ne (Nat.ne_of_lt helt)];exact (hf _ hb).1
   ·rw [upd_ne (Nat.ne_of_lt hilt)];exact (hf _ hb).1
 done:=by
  intro X hP hw hK hc i pins s σ H E I hf st hg
  subst hP hw hK
  obtain ⟨xs,hq,hx⟩:=hg
  obtain ⟨its,rv,p,hz⟩:=I.list hq
  have hl:=rv.length
  obtain ⟨⟨old,he⟩,hit⟩:=st
  exact wpAny_pyNext_enum_end (I.ok.hd hc) he hit p.isList (by simp;omega) fun h' eb=>⟨rfl,I.turnedL (t':=s.toks) hf fun b o hb e'=>eb b o (fun z=>hb (by simp [z])) e'⟩
 self:=fun _ _ _ _ _ st h=>let ⟨_,he⟩:=st.1;wpAny_pyIter_enum he h
section
variable {X:Cx} {p pos tpos:Pos} {a b:Expr} {es:List Expr} {tk:Nat}
def iEnum (K:PySem.W.Frag) (ta:TA):TI:=fun σ H R=>ta σ H fun vs H1=>match vs with
 | [.ref l]=>(∃ xs,SqL K H1 l xs)/\R (Ite K l) H1
 | _=>False
theorem it_enum {ta:TA} {mg':Str->Option Value} (hm:mg' "enumerate" = none) (hX:X.mg=mg') (ha:PA X [a] ta) (hg:gB X "enumerate" = true:=by kernel_rfl) (hs:starEach [a] X.env=[(false,eval a X.env)]:=by kernel_rfl) :
  PI X (.Tuple es tk tpos) (.Call (.Name "enumerate" p) [a] [] pos) (iEnum X.K ta):=by
 intro pins s σ H R I h
 refine Call_ (ld_blt I (gl_of hg) (by rw [hX];exact hm) boot_enumerate (PyProof.Rows.callWith_type1 (thn (ha pos pins s σ H _ I h) fun us s1 ⟨vs,H1,I1,r1,q1⟩=>?_) hs rfl))
 dsimp only at q1
 split at q1
 ·rename_i l
  obtain ⟨⟨xs,hq⟩,q⟩:=q1
  obtain ⟨u,rfl,r⟩:=vals1 r1
  cases r
  obtain ⟨its,rv,pl,hz⟩:=I1.list hq
  refine call_enumerate_list pl.isList fun h' hE hI hsz hk=>wpAny_pyIter_enum hE ?_
  refine ⟨s1.heap.objs.size+1,[s1.heap.objs.size+1,s1.heap.objs.size],_,_,H1,rfl,I1.kept (t':=s1.toks) hk,turn_enum l s1.heap.objs.size (s1.heap.objs.size+1) (Nat.succ_ne_self _),⟨⟨_,hE⟩,hI⟩,fun c hc=>?_,q⟩
  have hb':c=s1.heap.objs.size+1\/c=s1.heap.objs.size:=by simpa using hc
  have hle:s1.heap.objs.size<=c:=by rcases hb' with rfl | rfl<;>first | exact Nat.le_refl _ | exact Nat.le_add_right _ _
  exact I1.fpOk hle (I1.hok.fresh hle)
 ·exact q1.elim
structure ItPr (J:It) (n:Nat) (row:Nat->List V) (ok:Hp->Prop):Prop where
 stop:∀ H,ok H->J.stop n H
 go:∀ i H,ok H->i < n->J.go i H
 yld:∀ i H x H',ok H->i < n->J.yld i H x H'->∃ t,H t=none/\x = .ref t/\H'=upd H t (.tup (row i))
theorem for_pr {J:It} {n:Nat} {row:Nat->List V} {ok:Hp->Prop} {g:TG} {tb:TS} {D:Ends} {σ:St} {H:Hp} (IO:ItPr J n row ok) (Pv:Nat->St->Hp->Prop) (h0:Pv 0 σ H) (hl:∀ i σ H,i<=n->Pv i σ H->ok H)
  (hs:∀ i t σ H,i < n->Pv i σ H->H t=none->g (.ref t) σ (upd H t (.tup (row i))) fun σ2 H2=>tb { D with nx:=Pv (i+1),ct:=Pv (i+1),bk:=D.nx } σ2 H2) (hd:∀ σ H,Pv n σ H->D.nx σ H) :
  ∃ W:Nat->Nat->St->Hp->Prop,(∃ m,W 0 m σ H)/\∀ i m σ H,W i m σ H →
   (J.stop i H/\D.nx σ H)\/(J.go i H/\∃ N:St->Hp->Prop,(∀ σ' H',N σ' H'->∃ m',m' < m/\W (i+1) m' σ' H')/\∀ x H',J.yld i H x H'->g x σ H' fun σ2 H2=>tb { D with nx:=N,ct:=N,bk:=D.nx } σ2 H2):=by
 refine ⟨fun i m σ H=>m=n - i/\i<=n/\Pv i σ H,⟨n,by simp,Nat.zero_le _,h0⟩,?_⟩
 rintro i m σ H ⟨rfl,hi,p⟩
 have q:=hl i σ H hi p
 by_cases hlt:i < n
 ·refine .inr ⟨IO.go i H q hlt,Pv (i+1),fun σ' H' p'=>⟨n - (i+1),by omega,rfl,hlt,p'⟩,fun x H' y=>?_⟩
  obtain ⟨t,ht,rfl,rfl⟩:=IO.yld i H x H' q hlt y
  exact hs i t σ _ hlt p ht
 ·have e:i=n:=by omega
  subst e
  exact .inl ⟨IO.stop H q,hd σ H p⟩
theorem it_enumP (K:PySem.W.Frag) (a:Addr) (xs:List V):ItPr (Ite K a) xs.length (fun i=>[.int (i:Nat),xs.getD i .non]) fun H=>H a=some (.lst xs):=
 ⟨fun H h=>⟨xs,SqL.of h,Nat.le_refl _⟩,fun i H h hi=>⟨xs,xs[i],SqL.of h,by simp [hi]⟩,fun i H x H' h hi y=>by
  obtain ⟨t,y',hq,ht,e1,e2⟩:=y
  have hy:=hq xs (SqL.of h)
  have e3:xs.getD i .non=y':=by rw [List.getD_eq_getElem?_getD,hy];rfl
  exact ⟨t,ht,e1,by rw [e2,e3]⟩⟩
end
end L2
end
section
namespace L2
open PySem PySem.Spec PyProof.Rows
section
variable {X:Cx} {a b c d e o:Expr} {es:List Expr} {pos apos:Pos} {ta tb tc td te to:TE}
def tChainT (r r':R2) (ta tb tc:TE):TT:=fun σ H Q=>ta σ H fun x H1=>tb σ H1 fun y H2=>r x y H2 fun z H3=>match z with
 | .bl k=>if k=true then tc σ H3 fun w' H4=>r' y w' H4 fun z' H5=>match z' with
   | .bl k'=>Q k' H5
   | _=>False
  else Q false H3
 | _=>False
def rIsU:R2:=fun x y H Q=>match y with
 | .non=>Q (.bl (decide (x = .non))) H
 | .bl b=>match x with
  | .bl a=>Q (.bl (a == b)) H
  | _=>False
 | _=>False
theorem op_isU:OpR X (compareOp .Is) rIsU:=(op_isN.or op_isB).of fun x y H Q q=>by
 unfold rIsU at q
 split at q
 ·exact .inl ⟨rfl,q⟩
 ·split at q
  ·exact .inr q
  ·exact q.elim
 ·exact q.elim
def rIsNotU:R2:=fun x y H Q=>match y with
 | .non=>Q (.bl (!decide (x = .non))) H
 | _=>False
theorem op_isNotU:OpR X (compareOp .IsNot) rIsNotU:=op_notN.of fun x y H Q q=>by
 unfold rIsNotU at q
 split at q
 ·exact ⟨rfl,q⟩
 ·exact q.elim
theorem mt_count:MtM X "str.count" (fun x vs H Q=>match x,vs with
  | .str z,[.str y]=>Q (.int (Txt.count z y)) H
  | _,_=>False):=by
 intro pins s σ H x vs v us Q I rx rv h
 split at h
 ·obtain ⟨t,rfl⟩:=rx
  obtain ⟨u,rfl,t',rfl⟩:=rv.one
  exact SC.count ⟨.int _,H,I.tok _,⟨_,rfl⟩,h⟩
 ·exact h.elim
def rCount:V->List V->Hp->VK->Prop:=fun x vs H Q=>match x,vs with
  | .str z,[.str y]=>Q (.int (Txt.count z y)) H
  | _,_=>False
theorem m_count {cpos:Pos} {t:TA} (ho:PE X o to) (ha:PA X (e :: es) t)
  (hbase:attributeBase o "count" X.env (eval o X.env)=eval o X.env:=by kernel_rfl)
  (hfew:((backTo cpos (starEach (e :: es) X.env)).all (fun x=>!x.1) && (backToKw cpos (keywordEach [] X.env)).all (fun x=>x.1.isSome)
   && decide ((e :: es).length+([]:List Keyword).length+(if ([]:List Keyword).isEmpty then 0 else 1) < 30))=true:=by kernel_rfl)
  (hline:(apos.endLine == cpos.line)=true:=by kernel_rfl) (hs:starEach (e :: es) X.env=(false,eval e X.env) :: starEach es X.env:=by kernel_rfl) (hplain:(backTo cpos (starEach es X.env)).any (·.1)=false:=by kernel_rfl) :
  PE X (.Call (.Attribute o "count" apos) (e :: es) [] cpos) (tMt "str" rCount to t):=pe_mt PySem.F.plainAttrs_str PySem.F.slot_str_count PySem.F.type_str_count mt_count ho ha hbase hfew hline hs hplain
end
abbrev At (a:Addr):Addr->Prop:=fun b=>b=a
def Sto (H:Hp) (a:Addr):Prop:=∃ g b c:Int,H a=some (.lst [.int g,.int b,.int c])
section
variable {H H' G:Hp} {a p:Addr} {o:HO}
theorem Sto.same (h:Sto H a) (k:Same H H'):Sto H' a:=let ⟨g,b,c,e⟩:=h;⟨g,b,c,k _ _ e⟩
theorem Sto.own (h:Sto H a) (hp:p≠a):Sto (upd H p o) a:=let ⟨g,b,c,e⟩:=h;⟨g,b,c,by rw [upd_ne (Ne.symm hp)];exact e⟩
theorem Sto.ne (h:Sto H a) (hp:H p=none):p≠a:=fun z=>by obtain ⟨g,b,c,e⟩:=h;rw [<-z,hp] at e;cases e
theorem Sto.new (h:Sto H a) (hp:H p=none):Sto (upd H p o) a:=h.own (h.ne hp)
theorem Off.freeS (h:Off (At a) H H') (d:Sto H' a) (hp:H' p=none):H p=none:=by
 cases e:H p with
 | none=>rfl
 | some u=>
  have hf:¬ At a p:=d.ne hp
  rw [h _ _ e hf] at hp;cases hp
theorem Same.offS (h:Same G H) (hG:G a=none) (k:Off (At a) H H'):Same G H':=fun b u e=>k b u (h b u e) (ne_of_none e hG)
theorem Same.own (h:Same G H) (hG:G p=none):Same G (L2.upd H p o):=fun b u e=>by rw [upd_ne (ne_of_none e hG)];exact h b u e
theorem Sto.tup {xs:List V} (h:Sto H a) (hp:H p=some (.tup xs)):p≠a:=fun z=>by obtain ⟨g,b,c,e⟩:=h;rw [<-z,hp] at e;cases e
end
def spTake:Sp:=fun vs H Q _=>match vs with
 | [.ref a,.int many]=>Sto H a/\0 < many/\many < 1073741824/\∀ r H',0<=r->r < many->Sto H' a->Off (At a) H H'->Q (.int r) H'
 | _=>False
def spWordN:Sp:=fun vs H Q _=>match vs with
 | [.int _,.int n]=>0<=n/\n<=1000/\∀ w:List Bool,(w.length:Int)=n->Q (.str (bs w)) H
 | _=>False
end L2
end
section
namespace L2
open PySem PySem.Spec PyProof.Rows
structure Gh (G H0 H:Hp) (a:Addr):Prop where
 s:Same G H
 ga:G a=none
 st:Sto H a
 o:Off (At a) H0 H
section
variable {G H0 H H':Hp} {a p:Addr} {o:HO}
theorem Gh.take (h:Gh G H0 H a) (d:Sto H' a) (k:Off (At a) H H'):Gh G H0 H' a:=⟨h.s.offS h.ga k,h.ga,d,h.o.trans k⟩
theorem Gh.new (h:Gh G H0 H a) (hp:H p=none):Gh G H0 (upd H p o) a:=h.take (h.st.new hp) (Same.upd hp).off
theorem Gh.same (h:Gh G H0 H a) (k:Same H H'):Gh G H0 H' a:=h.take (h.st.same k) k.off
theorem Gh.freeG (h:Gh G H0 H a) (hp:H p=none):G p=none:=h.s.free hp
theorem Gh.free0 (h:Gh G H0 H a) (hp:H p=none):H0 p=none:=h.o.freeS h.st hp
theorem Gh.ne (h:Gh G H0 H a) (hp:H p=none):p≠a:=h.st.ne hp
theorem Gh.own (h:Gh G H0 H a) (hG:G p=none) (h0:H0 p=none) (hp:p≠a):Gh G H0 (upd H p o) a:=⟨h.s.own hG,h.ga,h.st.own hp,h.o.upd_own h0⟩
theorem Gh.grow (h:Gh G H0 H a) (hp:H p=some o) (hn:p≠a):Gh (upd G p o) H0 H a:=by
 refine ⟨fun b u e=>?_,by rw [upd_ne (Ne.symm hn)];exact h.ga,h.st,h.o⟩
 by_cases hb:b=p
 ·subst hb
  rw [upd_same] at e
  rw [hp];exact e
 ·rw [upd_ne hb] at e
  exact h.s b u e
theorem Gh.start (h:Sto H a):Gh (fun _=>none) H H a:=⟨fun _ _ e=>(by cases e),rfl,h,Off.refl⟩
end
theorem upd_none {G:Hp} {p q:Addr} {o:HO} (h:G q=none) (hn:q≠p):upd G p o q=none:=by rw [upd_ne hn];exact h
theorem upd_some {G:Hp} {p q:Addr} {o u:HO} (h:G q=some u) (hn:q≠p):upd G p o q=some u:=by rw [upd_ne hn];exact h
end L2
end
section
namespace L2
open PySem PySem.Spec PyProof.Rows
def pairD (x:Nat×Nat):PyData:=.tuple [.int (x.1:Nat),.int (x.2:Nat)]
theorem pairD_lay (x:Nat×Nat):(pairD x).canLay0=true:=rfl
theorem pairD_depth (x:Nat×Nat):(pairD x).depth<=1:=by
 rw [pairD,PyData.depth]
 have:=depth_all (k:=0) (ds:=[.int (x.1:Nat),.int (x.2:Nat)]) (fun d hd=>by
  rcases List.mem_cons.mp hd with rfl | hd
  ·exact Nat.le_refl _
  ·rw [List.mem_singleton.mp hd];exact Nat.le_refl _)
 omega
theorem pairD_shaped (x:Nat×Nat):SeqAt.shaped (pairD x)=true:=by
 unfold SeqAt.shaped
 rw [Bool.and_eq_true]
 exact ⟨pairD_lay x,decide_eq_true (by have:=pairD_depth x;omega)⟩
theorem pair_inv {H:Hp} {v:V} {x:Nat×Nat} (h:DV H v (pairD x)):∃ p,v = .ref p/\H p=some (.tup [.int (x.1:Nat),.int (x.2:Nat)]):=by
 obtain ⟨p,xs,rfl,hp,hd⟩:=h.tup_inv
 cases hd with
 | cons h1 hd=>
  cases hd with
  | cons h2 hd=>
   cases hd
   obtain rfl:=h1.int_inv
   obtain rfl:=h2.int_inv
   exact ⟨p,rfl,hp⟩
theorem pair_DV {H:Hp} {p:Addr} {x:Nat×Nat} (h:H p=some (.tup [.int (x.1:Nat),.int (x.2:Nat)])):DV H (.ref p) (pairD x):=.tup h (.cons (.int _) (.cons (.int _) .nil))
theorem DVs.take {H:Hp}:∀ {xs:List V} {ds:List PyData} (n:Nat),DVs H xs ds->DVs H (xs.take n) (ds.take n)
 | _,_,0,_=>.nil
 | _,_,_+1,.nil=>.nil
 | _,_,n+1,.cons h r=>.cons h (DVs.take n r)
structure Gr (G H0 H:Hp) (L:Addr) (vs:List V):Prop where
 s:Same G H
 s0:Same H0 G
 gL:G L=none
 hL:H L=some (.lst vs)
section
variable {G H0 H:Hp} {L p:Addr} {vs:List V} {o:HO}
theorem Gr.all (h:Gr G H0 H L vs):Same H0 H:=h.s0.trans h.s
theorem Gr.ne (h:Gr G H0 H L vs) (hp:H p=none):L≠p:=ne_of_none h.hL hp
theorem Gr.new (h:Gr G H0 H L vs) (hp:H p=none):Gr G H0 (upd H p o) L vs:=⟨h.s.trans (Same.upd hp),h.s0,h.gL,upd_some h.hL (h.ne hp)⟩
theorem Gr.put (h:Gr G H0 H L vs) (hp:H p=none):Gr (upd G p o) H0 (upd H p o) L vs:=by
 have gp:G p=none:=h.s.free hp
 refine ⟨fun b u e=>?_,h.s0.trans (Same.upd gp),upd_none h.gL (h.ne hp),upd_some h.hL (h.ne hp)⟩
 by_cases hb:b=p
 ·subst hb
  rw [upd_same] at e ⊢
  exact e
 ·rw [upd_ne hb] at e ⊢
  exact h.s b u e
theorem Gr.set {ws:List V} (h:Gr G H0 H L vs):Gr G H0 (upd H L (.lst ws)) L ws:=⟨h.s.own h.gL,h.s0,h.gL,upd_same⟩
theorem Gr.start (hp:H0 L=none):Gr H0 H0 (upd H0 L (.lst [])) L []:=⟨Same.upd hp,Same.refl _,hp,upd_same⟩
theorem Gr.up (h:Gr G H0 H L vs) (hp:H p=none):Same G (upd G p o):=Same.upd (h.s.free hp)
end
end L2
end
section
namespace L2
open PySem PySem.Spec PyProof.Rows
theorem DVs.imp {H H':Hp}:∀ {xs:List V} {ds:List PyData},(∀ x d,d∈ds->DV H x d->DV H' x d)->DVs H xs ds->DVs H' xs ds
 | _,_,_,.nil=>.nil
 | _,_,f,.cons h r=>.cons (f _ _ List.mem_cons_self h) (DVs.imp (fun x d hd=>f x d (List.mem_cons_of_mem _ hd)) r)
section
variable {H H':Hp} {a l:Addr}
end
section
variable {G H H2 H3:Hp} {a T U L p:Addr} {xs ys:List Int} {vs:List V} {ps:List (Nat×Nat)} {m:Nat} {o:HO}
end
end L2
end
section
namespace Om
end Om
namespace L2
open PySem PySem.Spec PyProof.Rows
theorem eqv_pairD (x y:Nat×Nat):PyData.eqv (pairD x) (pairD y)=decide (x=y):=by
 unfold pairD
 rw [PyData.eqv,PyData.eqvAll,PyData.eqvAll,PyData.eqvAll,PyData.eqv,PyData.eqv,Bool.and_true,Bool.eq_iff_iff,Bool.and_eq_true,decide_eq_true_eq]
 obtain ⟨x1,x2⟩:=x
 obtain ⟨y1,y2⟩:=y
 simp only [Prod.mk.injEq,beq_iff_eq,Int.natCast_inj]
end L2
end
section
namespace L2
open PySem PySem.Spec PyProof.Rows
section
variable {G H0 H:Hp} {p:Addr}
end
section
variable {G H H':Hp} {a T U p:Addr} {xs ys:List Int} {m:Nat} {o:HO}
end
end L2
end
section
namespace L2
open PySem
def DefIn (K:PySem.W.Frag) (x:Str) (st:Stmt):Prop:=∃ (f:Addr) (oc:Value) (od an:Option Addr) (osl:Array (Option Value)) (kV dc pm cd ct:Value),PySem.W.nsIn K mainGlobals x=some (some (.ref f)) ∧
 K.lookup f=some ⟨oc,od,.func (PySem.W.fnOf x x (defArgs st) (defBody st) (defScope st) .none kV dc pm an cd ct),osl⟩/\PySem.W.codeIn K cd x=true/\PySem.W.keepIn K (.ref f)=true
theorem DefIn.mk {K:PySem.W.Frag} {x:Str} {st:Stmt} {f:Addr} {oc:Value} {od an:Option Addr} {osl:Array (Option Value)} {kV dc pm cd ct:Value} (a:PySem.W.nsIn K mainGlobals x=some (some (.ref f)))
  (l:K.lookup f=some ⟨oc,od,.func (PySem.W.fnOf x x (defArgs st) (defBody st) (defScope st) .none kV dc pm an cd ct),osl⟩) (c:PySem.W.codeIn K cd x=true) (k:PySem.W.keepIn K (.ref f)=true):DefIn K x st:=⟨f,oc,od,an,osl,kV,dc,pm,cd,ct,a,l,c,k⟩
theorem DefIn.fnX {K:PySem.W.Frag} {h:Heap} {mg:Str->Option Value} {x:Str} {st:Stmt} {ps:List Str} (D:DefIn K x st) (X:K.In h) (G:h.Ns mainGlobals mg)
  (hb:∀ (kV doc pm:Value) (an:Option Addr) (cdv ct:Value) (us:List Value),us.length=ps.length->bindArgs (PySem.W.fnOf x x (defArgs st) (defBody st) (defScope st) .none kV doc pm an cdv ct) ⟨us,[]⟩=pure (ps.zip us)):FnX K mg x st ps:=by
 obtain ⟨f,oc,od,an,osl,kV,dc,pm,cd,ct,h1,h2,h3,h4⟩:=D
 have F:=fun_mk (st:=st) h2 h3 h4
 exact ⟨f,_,F,PySem.W.mg_of X G h1,F.binds hb⟩
end L2
end
section
namespace L2
open PySem PySem.Spec PyProof.Rows
def strI (i:Int):Str:=Str.ofString (toString i)
section
variable {X:Cx} {p pos:Pos} {e:Expr} {es:List Expr} {t:TA}
def rStrOf:List V->Hp->VK->Prop:=fun vs H Q=>match vs with
 | [.int i]=>i.natAbs.log2 < 1920/\Q (.str (strI i)) H
 | _=>False
theorem vals_intsA:∀ {ns:List Int} {us:List Value},Vals (ns.map V.int) us->IntsAre us ns
 | [],us,r=>by cases r;exact .nil
 | n :: ns,us,r=>by
  cases r with
  | cons r1 r2=>
   obtain ⟨t,rfl⟩:=r1
   exact .cons n t (vals_intsA r2)
theorem ints_vals:∀ {us:List Value} {ns:List Int},IntsAre us ns->Vals (ns.map V.int) us
 | _,_,.nil=>.nil
 | _,_,.cons n t r=>.cons ⟨t,rfl⟩ (ints_vals r)
def rSorted:List V->Hp->VK->Prop:=fun vs H Q=>match vs with
 | [.ref p]=>∃ ns:List Int,H p=some (.lst (ns.map V.int))/\ns.length < 64/\∀ (l:Addr) (ns':List Int),H l=none->ns'.Perm ns->ns'.Pairwise (·<=·)->Q (.ref l) (upd H l (.lst (ns'.map V.int)))
 | _=>False
theorem call_sortedU:CallR X (.builtin "sorted") rSorted:=by
 intro pins s σ H xs us Q I r h
 unfold rSorted at h
 split at h
 ·rename_i p
  obtain ⟨ns,hH,hl,q⟩:=h
  obtain ⟨u,rfl,r1⟩:=vals1 r
  cases r1
  obtain ⟨z,its,n,rv,e⟩:=I.hok p _ hH
  have hI:=vals_intsA rv
  have hlen:its.length=ns.length:=by have:=rv.length;simpa using this.symm
  refine sorted_ints (vs:=its) ⟨_,e,rfl,_,rfl⟩ hI (by omega) fun out ns' a1 a2 a3=>?_
  obtain ⟨ep,he⟩:=sortedAll_at s.heap its out
  have hz:(ns'.map V.int).length<=sizeLine:=by rw [List.length_map,a2.length_eq];exact le_line (by omega)
  refine ⟨.ref (s.heap.objs.size+1),upd H (s.heap.objs.size+1) (.lst (ns'.map V.int)),I.laid (t':=s.toks) (fun b u hb=>sortedAll_old hb) (Nat.le_succ _) ⟨hz,out.toList,ep,ints_vals a1,?_⟩,rfl,q _ _ (I.hok.fresh (Nat.le_succ _)) a2 a3⟩
  exact he
 ·exact h.elim
end
end L2
end
section
namespace L2
open PySem PySem.Spec PyProof.Rows
end L2
end
section
namespace Om
end Om
namespace L2
open PySem PySem.Spec PyProof.Rows
section
variable {F:Addr->Prop} {H0 H H':Hp} {a p:Addr} {ob:HO}
end
end L2
end
section
namespace L2
open PySem PySem.Spec PyProof.Rows
end L2
end
section
namespace Om
def par (ts:List Int) (f:Nat->Bool) (i:Nat):Bool:=ts.foldr (fun t acc=>xor (decide (0<=(i:Int) - t) && f ((i:Int) - t).toNat) acc) false
def put (x P:List Int):List Int:=(List.range x.length).map fun i=>(x.getD i 0+(if ((i:Nat):Int)∈P then 1 else 0)) % 2
def unlike (x y:List Int):List Int:=((List.range x.length).filter fun i=>decide (x.getD i 0≠y.getD i 0)).map fun i:Nat=>(i:Int)
section
variable {most:Int} {ts bits:List Int}
end
end Om
end
section
namespace Om
section
variable {most:Int} {ts bits:List Int}
end
end Om
namespace L2
open PySem PySem.Spec PyProof.Rows
theorem comp_pr {J:It} {D:Addr} {n:Nat} {row:Nat->List V} {ok:Hp->Prop} {g:TG} {tt:TT} {te:TE} {Q:Hp->Prop} {τ:St} {H:Hp} (IO:ItPr J n row ok) (Pv:Nat->St->Hp->List V->Prop) (hz:n<=sizeLine) (h0:Pv 0 τ H [])
  (hl:∀ i τ H ys,i<=n->Pv i τ H ys->ok H/\H D=some (.lst ys)/\ys.length<=i)
  (hs:∀ i t τ H ys,i < n->Pv i τ H ys->H t=none->g (.ref t) τ (upd H t (.tup (row i))) fun τ4 H4=>tt τ4 H4 fun b H5=>
   if b=true then te τ4 H5 fun y H6=>H6 D=some (.lst ys)/\Pv (i+1) τ4 (upd H6 D (.lst (ys++[y]))) (ys++[y]) else Pv (i+1) τ4 H5 ys)
  (hd:∀ τ H ys,Pv n τ H ys->Q H) :
  ∃ W:Nat->Nat->St->Hp->List V->Prop,(∃ m,W 0 m τ H [])/\∀ i m τ H2 ys,W i m τ H2 ys->H2 D=some (.lst ys) ∧
   ((J.stop i H2/\Q H2)\/(J.go i H2/\ys.length < sizeLine/\∃ N:St->Hp->List V->Prop,(∀ τ' H' ys',N τ' H' ys'->∃ m',m' < m/\W (i+1) m' τ' H' ys')/\∀ x H3,J.yld i H2 x H3->g x τ H3 fun τ4 H4=>tt τ4 H4 fun b H5=>
    if b=true then te τ4 H5 fun y H6=>H6 D=some (.lst ys)/\N τ4 (upd H6 D (.lst (ys++[y]))) (ys++[y])
    else N τ4 H5 ys)):=by
 refine ⟨fun i m τ H ys=>m=n - i/\i<=n/\Pv i τ H ys,⟨n,by simp,Nat.zero_le _,h0⟩,?_⟩
 rintro i m τ H ys ⟨rfl,hi,p⟩
 obtain ⟨q,hD,hy⟩:=hl i τ H ys hi p
 refine ⟨hD,?_⟩
 by_cases hlt:i < n
 ·refine .inr ⟨IO.go i H q hlt,by omega,Pv (i+1),fun τ' H' ys' p'=>⟨n - (i+1),by omega,rfl,hlt,p'⟩,fun x H' y=>?_⟩
  obtain ⟨t,ht,rfl,rfl⟩:=IO.yld i H x H' q hlt y
  exact hs i t τ _ ys hlt p ht
 ·have e:i=n:=by omega
  subst e
  exact .inl ⟨IO.stop H q,hd τ H ys p⟩
end L2
end
section
namespace L2
open PySem PySem.Spec PyProof.Rows
section
variable {κ:Type} [DecidableEq κ]
def valV (kvs:List (κ×V)) (k:κ):Option V:=(kvs.find? fun kv=>decide (kv.1=k)).map (·.2)
def putK (kvs:List (κ×V)) (k:κ) (v:V):List (κ×V):=
 if (kvs.any fun kv=>decide (kv.1=k))=true then kvs.map (fun kv=>if kv.1=k then (kv.1,v) else kv) else kvs++[(k,v)]
def dropK (kvs:List (κ×V)) (k:κ):List (κ×V):=kvs.filter fun kv=>decide (kv.1≠k)
theorem valV_nil {k:κ}:valV ([]:List (κ×V)) k=none:=rfl
theorem valV_pos {p:κ×V} {r:List (κ×V)} {k:κ} (e:p.1=k):valV (p :: r) k=some p.2:=by simp [valV,List.find?_cons,e]
theorem valV_neg {p:κ×V} {r:List (κ×V)} {k:κ} (e:¬ p.1=k):valV (p :: r) k=valV r k:=by simp [valV,List.find?_cons,e]
theorem valV_any (k:κ):∀ kvs:List (κ×V),(kvs.any fun kv=>decide (kv.1=k))=(valV kvs k).isSome
 | []=>rfl
 | p :: r=>by
  rw [List.any_cons]
  by_cases e:p.1=k
  ·simp only [valV_pos e,decide_eq_true e,Bool.true_or,Option.isSome_some]
  ·rw [valV_neg e,decide_eq_false e,Bool.false_or];exact valV_any k r
theorem valV_map (k j:κ) (y:V):∀ kvs:List (κ×V),valV (kvs.map fun kv=>if kv.1=k then (kv.1,y) else kv) j=(valV kvs j).map fun x=>if j=k then y else x
 | []=>rfl
 | p :: r=>by
  have ih:=valV_map k j y r
  rw [List.map_cons]
  by_cases h:p.1=k
  ·rw [if_pos h]
   by_cases e:p.1=j
   ·rw [valV_pos (p:=(p.1,y)) e,valV_pos e,Option.map_some,if_pos (e.symm.trans h)]
   ·rw [valV_neg (p:=(p.1,y)) e,valV_neg e,ih]
  ·rw [if_neg h]
   by_cases e:p.1=j
   ·rw [valV_pos (p:=p) e,valV_pos e,Option.map_some,if_neg (fun z=>h (e.trans z))]
   ·rw [valV_neg (p:=p) e,valV_neg e,ih]
theorem valV_snoc (k j:κ) (y:V):∀ kvs:List (κ×V),valV kvs k=none->valV (kvs++[(k,y)]) j=if j=k then some y else valV kvs j
 | [],_=>by
  by_cases e:k=j
  ·rw [if_pos e.symm];exact valV_pos (p:=(k,y)) e
  ·rw [if_neg (fun z=>e z.symm)];exact valV_neg (p:=(k,y)) e
 | p :: r,hn=>by
  rw [List.cons_append]
  have hk:¬ p.1=k:=fun z=>by rw [valV_pos z] at hn;cases hn
  rw [valV_neg hk] at hn
  have ih:=valV_snoc k j y r hn
  by_cases e:p.1=j
  ·rw [valV_pos e,valV_pos e,if_neg (fun z=>hk (e.trans z))]
  ·rw [valV_neg e,valV_neg e,ih]
theorem valV_put (kvs:List (κ×V)) (k j:κ) (y:V):valV (putK kvs k y) j=if j=k then some y else valV kvs j:=by
 unfold putK
 by_cases a:(kvs.any fun kv=>decide (kv.1=k))=true
 ·rw [if_pos a,valV_map]
  rw [valV_any] at a
  by_cases e:j=k
  ·obtain ⟨x,hx⟩:=Option.isSome_iff_exists.mp a
   rw [if_pos e,e,hx,Option.map_some,if_pos rfl]
  ·rw [if_neg e]
   cases valV kvs j with
   | none=>rfl
   | some x=>rw [Option.map_some,if_neg e]
 ·rw [if_neg a]
  refine valV_snoc k j y kvs ?_
  rw [valV_any] at a
  cases q:valV kvs k with
  | none=>rfl
  | some x=>rw [q] at a;exact (a rfl).elim
theorem length_putK (kvs:List (κ×V)) (k:κ) (v:V):(putK kvs k v).length<=kvs.length+1:=by
 unfold putK
 split
 ·rw [List.length_map];omega
 ·rw [List.length_append,List.length_cons,List.length_nil];omega
theorem putK_new {kvs:List (κ×V)} {k:κ} (v:V) (h:valV kvs k=none):putK kvs k v=kvs++[(k,v)]:=by
 unfold putK
 rw [valV_any,h]
 exact if_neg (by decide)
theorem RelO.isSome_eq {o:Option V} {u:Option Value} (r:RelO o u):o.isSome=u.isSome:=by
 cases o with
 | none=>cases u with
  | none=>rfl
  | some _=>exact (show False from r).elim
 | some _=>cases u with
  | none=>exact (show False from r).elim
  | some _=>rfl
theorem RelO.getD {o:Option V} {u:Option Value} {d:V} {d':Value} (r:RelO o u) (rd:RelV d d'):RelV (o.getD d) (u.getD d'):=by
 cases o with
 | none=>cases u with
  | none=>exact rd
  | some _=>exact (show False from r).elim
 | some _=>cases u with
  | none=>exact (show False from r).elim
  | some _=>exact r
theorem KV.val {kvs:List (κ×V)} {vs:List (κ×Value)} (r:KV kvs vs) (k:κ):RelO (valV kvs k) (valueAt vs k):=by
 unfold KV at r
 induction r with
 | nil=>exact True.intro
 | @cons p q ps qs h t ih=>
  obtain ⟨h1,h2⟩:=h
  by_cases e:p.1=k
  ·have e':q.1=k:=h1.symm.trans e
   have b:valueAt (q :: qs) k=some q.2:=by simp [valueAt,List.find?_cons,e']
   rw [valV_pos e,b];exact h2
  ·have e':¬ q.1=k:=fun z=>e (h1.trans z)
   have b:valueAt (q :: qs) k=valueAt qs k:=by simp [valueAt,List.find?_cons,e']
   rw [valV_neg e,b];exact ih
theorem KV.any {kvs:List (κ×V)} {vs:List (κ×Value)} (r:KV kvs vs) (k:κ):(kvs.any fun kv=>decide (kv.1=k))=vs.any fun kv=>decide (kv.1=k):=by
 unfold KV at r
 induction r with
 | nil=>rfl
 | cons h t ih=>rw [List.any_cons,List.any_cons,ih,h.1]
theorem KV.repl {kvs:List (κ×V)} {vs:List (κ×Value)} (r:KV kvs vs) (k:κ) {y:V} {u:Value} (ry:RelV y u) :
  KV (kvs.map fun kv=>if kv.1=k then (kv.1,y) else kv) (vs.map fun kv=>if kv.1=k then (kv.1,u) else kv):=by
 unfold KV at r ⊢
 induction r with
 | nil=>exact .nil
 | @cons p q ps qs h t ih=>
  rw [List.map_cons,List.map_cons]
  refine .cons ?_ ih
  obtain ⟨h1,h2⟩:=h
  by_cases e:p.1=k
  ·rw [if_pos e,if_pos (h1.symm.trans e)];exact ⟨h1,ry⟩
  ·rw [if_neg e,if_neg (fun z=>e (h1.trans z))];exact ⟨h1,h2⟩
theorem KV.put {kvs:List (κ×V)} {vs:List (κ×Value)} (r:KV kvs vs) (k:κ) {y:V} {u:Value} (ry:RelV y u):KV (putK kvs k y) (stored vs k u):=by
 unfold putK stored
 rw [r.any k]
 by_cases e:(vs.any fun kv=>decide (kv.1=k))=true
 ·rw [if_pos e,if_pos e];exact r.repl k ry
 ·rw [if_neg e,if_neg e];exact Paired.snoc r ⟨rfl,ry⟩
theorem KV.drop {kvs:List (κ×V)} {vs:List (κ×Value)} (r:KV kvs vs) (k:κ):KV (dropK kvs k) (without vs k):=by
 unfold KV at r ⊢
 unfold dropK without
 induction r with
 | nil=>exact .nil
 | @cons p q ps qs h t ih=>
  obtain ⟨h1,h2⟩:=h
  rw [List.filter_cons,List.filter_cons]
  by_cases e:p.1=k
  ·have a:¬ decide (p.1≠k)=true:=by simp [e]
   have b:¬ decide (q.1≠k)=true:=by simp [h1.symm.trans e]
   rw [if_neg a,if_neg b];exact ih
  ·have e':¬ q.1=k:=fun z=>e (h1.trans z)
   have a:decide (p.1≠k)=true:=by simp [e]
   have b:decide (q.1≠k)=true:=by simp [e']
   rw [if_pos a,if_pos b];exact .cons ⟨h1,h2⟩ ih
theorem KV.keys {kvs:List (κ×V)} {vs:List (κ×Value)} (r:KV kvs vs):kvs.map (·.1)=vs.map (·.1):=by
 unfold KV at r
 induction r with
 | nil=>rfl
 | cons h t ih=>rw [List.map_cons,List.map_cons,ih,h.1]
theorem KV.length {kvs:List (κ×V)} {vs:List (κ×Value)} (r:KV kvs vs):kvs.length=vs.length:=Paired.length r
end
theorem kV_is {P:Program} {w:World} {k:Key} {u:Value} (r:RelV (kV k) u):(mixKind P w).is k u=true:=by
 cases k with
 | inl i=>obtain ⟨t,e⟩:=(show ∃ t,u=Value.int i t from r);subst e;exact mixKind_int P w i t
 | inr x=>obtain ⟨t,e⟩:=(show ∃ t,u=Value.str x t from r);subst e;exact mixKind_str P w x t
theorem items_are {P:Program} {w:World}:∀ {ks:List Key} {us:List Value},Vals (ks.map kV) us->ItemsAre (mixKind P w) ks us
 | [],_,r=>by rw [List.map_nil] at r;cases r;exact .nil
 | k :: ks,_,r=>by
  rw [List.map_cons] at r
  cases r with
  | cons h t=>exact .cons (kV_is h) (items_are t)
abbrev KT (H:Hp):List (List Key×V)->List (List Key×Addr×Value)->Prop:=Paired fun p q=>p.1=q.1/\H q.2.1=some (.tup (p.1.map kV))/\RelV p.2 q.2.2
theorem KT.val {H:Hp} {kvs:List (List Key×V)} {xs:List (List Key×Addr×Value)} (r:KT H kvs xs) (k:List Key):RelO (valV kvs k) ((atKey xs k).map (·.2)):=by
 induction r with
 | nil=>exact True.intro
 | @cons p q ps qs h t ih=>
  obtain ⟨h1,_,h2⟩:=h
  by_cases e:p.1=k
  ·have e':q.1=k:=h1.symm.trans e
   have b:atKey (q :: qs) k=some q.2:=by simp [atKey,List.find?_cons,e']
   rw [valV_pos e,b];exact h2
  ·have e':¬ q.1=k:=fun z=>e (h1.trans z)
   have b:atKey (q :: qs) k=atKey qs k:=by simp [atKey,List.find?_cons,e']
   rw [valV_neg e,b];exact ih
theorem KT.repl {H:Hp} {kvs:List (List Key×V)} {xs:List (List Key×Addr×Value)} (r:KT H kvs xs) (k:List Key) {y:V} {u:Value} (ry:RelV y u) :
  KT H (kvs.map fun kv=>if kv.1=k then (kv.1,y) else kv) (xs.map (putAt k u)):=by
 induction r with
 | nil=>exact .nil
 | @cons p q ps qs h t ih=>
  rw [List.map_cons,List.map_cons]
  refine .cons ?_ ih
  obtain ⟨h1,h2,h3⟩:=h
  unfold putAt
  by_cases e:p.1=k
  ·rw [if_pos e,if_pos (h1.symm.trans e)];exact ⟨h1,h2,ry⟩
  ·rw [if_neg e,if_neg (fun z=>e (h1.trans z))];exact ⟨h1,h2,h3⟩
theorem KT.put {H:Hp} {kvs:List (List Key×V)} {xs:List (List Key×Addr×Value)} (r:KT H kvs xs) (k:List Key) {b:Addr} {y:V} {u:Value} (hb:H b=some (.tup (k.map kV))) (ry:RelV y u) :
  KT H (putK kvs k y) (storedH xs k b u):=by
 have e:(kvs.any fun kv=>decide (kv.1=k))=(atKey xs k).isSome:=by
  rw [valV_any,(r.val k).isSome_eq,Option.isSome_map]
 unfold putK storedH
 rw [e]
 by_cases q:(atKey xs k).isSome=true
 ·rw [if_pos q,if_pos q];exact r.repl k ry
 ·rw [if_neg q,if_neg q];exact Paired.snoc r ⟨rfl,hb,ry⟩
theorem KT.keeps {H H':Hp} {kvs:List (List Key×V)} {xs:List (List Key×Addr×Value)} (r:KT H kvs xs) (ht:∀ b ys,H b=some (.tup ys)->H' b=some (.tup ys)):KT H' kvs xs:=
 Paired.mapP r fun _ _ z=>⟨z.1,ht _ _ z.2.1,z.2.2⟩
section
variable {P:Program} {w:World} {H:Hp} {h:Heap} {a:Addr}
theorem rd_of {u:HO} (ok:HOk P w H h) (e:Rd H a u):ObjOk P w H h a u:=e.ok ok
theorem dk_rd {kvs:List (Key×V)} (ok:HOk P w H h) (e:Rd H a (.dK kvs)):kvs.length<=sizeLine/\(a == sysModules)=false/\∃ vs,KV kvs vs/\h.DictOf (mixKind P w) a vs:=
 show ObjOk P w H h a (.dK kvs) from rd_of ok e
theorem dk_of {kvs:List (Key×V)} (ok:HOk P w H h) (e:H a=some (.dK kvs)):kvs.length<=sizeLine/\(a == sysModules)=false/\∃ vs,KV kvs vs/\h.DictOf (mixKind P w) a vs:=dk_rd ok (.inl e)
theorem key_of {ks:List Key} (ok:HOk P w H h) (e:H a=some (.tup (ks.map kV))):(tupleKind (mixKind P w)).is h ks a:=by
 obtain ⟨_,its,r,o,h1,h2,n,h3⟩:=(show ObjOk P w H h a (.tup (ks.map kV)) from ok a _ e)
 exact ⟨o,its.toArray,n,h1,h2,h3,by simpa using items_are r⟩
theorem dt_rd {kvs:List (List Key×V)} (ok:HOk P w H h) (e:Rd H a (.dT kvs)):kvs.length<=sizeLine/\(a == sysModules)=false ∧
  ∃ xs,KT H kvs xs/\h.DictOfH (tupleKind (mixKind P w)) a xs:=by
 obtain ⟨z,y,xs,r,o,es,ep,h1,h2,h3,h4,h5⟩:=(show ObjOk P w H h a (.dT kvs) from rd_of ok e)
 refine ⟨z,y,xs,r,o,es,ep,h1,h2,h3,h4,fun x hx=>?_,h5⟩
 have all:∀ {l:List (List Key×V)} {m:List (List Key×Addr×Value)},KT H l m->∀ x∈m,(tupleKind (mixKind P w)).is h x.1 x.2.1:=by
  intro l m q
  induction q with
  | nil=>intro x hx;exact nomatch hx
  | @cons p q ps qs hq t ih=>
   intro x hx
   rcases List.mem_cons.mp hx with e | hx
   ·subst e
    exact key_of ok (by rw [<-hq.1];exact hq.2.1)
   ·exact ih x hx
 exact all r x hx
theorem dt_of {kvs:List (List Key×V)} (ok:HOk P w H h) (e:H a=some (.dT kvs)):kvs.length<=sizeLine/\(a == sysModules)=false ∧
  ∃ xs,KT H kvs xs/\h.DictOfH (tupleKind (mixKind P w)) a xs:=dt_rd ok (.inl e)
end
def DGet (H:Hp) (a:Addr) (y:V) (r:Option V):Prop:=
 (∃ kvs k,Rd H a (.dK kvs)/\y=kV k/\r=valV kvs k)\/∃ kvs k b,Rd H a (.dT kvs)/\y = .ref b/\H b=some (.tup (k.map kV))/\r=valV kvs k
def DPut (H:Hp) (a:Addr) (y v:V) (H':Hp):Prop:=
 (∃ kvs k,H a=some (.dK kvs)/\y=kV k/\kvs.length < sizeLine/\H'=upd H a (.dK (putK kvs k v))) ∨
 ∃ kvs k b,H a=some (.dT kvs)/\y = .ref b/\H b=some (.tup (k.map kV))/\kvs.length < sizeLine/\H'=upd H a (.dT (putK kvs k v))
theorem DGet.k {H:Hp} {a:Addr} {kvs:List (Key×V)} {k:Key} (e:H a=some (.dK kvs)):DGet H a (kV k) (valV kvs k):=.inl ⟨kvs,k,.inl e,rfl,rfl⟩
theorem DGet.t {H:Hp} {a b:Addr} {kvs:List (List Key×V)} {k:List Key} (e:H a=some (.dT kvs)) (eb:H b=some (.tup (k.map kV))):DGet H a (.ref b) (valV kvs k):=.inr ⟨kvs,k,b,.inl e,rfl,eb,rfl⟩
theorem DPut.k {H:Hp} {a:Addr} {kvs:List (Key×V)} {k:Key} {v:V} (e:H a=some (.dK kvs)) (hl:kvs.length < sizeLine):DPut H a (kV k) v (upd H a (.dK (putK kvs k v))):=.inl ⟨kvs,k,e,rfl,hl,rfl⟩
theorem DPut.t {H:Hp} {a b:Addr} {kvs:List (List Key×V)} {k:List Key} {v:V} (e:H a=some (.dT kvs)) (eb:H b=some (.tup (k.map kV))) (hl:kvs.length < sizeLine) :
  DPut H a (.ref b) v (upd H a (.dT (putK kvs k v))):=.inr ⟨kvs,k,b,e,rfl,eb,hl,rfl⟩
section
variable {X:Cx} {pins:List (Addr×Obj)} {σ:St} {H:Hp} {s:Shared} {a:Addr} {y v:V} {u r:Value} {o:Option V} {A:Around} {E:Value->Shared->Prop}
theorem Inv.big (I:Inv X pins σ H s):sysModules < s.heap.objs.size:=by
 have h:mainGlobals < s.heap.objs.size:=(I.mod.glob.keeps I.bk).lt
 exact Nat.lt_trans (by decide) h
theorem d_getItem {Q:Value->Shared->Prop} (hu:A.units+1 < cLine) (I:Inv X pins σ H s) (g:DGet H a y (some v)) (ry:RelV y u) (h:∀ w' s',Inv X pins σ H s'->RelV v w'->Q w' s') :
  wpAny (model X.prog X.w) A (getItem (.ref a) u) Q E s:=by
 rcases g with ⟨kvs,k,e,ey,l⟩ | ⟨kvs,k,b,e,ey,eb,l⟩
 ·subst ey
  obtain ⟨z,hd,vs,rel,dd⟩:=dk_rd I.hok e
  obtain ⟨w',hw,rw'⟩:=RelO.some_of (v:=v) (o:=valueAt vs k) (by rw [l];exact rel.val k)
  exact wpAny_getItem_of (kV_is ry) dd.mapOf hw (h w' _ (I.tok _) rw')
 ·subst ey
  cases (show u=Value.ref b from ry)
  obtain ⟨z,hd,xs,rel,dd⟩:=dt_rd I.hok e
  obtain ⟨w',hw,rw'⟩:=RelO.some_of (v:=v) (o:=(atKey xs k).map (·.2)) (by rw [l];exact rel.val k)
  obtain ⟨p,hp,hp2⟩:=Option.map_eq_some_iff.mp hw
  refine wpAny_getItem_heap (tupleKind_room_in1 hu) (key_of I.hok eb) dd hp ?_
  rw [hp2]
  exact h w' _ (I.tok _) rw'
theorem d_notIn {Q:Value->Shared->Prop} (hu:A.units+1 < cLine) (I:Inv X pins σ H s) (g:DGet H a y o) (ry:RelV y u) (h:∀ s',Inv X pins σ H s'->Q (.bool (!o.isSome)) s') :
  wpAny (model X.prog X.w) A (compareOp .NotIn u (.ref a)) Q E s:=by
 rcases g with ⟨kvs,k,e,ey,l⟩ | ⟨kvs,k,b,e,ey,eb,l⟩
 ·subst ey
  obtain ⟨z,hd,vs,rel,dd⟩:=dk_rd I.hok e
  refine wpAny_notIn_of (kV_is ry) hd dd.mapOf ?_
  rw [<-(rel.val k).isSome_eq,<-l]
  exact h _ (I.tok _)
 ·subst ey
  cases (show u=Value.ref b from ry)
  obtain ⟨z,hd,xs,rel,dd⟩:=dt_rd I.hok e
  refine wpAny_notIn_heap (tupleKind_room_in1 hu) (key_of I.hok eb) hd dd ?_
  have q:=(rel.val k).isSome_eq
  rw [Option.isSome_map] at q
  rw [<-q,<-l]
  exact h _ (I.tok _)
theorem d_write {h':Heap} {t':Nat} {ob:HO} (I:Inv X pins σ H s) (mu:Mut (H a)) (hs:Heap.SameBut a s.heap h') (he:∃ q,h'.get? a=some q) (new:ObjOk X.prog X.w (upd H a ob) h' a ob) :
  Inv X pins σ (upd H a ob) { s with heap:=h',toks:=t' }:=
 I.write (x:=a) (e:=a) mu (.inl rfl) (fun b q hb z=>(hs.2 b hb).trans z) he new
theorem dk_new {P:Program} {w:World} {H':Hp} {h':Heap} {kvs:List (Key×V)} {vs:List (Key×Value)} (z:kvs.length<=sizeLine) (hd:(a == sysModules)=false) (rel:KV kvs vs) (dd:h'.DictOf (mixKind P w) a vs) :
  ObjOk P w H' h' a (.dK kvs):=⟨z,hd,vs,rel,dd⟩
theorem d_setItem {H':Hp} {Q:Unit->Shared->Prop} (hu:A.units+1 < cLine) (I:Inv X pins σ H s) (g:DPut H a y v H') (ry:RelV y u) (rv:RelV v r) (h:∀ s',Inv X pins σ H' s'->Q () s') :
  wpAny (model X.prog X.w) A (setItem (.ref a) u r) Q E s:=by
 rcases g with ⟨kvs,k,e,ey,l,eH⟩ | ⟨kvs,k,b,e,ey,eb,l,eH⟩
 ·subst ey eH
  obtain ⟨z,hd,vs,rel,dd⟩:=dk_of I.hok e
  have hz:vs.length<=sizeLine:=by rw [<-rel.length];exact z
  have hl:(putK kvs k v).length<=sizeLine:=by have:=length_putK kvs k v;omega
  refine wpAny_setItem_pairs (hsz:=hz) (kV_is ry) dd fun h' dd' hs=>h _ ?_
  have he:∃ q,h'.get? a=some q:=let ⟨q,_,_,hq,_⟩:=dd';⟨q,hq⟩
  exact d_write I (by rw [e];exact True.intro) hs he (dk_new hl hd (rel.put k rv) dd')
 ·subst ey eH
  cases (show u=Value.ref b from ry)
  obtain ⟨z,hd,xs,rel,dd⟩:=dt_of I.hok e
  have hz:xs.length<=sizeLine:=by rw [<-Paired.length rel];exact z
  have hl:(putK kvs k v).length<=sizeLine:=by have:=length_putK kvs k v;omega
  refine wpAny_setItem_heap (hsz:=hz) (tupleKind_room_in1 hu) (key_of I.hok eb) dd fun h' dd' hs=>h _ ?_
  obtain ⟨q,es,ep,hq,h2,h3,h4,_,h5⟩:=dd'
  refine d_write I (by rw [e];exact True.intro) hs ⟨q,hq⟩ ⟨hl,hd,_,(rel.put k eb rv).keeps fun c ys ec=>?_,q,es,ep,hq,h2,h3,h4,h5⟩
  rw [upd_ne (ne_of ec e (fun z=>nomatch z))]
  exact ec
end
section
variable {X:Cx} {pins:List (Addr×Obj)} {σ:St} {H:Hp} {s:Shared} {a:Addr} {kvs:List (Key×V)} {k:Key} {u:Value} {A:Around} {E:Value->Shared->Prop}
theorem d_truth {Q:Bool->Shared->Prop} (I:Inv X pins σ H s) (e:Rd H a (.dK kvs)) (h:∀ s',Inv X pins σ H s'->Q (!kvs.isEmpty) s'):wpAny (model X.prog X.w) A (truthy (.ref a)) Q E s:=by
 obtain ⟨z,hd,vs,rel,dd⟩:=dk_rd I.hok e
 refine wpAny_truthy_dict hd dd (by rw [<-rel.length];rw [sizeLine_eq] at z;omega) ?_
 have q:kvs.isEmpty=vs.isEmpty:=by cases rel<;>rfl
 rw [<-q]
 exact h _ (I.tok _)
end
theorem dict_typeIs {X:Cx} {pins:List (Addr×Obj)} {σ:St} {H:Hp} {s:Shared} {a:Addr} {y:V} {o:Option V} (I:Inv X pins σ H s) (g:DGet H a y o):s.TypeIs (.ref a) "dict" := by
 rcases g with ⟨kvs,k,e,_,_⟩ | ⟨kvs,k,b,e,_,_,_⟩
 ·obtain ⟨_,_,vs,_,dd⟩:=dk_rd I.hok e
  exact dd.typeIs
 ·obtain ⟨_,_,xs,_,dd⟩:=dt_rd I.hok e
  exact dd.typeIs
section
variable {X:Cx} {o i e value:Expr} {pos pos' tpos:Pos} {td ty tv:TE}
end
theorem dk_empty {P:Program} {w:World} {H:Hp} (h:Heap) (hb:sysModules < h.objs.size):ObjOk P w H (h.push { cls:=.type "dict",data:=.dict #[] }) h.objs.size (.dK []):=
 ⟨Nat.zero_le _,beq_eq_false_iff_ne.mpr (Ne.symm (Nat.ne_of_lt hb)),[],.nil,Heap.DictOf.new h⟩
theorem dt_empty {P:Program} {w:World} {H:Hp} (h:Heap) (hb:sysModules < h.objs.size):ObjOk P w H (h.push { cls:=.type "dict",data:=.dict #[] }) h.objs.size (.dT []):=
 ⟨Nat.zero_le _,beq_eq_false_iff_ne.mpr (Ne.symm (Nat.ne_of_lt hb)),[],.nil,_,#[],0,Heap.get?_push_size _ rfl,⟨rfl,rfl,rfl⟩,rfl,rfl,List.nodup_nil⟩
def tDNewT:TE:=fun _ H Q=>∀ p,H p=none->Q (.ref p) (upd H p (.dT []))
section
variable {X:Cx} {pos:Pos}
theorem pe_dnewT:PE X (.Dict [] [] pos) tDNewT:=fun pins s σ H Q I h=>
 wpAny_Dict_empty ⟨.ref s.heap.objs.size,_,I.laid (a:=s.heap.objs.size) (o:=.dT []) (t':=s.toks) (fun _ _ q=>Heap.get?_push_of_some _ q) (Nat.le_refl _) (dt_empty s.heap I.big),rfl,h _ (I.hok.fresh (Nat.le_refl _))⟩
end
def tPairs:List (TE×TE)->St->Hp->(List (V×V)->Hp->Prop)->Prop
 | [],_,H,Q=>Q [] H
 | (tk,tv) :: r,σ,H,Q=>tk σ H fun x H1=>tv σ H1 fun y H2=>tPairs r σ H2 fun ps H3=>Q ((x,y) :: ps) H3
abbrev VV:List (V×V)->List (Value×Value)->Prop:=Paired fun p q=>RelV p.1 q.1/\RelV p.2 q.2
def PPs (X:Cx) (pos:Pos) (keys:List (Option Expr)) (values:List Expr) (trs:List (TE×TE)):Prop:=
 ∀ (pins:List (Addr×Obj)) (s:Shared) (σ:St) (H:Hp) (Q:List (V×V)->Hp->Prop),Inv X pins σ H s->tPairs trs σ H Q →
  wpAny (model X.prog X.w) X.A (evalPairs (pairTrees keys values X.env pos)) (fun vs s'=>∃ ps H',Inv X pins σ H' s'/\VV ps vs/\Q ps H') X.xe s
theorem pps_nil {X:Cx} {pos:Pos}:PPs X pos [] [] []:=fun pins s σ H Q I h=>pairTrees_nil_walk ⟨[],H,I,.nil,h⟩
theorem pps_cons {X:Cx} {pos:Pos} {k v:Expr} {ks:List (Option Expr)} {vs:List Expr} {tk tv:TE} {trs:List (TE×TE)} (hk:PE X k tk) (hv:PE X v tv) (hr:PPs X pos ks vs trs) :
  PPs X pos (some k :: ks) (v :: vs) ((tk,tv) :: trs):=fun pins s σ H Q I h=>
 pairTrees_cons_walk (thn (hk pins s σ H _ I h) fun u s1 ⟨x,H1,I1,rx,q1⟩=>thn (hv pins s1 σ H1 _ I1 q1) fun w2 s2 ⟨y,H2,I2,ry,q2⟩=>
  thn (hr pins s2 σ H2 _ I2 q2) fun ws s3 ⟨ps,H3,I3,rel,q3⟩=>⟨(x,y) :: ps,H3,I3,.cons ⟨rx,ry⟩ rel,q3⟩)
def mergeK (kvs more:List (Key×V)):List (Key×V):=more.foldl (fun acc kv=>putK acc kv.1 kv.2) kvs
theorem KV.merge:∀ {more:List (Key×V)} {rs:List (Key×Value)} {kvs:List (Key×V)} {vs:List (Key×Value)},KV more rs->KV kvs vs->KV (mergeK kvs more) (merged vs rs):=by
 intro more rs kvs vs r
 unfold KV at r
 induction r generalizing kvs vs with
 | nil=>intro q;exact q
 | @cons p q ps qs h t ih=>
  intro r0
  have e:KV (putK kvs p.1 p.2) (stored vs q.1 q.2):=by
   have:=r0.put p.1 h.2
   rw [<-h.1];exact this
  exact ih e
theorem length_mergeK:∀ (more kvs:List (Key×V)),(mergeK kvs more).length<=kvs.length+more.length
 | [],kvs=>by show kvs.length<=kvs.length+0;omega
 | p :: r,kvs=>by
  have h1:=length_mergeK r (putK kvs p.1 p.2)
  have h2:=length_putK kvs p.1 p.2
  show (mergeK (putK kvs p.1 p.2) r).length<=_
  rw [List.length_cons];omega
theorem carries_of {P:Program} {w:World}:∀ {kvs:List (Key×V)} {ws:List (Value×Value)},VV (kvs.map fun kv=>(kV kv.1,kv.2)) ws->∃ rs,Carries (mixKind P w) ws rs/\KV kvs rs
 | [],_,r=>by rw [List.map_nil] at r;cases r;exact ⟨[],True.intro,.nil⟩
 | p :: kvs,_,r=>by
  rw [List.map_cons] at r
  cases r with
  | @cons a b as bs h t=>
   obtain ⟨rs,c,q⟩:=carries_of (P:=P) (w:=w) t
   obtain ⟨b1,b2⟩:=b
   exact ⟨(p.1,b2) :: rs,⟨kV_is h.1,rfl,c⟩,.cons ⟨rfl,h.2⟩ q⟩
def tDisp (trs:List (TE×TE)):TE:=fun σ H Q=>∀ p,H p=none->tPairs trs σ (upd H p (.dK [])) fun ps H2=>H2 p=some (.dK [])/\∃ kvs:List (Key×V),ps=kvs.map (fun kv=>(kV kv.1,kv.2))/\kvs.length<=15/\Q (.ref p) (upd H2 p (.dK (mergeK [] kvs)))
theorem pe_disp {X:Cx} {pos:Pos} {keys:List (Option Expr)} {values:List Expr} {trs:List (TE×TE)} (h:PPs X pos keys values trs) (hall:keys.all (·.isSome)=true) (hl:keys.length=values.length) (h0:keys≠[])
  (h15:keys.length<=15):PE X (.Dict keys values pos) (tDisp trs):=by
 intro pins s σ H Q I q
 have hn:=I.hok.fresh (Nat.le_refl s.heap.objs.size)
 have I1:=I.laid (a:=s.heap.objs.size) (o:=.dK []) (h':=s.heap.push { cls:=.type "dict",data:=.dict #[] }) (t':=s.toks) (fun _ _ q=>Heap.get?_push_of_some _ q) (Nat.le_refl _) (dk_empty s.heap I.big)
 refine wpAny_Dict_walk (knd:=mixKind X.prog X.w) hall hl h0 h15 (thn (h pins _ σ _ _ I1 (q _ hn)) fun ws s2 ⟨ps,H2,I2,rel,e,kvs,ep,lk,q2⟩=>?_)
 subst ep
 obtain ⟨rs,c,rk⟩:=carries_of (P:=X.prog) (w:=X.w) rel
 obtain ⟨z,hd,vs0,r0,dd⟩:=dk_of I2.hok e
 cases r0
 refine ⟨rs,c,dd,fun h' dd' hs=>⟨.ref s.heap.objs.size,_,?_,rfl,q2⟩⟩
 have hz:(mergeK [] kvs).length<=sizeLine:=by
  have h1:=length_mergeK kvs []
  rw [List.length_nil] at h1
  rw [sizeLine_eq];omega
 have he:∃ q,h'.get? s.heap.objs.size=some q:=let ⟨q,_,_,hq,_⟩:=dd';⟨q,hq⟩
 exact d_write I2 (by rw [e];exact True.intro) hs he (dk_new hz hd (rk.merge .nil) dd')
structure M1 (X:Cx) (o:Expr) (m:Str) (apos:Pos) (e:Expr) (cpos:Pos):Prop where
 base:attributeBase o m X.env (eval o X.env)=eval o X.env
 few:((backTo cpos (starEach [e] X.env)).all (fun x=>!x.1) && (backToKw cpos (keywordEach [] X.env)).all (fun x=>x.1.isSome)
  && decide (([e]:List Expr).length+([]:List Keyword).length+(if ([]:List Keyword).isEmpty then 0 else 1) < 30))=true
 line:(apos.endLine == cpos.line)=true
 trees:backTo cpos (starEach [e] X.env)=[(false,eval e X.env)]
structure M2 (X:Cx) (o:Expr) (m:Str) (apos:Pos) (e f:Expr) (cpos:Pos):Prop where
 base:attributeBase o m X.env (eval o X.env)=eval o X.env
 few:((backTo cpos (starEach [e,f] X.env)).all (fun x=>!x.1) && (backToKw cpos (keywordEach [] X.env)).all (fun x=>x.1.isSome)
  && decide (([e,f]:List Expr).length+([]:List Keyword).length+(if ([]:List Keyword).isEmpty then 0 else 1) < 30))=true
 line:(apos.endLine == cpos.line)=true
 trees:backTo cpos (starEach [e,f] X.env)=[(false,eval e X.env),(false,eval f X.env)]
section
variable {X:Cx} {pins:List (Addr×Obj)} {σ:St} {H:Hp} {s:Shared} {a:Addr} {y d:V} {u r:Value} {o:Option V} {A:Around} {E:Value->Shared->Prop}
end
section
variable {X:Cx} {o e f:Expr} {apos cpos:Pos} {td ty tx:TE}
end
section
variable {X:Cx} {pins:List (Addr×Obj)} {σ:St} {H:Hp} {s:Shared} {a:Addr} {kvs:List (Key×V)} {A:Around} {E:Value->Shared->Prop}
end
section
variable {X:Cx} {pins:List (Addr×Obj)} {σ:St} {H:Hp} {s:Shared} {a:Addr} {y:V} {u:Value} {A:Around} {E:Value->Shared->Prop}
end
end L2
end
section
namespace L2
open PySem PySem.Spec PyProof.Rows
def tyD:PyData->String
 | .none=>"NoneType"
 | .bool _=>"bool"
 | .int _=>"int"
 | .str _=>"str"
 | .list _=>"list"
 | .tuple _=>"tuple"
 | .dict _=>"dict"
theorem DV.ty {H:Hp} {v:V} {d:PyData} (h:DV H v d):tyN H v=some (tyD d):=by
 cases h with
 | non=>rfl
 | bl b=>rfl
 | int i=>rfl
 | str x=>rfl
 | lst e _=>simp [tyN,e,tyD]
 | tup e _=>simp [tyN,e,tyD]
 | dic e=>simp [tyN,e,tyD]
mutual
def smallD:PyData->Bool
 | .str z=>decide (z.length<=1000)
 | .list xs=>decide (xs.length<=1000) && smallAllD xs
 | .tuple xs=>decide (xs.length<=1000) && smallAllD xs
 | _=>true
def smallAllD:List PyData->Bool
 | []=>true
 | d :: ds=>smallD d && smallAllD ds
end
def leafV:V->Prop
 | .non | .bl _ | .int _ | .str _=>True
 | _=>False
mutual
inductive Tw (H:Hp):Nat->V->V->Prop
 | leaf {n:Nat} {x:V}:leafV x->Tw H n x x
 | dic {n:Nat} {a:Addr}:H a=some (.dK [])->Tw H n (.ref a) (.ref a)
 | lst {n:Nat} {a b:Addr} {xs ys:List V}:H a=some (.lst xs)->H b=some (.lst ys)->Tws H n xs ys->Tw H (n+1) (.ref a) (.ref b)
 | tup {n:Nat} {a b:Addr} {xs ys:List V}:H a=some (.tup xs)->H b=some (.tup ys)->Tws H n xs ys->Tw H (n+1) (.ref a) (.ref b)
inductive Tws (H:Hp):Nat->List V->List V->Prop
 | nil {n:Nat}:Tws H n [] []
 | cons {n:Nat} {x y:V} {xs ys:List V}:Tw H n x y->Tws H n xs ys->Tws H n (x :: xs) (y :: ys)
end
mutual
theorem Tw.mono {H H':Hp} (k:Same H H'):∀ {n:Nat} {x y:V},Tw H n x y->Tw H' n x y
 | _,_,_,.leaf h=>.leaf h
 | _,_,_,.dic h=>.dic (k _ _ h)
 | _,_,_,.lst h h' r=>.lst (k _ _ h) (k _ _ h') (Tws.mono k r)
 | _,_,_,.tup h h' r=>.tup (k _ _ h) (k _ _ h') (Tws.mono k r)
theorem Tws.mono {H H':Hp} (k:Same H H'):∀ {n:Nat} {xs ys:List V},Tws H n xs ys->Tws H' n xs ys
 | _,_,_,.nil=>.nil
 | _,_,_,.cons h r=>.cons (Tw.mono k h) (Tws.mono k r)
end
theorem Tws.length {H:Hp}:∀ {n:Nat} {xs ys:List V},Tws H n xs ys->xs.length=ys.length
 | _,_,_,.nil=>rfl
 | _,_,_,.cons _ r=>by rw [List.length_cons,List.length_cons,r.length]
theorem Tws.app {H:Hp}:∀ {n:Nat} {xs ys xs' ys':List V},Tws H n xs ys->Tws H n xs' ys'->Tws H n (xs++xs') (ys++ys')
 | _,_,_,_,_,.nil,k=>k
 | _,_,_,_,_,.cons h r,k=>.cons h (Tws.app r k)
theorem Tws.get {H:Hp}:∀ {n:Nat} {xs ys:List V} {j:Nat} {x y:V},Tws H n xs ys->xs[j]? = some x->ys[j]? = some y->Tw H n x y
 | _,_,_,0,_,_,.cons h _,e,e'=>by simp at e e';subst e;subst e';exact h
 | _,_,_,j+1,_,_,.cons _ r,e,e'=>Tws.get r (by simpa using e) (by simpa using e')
section
variable {X:Cx} {pins:List (Addr×Obj)} {σ:St} {H:Hp} {s:Shared} {A:Around}
end
section
variable {X:Cx}
end
end L2
end
section
namespace L2
open PySem PySem.Spec PyProof.Rows
namespace Om
def whole:PyData->Bool
 | .int _=>true
 | _=>false
end Om
end L2
end
section
namespace L2
open PySem PySem.Spec PyProof.Rows
section
variable {X:Cx} {p pos:Pos} {e:Expr} {es:List Expr} {t:TA}
end
end L2
end
section
namespace L2
open PySem PySem.Spec PyProof.Rows
section
variable {prog:Program} {w:World} {A:Around} {E:Value->Shared->Prop} {s:Shared}
theorem keyIter {d:Addr} {ep:Nat} {od:Obj} {es:Array DictEntry} {Q:Value->Shared->Prop} (hd:(d == sysModules)=false) (hT:s.TypeIs (.ref d) "dict") (ho:s.heap.get? d=some od) (hdat:od.data = .dict es ep)
  (hQ:Q (.ref s.heap.objs.size) { s with heap:=s.heap.push { cls:=.type "dict_keyiterator",data:=.fields #[.ref d,.int 0 0,.int es.size 0,.int ep 0] } }):wpAny (model prog w) A (pyIter (.ref d)) Q E s:=by
 refine wpAny_pyIter_slot hT F.slot_dict_iter (wpAny_call_entry F.slot_dict_iter hT F.entry_dict_iter ?_ (F.args_dict_iter_1 _))
 unfold Builtin.«dict.__iter__» Builtin.Dict.dictSlotNone
 refine wpAny_bind (wpAny_bind (wpAny_notOrdered_dict hT ?_))
 refine wpAny_pure ?_
 show wpAny _ _ (Builtin.Dict.showsAll d >>= _) _ _ s
 unfold Builtin.Dict.showsAll
 rw [if_neg (by rw [hd];exact Bool.false_ne_true)]
 refine wpAny_bind (wpAny_pure (wpAny_bind (wpAny_dictEntries ho hdat (wpAny_bind (wpAny_dictEpoch ho hdat ?_)))))
 refine wpAny_bind (wpAny_newObj_type (wpAny_pure ⟨_,rfl,"dict_keyiterator",_,⟨_,Heap.get?_push_size _ rfl,rfl⟩,F.slot_dict_keyiterator_next.lookup,?_⟩))
 simpa [rawInt] using hQ
theorem keyNext {it d:Addr} {i ep:Nat} {od:Obj} {es:Array DictEntry} {e:DictEntry} {Q:Option Value->Shared->Prop} (hit:s.heap.IsKeyIter it d i es.size ep) (hod:s.heap.get? d=some od) (hdd:od.data = .dict es ep) (he:es[i]? = some e)
  (hQ:∀ h',h'.IsKeyIter it d (i+1) es.size ep->Heap.SameBut it s.heap h'->Q (some e.key) { s with heap:=h' }):wpAny (model prog w) A (pyNext (.ref it)) Q E s:=by
 obtain ⟨o,ho,hc,hd⟩:=id hit
 unfold pyNext
 refine wpAny_bind (wpAny_attempt (wpAny_callSpecial?_slot (name:=Str.ofString "__next__") hit.typeIs F.slot_dict_keyiterator_next
  (wpAny_call_entry F.slot_dict_keyiterator_next hit.typeIs F.entry_dict_keyiterator_next ?_ (F.args_dict_keyiterator_next_1 _))))
 refine wpAny_bind (wpAny_pure (wpAny_bind (wpAny_bind ?_)))
 first | refine wpAny_bind (wpAny_typeNameOfWhole_keyiter hit.typeIs (wpAny_pure ?_)) | refine wpAny_bind (wpAny_typeNameOf_keyiter hit.typeIs (wpAny_pure ?_))
 refine wpAny_bind (wpAny_fieldsOf ho hd ?_)
 simp only [show Builtin.Dict_items.ownsTuple "dict_keyiterator" = false from by decide,Bool.false_eq_true,if_false]
 show wpAny _ _ (if (Value.ref d == Value.none)=true then _ else _) _ _ s
 rw [if_neg (show ¬ ((Value.ref d == Value.none)=true) from Bool.false_ne_true)]
 refine wpAny_bind (wpAny_pure (wpAny_bind (wpAny_dictEntries hod hdd ?_)))
 rw [if_neg (by simp)]
 refine wpAny_bind (wpAny_pure (wpAny_bind (wpAny_dictEpoch hod hdd ?_)))
 rw [if_neg (by simp)]
 refine wpAny_pure ?_
 simp only [show ¬ ((i:Int) < 0) from by omega,if_false,Int.toNat_natCast,he]
 refine wpAny_bind ?_
 first | refine wpAny_bind (wpAny_typeNameOfWhole_keyiter hit.typeIs (wpAny_pure ?_)) | refine wpAny_bind (wpAny_typeNameOf_keyiter hit.typeIs (wpAny_pure ?_))
 refine wpAny_bind (wpAny_isOneOf_keyiter hit.typeIs ?_)
 show wpAny _ _ (setField (.ref it) 1 (rawInt ((i:Int)+1)) >>= _) _ _ s
 refine wpAny_bind (wpAny_setField ho hd (by simp) ?_)
 have hit':(s.heap.update it (Obj.mapFields (·.setIfInBounds 1 (rawInt ((i:Int)+1))))).IsKeyIter it d (i+1) es.size ep:=
  ⟨_,Heap.get?_update_self _ ho (Obj.isFreed_of_fields (Obj.data_mapFields hd _)),(Obj.cls_mapFields ..).trans hc,by rw [Obj.data_mapFields hd];simp [rawInt]⟩
 refine wpAny_bind (wpAny_holding ?_)
 refine wpAny_bind (wpAny_isOneOf_keyiter (s:={ s with heap:=s.heap.update it (Obj.mapFields (·.setIfInBounds 1 (rawInt ((i:Int)+1)))) }) hit'.typeIs ?_)
 show wpAny _ _ (pure e.key) _ _ _
 exact wpAny_pure (wpAny_pure ⟨_,rfl,wpAny_pure (hQ _ hit' (Heap.SameBut.update ..))⟩)
theorem keyEnd {it d:Addr} {i ep:Nat} {od:Obj} {es:Array DictEntry} {Q:Option Value->Shared->Prop} (hh:A.handled=none) (hit:s.heap.IsKeyIter it d i es.size ep) (hod:s.heap.get? d=some od) (hdd:od.data = .dict es ep) (hge:es.size<=i)
  (hQ:∀ h',Heap.ExtBut it s.heap h'->Q none { s with heap:=h' }):wpAny (model prog w) A (pyNext (.ref it)) Q E s:=by
 obtain ⟨o,ho,hc,hd⟩:=id hit
 unfold pyNext
 refine wpAny_bind (wpAny_attempt (wpAny_callSpecial?_slot (name:=Str.ofString "__next__") hit.typeIs F.slot_dict_keyiterator_next
  (wpAny_call_entry F.slot_dict_keyiterator_next hit.typeIs F.entry_dict_keyiterator_next ?_ (F.args_dict_keyiterator_next_1 _))))
 refine wpAny_bind (wpAny_pure (wpAny_bind (wpAny_bind ?_)))
 first | refine wpAny_bind (wpAny_typeNameOfWhole_keyiter hit.typeIs (wpAny_pure ?_)) | refine wpAny_bind (wpAny_typeNameOf_keyiter hit.typeIs (wpAny_pure ?_))
 refine wpAny_bind (wpAny_fieldsOf ho hd ?_)
 simp only [show Builtin.Dict_items.ownsTuple "dict_keyiterator" = false from by decide,Bool.false_eq_true,if_false]
 show wpAny _ _ (if (Value.ref d == Value.none)=true then _ else _) _ _ s
 rw [if_neg (show ¬ ((Value.ref d == Value.none)=true) from Bool.false_ne_true)]
 refine wpAny_bind (wpAny_pure (wpAny_bind (wpAny_dictEntries hod hdd ?_)))
 rw [if_neg (by simp)]
 refine wpAny_bind (wpAny_pure (wpAny_bind (wpAny_dictEpoch hod hdd ?_)))
 rw [if_neg (by simp)]
 refine wpAny_pure ?_
 simp only [show ¬ ((i:Int) < 0) from by omega,if_false,Int.toNat_natCast,Array.getElem?_eq_none hge]
 refine wpAny_bind ?_
 first | refine wpAny_bind (wpAny_typeNameOfWhole_keyiter hit.typeIs (wpAny_pure ?_)) | refine wpAny_bind (wpAny_typeNameOf_keyiter hit.typeIs (wpAny_pure ?_))
 show wpAny _ _ (setField (.ref it) 0 .none >>= _) _ _ s
 refine wpAny_bind (wpAny_setField ho hd (by simp) ?_)
 show wpAny _ _ (newExc (.type "StopIteration") [] >>= _) _ _ _
 refine wpAny_bind ?_
 simp only [newExc,newTuple]
 refine wpAny_bind (wpAny_newObj_type ?_ (by size_fits))
 refine wpAny_bind (m:=firstArgMember _ _) (wpAny_of_eq (a:=Value.none) (by first | rfl | (simp only [firstArgMember];rfl)) ?_)
 refine wpAny_newObj_type ?_ (by size_fits)
 simp only [raiseNew]
 refine wpAny_bind (wpAny_handled ?_)
 rw [show A.in1.handled=none from hh]
 refine wpAny_bind (wpAny_pure (wpAny_throw ?_))
 refine wpAny_bind (wpAny_isInstance (T:= "StopIteration") (b:=true) ⟨_,Heap.get?_push_size _ rfl,rfl⟩ isSubtype_stop ?_)
 exact wpAny_pure (hQ _ (((Heap.SameBut.update ..).extBut.push _).push _))
end
end L2
end
section
namespace L2
open PySem PySem.Spec PyProof.Rows
section
variable {X:Cx} {pins:List (Addr×Obj)} {σ:St} {H:Hp} {s:Shared} {a:Addr} {u:HO} {o:Obj}
theorem Inv.freeze (I:Inv X pins σ H s) (e:H a=some u) (mu:Mut (some u)) (ho:s.heap.get? a=some o):Inv X pins σ (upd H a (.frz o u)) s:=by
 have nown:∀ c y,H c=some (.own y)->c≠a:=fun c y r z=>by subst z;rw [r] at e;cases e;exact mu
 have ntup:∀ c xs,H c=some (.tup xs)->c≠a:=fun c xs r z=>by subst z;rw [r] at e;cases e;exact mu
 exact I.write (t':=s.toks) (h':=s.heap) (x:=a) (e:=a) (by rw [e];exact mu) (.inl rfl) (fun _ _ _ q=>q) ⟨o,ho⟩
  ⟨ho,(I.hok a u e).stay (fun _ _ _ q=>q) (fun b q=>by rw [upd_ne (nown b a q)];exact q) fun b xs q=>by rw [upd_ne (ntup b xs q)];exact q⟩
theorem Inv.frozen (I:Inv X pins σ H s) (e:H a=some (.frz o u)):s.heap.get? a=some o:=(I.hok a _ e).1
theorem Inv.obj (I:Inv X pins σ H s) (e:H a=some u):∃ o,s.heap.get? a=some o:=by
 have l:=(I.hok a u e).lt
 cases u with
 | lst xs=>obtain ⟨_,_,_,_,q⟩:=I.hok a _ e;exact ⟨_,q⟩
 | dK kvs=>obtain ⟨_,_,_,_,o,_,_,q,_⟩:=I.hok a _ e;exact ⟨_,q⟩
 | dT kvs=>obtain ⟨_,_,_,_,o,_,_,q,_⟩:=I.hok a _ e;exact ⟨_,q⟩
 | tup xs=>obtain ⟨_,_,_,o,q,_⟩:=I.hok a _ e;exact ⟨_,q⟩
 | set S n=>obtain ⟨o,_,_,_,q,_⟩:=I.hok a _ e;exact ⟨_,q⟩
 | ins C dx fs=>obtain ⟨_,_,_,q,_⟩:=I.hok a _ e;exact ⟨_,q⟩
 | own y=>obtain ⟨_,q⟩:=I.hok a _ e;exact ⟨_,q⟩
 | xd fs=>obtain ⟨_,⟨_,_,_,q,_⟩,_⟩:=I.hok a _ e;exact ⟨_,q⟩
 | rng lo hi=>obtain ⟨_,_,_,q⟩:=I.hok a _ e;exact ⟨_,q⟩
 | frz ob u=>obtain ⟨q,_⟩:=I.hok a _ e;exact ⟨_,q⟩
 | tbl ps=>exact ⟨_,I.hok a _ e⟩
 | met f y=>exact ⟨_,I.hok a _ e⟩
 | ext φ=>obtain ⟨_,q,_⟩:=I.hok a _ e;exact q
end
section
variable {X:Cx} {e:Expr} {te:TE} {pos:Pos}
def tRetF (te:TE):TS:=fun D σ H=>te σ H fun x H1=>match x with
 | .ref a=>(∃ u,H1 a=some u/\Mut (some u)/\∀ o,D.rt (.ref a) (upd H1 a (.frz o u)))\/D.rt (.ref a) H1
 | x=>D.rt x H1
theorem s_retF (he:PE X e te):PS X (.Return (some e) pos) (tRetF te):=by
 intro pins s σ H D I h
 refine wpAny_Return_some (thn (he pins s σ H _ I h) fun v s1 ⟨x,H1,I1,r1,q1⟩=>?_)
 cases x with
 | ref a=>
  rcases q1 with ⟨u,e,mu,q⟩ | q
  ·obtain ⟨o,ho⟩:=I1.obj e
   exact ⟨.ref a,σ,_,I1.freeze e mu ho,r1,q o⟩
  ·exact ⟨.ref a,σ,H1,I1,r1,q⟩
 | _=>exact ⟨_,σ,H1,I1,r1,q1⟩
end
abbrev KeysAt (H:Hp):List (List Key×V)->List Addr->Prop:=Paired fun p b=>H b=some (.tup (p.1.map kV))
def Itk (a:Addr) (o:Obj) (xs:List V):It:=
 ⟨fun i H=>i < xs.length/\∃ u,H a=some (.frz o u),fun i H x H'=>H'=H/\xs[i]? = some x,fun i H=>xs.length<=i/\∃ u,H a=some (.frz o u)⟩
theorem it_keys (a:Addr) (o:Obj) (xs:List V):ItOk (Itk a o xs) xs fun H=>∃ u,H a=some (.frz o u):=
 ⟨fun _ h=>⟨Nat.le_refl _,h⟩,fun _ _ h hi=>⟨hi,h⟩,fun _ _ _ _ _ _ y=>y⟩
theorem turn_keys {P:Program} {w:World} {K:PySem.W.Frag} {tg:Expr} {a it:Addr} {o:Obj} {es:Array DictEntry} {ep:Nat} {xs:List V} (hd:o.data = .dict es ep) (rel:Vals xs (es.toList.map (·.key))) :
  Turn P w K tg (Itk a o xs) [it] it (fun i h=>h.IsKeyIter it a i es.size ep) where
 mem:=by simp
 obj:=fun i h st b hb=>by
  have e:b=it:=by simpa using hb
  subst e
  obtain ⟨o,e,c,d⟩:=st
  exact ⟨o,e,fun v z=>by rw [d] at z;cases z⟩
 keep:=fun i h h' st k=>st.at fun o e=>k it (by simp) o e
 item:=by
  intro X hP hw hK hc i pins s σ H E I hf st hg
  subst hP hw hK
  obtain ⟨hi,u,hu⟩:=hg
  have hx:xs[i]? = some xs[i]:=by simp [hi]
  obtain ⟨v,hv,rv⟩:=rel.get hx
  obtain ⟨e,he,ev⟩ : ∃ e,es[i]? = some e/\e.key=v:=by
   rw [List.getElem?_map] at hv
   obtain ⟨e,h1,h2⟩:=Option.map_eq_some_iff.mp hv
   exact ⟨e,by simpa using h1,h2⟩
  obtain ⟨f0,f1,f2,f3,f4,f5⟩:=hf it (by simp)
  refine keyNext st (I.frozen hu) hd he fun h' st' sb=>?_
  have I1:Inv X pins σ H { s with heap:=h' }:=I.turned (t':=s.toks) (fun b o hb e=>(sb.2 b hb).trans e) f0 f1 f3 f4 f5
  refine ⟨e.key,rfl,letGo_keyiter st' ⟨xs[i],H,I1,by rw [ev];exact rv,⟨rfl,hx⟩,st',fun b hb=>(hf b hb).1⟩⟩
 done:=by
  intro X hP hw hK hc i pins s σ H E I hf st hg
  subst hP hw hK
  obtain ⟨hi,u,hu⟩:=hg
  have hl:es.size<=i:=by
   have:=rel.length
   simp at this
   omega
  obtain ⟨f0,f1,f2,f3,f4,f5⟩:=hf it (by simp)
  exact keyEnd (I.ok.hd hc) st (I.frozen hu) hd hl fun h' eb=>⟨rfl,I.turned (t':=s.toks) (fun b o hb e=>eb b o hb e) f0 f1 f3 f4 f5⟩
 self:=fun _ _ _ _ _ st h=>wpAny_pyIter_keyiter st h
section
variable {X:Cx} {tg:Expr}
def iLstD (K:PySem.W.Frag) (tl:TE):TI:=fun σ H R=>tl σ H fun x H1=>match x with
 | .ref a=>((∃ xs,SqL K H1 a xs)/\R (Itl K a) H1)\/(∃ o kvs,H1 a=some (.frz o (.dT kvs))/\∀ bs,KeysAt H1 kvs bs->R (Itk a o (bs.map V.ref)) H1) ∨
   ∃ o kvs,H1 a=some (.frz o (.dK kvs))/\R (Itk a o (kvs.map fun p=>kV p.1)) H1
 | _=>False
theorem keys_tup {H:Hp} {kvs:List (List Key×V)} {xs:List (List Key×Addr×Value)} (r:KT H kvs xs):KeysAt H kvs (xs.map (·.2.1)):=by
 induction r with
 | nil=>exact .nil
 | cons h _ ih=>exact .cons h.2.1 ih
theorem keys_mix {P:Program} {w:World} {kvs:List (Key×V)}:∀ {es:List DictEntry} {vs:List (Key×Value)},KV kvs vs->Pairs (mixKind P w) es vs->Vals (kvs.map fun p=>kV p.1) (es.map (·.key)):=by
 intro es vs r q
 unfold KV at r
 induction r generalizing es with
 | nil=>cases q;exact .nil
 | @cons p v ps vs' h t ih=>
  cases q with
  | cons h1 h2 h3=>
   refine .cons ?_ (ih h3)
   dsimp only
   rw [h.1]
   rcases keyIs_shape h1 with ⟨i,t,e1,e2⟩ | ⟨x,t,e1,e2⟩
   ·rw [e1,e2];exact ⟨t,rfl⟩
   ·rw [e1,e2];exact ⟨t,rfl⟩
theorem pi_lstD {l:Expr} {tl:TE} (hl:PE X l tl):PI X tg l (iLstD X.K tl):=by
 intro pins s σ H R I h
 refine thn (hl pins s σ H _ I h) fun v s1 ⟨x,H1,I1,r1,q1⟩=>?_
 dsimp only at q1
 split at q1
 ·rename_i a
  cases r1
  rcases q1 with ⟨⟨xs,hq⟩,q⟩ | ⟨o,kvs,hq,q⟩ | ⟨o,kvs,hq,q⟩
  ·obtain ⟨its,rv,p,hz⟩:=I1.list hq
   refine wpAny_pyIter_list p.isList ?_
   refine ⟨s1.heap.objs.size,[s1.heap.objs.size],_,_,H1,rfl,I1.kept (t':=s1.toks) fun b o e=>Heap.get?_push_of_some _ e,turn_list a _,⟨_,Heap.get?_push_size _ rfl,rfl,rfl⟩,fun b hb=>?_,q⟩
   have e:b=s1.heap.objs.size:=by simpa using hb
   subst e
   exact I1.fpOk (Nat.le_refl _) (I1.hok.fresh (Nat.le_refl _))
  ·have ho:=I1.frozen hq
   obtain ⟨_,z,hd,xs,r,o',es,ep,h1,h2,h3,h4,h5⟩:=I1.hok a _ hq
   rw [ho] at h1;cases h1
   have hT:s1.TypeIs (.ref a) "dict" := let ⟨_,_,_,_,dd⟩:=dt_rd I1.hok (.inr ⟨o,hq⟩);dd.typeIs
   have rel:Vals ((xs.map (·.2.1)).map V.ref) (es.toList.map (·.key)):=by
    rw [h4]
    clear h4 h5 r
    induction xs with
    | nil=>exact .nil
    | cons x xs ih=>exact .cons rfl ih
   refine keyIter hd hT ho h3 ?_
   refine ⟨s1.heap.objs.size,[s1.heap.objs.size],_,_,H1,rfl,I1.kept (t':=s1.toks) fun b o e=>Heap.get?_push_of_some _ e,turn_keys h3 rel,⟨_,Heap.get?_push_size _ rfl,rfl,rfl⟩,fun b hb=>?_,q _ (keys_tup r)⟩
   have e:b=s1.heap.objs.size:=by simpa using hb
   subst e
   exact I1.fpOk (Nat.le_refl _) (I1.hok.fresh (Nat.le_refl _))
  ·have ho:=I1.frozen hq
   obtain ⟨_,z,hd,vs,r,o',es,ep,h1,h2,h3,h4,h5,h6⟩:=I1.hok a _ hq
   rw [ho] at h1;cases h1
   have hT:s1.TypeIs (.ref a) "dict" := let ⟨_,_,_,_,dd⟩:=dk_rd I1.hok (.inr ⟨o,hq⟩);dd.typeIs
   refine keyIter hd hT ho h3 ?_
   refine ⟨s1.heap.objs.size,[s1.heap.objs.size],_,_,H1,rfl,I1.kept (t':=s1.toks) fun b o e=>Heap.get?_push_of_some _ e,turn_keys h3 (keys_mix r h5),⟨_,Heap.get?_push_size _ rfl,rfl,rfl⟩,fun b hb=>?_,q⟩
   have e:b=s1.heap.objs.size:=by simpa using hb
   subst e
   exact I1.fpOk (Nat.le_refl _) (I1.hok.fresh (Nat.le_refl _))
 ·exact q1.elim
end
end L2
end
section
namespace L2
open PySem PySem.Spec PyProof.Rows
section
variable {X:Cx} {pos:Pos}
def rDGet:R2:=fun x y H Q=>∃ a v,x = .ref a/\DGet H a y (some v)/\Q v H
def rDNotIn:R2:=fun y x H Q=>∃ a o,x = .ref a/\DGet H a y o/\Q (.bl (!o.isSome)) H
def rDPut:V->V->V->Hp->(Hp->Prop)->Prop:=fun o i v H Q=>∃ a H',o = .ref a/\DPut H a i v H'/\Q H'
theorem ix_dict (hu:X.A.units+64 < cLine):IxR X rDGet:=by
 intro value slice pins s σ H x y v u Q I rx ry ⟨a,z,ex,g,q⟩ hs
 subst ex
 obtain rfl:v=Value.ref a:=rx
 have hT:=dict_typeIs I g
 unfold subscriptTail
 refine wpAny_bind ?_
 rw [getitemInPython_of_ne hT.not_modules]
 refine wpAny_bind (wpAny_specialOf hT PySem.F.slot_dict_getitem.lookup ?_)
 have fin:wpAny (model X.prog X.w) X.A (subscripted slice false (.ref a) u) (fun r s₃=>wpAny (model X.prog X.w) X.A (letTemporaryGo value (.ref a) r >>= fun _=>pure r) (EP X pins σ Q) X.xe s₃) X.xe s:=by
  rw [hs]
  exact wpAny_operating (d_getItem (by omega) I g ry fun w' s3 I3 rw'=>wpAny_bind (wpAny_letTemporaryGo (wpAny_pure ⟨z,H,I3,rw',q⟩)))
 first
  | exact wpAny_pure (wpAny_bind fin)
  | exact wpAny_bind (wpAny_pure (wpAny_bind fin))
  | exact wpAny_bind fin
theorem op_notInDict (hu:X.A.units+64 < cLine):OpR X (compareOp .NotIn) rDNotIn:=by
 intro pins s σ H y x u v Q I ry rx ⟨a,o,ex,g,q⟩
 subst ex
 obtain rfl:v=Value.ref a:=rx
 exact d_notIn (by omega) I g ry fun s3 I3=>⟨.bl (!o.isSome),H,I3,rfl,q⟩
theorem set_dict (hu:X.A.units+64 < cLine):PSet X rDPut:=by
 intro pins s σ H o i v ov iv u Q I ro ri rv ⟨a,H',eo,g,q⟩
 subst eo
 obtain rfl:ov=Value.ref a:=ro
 exact d_setItem (by omega) I g ri rv fun s4 I4=>⟨H',I4,q⟩
def rIxD:R2:=fun x y H Q=>rIxU x y H Q\/rDGet x y H Q
def rSetD:V->V->V->Hp->(Hp->Prop)->Prop:=fun o i v H Q=>rSetU o i v H Q\/rDPut o i v H Q
theorem ix_atD {a b:Expr} {ta tb:TE} (hu:X.A.units+64 < cLine) (ha:PE X a ta) (hb:PE X b tb) (hs:∀ o i,subscripted b false o i=operate [o,i] (getItem o i):=by intro _ _;kernel_rfl):PE X (.Subscript a b pos) (tOp rIxD ta tb):=
 pe_ix (ixU.or (ix_dict hu)) ha hb hs
theorem g_subD {o i:Expr} {to ti:TE} (hu:X.A.units+64 < cLine) (ho:PE X o to) (hi:PE X i ti) (ha:∀ v,assign (.Subscript o i pos) X.env v=(do
   let ov <-holding [v] (eval o X.env)
   let iv <-holding [v,ov] (eval i X.env)
   standAt pos
   holding [v,ov,iv] (setItem ov iv v)
   release [v,ov,iv] []):=by intro _;kernel_rfl):PG X (.Subscript o i pos) (gSub to ti rSetD):=
 pg_sub ho hi (fun pins s σ H o i v ov iv u Q I ro ri rv q=>by
  rcases q with q | q
  ·exact setU pins s σ H o i v ov iv u Q I ro ri rv q
  ·exact set_dict hu pins s σ H o i v ov iv u Q I ro ri rv q) ha
end
section
variable {prog:Program} {w:World} {A:Around} {E:Value->Shared->Prop} {s:Shared}
theorem truthy_entries {d:Addr} {o:Obj} {es:Array DictEntry} {ep:Nat} {Q:Bool->Shared->Prop} (hd:(d == sysModules)=false) (hT:s.TypeIs (.ref d) "dict") (ho:s.heap.get? d=some o) (hdat:o.data = .dict es ep) (hfit:(es.size:Int) < 2 ^ 63)
  (h:Q (decide (es.size≠0)) { s with toks:=s.toks+1+1 }):wpAny (model prog w) A (truthy (.ref d)) Q E s:=by
 have hne:((es.size:Int) != 0)=decide (es.size≠0):=by
  by_cases z:es.size=0
  ·simp [z]
  ·simp [z]
 have len1:MeetsIn prog w (Builtin.«dict.__len__» ⟨[.ref d],[]⟩) (fun _ R s=>s.heap.get? d=some o/\R (.ok (.ret (.int es.size s.toks))) { s with toks:=s.toks+1 }):=
  .of_wp fun A R s ⟨ho,h⟩=>by
   show wpAny _ _ (dictSize d >>= _) _ _ s
   unfold dictSize
   refine wpAny_bind (wpAny_bind (wpAny_dictEntries ho hdat (wpAny_pure ?_)))
   show wpAny _ _ (Builtin.Dict.pendingCount d >>= _) _ _ s
   refine wpAny_bind (wpAny_pendingCount_other hd ?_)
   refine wpAny_ret_mkInt ?_
   rw [Nat.add_zero];exact h
 have key:wpAny (model prog w) A (runValue (.builtin "len" ⟨[.ref d],[]⟩)) (fun r s'=>r = .int es.size (s.toks+1)/\Q (decide (es.size≠0)) s') E s:=by
  refine wpAny_runValue (codeAny_builtin entry_len ?_)
  rw [Around.under_plainId plain_len _]
  unfold Builtin.«len»
  refine wpAny_bind (m:=oneArg "len" _) (wpAny_pure ?_)
  refine wpAny_bind (m:=callSpecial? (.ref d) (Str.ofString "__len__")) (wpAny_callSpecial?_slot (name:=Str.ofString "__len__") hT F.slot_dict_len
   (call_meetsIn F.slot_dict_len hT F.entry_dict_len (F.args_dict_len_1 _) len1 ⟨ho,?_⟩))
  show wpAny _ _ _ _ _ { s with toks:=s.toks+1 }
  refine wpAny_bind (wpAny_holding (wpAny_pure ?_))
  refine wpAny_bind (wpAny_letGo ?_)
  show wpAny _ _ (if ((es.size:Nat):Int) < 0 then _ else _) _ _ _
  rw [if_neg (by omega)]
  show wpAny _ _ (if ((es.size:Nat):Int) ≥ 2 ^ 63 then _ else _) _ _ _
  rw [if_neg (by omega)]
  exact wpAny_bind (wpAny_mkInt (wpAny_pure ⟨rfl,h⟩))
 unfold truthy
 first
  | refine wpAny_bind (wpAny_callSpecial?_none (name:=Str.ofString "__bool__") hT noBool_dict ?_)
  | refine wpAny_bind (wpAny_pure (wpAny_bind (wpAny_callSpecial?_none (name:=Str.ofString "__bool__") hT noBool_dict ?_)))
 first
  | refine wpAny_bind (wpAny_specialOf (name:=Str.ofString "__len__") hT F.slot_dict_len.lookup ?_)
  | refine wpAny_bind (wpAny_pure (wpAny_bind (wpAny_specialOf (name:=Str.ofString "__len__") hT F.slot_dict_len.lookup ?_)))
 first
  | exact wpAny_bind (wpAny_mono key (fun r s' h'=>by obtain ⟨rfl,hq⟩:=h';exact wpAny_pure (hne ▸ hq)) fun _ _ e=>e)
  | exact wpAny_bind (wpAny_pure (wpAny_bind (wpAny_mono key (fun r s' h'=>by obtain ⟨rfl,hq⟩:=h';exact wpAny_pure (hne ▸ hq)) fun _ _ e=>e)))
end
section
variable {X:Cx} {pins:List (Addr×Obj)} {σ:St} {H:Hp} {s:Shared} {a:Addr} {A:Around} {E:Value->Shared->Prop}
theorem d_truthT {kvs:List (List Key×V)} {Q:Bool->Shared->Prop} (I:Inv X pins σ H s) (e:Rd H a (.dT kvs)) (h:∀ s',Inv X pins σ H s'->Q (!kvs.isEmpty) s'):wpAny (model X.prog X.w) A (truthy (.ref a)) Q E s:=by
 obtain ⟨z,hd,xs,rel,dd⟩:=dt_rd I.hok e
 have hT:s.TypeIs (.ref a) "dict" := dd.typeIs
 obtain ⟨o,es,ep,h1,h2,h3,h4,_⟩:=dd
 have hl:es.size=kvs.length:=by
  have:=congrArg List.length h4
  simp at this
  rw [this,Paired.length rel]
 refine truthy_entries hd hT h1 h3 (by rw [hl];rw [sizeLine_eq] at z;omega) ?_
 have q:decide (es.size≠0)=!kvs.isEmpty:=by rw [hl];cases kvs<;>simp
 rw [q]
 exact h _ ((I.tok _).tok _)
end
section
variable {X:Cx} {pos:Pos}
def rTruD (_K:PySem.W.Frag) (x:V) (H:Hp) (Q:Bool->Hp->Prop):Prop:=match x with
 | .bl c=>Q c H
 | .ref p=>(∃ xs,H p=some (.lst xs)/\Q (!xs.isEmpty) H)\/(∃ kvs,Rd H p (.dK kvs)/\Q (!kvs.isEmpty) H)\/∃ kvs,Rd H p (.dT kvs)/\Q (!kvs.isEmpty) H
 | _=>False
def tTruD (K:PySem.W.Frag) (t:TE):TT:=fun σ H Q=>t σ H fun x H1=>rTruD K x H1 Q
theorem truD {pins:List (Addr×Obj)} {s:Shared} {σ:St} {H:Hp} {x:V} {v:Value} {Q:Bool->Hp->Prop} (I:Inv X pins σ H s) (rx:RelV x v) (q:rTruD X.K x H Q) :
  wpAny (model X.prog X.w) X.A (truthy v) (fun b s'=>∃ H',Inv X pins σ H' s'/\Q b H') X.xe s:=by
 unfold rTruD at q
 split at q
 ·exact tru_ok pins s σ H _ v Q I rx ⟨_,rfl,q⟩
 ·rcases q with ⟨xs,h1,q⟩ | ⟨kvs,h1,q⟩ | ⟨kvs,h1,q⟩
  ·exact tru_ok pins s σ H _ v Q I rx ⟨_,.inl ⟨xs,SqL.of h1,rfl⟩,q⟩
  ·obtain rfl:=(show v=Value.ref _ from rx)
   exact d_truth I h1 fun s' I'=>⟨H,I',q⟩
  ·obtain rfl:=(show v=Value.ref _ from rx)
   exact d_truthT I h1 fun s' I'=>⟨H,I',q⟩
 ·exact q.elim
theorem t_truD {e:Expr} {t:TE} (h:PE X e t) (he:∀ whole,isTrue e X.env whole=(do let v <-whole;standAt e.pos;holding [v] (truthy v)):=by intro _;kernel_rfl):PT X e (tTruD X.K t):=by
 intro pins s σ H Q I hw
 exact isTrue_plain (thn (h pins s σ H _ I hw) fun v s1 ⟨x,H1,I1,r1,q1⟩=>truD I1 r1 q1) (he _)
def tNotD (K:PySem.W.Frag) (t:TE):TE:=fun σ H Q=>t σ H fun x H1=>rTruD K x H1 fun b H2=>Q (.bl (!b)) H2
theorem e_notD {a:Expr} {ta:TE} (ha:PE X a ta):PE X (.UnaryOp .Not a pos) (tNotD X.K ta):=by
 intro pins s σ H Q I h
 refine UnaryOp_ (thn (ha pins s σ H _ I h) fun v s1 ⟨x,H1,I1,r1,q1⟩=>?_)
 exact not_of (thn (truD I1 r1 q1) fun b s2 ⟨H2,I2,q2⟩=>⟨.bl (!b),H2,I2,rfl,q2⟩)
end
section
variable {X:Cx} {o e:Expr} {es:List Expr} {to:TE} {t:TA} {apos:Pos}
end
end L2
end
section
namespace L2
open PySem PySem.Spec PyProof.Rows
section
variable {X:Cx} {p pos:Pos} {a b e:Expr} {es:List Expr} {t:TA}
end
end L2
namespace Om
end Om
end
section
namespace Om
abbrev Stp:=(Nat×Nat)×(Nat×Nat)
abbrev R2n:=Nat->Nat->Prop
def St (rows:Rows) (x y:Nat) (s:Stp):Prop:=
 s.1.1 < (rows.getD x []).length/\s.1.2 < (rows.getD y []).length/\(step rows x s.1.1).1=(step rows y s.1.2).1/\s.2=((step rows x s.1.1).2,(step rows y s.1.2).2)
def StU (rows:Rows) (x y:Nat) (s:Stp):Prop:=St rows x y s/\s.1.1≠s.1.2
def nextR (E:Nat->Nat->Stp->Prop) (R:R2n):R2n:=fun x' y'=>∃ x y s,R x y/\E x y s/\s.2=(x',y')
def iterR (E:Nat->Nat->Stp->Prop) (R:R2n):Nat->R2n
 | 0=>R
 | m+1=>nextR E (iterR E R m)
def AllR (rows:Rows):R2n:=fun x y=>x < rows.length/\y < rows.length
inductive Pth (rows:Rows):Nat->List Nat->List Bool->Nat->Prop
 | nil {s:Nat}:s < rows.length->Pth rows 0 [] [] s
 | snoc {m:Nat} {t:List Nat} {w:List Bool} {p i:Nat}:Pth rows m t w p->i < (rows.getD p []).length->Pth rows (m+1) (t++[i]) (w++(step rows p i).1) (step rows p i).2
section
variable {k n:Nat} {rows:Rows}
theorem CodeOk.stp (ok:CodeOk k n rows) {p i:Nat} (hi:i < (rows.getD p []).length):p < rows.length/\(step rows p i).1.length=n/\(step rows p i).2 < rows.length:=by
 by_cases hp:p < rows.length
 ·have e:rows.getD p []=rows[p]:=by simp [List.getD_eq_getElem?_getD,hp]
  rw [e] at hi
  have e2:step rows p i=rows[p][i]:=by unfold step;rw [e];simp [List.getD_eq_getElem?_getD,hi]
  rw [e2]
  have:=ok.row _ (List.getElem_mem hp) _ (List.getElem_mem hi)
  exact ⟨hp,this.1,this.2⟩
 ·have:rows.getD p []=[]:=by simp [List.getD_eq_getElem?_getD,List.getElem?_eq_none (Nat.le_of_not_lt hp)]
  rw [this] at hi
  simp at hi
theorem Pth.len {m:Nat} {t:List Nat} {w:List Bool} {p:Nat} (h:Pth rows m t w p):t.length=m:=by
 induction h with
 | nil=>rfl
 | snoc _ _ ih=>simp [ih]
theorem Pth.lt {m:Nat} {t:List Nat} {w:List Bool} {p:Nat} (ok:CodeOk k n rows) (h:Pth rows m t w p):p < rows.length:=by
 cases h with
 | nil h=>exact h
 | snoc _ hi=>exact (ok.stp hi).2.2
theorem Pth.inv {m:Nat} {t:List Nat} {w:List Bool} {p:Nat} (h:Pth rows (m+1) t w p):∃ t1 w1 p1 i,Pth rows m t1 w1 p1/\i < (rows.getD p1 []).length/\t=t1++[i]/\w=w1++(step rows p1 i).1/\p=(step rows p1 i).2:=by
 cases h with
 | snoc h hi=>exact ⟨_,_,_,_,h,hi,rfl,rfl,rfl⟩
theorem two_inv (ok:CodeOk k n rows) {m:Nat} {t t':List Nat} {w:List Bool} {x y:Nat} (h:Pth rows (m+1) t w x) (h':Pth rows (m+1) t' w y) :
  ∃ t1 t1' w1 x1 y1 s,Pth rows m t1 w1 x1/\Pth rows m t1' w1 y1/\St rows x1 y1 s/\s.2=(x,y)/\t=t1++[s.1.1]/\t'=t1'++[s.1.2]:=by
 obtain ⟨t1,w1,p1,i,a1,a2,a3,a4,a5⟩:=h.inv
 obtain ⟨t2,w2,p2,j,b1,b2,b3,b4,b5⟩:=h'.inv
 have l1:=(ok.stp a2).2.1
 have l2:=(ok.stp b2).2.1
 have e:w1++(step rows p1 i).1=w2++(step rows p2 j).1:=by rw [<-a4,<-b4]
 obtain ⟨e1,e2⟩:=List.append_inj' e (by rw [l1,l2])
 subst e1
 exact ⟨t1,t2,w1,p1,p2,((i,j),((step rows p1 i).2,(step rows p2 j).2)),a1,b1,⟨a2,b2,e2,rfl⟩,by rw [a5,b5],a3,b3⟩
theorem iter_iff (ok:CodeOk k n rows):∀ (m x y:Nat),iterR (St rows) (AllR rows) m x y↔∃ t t' w,Pth rows m t w x/\Pth rows m t' w y
 | 0,x,y=>by
  constructor
  ·rintro ⟨hx,hy⟩
   exact ⟨[],[],[],.nil hx,.nil hy⟩
  ·rintro ⟨t,t',w,h,h'⟩
   exact ⟨h.lt ok,h'.lt ok⟩
 | m+1,x,y=>by
  constructor
  ·rintro ⟨x1,y1,s,h,e,es⟩
   obtain ⟨t,t',w,a,b⟩:=(iter_iff ok m x1 y1).mp h
   obtain ⟨e1,e2,e3,e4⟩:=e
   have c:=Pth.snoc b e2
   rw [<-e3] at c
   rw [e4] at es
   cases es
   exact ⟨_,_,_,a.snoc e1,c⟩
  ·rintro ⟨t,t',w,h,h'⟩
   obtain ⟨t1,t1',w1,x1,y1,s,a,b,e,es,_,_⟩:=two_inv ok h h'
   exact ⟨x1,y1,s,(iter_iff ok m x1 y1).mpr ⟨_,_,_,a,b⟩,e,es⟩
def Clash (rows:Rows) (b m:Nat) (x y:Nat):Prop:=∃ t t' w,Pth rows m t w x/\Pth rows m t' w y/\t.getD b 0≠t'.getD b 0
theorem getD_snoc {t:List Nat} {i b:Nat} (h:t.length=b):(t++[i]).getD b 0=i:=by subst h;simp [List.getD_eq_getElem?_getD]
theorem getD_early {t:List Nat} {i b:Nat} (h:b < t.length):(t++[i]).getD b 0=t.getD b 0:=by simp [List.getD_eq_getElem?_getD,List.getElem?_append_left h]
theorem clash_iff (ok:CodeOk k n rows) (b:Nat):∀ (a x y:Nat),iterR (St rows) (nextR (StU rows) (iterR (St rows) (AllR rows) b)) a x y↔Clash rows b (b+1+a) x y
 | 0,x,y=>by
  constructor
  ·rintro ⟨x1,y1,s,h,⟨e,ne⟩,es⟩
   obtain ⟨t,t',w,a,b'⟩:=(iter_iff ok b x1 y1).mp h
   obtain ⟨e1,e2,e3,e4⟩:=e
   have c:=Pth.snoc b' e2
   rw [<-e3] at c
   rw [e4] at es
   cases es
   exact ⟨_,_,_,a.snoc e1,c,by rw [getD_snoc a.len,getD_snoc b'.len];exact ne⟩
  ·rintro ⟨t,t',w,h,h',ne⟩
   obtain ⟨t1,t1',w1,x1,y1,s,a,b',e,es,et,et'⟩:=two_inv ok h h'
   subst et et'
   rw [getD_snoc a.len,getD_snoc b'.len] at ne
   exact ⟨x1,y1,s,(iter_iff ok b x1 y1).mpr ⟨_,_,_,a,b'⟩,⟨e,ne⟩,es⟩
 | a+1,x,y=>by
  constructor
  ·rintro ⟨x1,y1,s,h,e,es⟩
   obtain ⟨t,t',w,p,p',ne⟩:=(clash_iff ok b a x1 y1).mp h
   obtain ⟨e1,e2,e3,e4⟩:=e
   have c:=Pth.snoc p' e2
   rw [<-e3] at c
   rw [e4] at es
   cases es
   exact ⟨_,_,_,p.snoc e1,c,by rw [getD_early (by rw [p.len];omega),getD_early (by rw [p'.len];omega)];exact ne⟩
  ·rintro ⟨t,t',w,h,h',ne⟩
   obtain ⟨t1,t1',w1,x1,y1,s,p,p',e,es,et,et'⟩:=two_inv ok (m:=b+1+a) h h'
   subst et et'
   rw [getD_early (by rw [p.len];omega),getD_early (by rw [p'.len];omega)] at ne
   exact ⟨x1,y1,s,(clash_iff ok b a x1 y1).mpr ⟨_,_,_,p,p',ne⟩,e,es⟩
end
end Om
end
section
namespace L2
open PySem PySem.Spec PyProof.Rows
def kk (p:Nat×Nat):List Key:=[.inl ((p.1:Nat):Int),.inl ((p.2:Nat):Int)]
theorem kk_inj {p q:Nat×Nat} (h:kk p=kk q):p=q:=by
 obtain ⟨a,b⟩:=p
 obtain ⟨c,d⟩:=q
 unfold kk at h
 simp at h
 obtain ⟨h1,h2⟩:=h
 have:a=c:=by omega
 have:b=d:=by omega
 subst_vars;rfl
structure KD (ks:List (Nat×Nat)) (kvs:List (List Key×V)):Prop where
 keys:kvs.map (·.1)=ks.map kk
 nd:ks.Nodup
 lt:∀ p∈ks,p.1 < 8/\p.2 < 8
section
variable {ks:List (Nat×Nat)} {kvs:List (List Key×V)} {p:Nat×Nat} {v:V}
theorem KD.nil:KD [] []:=⟨rfl,List.nodup_nil,by simp⟩
def all64:List (Nat×Nat):=(List.range 8).flatMap fun x=>(List.range 8).map fun y=>(x,y)
theorem KD.le (h:KD ks kvs):ks.length<=64:=by
 have:ks ⊆ all64:=fun p hp=>by
  obtain ⟨h1,h2⟩:=h.lt p hp
  unfold all64
  rw [List.mem_flatMap]
  exact ⟨p.1,List.mem_range.mpr h1,List.mem_map.mpr ⟨p.2,List.mem_range.mpr h2,rfl⟩⟩
 have:=List.Nodup.length_le_of_subset h.nd this
 have e:all64.length=64:=by decide +kernel
 omega
theorem KD.len (h:KD ks kvs):kvs.length=ks.length:=by
 have:=congrArg List.length h.keys
 simpa using this
theorem KD.lt_line (h:KD ks kvs):kvs.length < sizeLine:=by
 rw [h.len,sizeLine_eq];have:=h.le;omega
theorem valV_isSome_iff:∀ {kvs:List (List Key×V)} {k:List Key},(valV kvs k).isSome=true↔k∈kvs.map (·.1)
 | [],k=>by simp [valV_nil]
 | q :: r,k=>by
  by_cases e:q.1=k
  ·rw [valV_pos e];simp [e]
  ·rw [valV_neg e,valV_isSome_iff]
   simp only [List.map_cons,List.mem_cons]
   constructor
   ·exact fun h=>.inr h
   ·rintro (h | h)
    ·exact absurd h.symm e
    ·exact h
theorem KD.mem (h:KD ks kvs):(valV kvs (kk p)).isSome=true↔p∈ks:=by
 rw [valV_isSome_iff,h.keys,List.mem_map]
 constructor
 ·rintro ⟨q,hq,e⟩;rw [<-kk_inj e];exact hq
 ·exact fun h=>⟨p,h,rfl⟩
theorem KD.none (h:KD ks kvs) (n:p ∉ ks):valV kvs (kk p)=none:=by
 cases e:valV kvs (kk p) with
 | none=>rfl
 | some v=>exact absurd (h.mem.mp (by rw [e];rfl)) n
theorem KD.put (h:KD ks kvs) (n:p ∉ ks) (l1:p.1 < 8) (l2:p.2 < 8):KD (ks++[p]) (putK kvs (kk p) v):=by
 rw [putK_new v (h.none n)]
 refine ⟨by simp [h.keys],?_,fun q hq=>?_⟩
 ·rw [List.nodup_append]
  refine ⟨h.nd,by simp,fun a ha b hb=>?_⟩
  have:b=p:=by simpa using hb
  subst this
  exact fun e=>n (e ▸ ha)
 ·rcases List.mem_append.mp hq with hq | hq
  ·exact h.lt q hq
  ·have:q=p:=by simpa using hq
   subst this;exact ⟨l1,l2⟩
theorem KD.at (h:KD ks kvs) {i:Nat} (hi:i < ks.length):∃ v,kvs[i]? = some (kk ks[i],v):=by
 have hi':i < kvs.length:=by rw [h.len];exact hi
 have e:=congrArg (fun l=>l[i]?) h.keys
 simp only [List.getElem?_map,List.getElem?_eq_getElem hi,List.getElem?_eq_getElem hi',Option.map_some] at e
 exact ⟨kvs[i].2,by rw [List.getElem?_eq_getElem hi',<-Option.some.inj e]⟩
theorem Paired.getP {α β:Type} {F:α->β->Prop}:∀ {l₁:List α} {l₂:List β},Paired F l₁ l₂->∀ {i:Nat} {a:α},l₁[i]? = some a->∃ b,l₂[i]? = some b/\F a b
 | _,_,.nil,_,_,e=>by simp at e
 | _,_,.cons r _,0,_,e=>by simp at e;subst e;exact ⟨_,rfl,r⟩
 | _,_,.cons _ t,i+1,_,e=>by
  obtain ⟨b,h1,h2⟩:=Paired.getP t (i:=i) (by simpa using e)
  exact ⟨b,by simpa using h1,h2⟩
theorem KD.key {H:Hp} {bs:List Addr} (h:KD ks kvs) (hb:KeysAt H kvs bs) {i:Nat} {x:V} (hi:i < ks.length) (hx:(bs.map V.ref)[i]? = some x):∃ b,x = .ref b/\H b=some (.tup ((kk ks[i]).map kV)):=by
 obtain ⟨v,hv⟩:=h.at hi
 obtain ⟨b,h1,h2⟩:=Paired.getP hb hv
 rw [List.getElem?_map,h1] at hx
 exact ⟨b,(Option.some.inj hx).symm,h2⟩
theorem KD.blen {H:Hp} {bs:List Addr} (h:KD ks kvs) (hb:KeysAt H kvs bs):(bs.map V.ref).length=ks.length:=by
 rw [List.length_map,<-Paired.length hb,h.len]
end
def LyV (H:Hp) (v:V) (R:Om.R2n):Prop:=∃ a o kvs ks,v = .ref a/\H a=some (.frz o (.dT kvs))/\KD ks kvs/\∀ x y,(x,y)∈ks↔R x y
def sD (s:Om.Stp):PyData:=.tuple [pairD s.1,pairD s.2]
def StL (H:Hp) (l:Addr) (ss:List Om.Stp):Prop:=DV H (.ref l) (.list (ss.map sD))
def GrV (H:Hp) (v:V) (R:Om.R2n) (E:Nat->Nat->Om.Stp->Prop):Prop:=∃ a o kvs ks,v = .ref a/\H a=some (.frz o (.dT kvs))/\KD ks kvs/\(∀ x y,(x,y)∈ks↔R x y) ∧
 ∀ p∈ks,∃ l ss,valV kvs (kk p)=some (.ref l)/\StL H l ss/\ss.length<=64/\∀ s,s∈ss↔E p.1 p.2 s
theorem StL.mono {H H':Hp} {l:Addr} {ss:List Om.Stp} (h:StL H l ss) (s:Same H H'):StL H' l ss:=(show DV H (.ref l) (.list (ss.map sD)) from h).mono s
theorem LyV.mono {H H':Hp} {v:V} {R:Om.R2n} (h:LyV H v R) (s:Same H H'):LyV H' v R:=by
 obtain ⟨a,o,kvs,ks,e,h1,h2⟩:=h
 exact ⟨a,o,kvs,ks,e,s _ _ h1,h2⟩
theorem GrV.mono {H H':Hp} {v:V} {R:Om.R2n} {E:Nat->Nat->Om.Stp->Prop} (h:GrV H v R E) (s:Same H H'):GrV H' v R E:=by
 obtain ⟨a,o,kvs,ks,e,h1,h2,h3,h4⟩:=h
 refine ⟨a,o,kvs,ks,e,s _ _ h1,h2,h3,fun p hp=>?_⟩
 obtain ⟨l,ss,q1,q2,q3⟩:=h4 p hp
 exact ⟨l,ss,q1,q2.mono s,q3⟩
theorem GrV.ly {H:Hp} {v:V} {R:Om.R2n} {E:Nat->Nat->Om.Stp->Prop} (h:GrV H v R E):LyV H v R:=by
 obtain ⟨a,o,kvs,ks,e,h1,h2,h3,h4⟩:=h
 exact ⟨a,o,kvs,ks,e,h1,h2,h3⟩
theorem sD_inv {H:Hp} {v:V} {s:Om.Stp} (h:DV H v (sD s)):∃ p a b,v = .ref p/\H p=some (.tup [.ref a,.ref b])/\H a=some (.tup [.int (s.1.1:Nat),.int (s.1.2:Nat)])/\H b=some (.tup [.int (s.2.1:Nat),.int (s.2.2:Nat)]):=by
 obtain ⟨p,xs,rfl,hp,hd⟩:=h.tup_inv
 cases hd with
 | cons h1 hd=>
  cases hd with
  | cons h2 hd=>
   cases hd
   obtain ⟨a,rfl,ha⟩:=pair_inv h1
   obtain ⟨b,rfl,hb⟩:=pair_inv h2
   exact ⟨p,a,b,rfl,hp,ha,hb⟩
structure Gd (G H0 H:Hp) (D:Addr) (kvs:List (List Key×V)):Prop where
 s:Same G H
 s0:Same H0 G
 gD:G D=none
 hD:H D=some (.dT kvs)
section
variable {G H0 H:Hp} {D p:Addr} {kvs:List (List Key×V)} {o:HO}
theorem Gd.start (h:H0 D=none):Gd H0 H0 (upd H0 D (.dT [])) D []:=⟨Same.upd h,Same.refl _,h,upd_same⟩
theorem Gd.all (g:Gd G H0 H D kvs):Same H0 H:=g.s0.trans g.s
theorem Gd.put (g:Gd G H0 H D kvs) (h:H p=none):Gd (upd G p o) H0 (upd H p o) D kvs:=by
 have pD:D≠p:=ne_of_none g.hD h
 refine ⟨fun x u e=>?_,g.s0.trans (Same.upd (g.s.free h)),by rw [upd_ne pD];exact g.gD,by rw [upd_ne pD];exact g.hD⟩
 by_cases hx:x=p
 ·subst hx;rw [upd_same] at e ⊢;exact e
 ·rw [upd_ne hx] at e ⊢;exact g.s _ _ e
theorem Gd.up (g:Gd G H0 H D kvs) (h:H p=none):Same G (upd G p o):=Same.upd (g.s.free h)
theorem Gd.set {kvs':List (List Key×V)} (g:Gd G H0 H D kvs):Gd G H0 (upd H D (.dT kvs')) D kvs':=by
 refine ⟨fun x u e=>?_,g.s0,g.gD,upd_same⟩
 have:x≠D:=ne_of_none e g.gD
 rw [upd_ne this];exact g.s _ _ e
theorem Gd.frz {ob:Obj} (g:Gd G H0 H D kvs):Same G (upd H D (.frz ob (.dT kvs))):=fun x u e=>by
 have:x≠D:=ne_of_none e g.gD
 rw [upd_ne this];exact g.s _ _ e
theorem Gd.free (g:Gd G H0 H D kvs):H0 D=none:=g.s0.free g.gD
theorem Gd.call {H':Hp} (g:Gd G H0 H D kvs) (s:Same H H'):∃ G',Gd G' H0 H' D kvs/\Same G G'/\∀ x,x≠D->G' x=H' x:=by
 refine ⟨fun x=>if x=D then none else H' x,⟨fun x u e=>?_,fun x u e=>?_,if_pos rfl,s _ _ g.hD⟩,fun x u e=>?_,fun x hx=>if_neg hx⟩
 ·by_cases hx:x=D
  ·rw [if_pos hx] at e;cases e
  ·rw [if_neg hx] at e;exact e
 ·have hx:x≠D:=ne_of_none (g.s0 _ _ e) g.gD
  show (if x=D then none else H' x)=some u
  rw [if_neg hx];exact s _ _ (g.all _ _ e)
 ·have hx:x≠D:=ne_of_none e g.gD
  show (if x=D then none else H' x)=some u
  rw [if_neg hx];exact s _ _ (g.s _ _ e)
end
end L2
end
section
namespace L2
open PySem PySem.Spec PyProof.Rows
section
variable {X:Cx} {a:Expr} {p pos:Pos} {ta:TA}
def tRng1 (ta:TA):TE:=fun σ H Q=>ta σ H fun vs H1=>match vs with
 | [.int j]=>0<=j/\j < 2 ^ 24/\∀ q,H1 q=none->Q (.ref q) (upd H1 q (.rng 0 j))
 | _=>False
theorem e_rng1 {mg':Str->Option Value} (hm:mg' "range" = none) (hX:X.mg=mg') (ha:PA X [a] ta) (hg:gB X "range" = true:=by kernel_rfl) (hs:starEach [a] X.env=[(false,eval a X.env)]:=by kernel_rfl) :
  PE X (.Call (.Name "range" p) [a] [] pos) (tRng1 ta):=by
 intro pins s σ H Q I h
 refine Call_ (ld_blt I (gl_of hg) (by rw [hX];exact hm) boot_range (PyProof.Rows.callWith_type1 (thn (ha pos pins s σ H _ I h) fun us s1 ⟨vs,H1,I1,r1,q1⟩=>?_) hs rfl))
 dsimp only at q1
 split at q1
 ·obtain ⟨q1,q2,q⟩:=q1
  obtain ⟨u,rfl,t,rfl⟩:=vals1 r1
  refine call_range_1 ?_
  exact ⟨.ref s1.heap.objs.size,_,I1.laid (o:=.rng 0 _) (fun _ _ q=>Heap.get?_push_of_some _ q) (Nat.le_refl _) ⟨_,_,_,Heap.get?_push_size _ rfl⟩,rfl,q _ (I1.hok.fresh (Nat.le_refl _))⟩
 ·exact q1.elim
def rListR:List V->Hp->VK->Prop:=fun vs H Q=>match vs with
 | [.ref p]=>(∃ j:Nat,H p=some (.rng 0 j)/\j<=2 ^ 24/\∀ l,H l=none->Q (.ref l) (upd H l (.lst ((List.range j).map fun i=>V.int (i:Nat)))))\/rListOf vs H Q
 | _=>False
theorem vals_of:∀ {xs:List V} {us:List Value},xs.length=us.length->(∀ (i:Nat) (x:V) (u:Value),xs[i]? = some x->us[i]? = some u->RelV x u)->Vals xs us
 | [],[],_,_=>.nil
 | [],_ :: _,h,_=>by simp at h
 | _ :: _,[],h,_=>by simp at h
 | x :: xs,u :: us,h,r=>.cons (r 0 x u rfl rfl) (vals_of (by simpa using h) fun i y v h1 h2=>r (i+1) y v (by simpa using h1) (by simpa using h2))
theorem items_vals {acc:Array Value} {n:Nat} (h:ItemsOf (fun i v=>∃ t,v = .int (0+(i:Nat) * 1) t) acc n):Vals ((List.range n).map fun i=>V.int (i:Nat)) acc.toList:=by
 refine vals_of (by simp [h.1]) fun i x u hx hu=>?_
 have hu':acc[i]? = some u:=by simpa using hu
 obtain ⟨t,rfl⟩:=h.2 i u hu'
 rw [List.getElem?_map] at hx
 obtain ⟨j,h1,rfl⟩:=Option.map_eq_some_iff.mp hx
 have hj:j=i:=by
  have hlt:i < n:=by
   have:=List.getElem?_eq_some_iff.mp h1
   obtain ⟨hl,_⟩:=this
   simpa using hl
  rw [List.getElem?_range hlt] at h1
  exact (Option.some.inj h1).symm
 subst hj
 exact ⟨t,by simp⟩
theorem call_listR (hc:X.calm=true):CallR X (.type "list") rListR:=by
 intro pins s σ H xs us Q I r h
 unfold rListR at h
 split at h
 ·rcases h with ⟨j,hp,hj,q⟩ | h
  ·obtain ⟨u,rfl,rx⟩:=vals1 r
   cases rx
   obtain ⟨t,u,v,e⟩:=I.hok _ _ hp
   refine call_list_range (I.ok.hd hc) e (small_one (by omega) (by omega) (by omega) (by omega)) (n:=j) (by rw [rangeSize_one];split<;>omega) hj fun h' tk acc' c' kp e' it=>?_
   have hv:=items_vals it
   have hl:((List.range j).map fun i=>V.int (i:Nat)).length<=sizeLine:=by rw [List.length_map,List.length_range,sizeLine_eq];omega
   exact ⟨.ref s.heap.objs.size,_,I.laid (t':=tk) kp (Nat.le_refl _) (show ObjOk X.prog X.w _ h' _ (.lst _) from ⟨hl,acc'.toList,c',hv,by simpa using e'⟩),rfl,q _ (I.hok.fresh (Nat.le_refl _))⟩
  ·exact call_listU pins s σ H _ us Q I r h
 ·exact h.elim
theorem fn_listR {e:Expr} {es:List Expr} {t:TA} {mg':Str->Option Value} (hm:mg' "list" = none) (hX:X.mg=mg') (ha:PA X (e :: es) t) (hc:X.calm=true:=by kernel_rfl) (hg:gB X "list" = true:=by kernel_rfl) (he:starEach (e :: es) X.env=(false,eval e X.env) :: starEach es X.env:=by kernel_rfl) (hpl:(backTo pos (starEach es X.env)).any (·.1)=false:=by kernel_rfl) :
  PE X (.Call (.Name "list" p) (e :: es) [] pos) (tCB rListR t):=pe_callTy (call_listR hc) (gl_of hg) (by rw [hX];exact hm) PyProof.Rows.boot_list ha (he:=he) (hpl:=hpl)
end
end L2
end
section
namespace L2
open PySem PySem.Spec PyProof.Rows
structure Lt (H H':Hp):Prop where
 l:∀ a xs,H a=some (.lst xs)->H' a=some (.lst xs)
 t:∀ a xs,H a=some (.tup xs)->H' a=some (.tup xs)
 d:∀ a,H a=some (.dK [])->H' a=some (.dK [])
mutual
theorem DV.lt {H H':Hp} (k:Lt H H'):∀ {v:V} {d:PyData},DV H v d->DV H' v d
 | _,_,.non=>.non
 | _,_,.bl b=>.bl b
 | _,_,.int i=>.int i
 | _,_,.str x=>.str x
 | _,_,.lst h r=>.lst (k.l _ _ h) (DVs.lt k r)
 | _,_,.tup h r=>.tup (k.t _ _ h) (DVs.lt k r)
 | _,_,.dic h=>.dic (k.d _ h)
theorem DVs.lt {H H':Hp} (k:Lt H H'):∀ {vs:List V} {ds:List PyData},DVs H vs ds->DVs H' vs ds
 | _,_,.nil=>.nil
 | _,_,.cons h r=>.cons (DV.lt k h) (DVs.lt k r)
end
theorem Lt.but {H G:Hp} {D:Addr} {kvs:List (List Key×V)} (hD:H D=some (.dT kvs)) (h:∀ x,x≠D->G x=H x):Lt H G:=
 ⟨fun a xs e=>by rw [h a (ne_of e hD (fun z=>nomatch z))];exact e,fun a xs e=>by rw [h a (ne_of e hD (fun z=>nomatch z))];exact e,fun a e=>by rw [h a (ne_of e hD (fun z=>nomatch z))];exact e⟩
def Vals2 (G:Hp) (kvs:List (List Key×V)) (ks:List (Nat×Nat)) (E:Nat->Nat->Om.Stp->Prop):Prop:=
 ∀ p∈ks,∃ l ss,valV kvs (kk p)=some (.ref l)/\StL G l ss/\ss.length<=64/\∀ s,s∈ss↔E p.1 p.2 s
theorem Vals2.mono {G G':Hp} {kvs:List (List Key×V)} {ks:List (Nat×Nat)} {E:Nat->Nat->Om.Stp->Prop} (h:Vals2 G kvs ks E) (s:Same G G'):Vals2 G' kvs ks E:=fun p hp=>by
 obtain ⟨l,ss,h1,h2,h3⟩:=h p hp
 exact ⟨l,ss,h1,h2.mono s,h3⟩
theorem Vals2.put {G:Hp} {kvs:List (List Key×V)} {ks:List (Nat×Nat)} {E:Nat->Nat->Om.Stp->Prop} {p:Nat×Nat} {l:Addr} {ss:List Om.Stp} (h:Vals2 G kvs ks E) (n:p ∉ ks) (hl:StL G l ss) (h64:ss.length<=64) (hs:∀ s,s∈ss↔E p.1 p.2 s) :
  Vals2 G (putK kvs (kk p) (.ref l)) (ks++[p]) E:=fun q hq=>by
 rw [valV_put]
 rcases List.mem_append.mp hq with hq | hq
 ·have:kk q≠kk p:=fun z=>n (kk_inj z ▸ hq)
  rw [if_neg this]
  exact h q hq
 ·have:q=p:=by simpa using hq
  subst this
  rw [if_pos rfl]
  exact ⟨l,ss,rfl,hl,h64,hs⟩
end L2
end
section
namespace Om
abbrev Rw:=List Nat×List Bool×Nat
def ext (rows:Rows) (r:Rw):List Rw:=(List.range (rows.getD r.2.2 []).length).map fun l=>(r.1++[l],r.2.1++(step rows r.2.2 l).1,(step rows r.2.2 l).2)
section
variable {k n:Nat} {rows:Rows}
end
end Om
namespace L2
open PySem PySem.Spec PyProof.Rows
end L2
end
section
namespace L2
open PySem PySem.Spec PyProof.Rows
section
variable {prog:Program} {w:World} {A:Around} {E:Value->Shared->Prop} {s:Shared}
theorem walksKeys (hh:A.handled=none) (I d:Addr) (hne:d≠I) {od:Obj} {es:Array DictEntry} {ep:Nat} (hdat:od.data = .dict es ep) :
  Walks prog w A I [I,d] [I] es.size (fun i v=>∃ e,es[i]? = some e/\v=e.key) (fun i h=>h.IsKeyIter I d i es.size ep/\h.get? d=some od) where
 sub:=fun b hb=>by simp at hb;simp [hb]
 frame:=fun _ _ _ st hk=>⟨st.1.at fun o e=>hk I (by simp) o e,hk d (by simp) _ st.2⟩
 item:=fun i s Q E hi st hQ=>by
  have he:es[i]? = some es[i]:=by simp [hi]
  refine keyNext st.1 st.2 hdat he fun h' hit' hs'=>?_
  exact hQ _ h' s.toks ⟨_,he,rfl⟩ ⟨hit',hs'.extBut d _ hne st.2⟩ fun b o hb e=>hs'.extBut b o (fun h=>hb (by simp [h])) e
 done:=fun s Q E st hQ=>keyEnd hh st.1 st.2 hdat (Nat.le_refl _) fun h' he'=>hQ h' s.toks fun b o hb e=>he' b o (fun h=>hb (by simp [h])) e
 self:=fun _ _ _ _ st hQ=>wpAny_pyIter_keyiter st.1 hQ
theorem hint_dict {d:Addr} {Q:Bool->Shared->Prop} (hT:s.TypeIs (.ref d) "dict") (h:Q false s):wpAny (model prog w) A (Builtin.List.listLengthHint (.ref d)) Q E s:=by
 unfold Builtin.List.listLengthHint
 refine wpAny_bind (wpAny_specialOf hT F.slot_dict_len.lookup ?_)
 generalize hid:("dict.__len__" : String)=id0
 wp_delta
 rw [show splitId id0=some ("dict","__len__") from by subst hid;decide +kernel]
 subst hid
 refine wpAny_bind (wpAny_isInstance (T:= "dict") (b:=true) hT (by rw [isSubtype_type];kernel_rfl) ?_)
 refine wpAny_ite_split (fun hab=>absurd hab (by decide)) (fun _=>?_)
 refine wpAny_ite_split (fun _=>?_) (fun hab=>absurd (by decide +kernel) hab)
 refine wpAny_bind (wpAny_typeOf (T:= "dict") hT ?_)
 exact wpAny_pure h
theorem extend_dict {R:Result->Shared->Prop} {d:Addr} {od:Obj} {es:Array DictEntry} {ep:Nat} (hh:A.handled=none) (hd:(d == sysModules)=false) (hT:s.TypeIs (.ref d) "dict") (ho:s.heap.get? d=some od) (hdat:od.data = .dict es ep) (hlen:es.size<=sizeLine) (S:Addr) (res:Value) (c₀:Nat) (hS:s.heap.get? S=some { cls:=.type "list",data:=.seq #[] c₀ })
  (hR:∀ h' tk acc' c',(∀ b o,b≠S->s.heap.get? b=some o->h'.get? b=some o)->h'.get? S=some { cls:=.type "list",dict:=none,data:=.seq acc' c',slots:=#[] } →
   ItemsOf (fun i v=>∃ e,es[i]? = some e/\v=e.key) acc' es.size->R (.ok (.ret res)) { s with heap:=h',toks:=tk }) :
  wpAny (model prog w) A.in1 (Builtin.List.listExtendWith (.ref S) (.ref d) res)
   (fun fin s'=>match fin with | .done f=>R (.ok f) s' | .again c'=>c'.quiet=true/\codeAny (model prog w) A c' R s') (fun e s'=>R (.error e) s') s:=by
 have hSr:S≠d:=fun e=>by rw [e,ho] at hS;cases hS;cases hdat
 have hSlt:S < s.heap.objs.size:=Heap.lt_size hS
 have hSI:S≠s.heap.objs.size:=Nat.ne_of_lt hSlt
 have hdI:d≠s.heap.objs.size:=Nat.ne_of_lt (Heap.lt_size ho)
 have hSf:S ∉ [s.heap.objs.size,d]:=fun hm=>by simp at hm;rcases hm with h | h;exact hSI h;exact hSr h
 have W:=(walksKeys (prog:=prog) (w:=w) (A:=A.in1) hh s.heap.objs.size d hdI hdat).toS
 unfold Builtin.List.listExtendWith
 refine wpAny_bind (wpAny_typeOf (T:= "dict") hT ?_)
 have h1:Builtin.List.listSameRef (.ref S) (.ref d)=false:=by simp [Builtin.List.listSameRef,hSr]
 have h2:(Value.type "dict" == Value.type "list")=false:=by decide
 have h3:(Value.type "dict" == Value.type "tuple")=false:=by decide
 simp only [h1,h2,h3,Bool.or_false,Bool.false_eq_true,if_false]
 refine wpAny_bind (keyIter hd hT ho hdat ?_)
 have hT1:(⟨s.heap.push { cls:=.type "dict_keyiterator",data:=.fields #[.ref d,.int 0 0,.int es.size 0,.int ep 0] },s.gens,s.drawn,s.toks,s.os⟩ : Shared).TypeIs (.ref d) "dict" := by
  obtain ⟨o,e1,e2⟩:=hT
  exact ⟨o,Heap.get?_push_of_some _ e1,e2⟩
 refine wpAny_bind (wpAny_holding (hint_dict hT1 ?_))
 have hit₁:(s.heap.push { cls:=.type "dict_keyiterator",data:=.fields #[.ref d,.int 0 0,.int es.size 0,.int ep 0] }).IsKeyIter s.heap.objs.size d 0 es.size ep:=⟨_,Heap.get?_push_size _ rfl,rfl,rfl⟩
 have hS₁:=Heap.get?_push_of_some { cls:=.type "dict_keyiterator",data:=.fields #[.ref d,.int 0 0,.int es.size 0,.int ep 0] } hS
 have hd₁:=Heap.get?_push_of_some { cls:=.type "dict_keyiterator",data:=.fields #[.ref d,.int 0 0,.int es.size 0,.int ep 0] } ho
 have key:∀ (h:Heap) (c₁ tk:Nat),h.IsKeyIter s.heap.objs.size d 0 es.size ep->h.get? d=some od->(∀ b o,b≠S->s.heap.get? b=some o->h.get? b=some o) →
   h.get? S=some { cls:=.type "list",data:=.seq #[] c₁ }->codeAny (model prog w) A (.builtin "list.extend.loop" ⟨[.ref S,.ref s.heap.objs.size,res],[]⟩) R { s with heap:=h,toks:=tk }:=by
  intro h c₁ tk hit hdd hk hS₁
  refine codeAny_extend_loopS W hlen S hSf res es.size 0 _ #[] c₁ rfl (Nat.zero_le _) ⟨hit,hdd⟩ hS₁ (ItemsOf.nil _) fun s' acc' c' hm hS' hacc=>?_
  rw [Moved.eq_with hm]
  refine hR s'.heap s'.toks acc' c' (fun b o hb e=>hm.heap b o (fun hmem=>?_) (hk b o hb e)) hS' hacc
  rcases List.mem_cons.mp hmem with e' | hmem
  ·exact hb e'
  ·exact absurd (Heap.lt_size e) (by rw [List.mem_singleton.mp hmem];exact Nat.lt_irrefl _)
 refine wpAny_ite_split (fun _=>?_) (fun _=>wpAny_pure ⟨plainId_quiet F.plain_extend_loop _,key _ c₀ _ hit₁ hd₁ (fun b o _ e=>Heap.get?_push_of_some _ e) hS₁⟩)
 refine wpAny_bind (wpAny_rule ?_)
 refine wpAny_bind ?_
 show wpAny _ _ (updateSeq S (·.push .none) >>= fun _=>updateSeq S (·.pop)) _ _ _
 refine wpAny_bind (wpAny_updateSeq hS₁ rfl ?_)
 have hS₂:=Heap.get?_update_self (Obj.mapSeq (·.push Value.none)) hS₁ rfl
 refine wpAny_updateSeq (hz:=by seq_fits) hS₂ rfl ?_
 have hS₃:=Heap.get?_update_self (Obj.mapSeq (·.pop)) hS₂ rfl
 refine wpAny_pure ⟨plainId_quiet F.plain_extend_loop _,key _ _ _ ?_ ?_ (fun b o hb e=>?_) hS₃⟩
 ·exact hit₁.at fun o e=>(Heap.get?_update_other _ _ hSI).trans ((Heap.get?_update_other _ _ hSI).trans e)
 ·exact (Heap.get?_update_other _ _ hSr).trans ((Heap.get?_update_other _ _ hSr).trans hd₁)
 ·exact (Heap.get?_update_other _ _ (Ne.symm hb)).trans ((Heap.get?_update_other _ _ (Ne.symm hb)).trans (Heap.get?_push_of_some _ e))
end
end L2
end
section
namespace L2
open PySem PySem.Spec PyProof.Rows
section
variable {X:Cx} {p pos:Pos}
def rListD:List V->Hp->VK->Prop:=fun vs H Q=>match vs with
 | [.ref p]=>(∃ kvs,H p=some (.dT kvs)/\∀ o bs l,KeysAt H kvs bs->H l=none->Q (.ref l) (upd (upd H p (.frz o (.dT kvs))) l (.lst (bs.map V.ref)))) ∨
   (∃ o kvs,H p=some (.frz o (.dT kvs))/\∀ bs l,KeysAt H kvs bs->H l=none->Q (.ref l) (upd H l (.lst (bs.map V.ref)))) ∨
   (∃ o kvs,H p=some (.frz o (.dK kvs))/\∀ l,H l=none->Q (.ref l) (upd H l (.lst (kvs.map fun p=>kV p.1))))\/rListR vs H Q
 | _=>False
def iLstF (K:PySem.W.Frag) (tl:TE):TI:=fun σ H R=>tl σ H fun x H1=>match x with
 | .ref a=>(∃ kvs,H1 a=some (.dT kvs)/\∀ o bs,KeysAt H1 kvs bs->R (Itk a o (bs.map V.ref)) (upd H1 a (.frz o (.dT kvs))))\/iLstD K (fun _ H Q=>Q (.ref a) H) σ H1 R
 | _=>False
end
section
variable {prog:Program} {w:World} {A:Around} {E:Value->Shared->Prop} {s:Shared}
end
end L2
end
section
namespace L2
open PySem PySem.Spec PyProof.Rows
section
variable {X:Cx} {p pos:Pos}
theorem pi_lstF {tg l:Expr} {tl:TE} (hl:PE X l tl):PI X tg l (iLstF X.K tl):=by
 intro pins s σ H R I h
 refine thn (hl pins s σ H _ I h) fun v s1 ⟨x,H1,I1,r1,q1⟩=>?_
 dsimp only at q1
 split at q1
 ·rename_i a
  cases r1
  rcases q1 with ⟨kvs,hq,q⟩ | q
  ·obtain ⟨o,ho⟩:=I1.obj hq
   have J:=I1.freeze hq trivial ho
   have hq':upd H1 a (.frz o (.dT kvs)) a=some (.frz o (.dT kvs)):=upd_same
   obtain ⟨_,z,hd,xs,r,o',es,ep,h1,h2,h3,h4,h5⟩:=J.hok a _ hq'
   rw [ho] at h1;cases h1
   have hT:s1.TypeIs (.ref a) "dict" := let ⟨_,_,_,_,dd⟩:=dt_rd J.hok (.inr ⟨o,hq'⟩);dd.typeIs
   have rel:Vals ((xs.map (·.2.1)).map V.ref) (es.toList.map (·.key)):=by
    rw [h4]
    clear h4 h5 r
    induction xs with
    | nil=>exact .nil
    | cons x xs ih=>exact .cons rfl ih
   refine keyIter hd hT ho h3 ?_
   refine ⟨s1.heap.objs.size,[s1.heap.objs.size],_,_,_,rfl,J.kept (t':=s1.toks) fun b o e=>Heap.get?_push_of_some _ e,turn_keys h3 rel,⟨_,Heap.get?_push_size _ rfl,rfl,rfl⟩,fun b hb=>?_,q o _ ?_⟩
   ·have e:b=s1.heap.objs.size:=by simpa using hb
    subst e
    exact J.fpOk (Nat.le_refl _) (J.hok.fresh (Nat.le_refl _))
   ·refine Paired.mapP (keys_tup r) fun x b e=>?_
    have:b≠a:=fun z=>by subst z;rw [upd_same] at e;cases e
    rw [upd_ne this] at e;exact e
  ·obtain ⟨⟨xs,hq⟩,q⟩ | ⟨o,kvs,hq,q⟩ | ⟨o,kvs,hq,q⟩:=q
   ·obtain ⟨its,rv,p,hz⟩:=I1.list hq
    refine wpAny_pyIter_list p.isList ?_
    refine ⟨s1.heap.objs.size,[s1.heap.objs.size],_,_,H1,rfl,I1.kept (t':=s1.toks) fun b o e=>Heap.get?_push_of_some _ e,turn_list a _,⟨_,Heap.get?_push_size _ rfl,rfl,rfl⟩,fun b hb=>?_,q⟩
    have e:b=s1.heap.objs.size:=by simpa using hb
    subst e
    exact I1.fpOk (Nat.le_refl _) (I1.hok.fresh (Nat.le_refl _))
   ·have ho:=I1.frozen hq
    obtain ⟨_,z,hd,xs,r,o',es,ep,h1,h2,h3,h4,h5⟩:=I1.hok a _ hq
    rw [ho] at h1;cases h1
    have hT:s1.TypeIs (.ref a) "dict" := let ⟨_,_,_,_,dd⟩:=dt_rd I1.hok (.inr ⟨o,hq⟩);dd.typeIs
    have rel:Vals ((xs.map (·.2.1)).map V.ref) (es.toList.map (·.key)):=by
     rw [h4]
     clear h4 h5 r
     induction xs with
     | nil=>exact .nil
     | cons x xs ih=>exact .cons rfl ih
    refine keyIter hd hT ho h3 ?_
    refine ⟨s1.heap.objs.size,[s1.heap.objs.size],_,_,H1,rfl,I1.kept (t':=s1.toks) fun b o e=>Heap.get?_push_of_some _ e,turn_keys h3 rel,⟨_,Heap.get?_push_size _ rfl,rfl,rfl⟩,fun b hb=>?_,q _ (keys_tup r)⟩
    have e:b=s1.heap.objs.size:=by simpa using hb
    subst e
    exact I1.fpOk (Nat.le_refl _) (I1.hok.fresh (Nat.le_refl _))
   ·have ho:=I1.frozen hq
    obtain ⟨_,z,hd,vs,r,o',es,ep,h1,h2,h3,h4,h5,h6⟩:=I1.hok a _ hq
    rw [ho] at h1;cases h1
    have hT:s1.TypeIs (.ref a) "dict" := let ⟨_,_,_,_,dd⟩:=dk_rd I1.hok (.inr ⟨o,hq⟩);dd.typeIs
    refine keyIter hd hT ho h3 ?_
    refine ⟨s1.heap.objs.size,[s1.heap.objs.size],_,_,H1,rfl,I1.kept (t':=s1.toks) fun b o e=>Heap.get?_push_of_some _ e,turn_keys h3 (keys_mix r h5),⟨_,Heap.get?_push_size _ rfl,rfl,rfl⟩,fun b hb=>?_,q⟩
    have e:b=s1.heap.objs.size:=by simpa using hb
    subst e
    exact I1.fpOk (Nat.le_refl _) (I1.hok.fresh (Nat.le_refl _))
 ·exact q1.elim
open Classical in
noncomputable def eqT (H:Hp) (k:List Key) (u:Value):Bool:=match u with
 | .ref c=>decide (H c=some (.tup (k.map kV)))
 | _=>false
open Classical in
theorem any_eqT {H:Hp} {k:List Key}:∀ {xs:List V} {us:List Value},Vals xs us->(∀ v∈xs,∃ (c:Addr) (k':List Key),v = .ref c/\H c=some (.tup (k'.map kV)))->(us.any (eqT H k)=true↔∃ c,V.ref c∈xs/\H c=some (.tup (k.map kV)))
 | _,_,.nil,_=>by simp
 | y :: xs,u :: us,.cons r t,f=>by
  obtain ⟨c,k',rfl,hc⟩:=f y List.mem_cons_self
  cases r
  rw [List.any_cons,Bool.or_eq_true,any_eqT t (fun v hv=>f v (List.mem_cons_of_mem _ hv))]
  have e0:eqT H k (.ref c)=true↔H c=some (.tup (k.map kV)):=by unfold eqT;dsimp only;exact (by classical exact decide_eq_true_iff)
  rw [e0]
  constructor
  ·rintro (h | ⟨d,h1,h2⟩)
   ·exact ⟨c,List.mem_cons_self,h⟩
   ·exact ⟨d,List.mem_cons_of_mem _ h1,h2⟩
  ·rintro ⟨d,h1,h2⟩
   rcases List.mem_cons.mp h1 with e | h1
   ·injection e with e;subst e;exact .inl h2
   ·exact .inr ⟨d,h1,h2⟩
end
end L2
end
section
namespace Om
def Win (rows:Rows) (b a:Nat):Prop:=∀ x y,¬ Clash rows b (b+1+a) x y
theorem iter_front {E:Nat->Nat->Stp->Prop}:∀ (m:Nat) (R:R2n) (x y:Nat),iterR E R (m+1) x y↔iterR E (nextR E R) m x y
 | 0,_,_,_=>Iff.rfl
 | m+1,R,x,y=>by
  constructor
  ·rintro ⟨x1,y1,s,h1,h2,h3⟩
   exact ⟨x1,y1,s,(iter_front m R x1 y1).mp h1,h2,h3⟩
  ·rintro ⟨x1,y1,s,h1,h2,h3⟩
   exact ⟨x1,y1,s,(iter_front m R x1 y1).mpr h1,h2,h3⟩
def rowW (t b:Nat):List (Nat×Nat):=(List.range b).map fun i=>(i,t - i)
def allW:List (Nat×Nat):=(List.range 7).flatMap fun t=>rowW t (t+1)
def preW (t b:Nat):List (Nat×Nat):=(List.range t).flatMap (fun t=>rowW t (t+1))++rowW t b
theorem preW_succ (t b:Nat):preW t (b+1)=preW t b++[(b,t - b)]:=by
 unfold preW rowW
 rw [List.range_succ,List.map_append,List.append_assoc];rfl
theorem preW_end (t:Nat):preW t (t+1)=preW (t+1) 0:=by
 unfold preW
 rw [List.range_succ,List.flatMap_append,List.flatMap_singleton]
 simp [rowW]
theorem preW_all:preW 7 0=allW:=by decide
theorem preW_split:∀ t < 7,∀ b < t+1,allW=preW t b++(b,t - b) :: allW.drop ((preW t b).length+1):=by decide
theorem allW_mem:∀ b < 7,∀ a < 7 - b,(b,a)∈allW:=by decide
open Classical in
noncomputable def wf (rows:Rows) (p:Nat×Nat):Bool:=decide (Win rows p.1 p.2)
open Classical in
theorem wf_iff {rows:Rows} {p:Nat×Nat}:wf rows p=true↔Win rows p.1 p.2:=by unfold wf;exact decide_eq_true_iff
noncomputable def wins (rows:Rows):List (Nat×Nat):=allW.filter (wf rows)
end Om
namespace L2
open PySem PySem.Spec PyProof.Rows
def FirstW (rows:Om.Rows) (v:V) (H:Hp):Prop:=match Om.wins rows with
 | []=>v = .non
 | p :: _=>∃ a,v = .ref a/\H a=some (.tup [.int (p.1:Nat),.int (p.2:Nat)])
theorem FirstW.none {rows:Om.Rows} {H:Hp} (h:(Om.preW 7 0).filter (Om.wf rows)=[]):FirstW rows .non H:=by
 rw [Om.preW_all] at h
 unfold FirstW Om.wins
 rw [h]
theorem FirstW.at {rows:Om.Rows} {H:Hp} {a:Addr} {t b:Nat} (ht:t < 7) (hb:b < t+1) (h:(Om.preW t b).filter (Om.wf rows)=[]) (hw:Om.Win rows b (t - b)) (ha:H a=some (.tup [.int (b:Nat),.int ((t - b:Nat):Int)])):FirstW rows (.ref a) H:=by
 unfold FirstW Om.wins
 rw [Om.preW_split t ht b hb,List.filter_append,h,List.nil_append,List.filter_cons,if_pos (Om.wf_iff.mpr hw)]
 exact ⟨a,rfl,ha⟩
theorem KD.again {ks:List (Nat×Nat)} {kvs:List (List Key×V)} {p:Nat×Nat} {v:V} (h:KD ks kvs) (hp:p∈ks):KD ks (putK kvs (kk p) v):=by
 refine ⟨?_,h.nd,h.lt⟩
 rw [<-h.keys]
 unfold putK
 have:(kvs.any fun kv=>decide (kv.1=kk p))=true:=by
  have hm:kk p∈kvs.map (·.1):=by rw [h.keys];exact List.mem_map.mpr ⟨p,hp,rfl⟩
  obtain ⟨q,hq,e⟩:=List.mem_map.mp hm
  exact List.any_eq_true.mpr ⟨q,hq,by simpa using e⟩
 rw [if_pos this,List.map_map]
 apply List.map_congr_left
 intro q _
 simp only [Function.comp]
 split<;>rfl
theorem KD.set {ks:List (Nat×Nat)} {kvs:List (List Key×V)} {p:Nat×Nat} {v:V} (h:KD ks kvs) (l1:p.1 < 8) (l2:p.2 < 8):∃ ks',KD ks' (putK kvs (kk p) v)/\∀ q,q∈ks'↔q∈ks\/q=p:=by
 by_cases hp:p∈ks
 ·exact ⟨ks,h.again hp,fun q=>⟨.inl,fun e=>e.elim id fun e=>e ▸ hp⟩⟩
 ·exact ⟨ks++[p],h.put hp l1 l2,fun q=>by rw [List.mem_append,List.mem_singleton]⟩
theorem e_gint {X:Cx} {pos:Pos} {x:Str} {z:Int} {mg':Str->Option Value} (hm:∃ tk,mg' x=some (.int z tk)) (hX:X.mg=mg') (hg:gB X x=true:=by kernel_rfl) (hd:(x == ("__debug__" : Str))=false:=by kernel_rfl):PE X (.Name x pos) (tC (.int z)):=by
 obtain ⟨tk,hm⟩:=hm
 exact pe_glob (gl_of hg) (by rw [hX];exact hm) ⟨tk,rfl⟩ hd
theorem nx_mk {K:PySem.W.Frag} {x:Str} {z:Int} {v:Value} {tk:Tok} (h:PySem.W.nsIn K mainGlobals x=some (some v)) (e:v = .int z tk):∃ tk,PySem.W.nsIn K mainGlobals x=some (some (.int z tk)):=⟨tk,by rw [h,e]⟩
end L2
end
section
namespace L2
open PySem PySem.Spec PyProof.Rows
section
variable {prog:Program} {w:World} {A:Around} {E:Value->Shared->Prop} {s:Shared}
theorem call_len_entries {d:Addr} {o:Obj} {es:Array DictEntry} {ep:Nat} {Q:Value->Shared->Prop} (hd:(d == sysModules)=false) (hT:s.TypeIs (.ref d) "dict") (ho:s.heap.get? d=some o) (hdat:o.data = .dict es ep) (hfit:(es.size:Int) < 2 ^ 63)
  (h:Q (.int es.size (s.toks+1)) { s with toks:=s.toks+1+1 }):wpAny (model prog w) A (call (.builtin "len") [.ref d]) Q E s:=by
 have len1:MeetsIn prog w (Builtin.«dict.__len__» ⟨[.ref d],[]⟩) (fun _ R s=>s.heap.get? d=some o/\R (.ok (.ret (.int es.size s.toks))) { s with toks:=s.toks+1 }):=
  .of_wp fun A R s ⟨ho,h⟩=>by
   show wpAny _ _ (dictSize d >>= _) _ _ s
   unfold dictSize
   refine wpAny_bind (wpAny_bind (wpAny_dictEntries ho hdat (wpAny_pure ?_)))
   show wpAny _ _ (Builtin.Dict.pendingCount d >>= _) _ _ s
   refine wpAny_bind (wpAny_pendingCount_other hd ?_)
   refine wpAny_ret_mkInt ?_
   rw [Nat.add_zero];exact h
 refine Calls.call_function_entry kind_len plain_len entry_len (args_len1 _) ?_
 unfold Builtin.«len»
 refine wpAny_bind (m:=oneArg "len" _) (wpAny_pure ?_)
 refine wpAny_bind (m:=callSpecial? (.ref d) (Str.ofString "__len__")) (wpAny_callSpecial?_slot (name:=Str.ofString "__len__") hT F.slot_dict_len
  (call_meetsIn F.slot_dict_len hT F.entry_dict_len (F.args_dict_len_1 _) len1 ⟨ho,?_⟩))
 show wpAny _ _ _ _ _ { s with toks:=s.toks+1 }
 refine wpAny_bind (wpAny_holding (wpAny_pure ?_))
 refine wpAny_bind (wpAny_letGo ?_)
 show wpAny _ _ (if ((es.size:Nat):Int) < 0 then _ else _) _ _ _
 rw [if_neg (by omega)]
 show wpAny _ _ (if ((es.size:Nat):Int) ≥ 2 ^ 63 then _ else _) _ _ _
 rw [if_neg (by omega)]
 exact wpAny_bind (wpAny_mkInt (wpAny_pure ⟨_,rfl,h⟩))
end
section
variable {X:Cx} {p pos:Pos}
def rLenD:List V->Hp->VK->Prop:=fun vs H Q=>(∃ a kvs,vs=[.ref a]/\Rd H a (.dT kvs)/\kvs.length<=2 ^ 24/\Q (.int (kvs.length:Nat)) H)\/rLen vs H Q
theorem call_lenD:CallR X (.builtin "len") rLenD:=by
 intro pins s σ H xs us Q I r h
 rcases h with ⟨a,kvs,rfl,rd,hl,q⟩ | h
 ·obtain ⟨u,rfl,rx⟩:=vals1 r
  cases rx
  obtain ⟨z,hd,ys,kt,o,es,ep,h1,h2,h3,h4,h5⟩:=(show ObjOk X.prog X.w H s.heap a (.dT kvs) from rd_of I.hok rd)
  have hT:s.TypeIs (.ref a) "dict" := ⟨o,h1,h2.1⟩
  have esl:es.size=kvs.length:=by
   have e1:=congrArg List.length h4
   have e2:=Paired.length kt
   simp at e1
   omega
  refine call_len_entries hd hT h1 h3 (by omega) ?_
  exact ⟨.int _,H,I.tok _,⟨_,rfl⟩,by rw [esl];exact q⟩
 ·exact call_lenU pins s σ H xs us Q I r h
theorem fn_lenD {e:Expr} {es:List Expr} {t:TA} {mg':Str->Option Value} (hm:mg' "len" = none) (hX:X.mg=mg') (ha:PA X (e :: es) t) (hg:gB X "len" = true:=by kernel_rfl) (he:starEach (e :: es) X.env=(false,eval e X.env) :: starEach es X.env:=by kernel_rfl) (hpl:(backTo pos (starEach es X.env)).any (·.1)=false:=by kernel_rfl) :
  PE X (.Call (.Name "len" p) (e :: es) [] pos) (tCB rLenD t):=pe_callB call_lenD (gl_of hg) (by rw [hX];exact hm) boot_len ha (he:=he) (hpl:=hpl)
end
section
variable {G H0 H:Hp} {D q:Addr} {kvs:List (List Key×V)} {ks:List (Nat×Nat)} {c:Nat} {E:Nat×Nat->Om.Stp->Prop} {o:HO}
end
end L2
namespace Om
def BSt (rows:Rows) (x y:Nat) (s:Stp):Prop:=St rows s.2.1 s.2.2 (s.1,(x,y))
theorem back_iff {k n:Nat} {rows:Rows} (ok:CodeOk k n rows):∀ (m:Nat) (R:R2n),(∀ x y,R x y->AllR rows x y)->((∃ x y,iterR (BSt rows) R m x y)↔∃ x y,iterR (St rows) (AllR rows) m x y/\R x y)
 | 0,R,hR=>by
  constructor
  ·rintro ⟨x,y,h⟩;exact ⟨x,y,hR _ _ h,h⟩
  ·rintro ⟨x,y,_,h⟩;exact ⟨x,y,h⟩
 | m+1,R,hR=>by
  have cl:∀ {x y:Nat} {s:Stp},BSt rows x y s->AllR rows s.2.1 s.2.2:=fun {x y s} h=>by
   obtain ⟨h1,h2,_⟩:=h
   exact ⟨(ok.stp h1).1,(ok.stp h2).1⟩
  have e:(∃ x y,iterR (BSt rows) R (m+1) x y)↔∃ x y,iterR (BSt rows) (nextR (BSt rows) R) m x y:=by
   constructor
   ·rintro ⟨x,y,h⟩;exact ⟨x,y,(iter_front m R x y).mp h⟩
   ·rintro ⟨x,y,h⟩;exact ⟨x,y,(iter_front m R x y).mpr h⟩
  rw [e,back_iff ok m]
  ·constructor
   ·rintro ⟨x',y',h1,x,y,s,h2,h3,h4⟩
    refine ⟨x,y,⟨x',y',(s.1,(x,y)),h1,?_,rfl⟩,h2⟩
    have:BSt rows x y s:=h3
    unfold BSt at this
    rw [h4] at this
    exact this
   ·rintro ⟨x,y,⟨x',y',s,h1,h2,h3⟩,h4⟩
    refine ⟨x',y',h1,x,y,(s.1,(x',y')),h4,?_,rfl⟩
    show St rows x' y' (s.1,(x,y))
    rw [<-h3];exact h2
  ·rintro x' y' ⟨x,y,s,h2,h3,h4⟩
   have:=cl h3
   rw [h4] at this
   exact this
end Om
end
section
namespace L2
open PySem PySem.Spec PyProof.Rows
section
variable {prog:Program} {w:World} {A:Around} {E:Value->Shared->Prop} {s:Shared}
theorem iadd_dict {R:Result->Shared->Prop} {d:Addr} {od:Obj} {es:Array DictEntry} {ep:Nat} (hh:A.handled=none) (hd:(d == sysModules)=false) (hT:s.TypeIs (.ref d) "dict") (ho:s.heap.get? d=some od) (hdat:od.data = .dict es ep) (hlen:es.size<=sizeLine) (S:Addr) (c₀:Nat) (hS:s.heap.get? S=some { cls:=.type "list",data:=.seq #[] c₀ })
  (hR:∀ h' tk acc' c',(∀ b o,b≠S->s.heap.get? b=some o->h'.get? b=some o)->h'.get? S=some { cls:=.type "list",dict:=none,data:=.seq acc' c',slots:=#[] } →
   ItemsOf (fun i v=>∃ e,es[i]? = some e/\v=e.key) acc' es.size->R (.ok (.ret (.ref S))) { s with heap:=h',toks:=tk }) :
  codeAny (model prog w) A (.builtin "list.__iadd__" ⟨[.ref S,.ref d],[]⟩) R s:=by
 refine codeAny_builtin entry_list_iadd' ?_
 rw [Around.under_plainId (by decide +kernel) _]
 exact extend_dict hh hd hT ho hdat hlen S (.ref S) c₀ hS hR
theorem collect_dict {d:Addr} {od:Obj} {es:Array DictEntry} {ep:Nat} {Q:List Value->Shared->Prop} (hh:A.handled=none) (hd:(d == sysModules)=false) (hT:s.TypeIs (.ref d) "dict") (ho:s.heap.get? d=some od) (hdat:od.data = .dict es ep) (hlen:es.size<=sizeLine)
  (h:∀ (h':Heap) (tk:Tok) (acc:Array Value),(∀ b o,s.heap.get? b=some o->h'.get? b=some o)->s.heap.objs.size < h'.objs.size->ItemsOf (fun i v=>∃ e,es[i]? = some e/\v=e.key) acc es.size->Q acc.toList { s with heap:=h',toks:=tk }) :
  wpAny (model prog w) A (collect (.ref d)) Q E s:=by
 unfold collect
 refine wpAny_bind (wpAny_runValue (codeAny_builtin entry_proto_collect' ?_))
 show wpAny _ _ (do again (.builtin "list.__iadd__" ⟨[<-newList [],.ref d],[]⟩)) _ _ s
 refine wpAny_bind (wpAny_newList (wpAny_pure ⟨Code.quiet_builtin _ (by decide +kernel),?_⟩))
 have hT':(⟨s.heap.push (seqObj "list" #[] 0),s.gens,s.drawn,s.toks,s.os⟩ : Shared).TypeIs (.ref d) "dict" := by
  obtain ⟨o,e1,e2⟩:=hT
  exact ⟨o,Heap.get?_push_of_some _ e1,e2⟩
 refine iadd_dict hh hd hT' (Heap.get?_push_of_some _ ho) hdat hlen s.heap.objs.size 0 (Heap.get?_push_size _ rfl) fun h' tk acc' c' hk hS' hacc=>?_
 show wpAny (model prog w) A (do
   let o <-load s.heap.objs.size
   match o.data with
   | .seq xs _=>pure xs.toList
   | _=>unsupported "internal:collect") Q E { s with heap:=h',toks:=tk }
 refine wpAny_bind (wpAny_load hS' ?_)
 exact wpAny_pure (h h' tk acc' (fun b o e=>hk b o (Nat.ne_of_lt (Heap.lt_size e)) (Heap.get?_push_of_some _ e)) (Heap.lt_size hS') hacc)
theorem sorted_dict {d:Addr} {od:Obj} {es:Array DictEntry} {ep:Nat} {ns:List Int} {Q:Value->Shared->Prop} (hh:A.handled=none) (hd:(d == sysModules)=false) (hT:s.TypeIs (.ref d) "dict") (ho:s.heap.get? d=some od) (hdat:od.data = .dict es ep) (hI:IntsAre (es.toList.map (·.key)) ns) (h64:es.size < 64)
  (h:∀ (h':Heap) (tk:Tok) (l:Addr) (out:Array Value) (ns':List Int) (e:Nat),(∀ b o,s.heap.get? b=some o->h'.get? b=some o)->s.heap.objs.size<=l->h'.get? l=some (seqObj "list" out e)->IntsAre out.toList ns'->ns'.Perm ns->ns'.Pairwise (·<=·)->Q (.ref l) { s with heap:=h',toks:=tk }) :
  wpAny (model prog w) A (call (.builtin "sorted") [.ref d]) Q E s:=by
 refine Calls.call_function_entry kind_sorted plain_sorted entry_sorted (args_sorted1 _) ?_
 unfold Builtin.«sorted»
 refine wpAny_bind (m:=checkCount "sorted" 1 1 _) (wpAny_pure ?_)
 refine wpAny_bind (collect_dict hh hd hT ho hdat (by rw [sizeLine_eq];omega) fun h1 tk acc kp lt it=>?_)
 have ea:acc.toList=es.toList.map (·.key):=by
  apply List.ext_getElem?
  intro i
  rw [List.getElem?_map]
  by_cases hi:i < es.size
  ·have hi':i < acc.size:=by rw [it.1];exact hi
   obtain ⟨e,e1,e2⟩:=it.2 i acc[i] (by simp [hi'])
   have e3:es.toList[i]? = some e:=by simpa using e1
   rw [e3]
   simp [hi',e2]
  ·have:¬ i < acc.size:=by rw [it.1];exact hi
   simp [Nat.le_of_not_lt hi,Nat.le_of_not_lt this]
 rw [ea]
 generalize hvs:es.toList.map (·.key)=vs at *
 have hv64:vs.length < 64:=by rw [<-hvs];simpa using h64
 refine wpAny_bind (wpAny_newList ?_)
 have hoL:(h1.push (seqObj "list" vs.toArray 0)).get? h1.objs.size=some (seqObj "list" vs.toArray 0):=Heap.get?_push_size _ rfl
 refine wpAny_bind (wpAny_holding (wpAny_call_entry slot_list_sort ⟨_,hoL,rfl⟩ entry_list_sort (list_sort_tree hoL hI hv64 fun out ns' a1 a2 a3=>⟨_,rfl,?_⟩) (args_list_sort _)))
 obtain ⟨e,he⟩:=sortedHeap_at (out:=out) hoL
 refine wpAny_pure ⟨_,rfl,h _ tk h1.objs.size out ns' e (fun b o hb=>?_) (Nat.le_of_lt lt) he a1 a2 a3⟩
 have hb1:=kp b o hb
 have bl:=Heap.lt_size hb1
 rw [sortedHeap_old (Nat.ne_of_lt bl) (by rw [size_push'];exact Nat.lt_succ_of_lt bl)]
 exact Heap.get?_push_of_some _ hb1
end
section
variable {X:Cx} {p pos:Pos}
def rSortedD:List V->Hp->VK->Prop:=fun vs H Q=>(∃ (a:Addr) (kvs:List (Key×V)) (ns:List Int),vs=[.ref a]/\Rd H a (.dK kvs)/\kvs.map (·.1)=ns.map Sum.inl/\ns.length < 64 ∧
  ∀ (l:Addr) (ns':List Int),H l=none->ns'.Perm ns->ns'.Pairwise (·<=·)->Q (.ref l) (upd H l (.lst (ns'.map V.int))))\/rSorted vs H Q
theorem call_sortedD (hc:X.calm=true):CallR X (.builtin "sorted") rSortedD:=by
 intro pins s σ H xs us Q I r h
 rcases h with ⟨a,kvs,ns,rfl,rd,hk,hl,q⟩ | h
 ·obtain ⟨u,rfl,rx⟩:=vals1 r
  cases rx
  obtain ⟨z,hd,vs,kv,o,es,ep,h1,h2,h3,h4,h5,h6⟩:=dk_rd I.hok rd
  have hT:s.TypeIs (.ref a) "dict" := ⟨o,h1,h2.1⟩
  have rel:=keys_mix kv h5
  have e1:(kvs.map fun p=>kV p.1)=ns.map V.int:=by
   have:(kvs.map fun p=>kV p.1)=(kvs.map (·.1)).map kV:=by rw [List.map_map];rfl
   rw [this,hk,List.map_map]
   rfl
  rw [e1] at rel
  have hI:=vals_intsA rel
  have es64:es.size < 64:=by
   have:=rel.length
   simp at this
   omega
  refine sorted_dict (I.ok.hd hc) hd hT h1 h3 hI es64 fun h' tk l out ns' e kp hl' he a1 a2 a3=>?_
  have hz:(ns'.map V.int).length<=sizeLine:=by rw [List.length_map,a2.length_eq];exact le_line (by omega)
  exact ⟨.ref l,upd H l (.lst (ns'.map V.int)),I.laid (t':=tk) kp hl' ⟨hz,out.toList,e,ints_vals a1,by simpa using he⟩,rfl,q _ _ (I.hok.fresh hl') a2 a3⟩
 ·exact call_sortedU pins s σ H xs us Q I r h
theorem fn_sortedD {e:Expr} {es:List Expr} {t:TA} {mg':Str->Option Value} (hm:mg' "sorted" = none) (hX:X.mg=mg') (ha:PA X (e :: es) t) (hc:X.calm=true:=by kernel_rfl) (hg:gB X "sorted" = true:=by kernel_rfl) (he:starEach (e :: es) X.env=(false,eval e X.env) :: starEach es X.env:=by kernel_rfl) (hpl:(backTo pos (starEach es X.env)).any (·.1)=false:=by kernel_rfl) :
  PE X (.Call (.Name "sorted" p) (e :: es) [] pos) (tCB rSortedD t):=pe_callB (call_sortedD hc) (gl_of hg) (by rw [hX];exact hm) PyProof.Rows.boot_sorted ha (he:=he) (hpl:=hpl)
end
end L2
end
section
namespace L2
open PySem PySem.Spec PyProof.Rows
section
variable {X:Cx} {p pos p2:Pos} {a b e st:Expr} {es:List Expr} {t:TA} {te:TE} {ts:TO}
end
section
variable {H H':Hp} {n:Nat} {v:V} {a:Addr} {xs:List V}
end
section
variable {F:Addr->Prop} {H H':Hp} {b:Addr} {o:HO}
end
end L2
end
section
namespace L2
open PySem PySem.Spec PyProof.Rows
end L2
end
section
namespace L2
open PySem PySem.Spec PyProof.Rows
def CodeO (c:Addr) (q:Str):HO:=.ext fun h=>h.CodeRec (.ref c) q
theorem CodeO.mk {P:Program} {w:World} {H:Hp} {h:Heap} {c:Addr} {q:Str} (x:h.CodeRec (.ref c) q):ObjOk P w H h c (CodeO c q):=by
 refine ⟨x,?_,fun h1 h2 x1 k=>?_⟩
 ·obtain ⟨c',o,vs,t,e,g,r⟩:=x
  cases e
  exact ⟨o,g⟩
 ·obtain ⟨c',o,vs,t,e,g,r⟩:=x1
  cases e
  exact ⟨_,o,vs,t,rfl,k o g,r⟩
theorem CodeO.at {P:Program} {w:World} {H:Hp} {h:Heap} {c:Addr} {q:Str} (ok:HOk P w H h) (e:H c=some (CodeO c q)):h.CodeRec (.ref c) q:=(ok c _ e).1
def LamIn (h:Heap) (f:Addr) (params:Arguments) (body:Expr) (scope:Scope) (qual:Str) (c:Addr) (F:List Str) (fvs:List V):Prop:=
 ∃ (pm ctv:Value) (clos:List (Str×Addr)),h.get? f=some (PySem.W.kla_obj "<lambda>" qual params body scope clos pm c ctv) ∧
  (∀ x y d,clos.lookup x=some d->clos.lookup y=some d->x=y) ∧
  (∀ y∈scope.names,y.2 = .free->∃ d,clos.lookup y.1=some d) ∧
  (∀ x d,clos.lookup x=some d->∃ v,h.IsCell d v) ∧
  ∀ (i:Nat) x v,F[i]? = some x->fvs[i]? = some v->∃ d u,clos.lookup x=some d/\h.IsCell d (some u)/\RelV v u
structure LamSc (p:Str) (F:List Str) (sc:Scope):Prop where
 kind:sc.kind = .function
 co:sc.isCoroutine=false
 gen:sc.isGenerator=false
 par:sc.names.lookup p=some .local
 fre:∀ x∈F,sc.names.lookup x=some .free
 nocell:∀ y∈sc.names,y.2≠.cell
def cxLam (CX:CXT) (P:Program) (w:World) (K:PySem.W.Frag) (mg:Str->Option Value) (base:Heap) (N:List Str) (qual:Str) (scope:Scope) (f:Addr) (cd:Value) (clos:List (Str×Addr)) (A:Around) (outer:List Env) (s:Shared) (H:Hp) (E:XK):Cx where
 prog:=P
 w:=w
 K:=K
 mg:=mg
 base:=base
 A:=A.deeper (PySem.W.envX qual scope s.heap.objs.size f cd clos)
 N:=N
 s₀:=s
 H₀:=H
 env:=PySem.W.envX qual scope s.heap.objs.size f cd clos
 outer:=outer
 stack:=PySem.W.envX qual scope s.heap.objs.size f cd clos :: outer
 ex:=[]
 calm:=true
 fn:=fun _=>false
 pn:=[]
 xe:=fun e s'=>wpAny (model P w) (A.deeper (PySem.W.envX qual scope s.heap.objs.size f cd clos)) (leaving (PySem.W.envX qual scope s.heap.objs.size f cd clos) e) (fun _ s''=>CX outer H s E e s'') (fun e' s''=>CX outer H s E e' s'') s'
theorem inv_lam {CX:CXT} {P:Program} {w:World} {K:PySem.W.Frag} {mg:Str->Option Value} {base:Heap} {p:Str} {F:List Str} {fvs:List V} {qual:Str} {scope:Scope} {f:Addr} {cd:Value} {clos:List (Str×Addr)} {A:Around} {outer:List Env} {s:Shared} {H:Hp} {E:XK}
  {u:Value} {v:V} {h':Heap} {tk:Nat} (S:LamSc p F scope) (hd:A.handled=none) (e0:Env0 P w K mg base A outer s H) (rv:RelV v u) (hl:F.length=fvs.length)
  (inj:∀ x y d,clos.lookup x=some d->clos.lookup y=some d->x=y) (has:∀ y∈scope.names,y.2 = .free->∃ d,clos.lookup y.1=some d) (cel:∀ x d,clos.lookup x=some d->∃ v,base.IsCell d v)
  (vals:∀ (i:Nat) x v,F[i]? = some x->fvs[i]? = some v->∃ d u,clos.lookup x=some d/\base.IsCell d (some u)/\RelV v u)
  (hns:h'.Ns s.heap.objs.size (fun x=>[(p,u)].reverse.lookup x)) (hk:∀ b o,s.heap.get? b=some o->h'.get? b=some o) :
  Inv (cxLam CX P w K mg base (p :: F) qual scope f cd clos A outer s H E) [] (some v :: fvs.map some) H { s with heap:=h',toks:=tk }:=by
 have noA:∀ b:Addr,b ∉ (cxLam CX P w K mg base (p :: F) qual scope f cd clos A outer s H E).ex:=fun b z=>absurd (show b∈([]:List Addr) from z) (by simp)
 have up:∀ {d:Addr} {v:Option Value},base.IsCell d v->h'.IsCell d v:=fun {d v} ⟨o,e,q⟩=>⟨o,hk _ _ (e0.bs _ _ e).1,q⟩
 refine ⟨⟨e0.mod,S.kind,rfl,rfl,Nat.le_refl _,inj,fun y hy=>?_,fun y c hf _=>(by cases (show false=true from hf)),fun _=>hd,Around.frames_deeper e0.frames,.inr ⟨rfl,rfl⟩,fun b z=>absurd z (noA b),e0.bs,e0.bsz,fun b _ _=>noA b,fun b z=>absurd z (noA b),e0.funs,e0.frf⟩,
  rfl,e0.bare,Un.kept hk,⟨_,hns,fun i y x h1 h2 h3=>?_⟩,fun y c h=>?_,e0.hok.fresh (Nat.le_refl _),fun y c h=>?_,fun p hp=>absurd (show p∈([]:List (Addr×Obj)) from hp) (by simp),e0.hok.kept hk,?_⟩
 ·have hy:scope.names.lookup y=some .cell\/scope.names.lookup y=some .free:=hy
  rcases hy with hy | hy
  ·exact absurd rfl (S.nocell _ (PySem.mem_of_lookup hy))
  ·exact has _ (PySem.mem_of_lookup hy) rfl
 ·cases i with
  | zero=>
   cases h1
   cases h2
   exact ⟨u,rv,.inl ⟨S.par,by simp⟩⟩
  | succ i=>
   have h1:F[i]? = some y:=by
    have h1:(p :: F)[i+1]? = some y:=h1
    rw [List.getElem?_cons_succ] at h1
    exact h1
   have h2:fvs[i]? = some x:=by
    rw [List.getElem?_cons_succ,List.getElem?_map] at h2
    cases q:fvs[i]? with
    | none=>rw [q] at h2;cases h2
    | some z=>rw [q] at h2;cases h2;rfl
   obtain ⟨d,u',e1,e2,e3⟩:=vals i y x h1 h2
   exact ⟨u',e3,.inr ⟨.inr (S.fre y (List.mem_of_getElem? h1)),d,e1,up e2⟩⟩
 ·obtain ⟨x,e⟩:=cel y c h
  exact ⟨x,up e⟩
 ·obtain ⟨x,o,e,_⟩:=cel y c h
  exact (e0.bs _ _ e).2
 ·show (some v :: fvs.map some).length=(p :: F).length
  simp [hl]
def CanL (P:Program) (w:World) (K:PySem.W.Frag) (mg:Str->Option Value) (base:Heap) (f:Addr) (k:Nat) (p:Str) (sp:Sp):Prop:=
 ∃ fd,FnOk P w K mg base CX0 k f fd [p] sp/\(∃ oc od sl,base.get? f=some ⟨oc,od,.func fd,sl⟩)/\Binds K fd [p] []
theorem lam_ok {P:Program} {w:World} {K:PySem.W.Frag} {mg:Str->Option Value} {base:Heap} {f c:Addr} {params:Arguments} {body:Expr} {scope:Scope} {qual p:Str} {F:List Str} {fvs:List V} {k:Nat} {sp:Sp} (L:LamIn base f params body scope qual c F fvs) (S:LamSc p F scope)
  (hl:F.length=fvs.length) (hbind:∀ clos pm ctv u,bindArgs (PySem.W.kla_fn "<lambda>" qual params body scope clos pm (.ref c) ctv) ⟨[u],[]⟩=pure [(p,u)]) (len:∀ vs H Q E,sp vs H Q E->vs.length=1)
  (hbody:∀ (clos:List (Str×Addr)) (A:Around) (outer:List Env) (s:Shared) (H:Hp) (v:V) (Q:VK) (E:XK),Room k (A.deeper (PySem.W.envX qual scope s.heap.objs.size f (.ref c) clos))->sp [v] H Q E →
   H c=some (CodeO c qual)/\∃ t,PE (cxLam CX0 P w K mg base (p :: F) qual scope f (.ref c) clos A outer s H E).nox body t/\t (some v :: fvs.map some) H Q):CanL P w K mg base f (k+1) p sp:=by
 obtain ⟨pm,ctv,clos,hf,inj,has,cel,vals⟩:=L
 refine ⟨_,⟨len,fun A outer s H args us vs Q E hr e0 hb r hsp=>?_⟩,⟨_,_,_,hf⟩,.all fun us hl=>?_⟩
 ·have hl1:=len _ _ _ _ hsp
  match vs,hl1 with
  | [v],_=>
   obtain ⟨u,rfl,rv⟩:=vals1 r
   have lim:s.heap.NoLimit:=e0.mod.nolimit.keeps fun b o e=>(e0.bs b o e).1
   obtain ⟨hc,t,ht,hq⟩:=hbody clos A outer s H v Q E (hr.deeper _) hsp
   refine PySem.W.kla_callFunE hr.depth (e0.bs _ _ hf).1 rfl S.co S.gen rfl (CodeO.at e0.hok hc) (hb _ _ _ _ ?_)
   refine wpAny_newFunctionEnv S.nocell (fun y hy=>?_) (fun h' hns hsb=>?_) S.kind
   ·have e:y=(p,u):=by simpa using hy
    subst e
    exact S.par
   ·have hk:∀ b o,s.heap.get? b=some o->h'.get? b=some o:=fun b o e=>hsb.extBut b o (Nat.ne_of_lt (Heap.lt_size e)) (Heap.get?_push_of_some _ e)
    refine ⟨lim.keeps hk,PySem.W.kla_codeExpr ?_⟩
    have I:=inv_lam (CX:=CX0) (E:=E) (f:=f) (cd:=.ref c) (qual:=qual) (tk:=s.toks+([p].zip [u]).length) S hr.hd e0 rv hl inj has cel vals hns hk
    refine wpAny_mono (ht.nox [] _ _ H _ I hq) (fun u' s' hs=>?_) fun e s' hs=>hs
    obtain ⟨v',H',J,rv',q⟩:=hs
    exact ⟨v',H',J.os,J.bare,J.base,J.hok,rv',q⟩
 ·match us,hl with
  | [u],_=>exact hbind clos pm ctv u
section
variable {X:Cx} {p pos:Pos} {e:Expr} {es:List Expr} {t:TA}
def tCanF (i:Nat) (f:Addr) (sp:Sp) (t:TA):TE:=fun σ H Q=>σ[i]? = some (some (.ref f))/\t σ H fun vs H1=>sp vs H1 Q E0
theorem e_callF (x:Str) (i:Nat) {P':Program} {w':World} {K':PySem.W.Frag} {mg':Str->Option Value} {base':Heap} {f:Addr} {k:Nat} {y:Str} {sp:Sp} (V:CanL P' w' K' mg' base' f k y sp)
  (hX:X.prog=P'/\X.w=w'/\X.K=K'/\X.mg=mg'/\X.base=base') (hr:Room k X.A) (ha:PA X (e :: es) t) (hN:X.N[i]? = some x:=by with_unfolding_all rfl) (hv:visB X.env.scope x=true:=by kernel_rfl)
  (he:starEach (e :: es) X.env=(false,eval e X.env) :: starEach es X.env:=by kernel_rfl) (hpl:(backTo pos (starEach es X.env)).any (·.1)=false:=by kernel_rfl) :
  PE X (.Call (.Name x p) (e :: es) [] pos) (tCanF i f sp t):=by
 obtain ⟨rfl,rfl,rfl,rfl,rfl⟩:=hX
 obtain ⟨fd,F,⟨oc,od,sl,hf⟩,b⟩:=V
 intro pins s σ H Q I h
 obtain ⟨ef,h⟩:=h
 refine wpAny_Call_Name_kw (thn ((vn (X:=X) (pos:=p) x i hN hv) pins s σ H (fun v H'=>v = .ref f/\H'=H) I ?_) fun u s1 ⟨v,H1,I1,r1,q1,q2⟩=>?_)
 ·unfold tV
  rw [ef]
  exact ⟨rfl,rfl⟩
 ·subst q1
  subst q2
  cases r1
  have go:wpAny (model X.prog X.w) X.A (spliced (backTo pos (starEach (e :: es) X.env))) (fun vs s₁=>s₁.heap.get? f=some ⟨oc,od,.func fd,sl⟩/\wpAny (model X.prog X.w) X.A (call (.ref f) vs) (EP X pins σ Q) X.xe s₁) X.xe s1:=
   thn (ha pos pins s1 σ H1 _ I1 h) fun us s2 ⟨vs,H2,I2,r,q⟩=>⟨I2.bk _ _ hf,run_fn (dvs:=[]) (E:=E0) F hr b .nil pass0 I2 r (by rw [List.append_nil];exact q)⟩
  rw [he] at go ⊢
  exact PySem.W.callWith_of (P:=fun h=>h.get? f=some ⟨oc,od,.func fd,sl⟩) (first:=[]) (by show ((false || (backTo pos (starEach es X.env)).any (·.1)) || false)=false;rw [hpl];rfl)
   (fun h hh=>⟨.frame,.inl rfl,(PySem.W.Looks.ld (part:=none) hh).andThen .now⟩) (Calls.evalArgs_plain go)
end
end L2
end
section
namespace L2
open PySem PySem.Spec PyProof.Rows
structure Maker (mg:Str->Option Value) (base:Heap) (c P:Addr):Prop where
 bm:∃ bm ob,mg "__builtins__" = some (.ref bm)/\bm≠builtinsNs/\base.get? bm=some ob/\ob.cls = .type "module"/\ob.dict=some builtinsNs/\ob.data = .plain
 hd:PySem.W.CodeHd base c P
theorem Maker.keeps {mg:Str->Option Value} {base base':Heap} {c P:Addr} (M:Maker mg base c P) (k:∀ b o,base.get? b=some o->base'.get? b=some o):Maker mg base' c P:=
 ⟨let ⟨bm,ob,a,b,e,r⟩:=M.bm;⟨bm,ob,a,b,k _ _ e,r⟩,M.hd.keeps k⟩
def Tab (P:Addr) (pos:Pos) (qual:Str) (H:Hp):Prop:=H P=some (.tbl #[])\/∃ c,H P=some (.tbl #[rawInt pos.line,rawInt pos.col,.ref c])/\H c=some (CodeO c qual)
def SameT (P:Addr) (H H':Hp):Prop:=∀ b o,b≠P->H b=some o->H' b=some o
theorem SameT.refl (P:Addr) (H:Hp):SameT P H H:=fun _ _ _ h=>h
theorem SameT.trans {P:Addr} {H H1 H2:Hp} (a:SameT P H H1) (b:SameT P H1 H2):SameT P H H2:=fun c o n h=>b c o n (a c o n h)
theorem Same.t {P:Addr} {H H':Hp} (a:Same H H'):SameT P H H':=fun c o _ h=>a c o h
theorem Tab.mono {P:Addr} {pos:Pos} {qual:Str} {H H':Hp} (t:Tab P pos qual H) (s:Same H H'):Tab P pos qual H':=by
 rcases t with e | ⟨c,e1,e2⟩
 ·exact .inl (s _ _ e)
 ·exact .inr ⟨c,s _ _ e1,s _ _ e2⟩
theorem tab_un {Pg:Program} {w:World} {fs ex:List Addr} {H:Hp} {h h':Heap} {P c:Addr} {ps more:Array Value} {q:Str} (ok:HOk Pg w H h) (e:H P=some (.tbl ps)) (k:∀ b o,b≠P->h.get? b=some o->h'.get? b=some o) (hP:h'.get? P=some (PySem.W.tabObj (ps++more)))
  (hc:h.objs.size<=c):Un fs ex H (upd (upd H P (.tbl (ps++more))) c (CodeO c q)) h h':=by
 have nc:=ok.fresh hc
 have cP:c≠P:=fun z=>by rw [z,e] at nc;cases nc
 have at':∀ b o,b≠P->H b=some o->upd (upd H P (.tbl (ps++more))) c (CodeO c q) b=some o:=fun b o n g=>by
  rw [upd_ne (ne_of_none g nc),upd_ne n]
  exact g
 have un:∀ b,H b=none->b≠P:=fun b n z=>by rw [z,e] at n;cases n
 refine ⟨fun b o g n _ _=>k b o (un b n) g,fun b o g n _ _=>⟨o.slots,k b o (un b n) g⟩,fun b o g n _=>?_,fun b o g _=>?_,fun b xs g=>at' b _ (fun z=>by rw [z,e] at g;cases g) g,fun b o u g=>at' b _ (fun z=>by rw [z,e] at g;cases g) g,fun b qs g=>?_⟩
 ·rw [upd_ne (Nat.ne_of_lt (Nat.lt_of_lt_of_le (Heap.lt_size g) hc)),upd_ne (un b n)]
  exact n
 ·by_cases z:b=P
  ·rw [z];exact ⟨_,hP⟩
  ·exact ⟨o,k b o z g⟩
 ·by_cases z:b=P
  ·subst z
   rw [e] at g
   cases g
   exact ⟨more,by rw [upd_ne (Ne.symm cP),upd_same]⟩
  ·exact ⟨#[],by rw [at' b _ z g];simp⟩
theorem tab_hok {Pg:Program} {w:World} {H:Hp} {h h':Heap} {P c:Addr} {ps more:Array Value} {q:Str} (ok:HOk Pg w H h) (e:H P=some (.tbl ps)) (k:∀ b o,b≠P->h.get? b=some o->h'.get? b=some o) (hP:h'.get? P=some (PySem.W.tabObj (ps++more)))
  (hc:h.objs.size<=c) (rec:h'.CodeRec (.ref c) q):HOk Pg w (upd (upd H P (.tbl (ps++more))) c (CodeO c q)) h':=by
 have nc:=ok.fresh hc
 have cP:c≠P:=fun z=>by rw [z,e] at nc;cases nc
 have at':∀ b o,b≠P->H b=some o->upd (upd H P (.tbl (ps++more))) c (CodeO c q) b=some o:=fun b o n g=>by
  rw [upd_ne (ne_of_none g nc),upd_ne n]
  exact g
 intro a o g
 by_cases z:a=c
 ·subst z
  rw [upd_same] at g
  cases g
  exact CodeO.mk rec
 ·rw [upd_ne z] at g
  by_cases y:a=P
  ·subst y
   rw [upd_same] at g
   cases g
   exact hP
  ·rw [upd_ne y] at g
   refine (ok a o g).stay (fun b u hb r=>k b u ?_ r) (fun b r=>at' b _ (fun z=>by rw [z,e] at r;cases r) r) fun b xs r=>at' b _ (fun z=>by rw [z,e] at r;cases r) r
   rintro rfl
   rcases hb with rfl | hb
   ·exact y rfl
   ·rw [e] at hb;cases hb
section
variable {X:Cx} {pins:List (Addr×Obj)} {σ:St} {H:Hp} {s:Shared}
theorem lam_eval {params:Arguments} {body:Expr} {scope:Scope} {pos:Pos} {c P:Addr} {Q:Value->Shared->Prop} (I:Inv X pins σ H s) (M:Maker X.mg X.base c P) (hcd:X.env.code = .ref c) (hdef:defaultsOf params X.env=([],[]))
  (tb:Tab P pos (X.env.qual++"<lambda>") H) (hfr:∀ y∈scope.names,y.2 = .free->∃ d,X.env.cells.lookup y.1=some d)
  (h:∀ (f c':Addr) (clos:List (Str×Addr)) (pm ctv:Value) (H2:Hp) (s2:Shared),Inv X pins σ H2 s2->SameT P H H2->H2 P=some (.tbl #[rawInt pos.line,rawInt pos.col,.ref c'])->H2 c'=some (CodeO c' (X.env.qual++"<lambda>"))->H2 f=none →
   s2.heap.get? f=some (PySem.W.kla_obj "<lambda>" (X.env.qual++"<lambda>") params body scope clos pm c' ctv)->s.heap.objs.size<=f->(∀ x d,clos.lookup x=some d->X.env.cells.lookup x=some d)->(∀ y∈scope.names,y.2 = .free->∃ d,clos.lookup y.1=some d)->Q (.ref f) s2) :
  wpAny (model X.prog X.w) X.A (eval (.Lambda params body scope pos) X.env) Q X.xe s:=by
 refine PySem.W.kla_eval hdef ?_
 obtain ⟨clos,hcl,hc1,hc2⟩:=closure_ok hfr
 have hgs:=I.mod.glob.keeps I.bk
 obtain ⟨bm,ob,b1,b2,b3,b4,b5,b6⟩:=M.bm
 have hbm:=I.bk _ _ b3
 have hbG:bm≠mainGlobals:=fun q=>by
  obtain ⟨o,es,ep,e,hd,_⟩:=hgs
  rw [q,e] at hbm;cases hbm;rw [hd] at b6;cases b6
 have side:∀ {ps:Array Value},s.heap.get? P=some (PySem.W.tabObj ps)->mainGlobals≠P/\s.heap.BuiltinsAt X.mg P:=fun {ps} hP=>by
  refine ⟨fun q=>?_,bm,ob,b1,b2,hbG,fun q=>?_,hbm,b4,b5,b6⟩
  ·obtain ⟨o,es,ep,e,hd,_⟩:=hgs
   rw [q,hP] at e;cases e;cases hd
  ·rw [q,hP] at hbm;cases hbm;cases b4
 rcases tb with e | ⟨c',e1,e2⟩
 ·have hP:s.heap.get? P=some (PySem.W.tabObj #[]):=I.hok P _ e
  obtain ⟨g1,g2⟩:=side hP
  refine PySem.W.kla_makeFunction (mg:=X.mg) hcl I.ok.glob hgs hcd (M.hd.keeps I.bk) hP trivial rfl g1 g2 fun c' ctv h' tk hx hge hlt hrec htb=>?_
  have k:∀ (o:Obj) b u,b≠P->s.heap.get? b=some u->(h'.push o).get? b=some u:=fun o b u n g=>Heap.get?_push_of_some _ (hx b u n g)
  have hf:s.heap.objs.size<=h'.objs.size:=Nat.le_of_lt (Nat.lt_of_le_of_lt hge hlt)
  have nf:=I.hok.fresh hf
  have cP:c'≠P:=fun z=>by have:=I.hok.fresh hge;rw [z,e] at this;cases this
  have J:=I.un (t':=tk) (tab_un (fs:=X.fs) (ex:=[]) (more:=#[rawInt pos.line,rawInt pos.col,.ref c']) (q:=X.env.qual++"<lambda>") I.hok e (k _) (Heap.get?_push_of_some (PySem.W.kla_obj "<lambda>" (X.env.qual++"<lambda>") params body scope clos ((X.mg "__name__").getD .none) c' ctv) htb) hge)
   (tab_hok I.hok e (k _) (Heap.get?_push_of_some _ htb) hge (hrec.push _))
  refine h h'.objs.size c' clos _ ctv _ _ J (fun b o n g=>?_) ?_ upd_same ?_ (Heap.get?_push_size _ rfl) hf hc1 hc2
  ·rw [upd_ne (ne_of_none g (I.hok.fresh hge)),upd_ne n]
   exact g
  ·rw [upd_ne (Ne.symm cP),upd_same]
   simp
  ·rw [upd_ne (Nat.ne_of_gt hlt),upd_ne (fun z=>by rw [z,e] at nf;cases nf)]
   exact nf
 ·have hP:s.heap.get? P=some (PySem.W.tabObj #[rawInt pos.line,rawInt pos.col,.ref c']):=I.hok P _ e1
  obtain ⟨g1,g2⟩:=side hP
  refine PySem.W.kla_makeFunctionHit (mg:=X.mg) hcl I.ok.glob hgs hcd (M.hd.keeps I.bk) hP (TriplesOk_snoc _ _ _ [] trivial) (codeAmong_snoc [] trivial rfl) g2 fun ctv h' tk hk hsz=>?_
  have J:=I.kept (t':=tk) (h':=h'.push (PySem.W.kla_obj "<lambda>" (X.env.qual++"<lambda>") params body scope clos ((X.mg "__name__").getD .none) c' ctv)) fun b u g=>Heap.get?_push_of_some _ (hk b u g)
  exact h h'.objs.size c' clos _ ctv H _ J (SameT.refl _ _) e1 e2 (I.hok.fresh hsz) (Heap.get?_push_size _ rfl) hsz hc1 hc2
def wider (X:Cx) (h:Heap) (H:Hp):Heap:=PySem.W.hideAll h (trk h H++frs X.stack)
theorem wider_get {h:Heap} {b:Addr} {o:Obj} (e:h.get? b=some o) (n:H b=none) (f:b ∉ frs X.stack):(wider X h H).get? b=some o:=
 PySem.W.hideAll_get _ e fun hm=>by
  rcases List.mem_append.mp hm with hm | hm
  ·have q:(H b).isSome=true:=(List.mem_filter.mp hm).2
   rw [n] at q;simp at q
  ·exact f hm
theorem of_wider {h:Heap} {b:Addr} {o:Obj} (e:(wider X h H).get? b=some o):h.get? b=some o/\H b=none/\b ∉ frs X.stack:=by
 have e':h.get? b=some o:=PySem.W.of_hideAll _ e
 have nm:b ∉ trk h H++frs X.stack:=fun hm=>by rw [show (wider X h H).get? b=none from PySem.W.hideAll_none _ hm] at e;cases e
 refine ⟨e',?_,fun z=>nm (List.mem_append_right _ z)⟩
 cases q:H b with
 | none=>rfl
 | some x=>exact absurd (List.mem_append_left _ (List.mem_filter.mpr ⟨List.mem_range.mpr (Heap.lt_size e'),by simp [q]⟩)) nm
theorem Inv.nostk (I:Inv X pins σ H s) {b:Addr} {o:Obj} (e:X.base.get? b=some o):b ∉ frs X.stack:=fun hb=>by
 have:=(I.stack.mem hb).1
 rw [e] at this;cases this
theorem Inv.wide (I:Inv X pins σ H s):(∀ b o,X.base.get? b=some o->(wider X s.heap H).get? b=some o):=fun b o e=>wider_get (I.bs b o e).1 (I.bs b o e).2 (I.nostk e)
theorem funFrames_wide {h base base':Heap}:∀ {l:List Env},h.FunFrames base l->(∀ b∈frs l,base'.get? b=none)->h.FunFrames base' l
 | [],_,_=>trivial
 | env :: r,⟨hk,⟨L,o,hf,hn,ho,hd⟩,hr⟩,k=>by
  have hL:L∈frs (env :: r):=by unfold frs;rw [List.filterMap_cons,hf];exact List.mem_cons_self
  exact ⟨hk,⟨L,o,hf,k L hL,ho,hd⟩,funFrames_wide hr fun b hb=>k b (by unfold frs;rw [List.filterMap_cons,hf];exact List.mem_cons_of_mem _ hb)⟩
theorem Mod.keeps {K:PySem.W.Frag} {mg:Str->Option Value} {base base':Heap} (M:Mod K mg base) (k:∀ b o,base.get? b=some o->base'.get? b=some o):Mod K mg base':=
 ⟨M.kin.keeps k,M.glob.keeps k,let ⟨mb,a,b⟩:=M.blt;⟨mb,a.keeps k,b⟩,M.nolimit.keeps k⟩
theorem Inv.env1 (I:Inv X pins σ H s):Env0 X.prog X.w X.K X.mg (wider X s.heap H) X.A X.stack s H:=
 ⟨I.ok.frames,I.mod.keeps I.wide,fun b o e=>⟨(of_wider e).1,(of_wider e).2.1⟩,Nat.le_of_eq (PySem.W.hideAll_size _ _),funFrames_wide I.stack fun b hb=>PySem.W.hideAll_none _ (List.mem_append_right _ hb),I.stkFree,I.hok,I.bare⟩
end
section
variable {X:Cx} {p pos lp:Pos} {a:Expr} {ta:TE}
def tLam (P:Addr) (lp:Pos) (qual:Str) (js:List Nat) (sp:Addr->Addr->List V->Sp) (ta:TE):TE:=fun σ H Q=>ta σ H fun x H1=>Tab P lp qual H1/\∃ fvs:List V,js.map (fun j=>σ[j]?)=fvs.map (fun v=>some (some v)) ∧
 ∀ f c H2,SameT P H1 H2->H2 P=some (.tbl #[rawInt lp.line,rawInt lp.col,.ref c])->H2 c=some (CodeO c qual)->H2 f=none->sp f c fvs [x,.ref f] H2 Q E0
theorem e_lamcall (x:Str) {params:Arguments} {body:Expr} {scope:Scope} {c P:Addr} {F:List Str} {js:List Nat} {k:Nat} {ps:List Str} {sp:Addr->Addr->List V->Sp} (hm:∃ f,X.mg x=some (.ref f)/\PySem.W.keepIn X.K (.ref f)=true) (M:Maker X.mg X.base c P) (hcd:X.env.code = .ref c)
  (hF:∀ (i:Nat) y,F[i]? = some y->∃ j,js[i]? = some j/\X.N[j]? = some y/\X.env.scope.names.lookup y=some .cell) (hFn:F.length=js.length) (hFs:∀ y∈F,scope.names.lookup y=some .free) (hfn:∀ y,X.fn y=true) (hfree:∀ y∈scope.names,y.2 = .free->X.env.scope.names.lookup y.1=some .cell)
  (hC:∀ (B:Heap) (f c':Addr) (fvs:List V),Mod X.K X.mg B->(∀ b o,X.base.get? b=some o->B.get? b=some o)->F.length=fvs.length->LamIn B f params body scope (X.env.qual++"<lambda>") c' F fvs->Can X.prog X.w X.K X.mg B x k ps (sp f c' fvs))
  (hr:Room k X.A) (ha:PE X a ta) (hg:gB X x=true) (hdef:defaultsOf params X.env=([],[])) (hdb:(x == ("__debug__" : Str))=false)
  (he:starEach [a,.Lambda params body scope lp] X.env=[(false,eval a X.env),(false,eval (.Lambda params body scope lp) X.env)]) :
  PE X (.Call (.Name x p) [a,.Lambda params body scope lp] [] pos) (tLam P lp (X.env.qual++"<lambda>") js sp ta):=by
 obtain ⟨tf,hm,hk⟩:=hm
 intro pins s σ H Q I h
 refine wpAny_Call_Name_kw (ld_glob I (gl_of hg) hm ?_ hdb)
 have go:wpAny (model X.prog X.w) X.A (spliced (backTo pos (starEach [a,.Lambda params body scope lp] X.env))) (fun vs s₁=>X.K.In s₁.heap/\wpAny (model X.prog X.w) X.A (call (.ref tf) vs) (EP X pins σ Q) X.xe s₁) X.xe s:=by
  rw [he]
  refine Calls.spliced_cons (thn (ha pins s σ H _ I h) fun u s1 ⟨v,H1,I1,r1,q1⟩=>?_)
  obtain ⟨tb,fvs,hv,q⟩:=q1
  refine Calls.spliced_cons (lam_eval I1 M hcd hdef tb (fun y hy hz=>I1.ok.has _ (.inl (hfree y hy hz))) fun f c' clos pm ctv H2 s2 I2 sm e1 e2 nf hf hge cl1 cl2=>Calls.spliced_nil ⟨I2.kIn,?_⟩)
  have ls:F.length=fvs.length:=by
   have:=congrArg List.length hv
   rw [List.length_map,List.length_map] at this
   omega
  have nst:f ∉ frs X.stack:=fun hb=>by
   obtain ⟨_,o,ho,_⟩:=I1.stack.mem hb
   exact absurd (Heap.lt_size ho) (Nat.not_lt.mpr hge)
  have cellB:∀ {y:Str} {d:Addr} {z:Option Value},X.env.cells.lookup y=some d->s2.heap.IsCell d z->(wider X s2.heap H2).IsCell d z:=fun {y d z} hd ⟨o,eo,od⟩=>by
   refine ⟨o,wider_get eo (I2.freeC y d hd) fun hb=>?_,od⟩
   rcases List.mem_cons.mp (I2.stkSub d hb) with z1 | z1
   ·exact I2.cne y d hd z1
   ·obtain ⟨_,o',ho',_⟩:=I2.ok.funs.mem z1
    exact absurd (Heap.lt_size ho') (Nat.not_lt.mpr (I2.ok.cab y d (hfn y) hd))
  have L:LamIn (wider X s2.heap H2) f params body scope (X.env.qual++"<lambda>") c' F fvs:=by
   refine ⟨pm,ctv,clos,wider_get hf nf nst,fun y z d h1 h2=>I2.ok.inj y z d (cl1 y d h1) (cl1 z d h2),cl2,fun y d hd=>?_,fun i y v' hi hv'=>?_⟩
   ·obtain ⟨z,hz⟩:=I2.cell y d (cl1 y d hd)
    exact ⟨z,cellB (cl1 y d hd) hz⟩
   ·obtain ⟨j,hj,hN,hc⟩:=hF i y hi
    have ej:σ[j]? = some (some v'):=by
     have:=congrArg (·[i]?) hv
     simp only [List.getElem?_map,hj,hv',Option.map_some] at this
     exact Option.some.inj this
    obtain ⟨m,_,hloc⟩:=I2.loc
    obtain ⟨u',ru,lk⟩:=hloc j y v' hN ej (.inr (.inl hc))
    rcases lk with ⟨k1,_⟩ | ⟨_,d,hd,hcell⟩
    ·have k1:X.env.scope.names.lookup y=some .local:=k1
     rw [hc] at k1;cases k1
    ·obtain ⟨d',hd'⟩:=cl2 (y,.free) (PySem.mem_of_lookup (hFs y (List.mem_of_getElem? hi))) rfl
     have:=cl1 y d' hd'
     rw [hd] at this
     cases this
     exact ⟨d,u',hd',cellB hd hcell,ru⟩
  obtain ⟨f',fd,Fk,hm',hk',hb⟩:=hC _ f c' fvs I2.env1.mod I2.wide ls L
  rw [hm] at hm'
  cases hm'
  have r2:Vals [v,.ref f] [u,.ref f]:=.cons r1 (.cons rfl .nil)
  have hq:=q f c' H2 sm e1 e2 nf
  have hl:([u,Value.ref f]++[]).length=ps.length:=by rw [List.append_nil,<-r2.length];exact Fk.len _ _ _ _ hq
  refine wpAny_call (codeAny_mono (Fk.run X.A X.stack s2 H2 ⟨[u,.ref f],[]⟩ ([u,.ref f]++[]) [v,.ref f] Q E0 hr I2.env1 (hb s2 _ I2.kIn hl) (by rw [List.append_nil];exact r2) hq) fun r s' hq=>?_)
  cases r with
  | error e=>exact hq.elim
  | ok fl=>
   cases fl with
   | ret u=>exact I2.after hq
   | next=>exact False.elim hq
   | brk=>exact False.elim hq
   | cont=>exact False.elim hq
 rw [he] at go ⊢
 exact PySem.W.callWith_of (P:=fun h=>X.K.In h) (first:=[]) rfl (PySem.W.keeps_K hk) (Calls.evalArgs_plain go)
end
end L2
end
section
namespace Om
def once {α:Type} [DecidableEq α] (l:List α):List α:=l.foldl (fun acc x=>if x∈acc then acc else acc++[x]) []
section
variable {α:Type} [DecidableEq α]
theorem snocInd {P:List α->Prop} (h0:P []) (h1:∀ l x,P l->P (l++[x])) (l:List α):P l:=by
 have all:∀ (n:Nat) (l:List α),l.length=n->P l:=by
  intro n
  induction n with
  | zero=>intro l e;rw [List.length_eq_zero_iff.mp e];exact h0
  | succ n ih=>
   intro l e
   have ne:l≠[]:=fun z=>by rw [z] at e;cases e
   rw [<-List.dropLast_concat_getLast ne]
   exact h1 _ _ (ih _ (by rw [List.length_dropLast];omega))
 exact all _ l rfl
theorem once_snoc (l:List α) (x:α):once (l++[x])=if x∈once l then once l else once l++[x]:=by unfold once;rw [List.foldl_append];rfl
theorem once_le (l:List α):(once l).length<=l.length:=by
 induction l using snocInd with
 | h0=>exact Nat.le_refl _
 | h1 l x ih=>
  rw [once_snoc]
  split
  ·rw [List.length_append];exact Nat.le_trans ih (Nat.le_add_right _ _)
  ·rw [List.length_append,List.length_append];exact Nat.add_le_add_right ih _
theorem mem_once (l:List α) (y:α):y∈once l↔y∈l:=by
 induction l using snocInd with
 | h0=>exact Iff.rfl
 | h1 l x ih=>
  rw [once_snoc,List.mem_append,List.mem_singleton]
  split
  ·rename_i h
   exact ⟨fun z=>.inl (ih.mp z),fun z=>z.elim ih.mpr fun e=>e ▸ h⟩
  ·rw [List.mem_append,List.mem_singleton,ih]
theorem once_len (l:List α):(once l).length=l.length↔l.Nodup:=by
 induction l using snocInd with
 | h0=>exact ⟨fun _=>List.nodup_nil,fun _=>rfl⟩
 | h1 l x ih=>
  rw [once_snoc,List.nodup_append,List.length_append]
  have le:=once_le l
  by_cases h:x∈once l
  ·rw [if_pos h]
   constructor
   ·intro e;simp at e;omega
   ·rintro ⟨_,_,d⟩
    exact absurd rfl (d x ((mem_once l x).mp h) x (by simp))
  ·rw [if_neg h,List.length_append]
   constructor
   ·intro e
    refine ⟨ih.mp (by simpa using e),by simp,fun a ha b hb e2=>?_⟩
    have:b=x:=by simpa using hb
    subst this
    subst e2
    exact h ((mem_once l a).mpr ha)
   ·rintro ⟨nd,_,_⟩
    rw [ih.mpr nd]
end
end Om
namespace L2
open PySem PySem.Spec PyProof.Rows
section
variable {prog:Program} {w:World} {A:Around} {I:Addr} {fp wr:List Addr} {G:Array GenState->Array GenState->Prop} {n:Nat} {P:Nat->Value->Prop} {St:Nat->Shared->Prop} {κ:Type} [DecidableEq κ] {knd:KeyKind prog w κ}
theorem setOf_moved {h h':Heap} {S:Addr} {M:κ->Bool} {m:Nat} (x:h.SetOf knd S M m) (k:∀ o,h.get? S=some o->h'.get? S=some o):h'.SetOf knd S M m:=by
 obtain ⟨o,es,ep,t,ho,r⟩:=x
 exact ⟨o,es,ep,t,k o ho,r⟩
theorem set_takes (W:WalksS prog w A.in1 I fp wr G n P St) (S:Addr) (hSf:S ∉ fp) (ks:List κ) (hn:ks.length=n) (hval:∀ i v,P i v->∃ x,ks[i]? = some x/\knd.is x v=true/\v.scannable=true) (hb:n+1 < scanBound) {R:Result->Shared->Prop} :
  ∀ (m i:Nat) (s:Shared),n - i=m->i<=n->St i s->s.heap.SetOf knd S (fun x=>decide (x∈Om.once (ks.take i))) (Om.once (ks.take i)).length →
   (∀ s',Moved (S :: wr) G s s'->s'.heap.SetOf knd S (fun x=>decide (x∈Om.once ks)) (Om.once ks).length->R (.ok (.ret .none)) s') →
   codeAny (model prog w) A (.builtin "set.update.loop" ⟨[.ref S,.ref I],[]⟩) R s:=by
 have nw:S ∉ wr:=fun h=>hSf (W.sub _ h)
 have up:∀ b∈wr,b∈S :: wr:=fun b hb=>List.mem_cons_of_mem _ hb
 intro m
 induction m with
 | zero=>
  intro i s hm hi st x out
  obtain rfl:i=n:=by omega
  refine codeAny_builtin F.entry_set_update_loop ?_
  rw [Around.under_plainId F.plain_set_update_loop _]
  show wpAny _ A.in1 (pyNext (.ref I) >>= _) _ _ s
  refine wpAny_bind (W.done s _ _ st fun s1 mv=>?_)
  show wpAny _ A.in1 (ret Value.none) _ _ s1
  rw [List.take_of_length_le (by omega)] at x
  exact wpAny_pure (out s1 (mv.mono up) (setOf_moved x fun o e=>mv.heap S o nw e))
 | succ m ih=>
  intro i s hm hi st x out
  have lt:i < n:=by omega
  refine codeAny_builtin F.entry_set_update_loop ?_
  rw [Around.under_plainId F.plain_set_update_loop _]
  show wpAny _ A.in1 (pyNext (.ref I) >>= _) _ _ s
  refine wpAny_bind (W.item i s _ _ lt st fun v s1 hv st1 mv=>?_)
  obtain ⟨y,hy,ky,sy⟩:=hval i v hv
  have x1:=setOf_moved (h':=s1.heap) x fun o e=>mv.heap S o nw e
  show wpAny _ A.in1 (holding [v] (setAdd S v) >>= _) _ _ s1
  refine wpAny_bind (wpAny_holding ?_)
  unfold setAdd
  refine wpAny_holding (wpAny_bind (knd.pyHash ky ?_))
  have rm:(Om.once (ks.take i)).length+1 < scanBound:=by
   have h1:=Om.once_le (ks.take i)
   have h2:(ks.take i).length<=i:=by rw [List.length_take];exact Nat.min_le_left _ _
   omega
  refine wpAny_setAddHashed_of (knd:=knd) (s:={ s1 with toks:=s1.toks+1 }) ky sy x1 rm fun h2 sb x2=>?_
  have tk:ks.take (i+1)=ks.take i++[y]:=by rw [List.take_succ,hy];rfl
  have x3:h2.SetOf knd S (fun x=>decide (x∈Om.once (ks.take (i+1)))) (Om.once (ks.take (i+1))).length:=by
   rw [tk,Om.once_snoc]
   by_cases hm2:y∈Om.once (ks.take i)
   ·rw [if_pos hm2]
    rw [if_pos (by simpa using hm2)] at x2
    refine (congrArg (fun M=>h2.SetOf knd S M (Om.once (ks.take i)).length) (funext fun z=>?_)).mp x2
    by_cases e:z=y
    ·subst e;simp [hm2]
    ·simp [e]
   ·rw [if_neg hm2,List.length_append]
    rw [if_neg (by simpa using hm2)] at x2
    refine (congrArg (fun M=>h2.SetOf knd S M ((Om.once (ks.take i)).length+1)) (funext fun z=>?_)).mp x2
    rw [Bool.eq_iff_iff]
    simp [List.mem_append]
  refine wpAny_pure ⟨plainId_quiet F.plain_set_update_loop _,ih (i+1) _ (by omega) lt (W.frame _ s1 _ _ st1 (Nat.le_succ _) fun b hb o e=>?_) x3 fun s2 mv2 x4=>?_⟩
  ·rw [sb.2 b fun h:b=S=>hSf (h ▸ hb)]
   exact e
  ·refine out s2 (Moved.trans W.gtrans ((mv.mono up).then_heap (Nat.le_succ _) fun b o hb e=>?_) mv2) x4
   rw [sb.2 b fun h:b=S=>hb (h ▸ List.mem_cons_self)]
   exact e
theorem call_set_of {E:Value->Shared->Prop} {s:Shared} {l:Addr} {items:Array Value} {ks:List κ} {Q:Value->Shared->Prop} (hh:A.handled=none) (hl:s.heap.IsList l items) (hn:ks.length=items.size)
  (hi:∀ (i:Nat) v,items[i]? = some v->∃ x,ks[i]? = some x/\knd.is x v=true/\v.scannable=true) (hb:items.size+1 < scanBound)
  (h:∀ (h':Heap) (tk:Nat),h'.SetOf knd s.heap.objs.size (fun x=>decide (x∈Om.once ks)) (Om.once ks).length->(∀ b o,s.heap.get? b=some o->h'.get? b=some o)->Q (.ref s.heap.objs.size) { s with heap:=h',toks:=tk }) :
  wpAny (model prog w) A (call (.type "set") [.ref l]) Q E s:=by
 obtain ⟨c,tl,m1⟩:=PySem.F.called_set.mro
 have m2:=PySem.F.called_set.made
 have m3:=PySem.F.called_set.sub
 refine wpAny_call (codeAny_of_tree ?_)
 show wpAny _ _ (callAny (.type "set") _) _ _ _
 refine wpAny_pure ⟨Code.quiet_builtin _ (by decide +kernel),codeAny_builtin PySem.F.entry_type_call ?_⟩
 rw [Around.under_plain (weight_type_call_type "set" [.ref l] []) rfl]
 have t1:=PySem.F.called_set.notType
 have t2:=PySem.F.called_set.canCreate
 have t3:=PySem.F.typeCall_set_1 (.ref l)
 repeat (any_goals (first | assumption | wp_step))
 refine codeAny_mono (code_set_new_1 (.ref l) (E:=E) (Q₁:=fun ob s1=>∃ led:Bool,ob = .ref s.heap.objs.size/\s1={ s with heap:=s.heap.push { cls:=.type "set",dict:=none,data:=.set #[] 0 (.fresh 0 0 led) } }) fun led=>⟨led,rfl,rfl⟩) fun r s1 hr=>?_
 cases r with
 | error e=>exact hr
 | ok fl=>
  cases fl with
  | ret ob=>
   obtain ⟨led,rfl,rfl⟩:=hr
   have at0:(s.heap.push { cls:=.type "set",dict:=none,data:=.set #[] 0 (.fresh 0 0 led) }).get? s.heap.objs.size=some { cls:=.type "set",dict:=none,data:=.set #[] 0 (.fresh 0 0 led) }:=Heap.get?_push_size _ rfl
   have ty:Shared.TypeIs { s with heap:=s.heap.push { cls:=.type "set",dict:=none,data:=.set #[] 0 (.fresh 0 0 led) } } (.ref s.heap.objs.size) "set" := ⟨_,at0,rfl⟩
   have i1:=PySem.F.called_set.init.lookup
   have i2:=PySem.F.called_set.init.bind (.ref s.heap.objs.size)
   repeat (any_goals (first | assumption | wp_step))
   refine codeAny_mono (codeAny_call_builtin (R:=wants (fun r s2=>r = .none/\∃ h' tk,s2={ s with heap:=h',toks:=tk }/\h'.SetOf knd s.heap.objs.size (fun x=>decide (x∈Om.once ks)) (Om.once ks).length/\∀ b o,s.heap.get? b=some o->h'.get? b=some o) E)
    PySem.F.called_set.init.plain PySem.F.entry_set_init (check_set_init_1 ty ?_)) fun r2 s2 hr2=>?_
   ·have l1:(s.heap.push { cls:=.type "set",dict:=none,data:=.set #[] 0 (.fresh 0 0 led) }).IsList l items:=hl.push _
    have lS:l < s.heap.objs.size:=by obtain ⟨ol,e,_⟩:=hl;exact Heap.lt_size e
    obtain ⟨ol,e0,ec,nl,ed⟩:=hl
    obtain ⟨oc,od,dt,sl⟩:=ol
    simp only at ec ed
    subst ec
    subst ed
    have e1:(s.heap.push { cls:=.type "set",dict:=none,data:=.set #[] 0 (.fresh 0 0 led) }).get? l=some { cls:=.type "list",dict:=od,data:=.seq items nl,slots:=sl }:=Heap.get?_push_of_some _ e0
    have u1:=PySem.F.sub_list_set
    have u2:=PySem.F.sub_list_frozenset
    have u3:(Value.type "list" == Value.type "dict")=false:=by decide
    unfold Builtin.«set.__init__» noKeywords Builtin.Frozenset.updateFrom
    generalize ePI:pyIter=PI
    wp_walk
    subst ePI
    refine wpAny_pyIter_list l1 ?_
    refine wpAny_bind (wpAny_runValue ?_)
    have z1:(s.heap.push { cls:=.type "set",dict:=none,data:=.set #[] 0 (.fresh 0 0 led) }).objs.size=s.heap.objs.size+1:=Heap.size_push _ _
    have nI:l≠(s.heap.push { cls:=.type "set",dict:=none,data:=.set #[] 0 (.fresh 0 0 led) }).objs.size:=by rw [z1];exact Nat.ne_of_lt (Nat.lt_succ_of_lt lS)
    have nS:s.heap.objs.size ∉ [(s.heap.push { cls:=.type "set",dict:=none,data:=.set #[] 0 (.fresh 0 0 led) }).objs.size,l]:=by
     rw [z1]
     intro hm
     rcases List.mem_cons.mp hm with z | z
     ·exact absurd z (Nat.ne_of_lt (Nat.lt_succ_self _))
     ·have:s.heap.objs.size=l:=by simpa using z
      exact absurd this (Nat.ne_of_gt lS)
    refine set_takes (knd:=knd) ((Walks.list (by simp [hh]) _ l nI items).toS) s.heap.objs.size nS ks hn (fun i v hv=>hi i v hv) hb (items.size - 0) 0 _ (by omega) (Nat.zero_le _) ⟨⟨_,Heap.get?_push_size _ rfl,rfl,rfl⟩,l1.push _⟩ ?x0 ?out
    case x0=>
     have at1:((s.heap.push { cls:=.type "set",dict:=none,data:=.set #[] 0 (.fresh 0 0 led) }).push { cls:=.type "list_iterator",data:=.fields #[.ref l,.int 0 0] }).get? s.heap.objs.size=some { cls:=.type "set",dict:=none,data:=.set #[] 0 (.fresh 0 0 led) }:=Heap.get?_push_of_some _ at0
     have:=(PyProof.Rows.setObjOf_fresh (knd:=knd) led).setOf at1 (by unfold scanBound;omega)
     refine (congrArg (fun M=>Heap.SetOf knd _ _ M 0) (funext fun z=>?_)).mp this
     simp [Om.once]
    case out=>
     intro s' mv x
     obtain ⟨h',g',d',tk',os'⟩:=s'
     obtain rfl:g'=s.gens:=mv.gens
     obtain rfl:d'=s.drawn:=mv.drawn
     obtain rfl:os'=s.os:=mv.os
     show wpAny _ _ _ _ _ _
     refine wpAny_pure ?_
     show wpAny _ _ (ret Value.none) _ _ _
     refine wpAny_pure ⟨rfl,h',tk',rfl,x,fun b o e=>?_⟩
     have lb:=Heap.lt_size e
     refine mv.heap b o (fun hm=>?_) (Heap.get?_push_of_some _ (Heap.get?_push_of_some _ e))
     rcases List.mem_cons.mp hm with z | z
     ·exact absurd z (Nat.ne_of_lt lb)
     ·have:b=(s.heap.push { cls:=.type "set",dict:=none,data:=.set #[] 0 (.fresh 0 0 led) }).objs.size:=by simpa using z
      rw [z1] at this
      exact absurd this (Nat.ne_of_lt (Nat.lt_succ_of_lt lb))
   ·cases r2 with
    | error e=>exact hr2
    | ok f2=>
     cases f2 with
     | ret r=>
      obtain ⟨rfl,h',tk,rfl,x,k⟩:=hr2
      repeat (any_goals (first | assumption | wp_step))
      exact h _ _ x k
     | _=>exact hr2.elim
  | _=>exact hr.elim
end
def SetS (P:Program) (w:World) (a:Addr) (n:Nat):HO:=.ext fun h=>∃ M,h.SetOf (strKind P w) a M n
theorem SetS.mk {P:Program} {w:World} {H:Hp} {h:Heap} {a:Addr} {M:Str->Bool} {n:Nat} (x:h.SetOf (strKind P w) a M n):ObjOk P w H h a (SetS P w a n):=by
 refine ⟨⟨M,x⟩,?_,fun h1 h2 ⟨M1,x1⟩ k=>⟨M1,setOf_moved x1 k⟩⟩
 obtain ⟨o,es,ep,t,e,_⟩:=x
 exact ⟨o,e⟩
section
variable {X:Cx} {p pos:Pos} {e:Expr} {es:List Expr} {t:TA}
def rSetS (P:Program) (w:World):List V->Hp->VK->Prop:=fun vs H Q=>∃ (l:Addr) (xs:List Str),vs=[.ref l]/\H l=some (.lst (xs.map V.str))/\xs.length<=1000/\∀ a,H a=none->Q (.ref a) (upd H a (SetS P w a (Om.once xs).length))
theorem call_setS (hc:X.calm=true):CallR X (.type "set") (rSetS X.prog X.w):=by
 intro pins s σ H vs us Q I r h
 obtain ⟨l,xs,rfl,hl,hz,q⟩:=h
 obtain ⟨u,rfl,rx⟩:=vals1 r
 cases rx
 obtain ⟨_,its,n,rv,e0⟩:=I.hok l _ hl
 have ln:=rv.length
 rw [List.length_map] at ln
 refine call_set_of (knd:=strKind X.prog X.w) (ks:=xs) (I.ok.hd hc) ⟨_,e0,rfl,n,rfl⟩ (by simpa using ln) (fun i v hv=>?_) (by simp;unfold scanBound;omega) fun h' tk x k=>?_
 ·have hv':its[i]? = some v:=by simpa using hv
  have lt:i < its.length:=(List.getElem?_eq_some_iff.mp hv').1
  have lx:i < xs.length:=by omega
  obtain ⟨u,hu,ru⟩:=rv.get (i:=i) (x:=.str xs[i]) (by rw [List.getElem?_map,List.getElem?_eq_getElem lx];rfl)
  rw [hv'] at hu
  cases hu
  obtain ⟨tk,rfl⟩:=ru
  exact ⟨xs[i],List.getElem?_eq_getElem lx,by simp [PySem.strKind,Value.isStrOf],rfl⟩
 ·exact ⟨.ref s.heap.objs.size,upd H s.heap.objs.size (SetS X.prog X.w s.heap.objs.size (Om.once xs).length),I.laid (t':=tk) k (Nat.le_refl _) (SetS.mk x),rfl,q _ (I.hok.fresh (Nat.le_refl _))⟩
def rLenZ (P:Program) (w:World):List V->Hp->VK->Prop:=fun vs H Q=>(∃ (a:Addr) (n:Nat),vs=[.ref a]/\H a=some (SetS P w a n)/\Q (.int (n:Nat)) H)\/rLen vs H Q
theorem call_lenZ:CallR X (.builtin "len") (rLenZ X.prog X.w):=by
 intro pins s σ H vs us Q I r h
 rcases h with ⟨a,n,rfl,ha,q⟩ | h
 ·obtain ⟨u,rfl,rx⟩:=vals1 r
  cases rx
  obtain ⟨M,o,es,ep,tb,e0,ex,ed,_,_,sb,ft,en⟩:=(I.hok a _ ha).1
  refine call_len_set e0 ex ed ft (by unfold scanBound at sb;omega) ⟨.int (n:Nat),H,I.tok _,⟨_,by rw [en]⟩,q⟩
 ·exact call_lenU pins s σ H vs us Q I r h
theorem fn_setS {mg':Str->Option Value} (hm:mg' "set" = none) (hX:X.mg=mg') (ha:PA X (e :: es) t) (hc:X.calm=true:=by kernel_rfl) (hg:gB X "set" = true:=by kernel_rfl) (he:starEach (e :: es) X.env=(false,eval e X.env) :: starEach es X.env:=by kernel_rfl) (hpl:(backTo pos (starEach es X.env)).any (·.1)=false:=by kernel_rfl) :
  PE X (.Call (.Name "set" p) (e :: es) [] pos) (tCB (rSetS X.prog X.w) t):=pe_callTy (call_setS hc) (gl_of hg) (by rw [hX];exact hm) PyProof.Rows.boot_set ha (he:=he) (hpl:=hpl)
theorem fn_lenZ {mg':Str->Option Value} (hm:mg' "len" = none) (hX:X.mg=mg') (ha:PA X (e :: es) t) (hg:gB X "len" = true:=by kernel_rfl) (he:starEach (e :: es) X.env=(false,eval e X.env) :: starEach es X.env:=by kernel_rfl) (hpl:(backTo pos (starEach es X.env)).any (·.1)=false:=by kernel_rfl) :
  PE X (.Call (.Name "len" p) (e :: es) [] pos) (tCB (rLenZ X.prog X.w) t):=pe_callB call_lenZ (gl_of hg) (by rw [hX];exact hm) PySem.boot_len ha (he:=he) (hpl:=hpl)
end
end L2
end
section
namespace Om
section
variable {ts:List Int} {g:Nat} {f:Nat->Bool}
def val (f:Nat->Bool) (k:Nat):Nat->Nat
 | 0=>0
 | g+1=>2 * val f k g+(if f (k+g) then 1 else 0)
end
end Om
end
section
namespace L2
open PySem PySem.Spec PyProof.Rows
section
variable {X:Cx} {p pos:Pos} {a b e:Expr} {es:List Expr} {t:TA}
def tAugN (i:Nat) (te:TE):TS:=fun D σ H=>match σ[i]? with
 | some (some (.int a))=>te σ H fun y H1=>match y with
  | .int b=>D.nx (σ.set i (some (.int (a+b)))) H1
  | _=>False
 | _=>False
theorem s_aug (y:Str) (i:Nat) {te:TE} {py:Pos} (hN:X.N.Nodup) (he:PE X e te) (hi:X.N[i]? = some y:=by with_unfolding_all rfl) (hx:locB X.env.scope y=true:=by kernel_rfl)
  (hf:(X.fn y || X.env.scope.names.lookup y == some .local)=true:=by kernel_rfl):PS X (.AugAssign (.Name y py) .Add e pos) (tAugN i te):=by
 have h:=ps_aug (pos:=pos) (pos':=py) hN hi (loc_of hx) he (ip_add (X:=X)) (by
  rw [Bool.or_eq_true] at hf
  exact hf.elim .inl fun z=>.inr (eq_of_beq z))
 intro pins s σ H D I q
 refine h pins s σ H D I ?_
 unfold tAugN at q
 split at q
 ·rename_i a ea
  have q2:te σ H fun y H1=>ipI (fun i j=>i+j) (.int a) y H1 fun z H2=>D.nx (σ.set i (some z)) H2:=by
   have e:(fun (y:V) (H1:Hp)=>match y with
    | .int b=>D.nx (σ.set i (some (.int (a+b)))) H1
    | _=>False)=fun y H1=>ipI (fun i j=>i+j) (.int a) y H1 fun z H2=>D.nx (σ.set i (some z)) H2:=by
    funext y H1
    apply propext
    unfold ipI
    constructor
    ·intro z
     split at z
     ·exact ⟨_,_,rfl,rfl,z⟩
     ·exact z.elim
    ·rintro ⟨i',j',e1,e2,z⟩
     cases e1
     cases e2
     exact z
   rw [e] at q
   exact q
  exact ⟨_,ea,q2⟩
 ·exact q.elim
end
end L2
namespace Om
end Om
end
section
namespace Om
inductive Rch (nx:Nat->List Nat):Nat->Prop
 | z:Rch nx 0
 | s {a b:Nat}:Rch nx a->b∈nx a->Rch nx b
theorem rch_in {nx:Nat->List Nat} {qs:List Nat} (h0:0∈qs) (hc:∀ a∈qs,∀ b∈nx a,b∈qs):∀ s,Rch nx s->s∈qs:=fun s h=>by
 induction h with
 | z=>exact h0
 | s _ hb ih=>exact hc _ ih _ hb
theorem nodup_len:∀ (m:Nat) (qs:List Nat),qs.Nodup->(∀ s∈qs,s < m)->qs.length<=m
 | 0,[],_,_=>Nat.le_refl _
 | 0,q :: _,_,h=>absurd (h q List.mem_cons_self) (Nat.not_lt_zero _)
 | m+1,qs,nd,h=>by
  have ih:=nodup_len m (qs.erase m) (nd.erase m) fun s hs=>by
   have h1:=(nd.mem_erase_iff.mp hs)
   have h2:=h s h1.2
   have h3:=h1.1
   omega
  rw [List.length_erase] at ih
  split at ih<;>omega
theorem rch_lt {nx:Nat->List Nat} {m:Nat} (h0:0 < m) (h:∀ a,a < m->∀ b∈nx a,b < m):∀ s,Rch nx s->s < m:=fun s q=>by
 induction q with
 | z=>exact h0
 | s _ hb ih=>exact h _ ih _ hb
def nxR (rows:Rows) (s:Nat):List Nat:=(rows.getD s []).map (·.2)
end Om
namespace L2
open PySem PySem.Spec PyProof.Rows
theorem upd_nn {H:Hp} {a b:Addr} {o:HO} (h:upd H a o b=none):b≠a/\H b=none:=by
 by_cases e:b=a
 ·rw [e,upd_same] at h;cases h
 ·rw [upd_ne e] at h;exact ⟨e,h⟩
def Stps (H:Hp) (ps:List V) (ts:List Nat):Prop:=ps.length=ts.length/\∀ (i t:Nat),ts[i]? = some t->∃ q,ps[i]? = some (.ref q)/\H q=some (.tup [.int (i:Nat),.int (t:Nat)])
theorem Stps.mono {H H':Hp} {ps:List V} {ts:List Nat} (h:Stps H ps ts) (s:Same H H'):Stps H' ps ts:=⟨h.1,fun i t e=>let ⟨q,a,b⟩:=h.2 i t e;⟨q,a,s _ _ b⟩⟩
def nk (s:Nat):Key:=Sum.inl (s:Int)
theorem nk_inj {a b:Nat} (h:nk a=nk b):a=b:=by
 have:(a:Int)=(b:Int):=Sum.inl.inj h
 omega
theorem valV_none {s:Nat}:∀ {kvs:List (Key×V)} {qs:List Nat},kvs.map (·.1)=qs.map nk->(valV kvs (nk s)).isSome=decide (s∈qs)
 | [],[],_=>by simp [valV]
 | [],_ :: _,h=>nomatch h
 | _ :: _,[],h=>nomatch h
 | kv :: kvs,q :: qs,h=>by
  rw [List.map_cons,List.map_cons,List.cons.injEq] at h
  by_cases e:q=s
  ·subst e
   rw [valV_pos h.1]
   simp
  ·rw [valV_neg (fun z=>e (nk_inj (h.1.symm.trans z))),valV_none h.2]
   have:¬ s=q:=fun z=>e z.symm
   simp [this]
structure Tq (H0 H:Hp) (D Q:Addr) (kvs:List (Key×V)) (qs:List Nat) (c:Nat):Prop where
 s:Same H0 H
 nD:H0 D=none
 nQ:H0 Q=none
 hD:H D=some (.dK kvs)
 hQ:H Q=some (.lst (qs.map fun s=>V.int (s:Nat)))
 ks:kvs.map (·.1)=qs.map nk
 vl:∀ s∈qs,∃ t zs,valV kvs (nk s)=some (.ref t)/\H t=some (.lst zs)/\zs.length<=c/\t≠Q
 nd:qs.Nodup
section
variable {H0 H H1:Hp} {D Q:Addr} {kvs:List (Key×V)} {qs:List Nat} {c:Nat}
theorem Tq.mono (g:Tq H0 H D Q kvs qs c) (s:Same H H1):Tq H0 H1 D Q kvs qs c:=
 ⟨g.s.trans s,g.nD,g.nQ,s _ _ g.hD,s _ _ g.hQ,g.ks,fun x hx=>let ⟨t,zs,a,b,r⟩:=g.vl x hx;⟨t,zs,a,s _ _ b,r⟩,g.nd⟩
theorem Tq.le {c':Nat} (g:Tq H0 H D Q kvs qs c) (h:c<=c'):Tq H0 H D Q kvs qs c':=
 ⟨g.s,g.nD,g.nQ,g.hD,g.hQ,g.ks,fun x hx=>let ⟨t,zs,a,b,d,e⟩:=g.vl x hx;⟨t,zs,a,b,Nat.le_trans d h,e⟩,g.nd⟩
theorem Tq.klen (g:Tq H0 H D Q kvs qs c):kvs.length=qs.length:=by
 have:=congrArg List.length g.ks
 rwa [List.length_map,List.length_map] at this
theorem Tq.has (g:Tq H0 H D Q kvs qs c) (s:Nat):(valV kvs (nk s)).isSome=decide (s∈qs):=valV_none g.ks
theorem Tq.start {Z:Addr} (hD:H D=none) (hZ:upd H D (.dK []) Z=none) (hQ:upd (upd (upd H D (.dK [])) Z (.lst [])) D (.dK [(nk 0,.ref Z)]) Q=none) :
  Tq H (upd (upd (upd (upd H D (.dK [])) Z (.lst [])) D (.dK [(nk 0,.ref Z)])) Q (.lst [.int 0])) D Q [(nk 0,.ref Z)] [0] 0:=by
 obtain ⟨QD,q1⟩:=upd_nn hQ
 obtain ⟨QZ,q2⟩:=upd_nn q1
 obtain ⟨_,q3⟩:=upd_nn q2
 obtain ⟨ZD,z1⟩:=upd_nn hZ
 refine ⟨fun b o e=>?_,hD,q3,by rw [upd_ne (Ne.symm QD),upd_same],upd_same,rfl,fun s hs=>?_,by simp⟩
 ·rw [upd_ne (ne_of_none e q3),upd_ne (ne_of_none e hD),upd_ne (ne_of_none e z1),upd_ne (ne_of_none e hD)]
  exact e
 ·have:s=0:=by simpa using hs
  subst this
  exact ⟨Z,[],valV_pos rfl,by rw [upd_ne (Ne.symm QZ),upd_ne ZD,upd_same],Nat.le_refl _,Ne.symm QZ⟩
theorem Tq.put_at {b u:Addr} {o:HO} {t:Nat} {ys:List V} (h:H b=some o) (bD:b≠D) (bQ:b≠Q):upd (upd H D (.dK (putK kvs (nk t) (.ref u)))) Q (.lst ys) b=some o:=by
 rw [upd_ne bQ,upd_ne bD];exact h
theorem Tq.put (g:Tq H0 H D Q kvs qs c) {u:Addr} {zs:List V} {t:Nat} (nt:t ∉ qs) (hu:H u=some (.lst zs)) (uQ:u≠Q) (hz:zs.length<=c) :
  Tq H0 (upd (upd H D (.dK (putK kvs (nk t) (.ref u)))) Q (.lst ((qs.map fun s=>V.int (s:Nat))++[.int (t:Nat)]))) D Q (putK kvs (nk t) (.ref u)) (qs++[t]) c:=by
 have DQ:D≠Q:=ne_of g.hD g.hQ (fun z=>nomatch z)
 have vn:valV kvs (nk t)=none:=by
  have:=g.has t
  rw [decide_eq_false nt] at this
  cases e:valV kvs (nk t) with
  | none=>rfl
  | some v=>rw [e] at this;cases this
 have lk:∀ {b:Addr} {ys:List V},H b=some (.lst ys)->b≠Q->upd (upd H D (.dK (putK kvs (nk t) (.ref u)))) Q (.lst ((qs.map fun s=>V.int (s:Nat))++[.int (t:Nat)])) b=some (.lst ys):=fun {b ys} h n=>by
  rw [upd_ne n,upd_ne (ne_of h g.hD (fun z=>nomatch z))]
  exact h
 refine ⟨fun b o e=>?_,g.nD,g.nQ,by rw [upd_ne DQ,upd_same],by rw [upd_same,List.map_append];rfl,?_,fun x hx=>?_,?_⟩
 ·rw [upd_ne (ne_of_none e g.nQ),upd_ne (ne_of_none e g.nD)]
  exact g.s _ _ e
 ·rw [putK_new _ vn,List.map_append,List.map_append,g.ks]
  rfl
 ·by_cases e:x=t
  ·subst e
   exact ⟨u,zs,by rw [valV_put,if_pos rfl],lk hu uQ,hz,uQ⟩
  ·obtain ⟨t',ys,a,b,d,f⟩:=g.vl x ((List.mem_append.mp hx).resolve_right (fun z=>e (by simpa using z)))
   exact ⟨t',ys,by rw [valV_put,if_neg (fun z=>e (nk_inj z))];exact a,lk b f,d,f⟩
 ·rw [List.nodup_append]
  refine ⟨g.nd,by simp,fun a ha b hb z=>?_⟩
  have:b=t:=by simpa using hb
  subst this
  subst z
  exact nt ha
end
end L2
end
section
namespace Om
theorem pow8 {k:Nat} (h:k<=3):2 ^ k<=8:=by
 have:k=0\/k=1\/k=2\/k=3:=by omega
 rcases this with rfl | rfl | rfl | rfl<;>decide
theorem nx_ok {k n:Nat} {rows:Rows} (ok:CodeOk k n rows) {s:Nat} (hs:s < rows.length):(nxR rows s).length<=8/\∀ t∈nxR rows s,t < rows.length:=by
 have e:rows.getD s []=rows[s]:=by rw [List.getD_eq_getElem?_getD,List.getElem?_eq_getElem hs];rfl
 unfold nxR
 rw [e]
 refine ⟨by rw [List.length_map,ok.len _ (List.getElem_mem hs)];exact pow8 ok.k3,fun t ht=>?_⟩
 obtain ⟨r,hr,rfl⟩:=List.mem_map.mp ht
 exact (ok.row _ (List.getElem_mem hs) r hr).2
theorem rch_ok {k n:Nat} {rows:Rows} (ok:CodeOk k n rows):∀ s,Rch (nxR rows) s->s < rows.length:=rch_lt ok.s1 fun a ha=>(nx_ok ok ha).2
theorem map_nodup {α β:Type} {f:α->β} (hf:∀ a b,f a=f b->a=b):∀ {l:List α},(l.map f).Nodup↔l.Nodup
 | []=>by simp
 | x :: l=>by
  rw [List.map_cons,List.nodup_cons,List.nodup_cons,map_nodup hf]
  refine and_congr (not_congr ⟨fun h=>?_,fun h=>List.mem_map_of_mem h⟩) Iff.rfl
  obtain ⟨y,hy,e⟩:=List.mem_map.mp h
  exact hf _ _ e ▸ hy
theorem bs_nodup {st:List (List Bool×Nat)}:(st.map fun r=>L2.bs r.1).Nodup↔(st.map (·.1)).Nodup:=by
 have:=map_nodup (f:=L2.bs) (fun a b h=>L2.bs_inj h) (l:=st.map (·.1))
 rw [List.map_map] at this
 exact this
theorem perm_nats {qs:List Nat} {ns:List Int} (h:ns.Perm (qs.map fun s=>((s:Nat):Int))):∃ qs':List Nat,ns=qs'.map (fun s=>((s:Nat):Int))/\qs'.Perm qs:=by
 have e:ns=(ns.map Int.toNat).map fun s=>((s:Nat):Int):=by
  have all:∀ x∈ns,((x.toNat:Nat):Int)=x:=fun x hx=>by
   obtain ⟨s,_,rfl⟩:=List.mem_map.mp (h.mem_iff.mp hx)
   simp
  rw [List.map_map]
  conv=>lhs;rw [<-List.map_id ns]
  exact List.map_congr_left fun x hx=>(all x hx).symm
 refine ⟨ns.map Int.toNat,e,?_⟩
 have:=h.map Int.toNat
 rw [List.map_map] at this
 have z:(Int.toNat ∘ fun s=>((s:Nat):Int))=id:=by funext s;simp
 rwa [z,List.map_id] at this
theorem lt_of_le:∀ {qs:List Nat},qs.Nodup->(qs.map fun s=>((s:Nat):Int)).Pairwise (·<=·)->qs.Pairwise (· < ·)
 | [],_,_=>.nil
 | q :: qs,nd,h=>by
  rw [List.map_cons,List.pairwise_cons] at h
  rw [List.nodup_cons] at nd
  refine .cons (fun s hs=>?_) (lt_of_le nd.2 h.2)
  have h1:=h.1 _ (List.mem_map_of_mem (f:=fun s=>((s:Nat):Int)) hs)
  have h2:q≠s:=fun z=>nd.1 (z ▸ hs)
  have h1:(q:Int)<=(s:Int):=h1
  omega
end Om
namespace L2
open PySem PySem.Spec PyProof.Rows
def lamArgs (e:Expr):Arguments:=match e with
 | .Lambda a _ _ _=>a
 | _=>{ posonlyargs:=[],args:=[],vararg:=none,kwonlyargs:=[],kw_defaults:=[],kwarg:=none,defaults:=[] }
def lamBody (e:Expr):Expr:=match e with
 | .Lambda _ b _ _=>b
 | _=>e
def lamScope (e:Expr):Scope:=match e with
 | .Lambda _ _ sc _=>sc
 | _=>{ kind:=.function,names:=[],isGenerator:=false,isCoroutine:=false }
def lamPos (e:Expr):Pos:=match e with
 | .Lambda _ _ _ p=>p
 | _=>⟨0,0,0,0⟩
def callArg (i:Nat) (e:Expr):Expr:=match e with
 | .Call _ as _ _=>as.getD i e
 | _=>e
def retE (d:Expr) (s:Stmt):Expr:=match s with
 | .Return (some e) _=>e
 | _=>d
def wo1 (P:Addr) (H:Hp):Hp:=fun b=>if b=P then none else H b
theorem wo1.at {P b:Addr} {H:Hp} {o:HO} (h:H b=some o) (n:b≠P):wo1 P H b=some o:=by unfold wo1;rw [if_neg n];exact h
theorem wo1.same {P:Addr} {H H':Hp} (s:SameT P H H'):Same (wo1 P H) H':=fun b o e=>by
 unfold wo1 at e
 split at e
 ·cases e
 ·rename_i n
  exact s b o n e
mutual
theorem DV.wo1 {H:Hp} {P:Addr} {ps:Array Value} (hP:H P=some (.tbl ps)):∀ {v:V} {d:PyData},DV H v d->DV (wo1 P H) v d
 | _,_,.non=>.non
 | _,_,.bl b=>.bl b
 | _,_,.int i=>.int i
 | _,_,.str x=>.str x
 | _,_,.lst h r=>.lst (wo1.at h (ne_of h hP (fun z=>nomatch z))) (DVs.wo1 hP r)
 | _,_,.tup h r=>.tup (wo1.at h (ne_of h hP (fun z=>nomatch z))) (DVs.wo1 hP r)
 | _,_,.dic h=>.dic (wo1.at h (ne_of h hP (fun z=>nomatch z)))
theorem DVs.wo1 {H:Hp} {P:Addr} {ps:Array Value} (hP:H P=some (.tbl ps)):∀ {vs:List V} {ds:List PyData},DVs H vs ds->DVs (wo1 P H) vs ds
 | _,_,.nil=>.nil
 | _,_,.cons h r=>.cons (DV.wo1 hP h) (DVs.wo1 hP r)
end
theorem Tab.tbl {P:Addr} {pos:Pos} {qual:Str} {H:Hp} (t:Tab P pos qual H):∃ ps,H P=some (.tbl ps):=by
 rcases t with e | ⟨c,e,_⟩
 ·exact ⟨_,e⟩
 ·exact ⟨_,e⟩
theorem DV.monoT {H H':Hp} {P:Addr} {pos:Pos} {qual:Str} {v:V} {d:PyData} (h:DV H v d) (t:Tab P pos qual H) (s:SameT P H H'):DV H' v d:=
 let ⟨_,e⟩:=t.tbl
 (h.wo1 e).mono (wo1.same s)
theorem SameT.free {P:Addr} {H H':Hp} {l:Addr} (s:SameT P H H') (h:H' l=none) (n:l≠P):H l=none:=by
 cases q:H l with
 | none=>rfl
 | some o=>rw [s l o n q] at h;cases h
def FnC (K:PySem.W.Frag) (mg:Str->Option Value) (x:Str) (st:Stmt) (ps:List Str) (c:Addr):Prop:=∃ (f:Addr) (oc:Value) (od:Option Addr) (kV doc pm:Value) (an:Option Addr) (ct:Value) (osl:Array (Option Value)),
 K.lookup f=some ⟨oc,od,.func (PySem.W.fnOf x x (defArgs st) (defBody st) (defScope st) .none kV doc pm an (.ref c) ct),osl⟩/\PySem.W.codeIn K (.ref c) x=true/\PySem.W.keepIn K (.ref f)=true/\mg x=some (.ref f) ∧
 Binds K (PySem.W.fnOf x x (defArgs st) (defBody st) (defScope st) .none kV doc pm an (.ref c) ct) ps []
theorem can_fnC {P:Program} {w:World} {K:PySem.W.Frag} {mg:Str->Option Value} {base:Heap} {x:Str} {st:Stmt} {N ps:List Str} {k:Nat} {sp:Sp} {c:Addr} (D:FnC K mg x st ps c) (S:FnScope N ps (defScope st)) (len:∀ vs H Q E,sp vs H Q E->vs.length=ps.length)
  (hbody:∀ (f:Addr) (A:Around) (outer:List Env) (s:Shared) (H:Hp) (vs:List V) (Q:VK) (E:XK),Room k (A.deeper (envOfC x (defScope st) s.heap.objs.size f (.ref c)))->sp vs H Q E →
   ∃ t,PSs (cxOf CX0 P w K mg base N x (defScope st) f (.ref c) A outer s H E).nox (defBody st) t/\t { nx:=fun _ H'=>Q .non H',rt:=Q } (start N vs) H):Can P w K mg base x (k+1) ps sp:=by
 obtain ⟨f,oc,od,kV,doc,pm,an,ct,osl,lk,hcd,kp,hm,hb⟩:=D
 refine ⟨f,_,fn_of lk hcd S len fun A outer s H vs Q E hr hsp=>?_,hm,kp,hb⟩
 obtain ⟨t,h,q⟩:=hbody f A outer s H vs Q E hr hsp
 exact ⟨t,h.nox,q⟩
end L2
end
section
namespace Om
end Om
namespace L2
open PySem PySem.Spec PyProof.Rows
section
variable {H0 H H':Hp} {a b:Addr} {qs:List Addr} {k n:Nat} {rows:Om.Rows}
end
end L2
end
section
namespace Om
end Om
namespace L2
open PySem PySem.Spec PyProof.Rows
section
variable {F:Addr->Prop} {H0 H H' G:Hp} {d P:Addr} {pos:Pos} {qual:Str}
theorem Deck.lst (h:Deck F H d) {b:Addr} (z:F b):∃ xs,H b=some (.lst xs):=by
 obtain ⟨p,qs,n,h1,h2,h3,h4,h5,h6⟩:=h.ex
 rcases (h6 b).mp z with rfl | rfl | z
 ·exact ⟨_,h1⟩
 ·exact ⟨_,h2⟩
 ·obtain ⟨c,f,m,e⟩:=h5 b z
  exact ⟨_,e⟩
theorem Tab.off (t:Tab P pos qual H) (k:Deck F H d) (o:Off F H H'):Tab P pos qual H':=by
 have nl:∀ {b:Addr} {u:HO},H b=some u->(∀ xs,u≠.lst xs)->¬ F b:=fun {b u} e n z=>by
  obtain ⟨xs,e'⟩:=k.lst z
  rw [e] at e'
  exact n xs (Option.some.inj e')
 rcases t with e | ⟨c,e1,e2⟩
 ·exact .inl (o _ _ e (nl e fun xs z=>nomatch z))
 ·exact .inr ⟨c,o _ _ e1 (nl e1 fun xs z=>nomatch z),o _ _ e2 (nl e2 fun xs z=>nomatch z)⟩
theorem Tab.upd {b:Addr} {xs:List V} {o:HO} (t:Tab P pos qual H) (e:H b=some (.lst xs)):Tab P pos qual (upd H b o):=by
 rcases t with z | ⟨c,z1,z2⟩
 ·exact .inl (by rw [upd_ne (ne_of z e (fun y=>nomatch y))];exact z)
 ·exact .inr ⟨c,by rw [upd_ne (ne_of z1 e (fun y=>nomatch y))];exact z1,by rw [upd_ne (ne_of z2 e (fun y=>nomatch y))];exact z2⟩
end
end L2
end
section
namespace L2
open PySem PySem.Spec PyProof.Rows
theorem FnC.of {K:PySem.W.Frag} {h:Heap} {mg:Str->Option Value} {x:Str} {st:Stmt} {ps:List Str} {c P:Addr} (D:DefIn K x st) (ht:PySem.W.tabIn K x=some (c,P)) (X:K.In h) (G:h.Ns mainGlobals mg)
  (hb:∀ (kV doc pm:Value) (an:Option Addr) (cdv ct:Value) (us:List Value),us.length=ps.length->bindArgs (PySem.W.fnOf x x (defArgs st) (defBody st) (defScope st) .none kV doc pm an cdv ct) ⟨us,[]⟩=pure (ps.zip us)):FnC K mg x st ps c:=by
 obtain ⟨f,oc,od,an,osl,kV,dc,pm,cd,ct,h1,h2,h3,h4⟩:=D
 have e:cd = .ref c:=by
  unfold PySem.W.tabIn at ht
  rw [h1] at ht
  dsimp only at ht
  rw [h2] at ht
  dsimp only at ht
  split at ht
  ·rename_i c' _
   split at ht
   ·split at ht
    ·cases ht;rfl
    ·cases ht
   ·cases ht
  ·cases ht
 subst e
 exact ⟨f,oc,od,kV,dc,pm,an,ct,osl,h2,h3,h4,PySem.W.mg_of X G h1,.all (hb kV dc pm an _ ct)⟩
theorem law_callT {P:Program} {w:World} {K:PySem.W.Frag} {mg mb:Str->Option Value} {CX:CXT} {k:Nat} {fa a:Addr} {fd:FuncData} {x:Str} {sp:Sp} {s₁:Shared} {vs:List Value} {ns:List Int} {tabs:List (Addr×Addr)}
  (KX:K.In s₁.heap) (hns:s₁.heap.Ns mainGlobals mg) (hb:s₁.heap.Ns builtinsNs mb) (hbb:∀ x:Str,x≠"__name__"->mb x=bootBuiltins x) (hlim:s₁.heap.NoLimit) (hg:s₁.gens = #[])
  (ha:s₁.heap.get? a=some { cls:=.type "list",data:=.seq vs.toArray }) (hi:IntsAre vs ns) (hl:ns.length<=sizeLine) (hr:Room k callerA) (hT:PySem.W.TabsAt tabs s₁.heap) (hnt:PySem.W.noTabs K=true)
  (hbm:∃ bm ob,mg "__builtins__" = some (.ref bm)/\bm≠builtinsNs/\s₁.heap.get? bm=some ob/\ob.cls = .type "module"/\ob.dict=some builtinsNs/\ob.data = .plain)
  (F:∀ base:Heap,K.In base->base.Ns mainGlobals mg->(∀ q∈tabs,Maker mg base q.1 q.2)->FnOk P w K mg base CX k fa fd [x] sp) (hbind:∀ (s:Shared) (u:Value),BindsTo s fd ⟨[u],[]⟩ [(x,u)])
  (hsp:∀ H:Hp,(∀ q∈tabs,H q.2=some (.tbl #[]))->SqL K H a (ns.map V.int)->sp [.ref a] H (fun v _=>v = .bl true) fun _ _ _=>False)
  (hCX:∀ H e s',CX [] H s₁ (fun _ _ _=>False) e s'->False) :
  codeAny (model P w) callerA (.call (.ref fa) ⟨[.ref a],[]⟩) (fun r s'=>r = .ok (.ret (.bool true))/\OldK s₁.heap s'.heap/\s'.os=s₁.os/\AllBare s'.gens) s₁:=by
 have rv:=vals_ints hi
 have lenV:=hi.length
 have aT:∀ q∈tabs,q.2≠a:=fun q hq z=>by
  have e:=(hT q hq).2
  rw [z,ha] at e
  cases e
 have core:∀ H:Hp,(∀ b u,H b=some u->(b=a/\u = .frz { cls:=.type "list",data:=.seq vs.toArray } (.lst (ns.map V.int))/\K.lookup a=none)\/∃ q∈tabs,b=q.2/\u = .tbl #[])->(∀ q∈tabs,H q.2=some (.tbl #[]))->SqL K H a (ns.map V.int) →
   codeAny (model P w) callerA (.call (.ref fa) ⟨[.ref a],[]⟩) (fun r s'=>r = .ok (.ret (.bool true))/\OldK s₁.heap s'.heap/\s'.os=s₁.os/\AllBare s'.gens) s₁:=by
  intro H hH hTE hS
  have hok:HOk P w H s₁.heap:=fun b u e=>by
   rcases hH b u e with ⟨rfl,rfl,_⟩ | ⟨q,hq,rfl,rfl⟩
   ·exact ⟨ha,by rw [List.length_map];exact hl,vs,_,rv,ha⟩
   ·exact (hT q hq).2
  have free:∀ {b:Addr} {o:Obj},s₁.heap.get? b=some o->o.cls≠.type "list"\/(∀ y,o.data≠.seq vs.toArray y)->(o.cls≠.none\/∀ ps,o.data≠.fields ps)->H b=none:=fun {b o} e n1 n2=>by
   cases q:H b with
   | none=>rfl
   | some u=>
    rcases hH b u q with ⟨rfl,_,_⟩ | ⟨t,ht,rfl,_⟩
    ·rw [ha] at e
     cases e
     rcases n1 with n1 | n1
     ·exact absurd rfl n1
     ·exact absurd rfl (n1 _)
    ·rw [(hT t ht).2] at e
     cases e
     rcases n2 with n2 | n2
     ·exact absurd rfl n2
     ·exact absurd rfl (n2 _)
  have nsK:∀ {b:Addr} {m:Str->Option Value},s₁.heap.Ns b m->(hidT s₁.heap H).Ns b m:=fun {b m} ⟨o,es,ep,e,d,r⟩=>
   ⟨o,es,ep,hidT_get e (free e (.inr fun y z=>by rw [d] at z;cases z) (.inr fun y z=>by rw [d] at z;cases z)),d,r⟩
  have hKb:K.In (hidT s₁.heap H):=fun b o e=>hidT_get (KX b o e) (by
   cases q:H b with
   | none=>rfl
   | some u=>
    rcases hH b u q with ⟨rfl,_,z⟩ | ⟨t,ht,rfl,_⟩
    ·rw [z] at e;cases e
    ·have e1:=KX _ _ e
     rw [(hT t ht).2] at e1
     have e2:=List.all_eq_true.mp hnt _ (PySem.W.mem_of_lookupK e)
     cases e1
     exact absurd (show false=true from e2) Bool.false_ne_true)
  have hM:Mod K mg (hidT s₁.heap H):=⟨hKb,nsK hns,⟨mb,nsK hb,hbb⟩,let ⟨mc,h1,h2⟩:=hlim;⟨mc,nsK h1,h2⟩⟩
  have hMk:∀ q∈tabs,Maker mg (hidT s₁.heap H) q.1 q.2:=fun q hq=>by
   refine ⟨?_,?_⟩
   ·obtain ⟨bm,ob,b1,b2,b3,b4,b5,b6⟩:=hbm
    exact ⟨bm,ob,b1,b2,hidT_get b3 (free b3 (.inl (by rw [b4];decide)) (.inl (by rw [b4];exact fun z=>nomatch z))),b4,b5,b6⟩
   ·obtain ⟨o,c1,c2,c3,c4,c5,c6,c7,c8,e,c9,r⟩:=(hT q hq).1
    exact ⟨o,c1,c2,c3,c4,c5,c6,c7,c8,hidT_get e (free e (.inl (by rw [c9];decide)) (.inl (by rw [c9];exact fun z=>nomatch z))),c9,r⟩
  have e0:Env0 P w K mg (hidT s₁.heap H) callerA [] s₁ H:=⟨rfl,hM,fun b o e=>of_hidT e,Nat.le_of_eq (hidT_size _ _),trivial,fun b hb=>absurd (show b∈([]:List Addr) from hb) (by simp),hok,.of_eq hg⟩
  refine codeAny_mono ((F _ hKb (nsK hns) hMk).run callerA [] s₁ H ⟨[.ref a],[]⟩ [.ref a] [.ref a] _ _ hr e0 (hbind s₁ (.ref a)) (.cons rfl .nil) (hsp H hTE hS)) fun r s' h=>?_
  cases r with
  | error e=>exact (hCX H e s' h).elim
  | ok fl=>
   cases fl with
   | next=>exact False.elim h
   | brk=>exact False.elim h
   | cont=>exact False.elim h
   | ret u=>
    obtain ⟨v,H',os,bare,un,hok',r',q⟩:=h
    have q':v = .bl true:=q
    subst q'
    obtain rfl:u=Value.bool true:=r'
    have kept:∀ b o,s₁.heap.get? b=some o->(∀ t∈tabs,b≠t.2)->s'.heap.get? b=some o:=fun b o e n=>by
     cases q:H b with
     | none=>exact un.keep b o e q (by intro z;exact absurd (show b∈([]:List Addr) from z) (by simp)) (by simp)
     | some u=>
      rcases hH b u q with ⟨rfl,rfl,_⟩ | ⟨t,ht,z,_⟩
      ·have z2:=un.frzs _ _ _ q
       obtain ⟨e2,_⟩:=hok' _ _ z2
       rw [ha] at e;cases e
       exact e2
      ·exact absurd z (n t ht)
    have grown:∀ t∈tabs,∃ more,s'.heap.get? t.2=some (PySem.W.tabObj (#[]++more)):=fun t ht=>by
     obtain ⟨more,z⟩:=un.tbls _ _ (hTE t ht)
     exact ⟨more,hok' _ _ z⟩
    refine ⟨rfl,⟨fun b o e=>?_,fun b o e=>?_⟩,os,bare⟩
    ·by_cases n:∀ t∈tabs,b≠t.2
     ·exact .inl (kept b o e n)
     ·obtain ⟨t,ht,z⟩ : ∃ t∈tabs,b=t.2:=by
       refine Classical.byContradiction fun z=>n fun t ht y=>z ⟨t,ht,y⟩
      subst z
      have hP:=(hT t ht).2
      rw [hP] at e
      cases e
      obtain ⟨more,g⟩:=grown t ht
      exact .inr (.inl ⟨((hT t ht).1.tab hP).isCodeTable,rfl,#[],more,rfl,g⟩)
    ·by_cases n:∀ t∈tabs,b≠t.2
     ·exact ⟨o,kept b o e n⟩
     ·obtain ⟨t,ht,z⟩ : ∃ t∈tabs,b=t.2:=by
       refine Classical.byContradiction fun z=>n fun t ht y=>z ⟨t,ht,y⟩
      subst z
      obtain ⟨more,g⟩:=grown t ht
      exact ⟨_,g⟩
 cases hk:K.lookup a with
 | some o=>
  have e:=KX a o hk
  rw [ha] at e
  cases e
  refine core (fun b=>if b∈tabs.map (·.2) then some (.tbl #[]) else none) (fun b u e=>?_) (fun q hq=>if_pos (List.mem_map_of_mem hq)) (.inr ⟨_,vs.toArray,_,hk,rfl,rfl,rfl,by rw [List.size_toArray,lenV];exact hl,by simpa using rv⟩)
  by_cases n:b∈tabs.map (·.2)
  ·obtain ⟨q,hq,rfl⟩:=List.mem_map.mp n
   have z:=(if_pos n).symm.trans e
   cases z
   exact .inr ⟨q,hq,rfl,rfl⟩
  ·have z:=(if_neg n).symm.trans e
   cases z
 | none=>
  refine core (fun b=>if b=a then some (.frz { cls:=.type "list",data:=.seq vs.toArray } (.lst (ns.map V.int))) else if b∈tabs.map (·.2) then some (.tbl #[]) else none) (fun b u e=>?_) (fun q hq=>?_) (.inl (.inr ⟨{ cls:=.type "list",data:=.seq vs.toArray },if_pos rfl⟩))
  ·by_cases m:b=a
   ·have z:=(if_pos m).symm.trans e
    cases z
    exact .inl ⟨m,rfl,hk⟩
   ·have z:=(if_neg m).symm.trans e
    by_cases n:b∈tabs.map (·.2)
    ·obtain ⟨q,hq,rfl⟩:=List.mem_map.mp n
     have z2:=(if_pos n).symm.trans z
     cases z2
     exact .inr ⟨q,hq,rfl,rfl⟩
    ·have z2:=(if_neg n).symm.trans z
     cases z2
  ·show (if q.2=a then _ else _)=_
   rw [if_neg (aT q hq)]
   exact if_pos (List.mem_map_of_mem hq)
theorem walk_ofT {l:PySem.W.OpenLaw} {n k:Nat} {q:Program} {loose:List Str} {XP:(Str->Option Value)->Heap->Prop} {YP:World->Heap->Prop} {d:DefRec} {K:Params->PySem.W.Frag} {CX:World->CXT} {sp:World->Sp} {x:Str} {c0 P0:Addr}
  (hn:l.most=some n) (hn2:n<=sizeLine) (hdf:d.params.defaults=[]) (hr:Room k callerA) (hY:∀ (w:World) (h:Heap),YP w h->(K w.params).In h) (hnt:∀ w:World,PySem.W.noTabs (K w.params)=true)
  (htb:∀ (w:World) (h:Heap),YP w h->h.get? P0=some (PySem.W.tabObj #[])) (hcd:∀ w:World,PySem.W.codeHdIn (K w.params) c0 P0=true)
  (F:∀ (w:World) (mg:Str->Option Value) (fa:Addr) (h:Heap),(K w.params).In h->h.Ns mainGlobals mg->mg d.name=some (.ref fa) →
   ∃ fd:FuncData,(∀ (s:Shared) (u:Value),BindsTo s fd ⟨[u],[]⟩ [(x,u)]) ∧
    ∀ base:Heap,(K w.params).In base->base.Ns mainGlobals mg->Maker mg base c0 P0->FnOk l.prog w (K w.params) mg base (CX w) k fa fd [x] (sp w))
  (hsp:∀ (w:World) (H:Hp) (a:Addr) (ns:List Int),ns.length<=n->H P0=some (.tbl #[])->SqL (K w.params) H a (ns.map V.int)->sp w [.ref a] H (fun v _=>v = .bl true) fun _ _ _=>False)
  (hCX:∀ (w:World) (H:Hp) (s:Shared) (e:Value) (s':Shared),CX w [] H s (fun _ _ _=>False) e s'->False) :
  PySem.W.WalkO q loose XP YP l.row.toRowW d [] (fun f vs=>PySem.call f vs):=by
 refine Att.attach_call hn hdf fun w s₀ s₁ mg mb fa o pm cd doc a vs ns G Y ho hd hcd' hmg hobj hints hlen hg=>?_
 have KX:=hY w _ Y
 obtain ⟨fd,hb,hF⟩:=F w mg fa _ KX G.T.g hmg
 exact law_callT (tabs:=[(c0,P0)]) KX G.T.g G.T.b G.T.builtins G.T.nolimit hg hobj hints (Nat.le_trans hlen hn2) hr (fun q hq=>by rw [List.mem_singleton.mp hq];exact ⟨PySem.W.codeHd_of_K KX (hcd w),htb w _ Y⟩) (hnt w) G.T.bmain
  (fun base kb nb m=>hF base kb nb (m (c0,P0) (List.mem_singleton.mpr rfl))) hb (fun H hO hS=>hsp w H a ns hlen (hO (c0,P0) (List.mem_singleton.mpr rfl)) hS) fun H e s'=>hCX w H s₁ e s'
end L2
end
section
namespace L2
open PySem PySem.Spec PyProof.Rows
section
variable {X:Cx} {p pos:Pos} {k v:Expr} {tk tv:TE}
end
end L2
end
section
namespace Om
section
variable {k n:Nat} {rows:Rows} {a b c:Nat} {w v:List Bool}
end
end Om
end
section
namespace Om
abbrev Sn:=Nat->Prop
def aft (rows:Rows) (S:Sn) (w:List Bool):Sn:=fun y=>∃ x i,S x/\i < (rows.getD x []).length/\step rows x i=(w,y)
def afts (rows:Rows) (S:Sn) (ws:List (List Bool)):Sn:=ws.foldl (aft rows) S
end Om
namespace L2
open PySem PySem.Spec PyProof.Rows
section
variable {ks:List Nat} {kvs:List (Key×V)} {x:Nat} {v:V}
end
end L2
end
section
namespace Om
section
variable {α:Type} [DecidableEq α] {xs:List α} {x y:α}
end
end Om
namespace L2
open PySem PySem.Spec PyProof.Rows
section
variable {κ N:Type} [DecidableEq κ] [DecidableEq N]
end
def tk (u:List Bool):Key:=Sum.inr (bs u)
section
variable {H0 H H1:Hp} {D Q:Addr} {kvs:List (List Key×V)} {xs:List (List Bool×Nat)} {bz:List Addr}
end
end L2
end
section
namespace L2
open PySem PySem.Spec PyProof.Rows
end L2
end
section
namespace Om
end Om
namespace L2
open PySem PySem.Spec PyProof.Rows
section
variable {H0 H H1:Hp} {D:Addr} {kvs:List (Key×V)} {us:List (List Bool)} {L:Nat} {S S':List Bool->Prop}
end
end L2
end
section
namespace Om
end Om
namespace L2
open PySem PySem.Spec PyProof.Rows
section
variable {H2 H H1:Hp} {D E Mo:Addr} {kvs:List (Key×V)} {us:List (List Bool)} {L:Nat} {S:List Bool->Prop} {ekvs:List (Key×V)} {vs:List (List Bool)} {M:Nat} {B B':List Bool->Prop} {mkvs:List (List Key×V)} {ys:List (List Bool×Nat)} {A A':List Bool×Nat->Prop}
end
end L2
end
section
namespace L2
open PySem PySem.Spec PyProof.Rows
def nw (H H':Hp):Hp:=fun b=>match H b with
 | none=>H' b
 | some _=>none
theorem nw.at {H H':Hp} {b:Addr} (h:H b=none):nw H H' b=H' b:=by unfold nw;rw [h]
theorem nw.old {H H':Hp} {b:Addr} {o:HO} (h:H b=some o):nw H H' b=none:=by unfold nw;rw [h]
theorem nw.inv {H H':Hp} {b:Addr} {o:HO} (h:nw H H' b=some o):H b=none/\H' b=some o:=by
 cases e:H b with
 | none=>rw [nw.at e] at h;exact ⟨rfl,h⟩
 | some u=>rw [nw.old e] at h;cases h
theorem nw.same {H H':Hp}:Same (nw H H') H':=fun b o e=>(nw.inv e).2
theorem nw.up {H H1 H2:Hp} (s:Same H1 H2):Same (nw H H1) (nw H H2):=fun b o e=>by rw [nw.at (nw.inv e).1];exact s _ _ (nw.inv e).2
section
variable {X:Cx} {pos:Pos} {e:Expr} {es:List Expr} {n:Nat} {d:PyData} {ds:List PyData}
end
end L2
end
section
namespace L2
open PySem PySem.Spec PyProof.Rows
theorem SqL.wo1 {K:PySem.W.Frag} {H:Hp} {a P:Addr} {xs:List V} {ps:Array Value} (h:SqL K H a xs) (hP:H P=some (.tbl ps)):SqL K (wo1 P H) a xs:=by
 rcases h with (h | ⟨o,h⟩) | h
 ·exact .inl (.inl (wo1.at h (ne_of h hP (fun z=>nomatch z))))
 ·exact .inl (.inr ⟨o,wo1.at h (ne_of h hP (fun z=>nomatch z))⟩)
 ·exact .inr h
section
variable {H H':Hp} {kvs:List (Key×V)} {ls:List Nat} {rows:Om.Rows}
end
end L2
end
section
namespace Om
def allS (rows:Rows):Sn:=fun x=>x < rows.length
def byL (rows:Rows) (S:Sn) (w:List Bool) (l:Nat):Sn:=fun y=>∃ x,S x/\l < (rows.getD x []).length/\step rows x l=(w,y)
def Goes (rows:Rows) (ws:List (List Bool)) (b l:Nat):Prop:=∃ z,afts rows (byL rows (afts rows (allS rows) (ws.take b)) (ws.getD b []) l) (ws.drop (b+1)) z
open Classical in
noncomputable def rd (rows:Rows) (k b:Nat) (ws:List (List Bool)):Option Nat:=(List.range (2 ^ k)).find? fun l=>decide (Goes rows ws b l)
end Om
namespace L2
open PySem PySem.Spec PyProof.Rows
section
variable {H0 H:Hp} {L q:Addr} {ts:List Addr} {yss:Nat->List Nat}
end
def optV:Option Nat->V
 | none=>.non
 | some l=>.int (l:Nat)
end L2
namespace L2
open PySem PySem.Spec PyProof.Rows
section
variable {X:Cx}
end
end L2
namespace Om
end Om
namespace L2
open PySem PySem.Spec PyProof.Rows
end L2
end
section
namespace Om
end Om
namespace L2
open PySem PySem.Spec PyProof.Rows
end L2
namespace L2
end L2
namespace L2
end L2
end
section
namespace L2
open PySem PySem.Spec PyProof.Rows
section
variable {X:Cx} {p pos:Pos}
end
end L2
namespace Om
end Om
end
section
namespace L2
open PySem PySem.Spec PyProof.Rows
end L2
namespace L2
open PySem PySem.Spec PyProof.Rows
end L2
namespace L2
open PySem PySem.Spec PyProof.Rows
end L2
end
section
namespace L2
open PySem PySem.Spec PyProof.Rows
section
variable {X:Cx} {p pos:Pos}
end
end L2
end
section
namespace Om
def Uns (rows:Rows) (m:Nat):Prop:=∃ x y,iterR (St rows) (AllR rows) m x y/\AllR rows x y/\x≠y
def SetBy (rows:Rows):Option Nat->Prop
 | none=>∀ m,m<=rows.length * rows.length->Uns rows m
 | some d=>d<=rows.length * rows.length/\(∀ m,m < d->Uns rows m)/\¬ Uns rows d
theorem SetBy.eq {rows:Rows}:∀ {r r':Option Nat},SetBy rows r->SetBy rows r'->r=r'
 | none,none,_,_=>rfl
 | none,some d,h,h'=>absurd (h d h'.1) h'.2.2
 | some d,none,h,h'=>absurd (h' d h.1) h.2.2
 | some d,some d',h,h'=>by
  rcases Nat.lt_trichotomy d d' with z | z | z
  ·exact absurd (h'.2.1 d z) h.2.2
  ·rw [z]
  ·exact absurd (h.2.1 d' z) h'.2.2
theorem all_len {rows:Rows} {ks:List (Nat×Nat)} (nd:ks.Nodup) (h:∀ p,p∈ks↔AllR rows p.1 p.2):ks.length=rows.length * rows.length:=by
 generalize hn:rows.length=n at *
 have h':∀ p,p∈ks↔p.1 < n/\p.2 < n:=fun p=>by rw [h];unfold AllR;rw [hn]
 have inj:∀ p∈ks,∀ q∈ks,p.1 * n+p.2=q.1 * n+q.2->p=q:=fun p hp q hq e=>by
  obtain ⟨a1,a2⟩:=(h' p).mp hp
  obtain ⟨b1,b2⟩:=(h' q).mp hq
  have m1:p.2=q.2:=by
   have:=congrArg (· % n) e
   simp only [Nat.mul_add_mod_self_right] at this
   rwa [Nat.mod_eq_of_lt a2,Nat.mod_eq_of_lt b2] at this
  have n0:0 < n:=by omega
  have m2:p.1=q.1:=by
   have:p.1 * n=q.1 * n:=by omega
   exact Nat.eq_of_mul_eq_mul_right n0 this
  exact Prod.ext m2 m1
 have e:(ks.map fun p=>p.1 * n+p.2).Perm (List.range (n * n)):=by
  refine (List.perm_ext_iff_of_nodup ?_ List.nodup_range).mpr fun c=>?_
  ·unfold List.Nodup
   rw [List.pairwise_map]
   refine List.Pairwise.imp_of_mem ?_ nd
   intro a b ha hb hab z
   exact hab (inj a ha b hb z)
  ·rw [List.mem_map,List.mem_range]
   constructor
   ·rintro ⟨p,hp,rfl⟩
    obtain ⟨a1,a2⟩:=(h' p).mp hp
    have:=Nat.mul_le_mul_right n (show p.1+1<=n from a1)
    rw [Nat.add_mul,Nat.one_mul] at this
    omega
   ·intro hc
    have n0:0 < n:=by
     rcases Nat.eq_zero_or_pos n with z | z
     ·rw [z] at hc;simp at hc
     ·exact z
    refine ⟨(c / n,c % n),(h' _).mpr ⟨Nat.div_lt_of_lt_mul hc,Nat.mod_lt _ n0⟩,?_⟩
    show c / n * n+c % n=c
    rw [Nat.mul_comm];exact Nat.div_add_mod c n
 have:=e.length_eq
 rw [List.length_map,List.length_range] at this
 exact this
end Om
end
section
namespace L2
open PySem PySem.Spec PyProof.Rows
theorem DVs.erase {G:Hp}:∀ {us:List V} {ds:List PyData} (i:Nat),DVs G us ds->DVs G (us.eraseIdx i) (ds.eraseIdx i)
 | _,_,_,.nil=>.nil
 | _,_,0,.cons _ b=>b
 | _,_,i+1,.cons a b=>.cons a (DVs.erase i b)
section
variable {G H0 H H':Hp} {a A S q:Addr} {ts:List Addr} {ps:List (Nat×Nat)} {rw:Nat->List (List Bool×Nat)}
end
end L2
namespace L2
open PySem PySem.Spec PyProof.Rows
end L2
end
section
namespace L2
open PySem PySem.Spec PyProof.Rows
section
variable {X:Cx} {p pos:Pos} {a tg:Expr}
end
end L2
namespace L2
open PySem PySem.Spec PyProof.Rows
theorem Vals.rev:∀ {xs:List V} {us:List Value},Vals xs us->Vals xs.reverse us.reverse
 | _,_,.nil=>.nil
 | _,_,.cons r t=>by
  rw [List.reverse_cons,List.reverse_cons]
  exact (Vals.rev t).append (.cons r .nil)
section
variable {prog:Program} {w:World} {A:Around} {E:Value->Shared->Prop} {s:Shared}
end
section
variable {X:Cx} {p p2 pos pos2:Pos} {a:Expr}
end
end L2
end
section
namespace L2
open PySem PySem.Spec PyProof.Rows
section
variable {H H':Hp} {v:V} {R R1:Om.R2n} {E:Nat->Nat->Om.Stp->Prop}
theorem noL {L:Addr} {xs ys:List V} (hL:H L=some (.lst xs)) {x:Addr} {u:HO} (h:H x=some u) (n:∀ zs,u≠.lst zs):upd H L (.lst ys) x=some u:=by
 have:x≠L:=fun z=>by subst z;rw [hL] at h;cases h;exact n _ rfl
 rw [upd_ne this];exact h
theorem LyV.updR {L:Addr} {xs ys:List V} (h:LyV H v R) (hL:H L=some (.lst xs)):LyV (upd H L (.lst ys)) v R:=by
 obtain ⟨a,o,kvs,ks,e,h1,h2⟩:=h
 exact ⟨a,o,kvs,ks,e,noL hL h1 (fun _ z=>nomatch z),h2⟩
end
theorem valV_put_ne {kvs:List (List Key×V)} {p q:Nat×Nat} {v:V} (h:q≠p):valV (putK kvs (kk p) v) (kk q)=valV kvs (kk q):=by
 rw [valV_put,if_neg (fun z=>h (kk_inj z))]
theorem valV_put_eq {kvs:List (List Key×V)} {p:Nat×Nat} {v:V}:valV (putK kvs (kk p) v) (kk p)=some v:=by rw [valV_put,if_pos rfl]
end L2
namespace L2
open PySem PySem.Spec PyProof.Rows
section
variable {H H':Hp} {v:V} {R:Om.R2n} {E:Nat->Nat->Om.Stp->Prop}
end
end L2
end
section
namespace Om
section
variable {k n:Nat} {rows:Rows} {nd lb:Nat->Nat×Nat} {j:Nat}
end
end Om
end
section
namespace Om
def LtL (a b:Nat×Nat):Prop:=a.1 < b.1\/(a.1=b.1/\a.2 < b.2)
def LtS (s t:Stp):Prop:=LtL s.1 t.1
def LtB (s t:Stp):Prop:=LtL s.2 t.2\/(s.2=t.2/\LtL s.1 t.1)
theorem LtL.as {a b:Nat×Nat} (h:LtL a b):¬ LtL b a:=by unfold LtL at *;omega
theorem LtS.as {a b:Stp} (h:LtS a b):¬ LtS b a:=LtL.as h
theorem LtB.as {a b:Stp} (h:LtB a b):¬ LtB b a:=by
 rintro (g | ⟨g1,g2⟩)<;>rcases h with h | ⟨h1,h2⟩
 ·exact h.as g
 ·rw [h1] at g;exact g.as g
 ·rw [g1] at h;exact h.as h
 ·exact h2.as g2
theorem sort_uniq {α:Type} {lt:α->α->Prop} (as:∀ a b,lt a b->¬ lt b a):∀ {l m:List α},l.Pairwise lt->m.Pairwise lt->(∀ x,x∈l↔x∈m)->l=m
 | [],[],_,_,_=>rfl
 | [],b :: m,_,_,h=>absurd ((h b).mpr (List.mem_cons_self ..)) (by simp)
 | a :: l,[],_,_,h=>absurd ((h a).mp (List.mem_cons_self ..)) (by simp)
 | a :: l,b :: m,hl,hm,h=>by
  obtain ⟨l1,l2⟩:=List.pairwise_cons.mp hl
  obtain ⟨m1,m2⟩:=List.pairwise_cons.mp hm
  have e:a=b:=by
   rcases List.mem_cons.mp ((h a).mp (List.mem_cons_self ..)) with e | e
   ·exact e
   ·rcases List.mem_cons.mp ((h b).mpr (List.mem_cons_self ..)) with e' | e'
    ·exact e'.symm
    ·exact absurd (l1 _ e') (as _ _ (m1 _ e))
  subst e
  rw [sort_uniq as l2 m2 fun x=>?_]
  constructor
  ·intro hx
   rcases List.mem_cons.mp ((h x).mp (List.mem_cons_of_mem _ hx)) with rfl | e
   ·exact absurd (l1 _ hx) (as _ _ (l1 _ hx))
   ·exact e
  ·intro hx
   rcases List.mem_cons.mp ((h x).mpr (List.mem_cons_of_mem _ hx)) with rfl | e
   ·exact absurd (m1 _ hx) (as _ _ (m1 _ hx))
   ·exact e
theorem pw_app {α:Type} {lt:α->α->Prop} {l:List α} {x:α} (h:l.Pairwise lt) (g:∀ a∈l,lt a x):(l++[x]).Pairwise lt:=
 List.pairwise_append.mpr ⟨h,List.pairwise_singleton ..,fun a ha b hb=>by rw [List.mem_singleton.mp hb];exact g a ha⟩
noncomputable def canon {α:Type} (lt:α->α->Prop) (P:α->Prop):List α:=
 open Classical in if h:∃ l:List α,l.Pairwise lt/\∀ x,x∈l↔P x then Classical.choose h else []
theorem canon_eq {α:Type} {lt:α->α->Prop} {P:α->Prop} (as:∀ a b,lt a b->¬ lt b a) {l:List α} (h1:l.Pairwise lt) (h2:∀ x,x∈l↔P x):canon lt P=l:=by
 have h:∃ l:List α,l.Pairwise lt/\∀ x,x∈l↔P x:=⟨l,h1,h2⟩
 unfold canon
 rw [dif_pos h]
 obtain ⟨c1,c2⟩:=Classical.choose_spec h
 exact sort_uniq as c1 h1 fun x=>by rw [c2,h2]
noncomputable def keysL (rows:Rows):List (Nat×Nat):=canon LtL fun p=>AllR rows p.1 p.2
noncomputable def backL (rows:Rows) (p:Nat×Nat):List Stp:=canon LtB (BSt rows p.1 p.2)
end Om
namespace L2
open PySem PySem.Spec PyProof.Rows
def GrO (c:Nat) (lt:Om.Stp->Om.Stp->Prop) (H:Hp) (v:V) (R:Om.R2n) (E:Nat->Nat->Om.Stp->Prop):Prop:=∃ a o kvs ks,v = .ref a/\H a=some (.frz o (.dT kvs))/\KD ks kvs/\(∀ x y,(x,y)∈ks↔R x y)/\ks.Pairwise Om.LtL ∧
 ∀ p∈ks,∃ l ss,valV kvs (kk p)=some (.ref l)/\StL H l ss/\ss.length<=c/\ss.Pairwise lt/\∀ s,s∈ss↔E p.1 p.2 s
section
variable {c:Nat} {lt:Om.Stp->Om.Stp->Prop} {H H':Hp} {v:V} {R:Om.R2n} {E:Nat->Nat->Om.Stp->Prop}
theorem GrO.mono (h:GrO c lt H v R E) (s:Same H H'):GrO c lt H' v R E:=by
 obtain ⟨a,o,kvs,ks,e,h1,h2,h3,h5,h4⟩:=h
 refine ⟨a,o,kvs,ks,e,s _ _ h1,h2,h3,h5,fun p hp=>?_⟩
 obtain ⟨l,ss,q1,q2,q3⟩:=h4 p hp
 exact ⟨l,ss,q1,q2.mono s,q3⟩
end
def ValsO (G:Hp) (kvs:List (List Key×V)) (ks:List (Nat×Nat)) (E:Nat->Nat->Om.Stp->Prop):Prop:=
 ∀ p∈ks,∃ l ss,valV kvs (kk p)=some (.ref l)/\StL G l ss/\ss.length<=64/\ss.Pairwise Om.LtS/\∀ s,s∈ss↔E p.1 p.2 s
theorem ValsO.mono {G G':Hp} {kvs:List (List Key×V)} {ks:List (Nat×Nat)} {E:Nat->Nat->Om.Stp->Prop} (h:ValsO G kvs ks E) (s:Same G G'):ValsO G' kvs ks E:=fun p hp=>by
 obtain ⟨l,ss,q1,q2,q3⟩:=h p hp
 exact ⟨l,ss,q1,q2.mono s,q3⟩
theorem ValsO.put {G:Hp} {kvs:List (List Key×V)} {ks:List (Nat×Nat)} {E:Nat->Nat->Om.Stp->Prop} {p:Nat×Nat} {l:Addr} {ss:List Om.Stp} (h:ValsO G kvs ks E) (n:p ∉ ks) (hl:StL G l ss) (h64:ss.length<=64) (ho:ss.Pairwise Om.LtS) (hs:∀ s,s∈ss↔E p.1 p.2 s) :
  ValsO G (putK kvs (kk p) (.ref l)) (ks++[p]) E:=fun q hq=>by
 rcases List.mem_append.mp hq with hq | hq
 ·obtain ⟨l',ss',q1,q2⟩:=h q hq
  exact ⟨l',ss',by rw [valV_put_ne (p:=p) (q:=q) (fun z=>n (z ▸ hq))];exact q1,q2⟩
 ·have:q=p:=by simpa using hq
  subst this
  exact ⟨l,ss,valV_put_eq,hl,h64,ho,hs⟩
end L2
end
section
namespace L2
open PySem PySem.Spec PyProof.Rows
structure Gc (G H0 H:Hp) (D:Addr) (kvs:List (List Key×V)) (ks:List (Nat×Nat)) (c:Nat) (E:Nat×Nat->Om.Stp->Prop):Prop where
 s:Same G H
 s0:Same H0 G
 gD:G D=none
 hD:H D=some (.dT kvs)
 kd:KD ks kvs
 ls:∀ p∈ks,∃ (t:Addr) (vs:List V) (ss:List Om.Stp),valV kvs (kk p)=some (.ref t)/\G t=none/\H t=some (.lst vs)/\DVs G vs (ss.map sD)/\ss.length<=c/\ss.Pairwise Om.LtB/\∀ s,s∈ss↔E p s
 ij:∀ p∈ks,∀ q∈ks,∀ t,valV kvs (kk p)=some (.ref t)->valV kvs (kk q)=some (.ref t)->p=q
 tp:∀ x xs,H x=some (.tup xs)->G x=some (.tup xs)
section
variable {G H0 H:Hp} {D q:Addr} {kvs:List (List Key×V)} {ks:List (Nat×Nat)} {c:Nat} {E:Nat×Nat->Om.Stp->Prop} {o:HO}
theorem Gc.all (g:Gc G H0 H D kvs ks c E):Same H0 H:=g.s0.trans g.s
theorem Gc.put (g:Gc G H0 H D kvs ks c E) (h:H q=none):Gc (upd G q o) H0 (upd H q o) D kvs ks c E:=by
 have qD:D≠q:=ne_of_none g.hD h
 have gq:G q=none:=g.s.free h
 refine ⟨fun x u e=>?_,g.s0.trans (Same.upd gq),by rw [upd_ne qD];exact g.gD,by rw [upd_ne qD];exact g.hD,g.kd,fun p hp=>?_,g.ij,fun x xs e=>?_⟩
 ·by_cases hx:x=q
  ·subst hx;rw [upd_same] at e ⊢;exact e
  ·rw [upd_ne hx] at e ⊢;exact g.s _ _ e
 ·obtain ⟨t,vs,ss,h1,h2,h3,h4,h5⟩:=g.ls p hp
  have tq:t≠q:=ne_of_none h3 h
  exact ⟨t,vs,ss,h1,by rw [upd_ne tq];exact h2,by rw [upd_ne tq];exact h3,h4.mono (Same.upd gq),h5⟩
 ·by_cases hx:x=q
  ·subst hx;rw [upd_same] at e ⊢;exact e
  ·rw [upd_ne hx] at e ⊢;exact g.tp _ _ e
theorem Gc.up (g:Gc G H0 H D kvs ks c E) (h:H q=none):Same G (upd G q o):=Same.upd (g.s.free h)
theorem Gc.app (g:Gc G H0 H D kvs ks c E) {p:Nat×Nat} {t:Addr} {vs:List V} {v:V} {z:Om.Stp} (hp:p∈ks) (ht:valV kvs (kk p)=some (.ref t)) (hv:H t=some (.lst vs)) (dz:DV G v (sD z)) (lt:∀ s,E p s->Om.LtB s z) :
  Gc G H0 (upd H t (.lst (vs++[v]))) D kvs ks (c+1) (fun q s=>E q s\/(q=p/\s=z)):=by
 obtain ⟨t',vs',ss,h1,h2,h3,h4,h5,ho,h6⟩:=g.ls p hp
 rw [ht] at h1
 cases h1
 rw [hv] at h3
 cases h3
 have tD:D≠t:=ne_of g.hD hv (fun z=>nomatch z)
 refine ⟨fun x u e=>?_,g.s0,g.gD,by rw [upd_ne tD];exact g.hD,g.kd,fun q hq=>?_,g.ij,fun x xs e=>?_⟩
 ·rw [upd_ne (ne_of_none e h2)];exact g.s _ _ e
 ·by_cases e:q=p
  ·subst e
   refine ⟨t,vs++[v],ss++[z],ht,h2,upd_same,by rw [List.map_append];exact h4.app (.cons dz .nil),by simp;omega,Om.pw_app ho (fun a ha=>lt a ((h6 a).mp ha)),fun s=>?_⟩
   rw [List.mem_append,List.mem_singleton,h6]
   constructor
   ·rintro (h | h)
    ·exact .inl h
    ·exact .inr ⟨rfl,h⟩
   ·rintro (h | h)
    ·exact .inl h
    ·exact .inr h.2
  ·obtain ⟨t',vs',ss',k1,k2,k3,k4,k5,ko,k6⟩:=g.ls q hq
   have tt:t'≠t:=fun z=>by subst z;exact e (g.ij q hq p hp _ k1 ht)
   refine ⟨t',vs',ss',k1,k2,by rw [upd_ne tt];exact k3,k4,by omega,ko,fun s=>?_⟩
   rw [k6]
   constructor
   ·exact .inl
   ·rintro (h | h)
    ·exact h
    ·exact absurd h.1 e
 ·have:x≠t:=fun z=>by subst z;rw [upd_same] at e;cases e
  rw [upd_ne this] at e
  exact g.tp _ _ e
theorem Gc.held (g:Gc G H0 H D kvs ks c E) {ob:Obj}:Same H0 (upd H D (.frz ob (.dT kvs)))/\∀ (R:Om.R2n),ks.Pairwise Om.LtL->(∀ x y,(x,y)∈ks↔R x y)->GrO c Om.LtB (upd H D (.frz ob (.dT kvs))) (.ref D) R (fun x y s=>E (x,y) s):=by
 have sm:Same G (upd H D (.frz ob (.dT kvs))):=fun x u e=>by rw [upd_ne (ne_of_none e g.gD)];exact g.s _ _ e
 refine ⟨g.s0.trans sm,fun R hO hR=>⟨D,ob,kvs,ks,rfl,upd_same,g.kd,hR,hO,fun p hp=>?_⟩⟩
 obtain ⟨t,vs,ss,h1,h2,h3,h4,h5,ho,h6⟩:=g.ls p hp
 have tD:t≠D:=ne_of h3 g.hD (fun z=>nomatch z)
 exact ⟨t,ss,h1,.lst (by rw [upd_ne tD];exact h3) (h4.mono sm),h5,ho,h6⟩
end
theorem Gc.start {H:Hp} {D:Addr} (h:H D=none):Gc H H (upd H D (.dT [])) D [] [] 0 (fun _ _=>False):=⟨Same.upd h,Same.refl _,h,upd_same,KD.nil,(fun p hp=>nomatch hp),(fun p hp=>nomatch hp),fun x xs e=>by
 have:x≠D:=fun z=>by subst z;rw [upd_same] at e;cases e
 rw [upd_ne this] at e;exact e⟩
theorem Gc.key {G H0 H:Hp} {D C:Addr} {kvs:List (List Key×V)} {ks:List (Nat×Nat)} {p:Nat×Nat} (g:Gc G H0 H D kvs ks 0 (fun _ _=>False)) (hC:H C=none) (hp:p ∉ ks) (l1:p.1 < 8) (l2:p.2 < 8) :
  Gc G H0 (upd (upd H C (.lst [])) D (.dT (putK kvs (kk p) (.ref C)))) D (putK kvs (kk p) (.ref C)) (ks++[p]) 0 (fun _ _=>False):=by
 have CD:D≠C:=ne_of_none g.hD hC
 have gC:G C=none:=g.s.free hC
 have val:∀ q,q∈ks++[p]->(q=p/\valV (putK kvs (kk p) (.ref C)) (kk q)=some (.ref C))\/(q∈ks/\valV (putK kvs (kk p) (.ref C)) (kk q)=valV kvs (kk q)):=fun q hq=>by
  rw [valV_put]
  rcases List.mem_append.mp hq with hq | hq
  ·have:kk q≠kk p:=fun z=>hp (kk_inj z ▸ hq)
   rw [if_neg this];exact .inr ⟨hq,rfl⟩
  ·have:q=p:=by simpa using hq
   subst this
   rw [if_pos rfl];exact .inl ⟨rfl,rfl⟩
 have old:∀ q∈ks,valV kvs (kk q)≠some (.ref C):=fun q hq z=>by
  obtain ⟨t,_,_,k1,_,k3,_⟩:=g.ls q hq
  rw [z] at k1
  cases k1
  rw [hC] at k3;cases k3
 refine ⟨fun x u e=>?_,g.s0,g.gD,upd_same,g.kd.put hp l1 l2,fun q hq=>?_,fun q1 h1 q2 h2 t e1 e2=>?_,fun x xs e=>?_⟩
 ·rw [upd_ne (ne_of_none e g.gD),upd_ne (ne_of_none e gC)];exact g.s _ _ e
 ·rcases val q hq with ⟨rfl,e⟩ | ⟨hq',e⟩
  ·refine ⟨C,[],[],e,gC,by rw [upd_ne (Ne.symm CD),upd_same],.nil,Nat.le_refl _,List.Pairwise.nil,by simp⟩
  ·obtain ⟨t,vs,ss,k1,k2,k3,k4⟩:=g.ls q hq'
   have tD:t≠D:=ne_of k3 g.hD (fun z=>nomatch z)
   exact ⟨t,vs,ss,e.trans k1,k2,by rw [upd_ne tD,upd_ne (ne_of_none k3 hC)];exact k3,k4⟩
 ·rcases val q1 h1 with ⟨rfl,a1⟩ | ⟨h1',a1⟩<;>rcases val q2 h2 with ⟨rfl,a2⟩ | ⟨h2',a2⟩
  ·rfl
  ·rw [a1] at e1;cases e1;rw [a2] at e2;exact absurd e2 (old _ h2')
  ·rw [a2] at e2;cases e2;rw [a1] at e1;exact absurd e1 (old _ h1')
  ·rw [a1] at e1;rw [a2] at e2;exact g.ij _ h1' _ h2' _ e1 e2
 ·have x1:x≠D:=fun z=>by subst z;rw [upd_same] at e;cases e
  rw [upd_ne x1] at e
  have x2:x≠C:=fun z=>by subst z;rw [upd_same] at e;cases e
  rw [upd_ne x2] at e
  exact g.tp _ _ e
theorem Gc.imp {G H0 H:Hp} {D:Addr} {kvs:List (List Key×V)} {ks:List (Nat×Nat)} {c c':Nat} {E E':Nat×Nat->Om.Stp->Prop} (g:Gc G H0 H D kvs ks c E) (hc:c<=c') (he:∀ q s,q∈ks->(E q s↔E' q s)):Gc G H0 H D kvs ks c' E':=
 ⟨g.s,g.s0,g.gD,g.hD,g.kd,fun p hp=>by
  obtain ⟨t,vs,ss,k1,k2,k3,k4,k5,ko,k6⟩:=g.ls p hp
  exact ⟨t,vs,ss,k1,k2,k3,k4,by omega,ko,fun s=>by rw [k6];exact he _ _ hp⟩,g.ij,g.tp⟩
theorem GrO.cong {c c':Nat} {lt:Om.Stp->Om.Stp->Prop} {H:Hp} {v:V} {R:Om.R2n} {E E':Nat->Nat->Om.Stp->Prop} (h:GrO c lt H v R E) (hc:c<=c') (he:∀ x y s,R x y->(E x y s↔E' x y s)):GrO c' lt H v R E':=by
 obtain ⟨a,o,kvs,ks,e,h1,h2,h3,h5,h4⟩:=h
 refine ⟨a,o,kvs,ks,e,h1,h2,h3,h5,fun p hp=>?_⟩
 obtain ⟨l,ss,q1,q2,q3,q5,q4⟩:=h4 p hp
 exact ⟨l,ss,q1,q2,by omega,q5,fun s=>by rw [q4];exact he _ _ _ ((h3 _ _).mp hp)⟩
end L2
end
section
namespace Om
abbrev Ent:=(Nat×Nat)×((Nat×Nat)×(Nat×Nat))
def putE (q:Nat×Nat) (acc:List Ent) (s:Stp):List Ent:=if s.2∈acc.map (·.1) then acc else acc++[(s.2,(q,s.1))]
def nodeE (g:Nat×Nat->List Stp) (acc:List Ent) (q:Nat×Nat):List Ent:=(g q).foldl (putE q) acc
def behE (g:Nat×Nat->List Stp) (ks:List (Nat×Nat)):List Ent:=ks.foldl (nodeE g) []
theorem fold_take {α β:Type} (f:β->α->β) (b:β) {l:List α} {i:Nat} (h:i < l.length):(l.take (i+1)).foldl f b=f ((l.take i).foldl f b) l[i]:=by
 rw [List.take_add_one,List.getElem?_eq_getElem h,List.foldl_append];rfl
theorem putE_old {q:Nat×Nat} {acc:List Ent} {s:Stp} (h:s.2∈acc.map (·.1)):putE q acc s=acc:=if_pos h
theorem putE_new {q:Nat×Nat} {acc:List Ent} {s:Stp} (h:s.2 ∉ acc.map (·.1)):putE q acc s=acc++[(s.2,(q,s.1))]:=if_neg h
theorem key_putE {q:Nat×Nat} {acc:List Ent} {s:Stp} {p:Nat×Nat}:p∈(putE q acc s).map (·.1)↔p∈acc.map (·.1)\/p=s.2:=by
 by_cases c:s.2∈acc.map (·.1)
 ·rw [putE_old c]
  exact ⟨.inl,fun h=>h.elim id fun e=>e ▸ c⟩
 ·rw [putE_new c,List.map_append,List.mem_append];simp
theorem key_foldE {q p:Nat×Nat}:∀ {l:List Stp} {acc:List Ent},p∈(l.foldl (putE q) acc).map (·.1)↔p∈acc.map (·.1)\/∃ s∈l,s.2=p
 | [],acc=>by simp
 | s :: l,acc=>by
  rw [List.foldl_cons,key_foldE,key_putE]
  constructor
  ·rintro ((h | h) | ⟨s',h1,h2⟩)
   ·exact .inl h
   ·exact .inr ⟨s,List.mem_cons_self,h.symm⟩
   ·exact .inr ⟨s',List.mem_cons_of_mem _ h1,h2⟩
  ·rintro (h | ⟨s',h1,h2⟩)
   ·exact .inl (.inl h)
   ·rcases List.mem_cons.mp h1 with rfl | h1
    ·exact .inl (.inr h2.symm)
    ·exact .inr ⟨s',h1,h2⟩
theorem key_beh {g:Nat×Nat->List Stp} {p:Nat×Nat}:∀ {ks:List (Nat×Nat)} {acc:List Ent},p∈(ks.foldl (nodeE g) acc).map (·.1)↔p∈acc.map (·.1)\/∃ q∈ks,∃ s∈g q,s.2=p
 | [],acc=>by simp
 | q :: ks,acc=>by
  rw [List.foldl_cons,key_beh]
  unfold nodeE
  rw [key_foldE]
  constructor
  ·rintro ((h | ⟨s,h1,h2⟩) | ⟨q',h1,h2⟩)
   ·exact .inl h
   ·exact .inr ⟨q,List.mem_cons_self,s,h1,h2⟩
   ·exact .inr ⟨q',List.mem_cons_of_mem _ h1,h2⟩
  ·rintro (h | ⟨q',h1,h2⟩)
   ·exact .inl (.inl h)
   ·rcases List.mem_cons.mp h1 with rfl | h1
    ·exact .inl (.inr h2)
    ·exact .inr ⟨q',h1,h2⟩
end Om
namespace L2
open PySem PySem.Spec PyProof.Rows
def EntAt (H:Hp) (kvs:List (List Key×V)) (e:Om.Ent):Prop:=∃ t pa la,valV kvs (kk e.1)=some (.ref t)/\H t=some (.tup [.ref pa,.ref la])/\H pa=some (.tup ((kk e.2.1).map kV))/\H la=some (.tup [.int (e.2.2.1:Nat),.int (e.2.2.2:Nat)])
def LyK (H:Hp) (v:V) (ks:List (Nat×Nat)):Prop:=∃ a o kvs,v = .ref a/\H a=some (.frz o (.dT kvs))/\KD ks kvs
def LyX (H:Hp) (v:V) (acc:List Om.Ent):Prop:=∃ a o kvs,v = .ref a/\H a=some (.frz o (.dT kvs))/\KD (acc.map (·.1)) kvs/\∀ e∈acc,EntAt H kvs e
def GrX (c:Nat) (H:Hp) (v:V) (gks:List (Nat×Nat)) (g:Nat×Nat->List Om.Stp):Prop:=∃ a o kvs,v = .ref a/\H a=some (.frz o (.dT kvs))/\KD gks kvs/\∀ p∈gks,∃ l,valV kvs (kk p)=some (.ref l)/\StL H l (g p)/\(g p).length<=c
section
variable {H H':Hp} {v:V} {c:Nat}
theorem EntAt.mono {kvs:List (List Key×V)} {e:Om.Ent} (h:EntAt H kvs e) (s:Same H H'):EntAt H' kvs e:=by
 obtain ⟨t,pa,la,h1,h2,h3,h4⟩:=h
 exact ⟨t,pa,la,h1,s _ _ h2,s _ _ h3,s _ _ h4⟩
theorem LyK.mono {ks:List (Nat×Nat)} (h:LyK H v ks) (s:Same H H'):LyK H' v ks:=by
 obtain ⟨a,o,kvs,e,h1,h2⟩:=h
 exact ⟨a,o,kvs,e,s _ _ h1,h2⟩
theorem LyX.mono {acc:List Om.Ent} (h:LyX H v acc) (s:Same H H'):LyX H' v acc:=by
 obtain ⟨a,o,kvs,e,h1,h2,h3⟩:=h
 exact ⟨a,o,kvs,e,s _ _ h1,h2,fun e he=>(h3 e he).mono s⟩
theorem LyX.k {acc:List Om.Ent} (h:LyX H v acc):LyK H v (acc.map (·.1)):=by
 obtain ⟨a,o,kvs,e,h1,h2,h3⟩:=h
 exact ⟨a,o,kvs,e,h1,h2⟩
theorem GrX.mono {gks:List (Nat×Nat)} {g:Nat×Nat->List Om.Stp} (h:GrX c H v gks g) (s:Same H H'):GrX c H' v gks g:=by
 obtain ⟨a,o,kvs,e,h1,h2,h3⟩:=h
 refine ⟨a,o,kvs,e,s _ _ h1,h2,fun p hp=>?_⟩
 obtain ⟨l,q1,q2,q3⟩:=h3 p hp
 exact ⟨l,q1,q2.mono s,q3⟩
theorem GrX.k {gks:List (Nat×Nat)} {g:Nat×Nat->List Om.Stp} (h:GrX c H v gks g):LyK H v gks:=by
 obtain ⟨a,o,kvs,e,h1,h2,h3⟩:=h
 exact ⟨a,o,kvs,e,h1,h2⟩
theorem GrO.x {rows:Om.Rows} (h:GrO c Om.LtB H v (Om.AllR rows) (Om.BSt rows)):GrX c H v (Om.keysL rows) (Om.backL rows)/\(∀ p,p∈Om.keysL rows↔Om.AllR rows p.1 p.2)/\∀ p∈Om.keysL rows,∀ s,s∈Om.backL rows p↔Om.BSt rows p.1 p.2 s:=by
 obtain ⟨a,o,kvs,ks,e,h1,h2,h3,h5,h4⟩:=h
 have ek:Om.keysL rows=ks:=Om.canon_eq (fun _ _=>Om.LtL.as) h5 fun p=>h3 p.1 p.2
 rw [ek]
 refine ⟨⟨a,o,kvs,e,h1,h2,fun p hp=>?_⟩,fun p=>h3 p.1 p.2,fun p hp=>?_⟩
 ·obtain ⟨l,ss,q1,q2,q3,q5,q4⟩:=h4 p hp
  have eb:Om.backL rows p=ss:=Om.canon_eq (fun _ _=>Om.LtB.as) q5 q4
  rw [eb]
  exact ⟨l,q1,q2,q3⟩
 ·obtain ⟨l,ss,q1,q2,q3,q5,q4⟩:=h4 p hp
  have eb:Om.backL rows p=ss:=Om.canon_eq (fun _ _=>Om.LtB.as) q5 q4
  rw [eb]
  exact q4
end
end L2
end
section
namespace Om
def lay (g:Nat×Nat->List Stp) (ks:List (Nat×Nat)):Nat->List Ent
 | 0=>ks.map fun p=>(p,((0,0),(0,0)))
 | i+1=>behE g ((lay g ks i).map (·.1))
def layK (g:Nat×Nat->List Stp) (ks:List (Nat×Nat)) (i:Nat):List (Nat×Nat):=(lay g ks i).map (·.1)
theorem layK_zero (g:Nat×Nat->List Stp) (ks:List (Nat×Nat)):layK g ks 0=ks:=by
 show (ks.map fun p=>(p,((0,0),(0,0)))).map (·.1)=ks
 rw [List.map_map]
 exact List.map_id _
theorem layK_succ {g:Nat×Nat->List Stp} {ks:List (Nat×Nat)} {i:Nat} {p:Nat×Nat}:p∈layK g ks (i+1)↔∃ q∈layK g ks i,∃ s∈g q,s.2=p:=by
 show p∈(behE g (layK g ks i)).map (·.1)↔_
 unfold behE
 rw [key_beh]
 simp
theorem layK_in {g:Nat×Nat->List Stp} {ks gks:List (Nat×Nat)} (h:∀ p∈ks,p∈gks) (c:∀ p∈gks,∀ s∈g p,s.2∈gks):∀ i,∀ p∈layK g ks i,p∈gks
 | 0,p,hp=>by rw [layK_zero] at hp;exact h p hp
 | i+1,p,hp=>by
  obtain ⟨q,h1,s,h2,rfl⟩:=layK_succ.mp hp
  exact c q (layK_in h c i q h1) s h2
theorem layK_iter {g:Nat×Nat->List Stp} {ks gks:List (Nat×Nat)} {R:R2n} {E:Nat->Nat->Stp->Prop} (h:∀ p∈ks,p∈gks) (c:∀ p∈gks,∀ s∈g p,s.2∈gks) (hR:∀ p,p∈ks↔R p.1 p.2) (hE:∀ p∈gks,∀ s,s∈g p↔E p.1 p.2 s):∀ i p,p∈layK g ks i↔iterR E R i p.1 p.2
 | 0,p=>by rw [layK_zero,hR];exact Iff.rfl
 | i+1,p=>by
  rw [layK_succ]
  constructor
  ·rintro ⟨q,h1,s,h2,rfl⟩
   exact ⟨q.1,q.2,s,(layK_iter h c hR hE i q).mp h1,(hE q (layK_in h c i q h1) s).mp h2,rfl⟩
  ·rintro ⟨x,y,s,h1,h2,h3⟩
   have h1':=(layK_iter h c hR hE i (x,y)).mpr h1
   exact ⟨(x,y),h1',s,(hE (x,y) (layK_in h c i _ h1') s).mpr h2,h3⟩
end Om
namespace L2
open PySem PySem.Spec PyProof.Rows
def LyN (H:Hp) (v:V) (ks:List (Nat×Nat)):Prop:=∃ a o kvs,v = .ref a/\H a=some (.frz o (.dT kvs))/\KD ks kvs/\∀ p∈ks,∃ t,valV kvs (kk p)=some (.ref t)/\H t=some (.tup [.non,.non])
def LyT (H:Hp) (v:V) (g:Nat×Nat->List Om.Stp) (ks:List (Nat×Nat)):Nat->Prop
 | 0=>LyN H v ks
 | i+1=>LyX H v (Om.lay g ks (i+1))
section
variable {H H':Hp} {v:V} {g:Nat×Nat->List Om.Stp} {ks:List (Nat×Nat)}
theorem LyN.mono (h:LyN H v ks) (s:Same H H'):LyN H' v ks:=by
 obtain ⟨a,o,kvs,e,h1,h2,h3⟩:=h
 refine ⟨a,o,kvs,e,s _ _ h1,h2,fun p hp=>?_⟩
 obtain ⟨t,k1,k2⟩:=h3 p hp
 exact ⟨t,k1,s _ _ k2⟩
theorem LyT.mono (s:Same H H'):∀ {i:Nat},LyT H v g ks i->LyT H' v g ks i
 | 0,h=>LyN.mono h s
 | _+1,h=>LyX.mono h s
theorem LyT.k:∀ {i:Nat},LyT H v g ks i->LyK H v (Om.layK g ks i)
 | 0,h=>by
  obtain ⟨a,o,kvs,e,h1,h2,h3⟩:=(show LyN H v ks from h)
  rw [Om.layK_zero]
  exact ⟨a,o,kvs,e,h1,h2⟩
 | _+1,h=>LyX.k h
theorem LyX.updR {L:Addr} {xs ys:List V} {acc:List Om.Ent} (hL:H L=some (.lst xs)) (h:LyX H v acc):LyX (upd H L (.lst ys)) v acc:=by
 obtain ⟨a,o,kvs,e,h1,h2,h3⟩:=h
 refine ⟨a,o,kvs,e,noL hL h1 (fun _ z=>nomatch z),h2,fun e he=>?_⟩
 obtain ⟨t,pa,la,k1,k2,k3,k4⟩:=h3 e he
 exact ⟨t,pa,la,k1,noL hL k2 (fun _ z=>nomatch z),noL hL k3 (fun _ z=>nomatch z),noL hL k4 (fun _ z=>nomatch z)⟩
theorem LyN.updR {L:Addr} {xs ys:List V} (hL:H L=some (.lst xs)) (h:LyN H v ks):LyN (upd H L (.lst ys)) v ks:=by
 obtain ⟨a,o,kvs,e,h1,h2,h3⟩:=h
 refine ⟨a,o,kvs,e,noL hL h1 (fun _ z=>nomatch z),h2,fun p hp=>?_⟩
 obtain ⟨t,k1,k2⟩:=h3 p hp
 exact ⟨t,k1,noL hL k2 (fun _ z=>nomatch z)⟩
theorem LyT.updR {L:Addr} {xs ys:List V} (hL:H L=some (.lst xs)):∀ {i:Nat},LyT H v g ks i->LyT (upd H L (.lst ys)) v g ks i
 | 0,h=>LyN.updR hL h
 | _+1,h=>LyX.updR hL h
end
end L2
end
section
namespace Om
end Om
end
section
namespace L2
open PySem PySem.StrLaws Builtin Builtin.Str
abbrev ch (c:Nat):Str:=⟨#[c]⟩
end L2
end
section
namespace L2
open PySem PySem.Spec PyProof.Rows Builtin Builtin.Str
section
variable {X:Cx} {p pos apos:Pos} {a b c e o:Expr} {es:List Expr} {t:TA} {to:TE}
end
end L2
end
section
namespace L2
open PySem PySem.Spec PyProof.Rows Builtin Builtin.Str
end L2
end
section
namespace L2
open PySem PySem.Spec PyProof.Rows
section
variable {prog:Program} {w:World} {A:Around} {E:Value->Shared->Prop} {s:Shared}
end
section
variable {X:Cx} {p pos tpos:Pos} {a b:Expr} {es:List Expr} {tk:Nat}
end
end L2
end
section
end
section
namespace L2
open PySem PySem.Spec PyProof.Rows
end L2
namespace L2
open PySem PySem.Spec PyProof.Rows
end L2
end
section
namespace L2
open PySem PySem.Spec PyProof.Rows
end L2
end
section
namespace K37
open PySem L2
def top (i:Nat):Stmt:=PySem.Challenge.pw_ownbeat_k37_whole_windows_in_order.main.body.getD i (.Pass ⟨0,0,0,0⟩)
end K37
end
section
open PySem L2
local macro_rules | `(tactic| walk_at "T.n")=>`(tactic| with_reducible first | exact vn _ 0 | exact vn _ 1 | exact vn _ 2 | exact vn _ 3 | exact vn _ 4 | exact vn _ 5 | exact vn _ 6 | exact vn _ 7 | exact vn _ 8 | exact vn _ 9 | exact vn _ 10 | exact vn _ 11 | exact vn _ 12 | exact vn _ 13 | exact vn _ 14 | exact vn _ 15 | exact vn _ 16 | exact vn _ 17 | exact vn _ 18 | exact vn _ 19)
local macro_rules | `(tactic| walk_at "T.a")=>`(tactic| first | (with_reducible exact pa_nil) | ((with_reducible refine' a_cons ?a1 ?a2);(case a1=>walk_at "T.e");(case a2=>walk_at "T.a")))
local macro_rules | `(tactic| walk_at "T.o")=>`(tactic| first | (with_reducible exact po_none) )
local macro_rules | `(tactic| walk_at "T.cmp")=>`(tactic| first | (with_reducible exact op_inL) | (with_reducible exact op_notInL) | (with_reducible exact op_isU) | (with_reducible exact op_isNotU) | (with_reducible exact op_lt.n0) | (with_reducible exact op_le.n0) | (with_reducible exact op_gt.n0) | (with_reducible exact op_ge.n0) | ((with_reducible refine' op_eqU ?a1);(case a1=>exact Room.units (by assumption))) | ((with_reducible refine' op_neU ?a1);(case a1=>exact Room.units (by assumption))))
local macro_rules | `(tactic| walk_at "T.op")=>`(tactic| first | (with_reducible exact op_addU) | (with_reducible exact op_sub.n0) | (with_reducible exact op_mulU) | (with_reducible exact op_mod.n) | (with_reducible exact op_fdiv.n) | (with_reducible exact op_pow.n) | (with_reducible exact op_shl.n) | (with_reducible exact op_shr.n) | (with_reducible exact op_and.n0) | (with_reducible exact op_xor.n0) | (with_reducible exact op_or.n0))
local macro_rules | `(tactic| walk_at "T.ty")=>`(tactic| first | ((with_reducible refine' ty_int ?a1 ?a9);(case a1=>with_reducible assumption);(case a9=>rfl)) | ((with_reducible refine' ty_bool ?a1 ?a9);(case a1=>with_reducible assumption);(case a9=>rfl)) )
local macro_rules | `(tactic| walk_at "T.f")=>`(tactic| ((with_reducible refine' fn_can _ ?a0 ?a9 ?a1 ?a2);(case a0=>with_reducible assumption);(case a9=>exact ⟨rfl,rfl,rfl,rfl,rfl⟩);(case a1=>exact Room.mono (by assumption) (by first | decide | exact Nat.le_refl _));(case a2=>walk_at "T.a")))
local macro_rules | `(tactic| walk_at "T.b")=>`(tactic| first | walk_at "T.f" | ((with_reducible refine' fn_len ?a0 ?a9 ?a1);(case a0=>with_reducible assumption);(case a9=>rfl);(case a1=>walk_at "T.a")) | ((with_reducible refine' fn_isinst ?a0 ?a9 ?a1);(case a0=>with_reducible assumption);(case a9=>rfl);(case a1=>walk_at "T.a")) | ((with_reducible refine' fn_max ?a0 ?a9 ?a1);(case a0=>with_reducible assumption);(case a9=>rfl);(case a1=>walk_at "T.a")) | ((with_reducible refine' fn_min ?a0 ?a9 ?a1);(case a0=>with_reducible assumption);(case a9=>rfl);(case a1=>walk_at "T.a")) )
local macro_rules | `(tactic| walk_at "T.m")=>`(tactic| first | ((with_reducible refine' m_append ?a1 ?a2);(case a1=>walk_at "T.e");(case a2=>walk_at "T.a")) | ((with_reducible refine' m_count ?a1 ?a2);(case a1=>walk_at "T.e");(case a2=>walk_at "T.a")) )
local macro_rules | `(tactic| walk_at "T.c")=>`(tactic| fail "no comprehension's names")
local macro_rules | `(tactic| walk_at "T.e")=>`(tactic| first | (with_reducible exact pe_int) | (with_reducible exact pe_str) | (with_reducible exact pe_bl) | (with_reducible exact pe_non) | walk_at "T.n" | walk_at "T.ty" | ((with_reducible refine' pe_op ?a1 ?a2 ?a3);(case a1=>walk_at "T.op");(case a2=>walk_at "T.e");(case a3=>walk_at "T.e")) | ((with_reducible refine' e_cmp ?a1 ?a2 ?a3);(case a1=>walk_at "T.cmp");(case a2=>walk_at "T.e");(case a3=>walk_at "T.e")) | ((with_reducible refine' e_chain ?a1 ?a2 ?a3 ?a4 ?a5);(case a1=>walk_at "T.cmp");(case a2=>walk_at "T.cmp");(case a3=>walk_at "T.e");(case a4=>walk_at "T.e");(case a5=>walk_at "T.e")) | ((with_reducible refine' ix_at ?a1 ?a2);(case a1=>walk_at "T.e");(case a2=>walk_at "T.e")) | ((with_reducible refine' pe_tup ?a1);(case a1=>walk_at "T.a")) | ((with_reducible refine' pe_lst ?a1);(case a1=>walk_at "T.a")) | ((with_reducible refine' pe_andU ?a1 ?a2);(case a1=>walk_at "T.e");(case a2=>walk_at "T.e")) | ((with_reducible refine' pe_one ?a1);(case a1=>walk_at "T.e")) | ((with_reducible refine' pe_notU ?a1);(case a1=>walk_at "T.e")) | ((with_reducible refine' e_neg ?a1);(case a1=>walk_at "T.e")) | walk_at "T.b" | walk_at "T.m" | ((with_reducible refine' e_fmt ?a1);(case a1=>walk_at "T.e")) | ((with_reducible refine' e_fstr ?a1);(case a1=>walk_at "T.j")) | walk_at "T.c")
local macro_rules | `(tactic| walk_at "T.j")=>`(tactic| first | (with_reducible exact pj_nil) )
local macro_rules | `(tactic| walk_at "T.t")=>`(tactic| first | ((with_reducible refine' t_cmp ?a1 ?a2 ?a3);(case a1=>walk_at "T.cmp");(case a2=>walk_at "T.e");(case a3=>walk_at "T.e")) | ((with_reducible refine' pt_not ?a1);(case a1=>walk_at "T.t")) | ((with_reducible refine' PW.pt ?a1);(case a1=>walk_at "T.w")) | ((with_reducible refine' t_tru ?a1);(case a1=>walk_at "T.e")))
local macro_rules | `(tactic| walk_at "T.w")=>`(tactic| first | ((with_reducible refine' pw_and ?a1 ?a2);(case a1=>walk_at "T.t");(case a2=>walk_at "T.w")) | ((with_reducible refine' pw_or ?a1 ?a2);(case a1=>walk_at "T.t");(case a2=>walk_at "T.w")) | ((with_reducible refine' pw_and1 ?a1);(case a1=>walk_at "T.t")) | ((with_reducible refine' pw_or1 ?a1);(case a1=>walk_at "T.t")))
local macro_rules | `(tactic| walk_at "T.i")=>`(tactic| first | ((with_reducible refine' it_r1 ?a0 ?a9 ?a1);(case a0=>with_reducible assumption);(case a9=>rfl);(case a1=>walk_at "T.a")) | ((with_reducible refine' it_enum ?a0 ?a9 ?a1);(case a0=>with_reducible assumption);(case a9=>rfl);(case a1=>walk_at "T.a")) | ((with_reducible refine' pi_lst ?a1);(case a1=>walk_at "T.e")))
local macro_rules | `(tactic| walk_at "T.gn")=>`(tactic| with_reducible first | exact gn _ 0 (by with_unfolding_all assumption) | exact gn _ 1 (by with_unfolding_all assumption) | exact gn _ 2 (by with_unfolding_all assumption) | exact gn _ 3 (by with_unfolding_all assumption) | exact gn _ 4 (by with_unfolding_all assumption) | exact gn _ 5 (by with_unfolding_all assumption) | exact gn _ 6 (by with_unfolding_all assumption) | exact gn _ 7 (by with_unfolding_all assumption) | exact gn _ 8 (by with_unfolding_all assumption) | exact gn _ 9 (by with_unfolding_all assumption) | exact gn _ 10 (by with_unfolding_all assumption) | exact gn _ 11 (by with_unfolding_all assumption) | exact gn _ 12 (by with_unfolding_all assumption) | exact gn _ 13 (by with_unfolding_all assumption) | exact gn _ 14 (by with_unfolding_all assumption) | exact gn _ 15 (by with_unfolding_all assumption) | exact gn _ 16 (by with_unfolding_all assumption) | exact gn _ 17 (by with_unfolding_all assumption) | exact gn _ 18 (by with_unfolding_all assumption) | exact gn _ 19 (by with_unfolding_all assumption))
local macro_rules | `(tactic| walk_at "T.g")=>`(tactic| first | walk_at "T.gn" | ((with_reducible refine' g_sub ?a1 ?a2);(case a1=>walk_at "T.e");(case a2=>walk_at "T.e")) | ((with_reducible refine' g_tupL ?a1);(case a1=>walk_at "T.gs")) | ((with_reducible refine' g_tupN ?a1);(case a1=>walk_at "T.gs")))
local macro_rules | `(tactic| walk_at "T.gs")=>`(tactic| first | (with_reducible exact pgs_nil) | ((with_reducible refine' gs_cons ?a1 ?a2);(case a1=>walk_at "T.g");(case a2=>walk_at "T.gs")))
local macro_rules | `(tactic| walk_at "T.sc")=>`(tactic| fail "no comprehension's names")
local macro_rules | `(tactic| walk_at "T.st")=>`(tactic| first | ((with_reducible refine' ps_ret ?a1);(case a1=>walk_at "T.e")) | walk_at "T.sc" | ((with_reducible refine' s_asg ?a1 ?a2);(case a1=>walk_at "T.e");(case a2=>walk_at "T.g")) | ((with_reducible refine' s_expr ?a1);(case a1=>walk_at "T.e")) | ((with_reducible refine' ps_if ?a1 ?a2 ?a3);(case a1=>walk_at "T.t");(case a2=>walk_at "T.s");(case a3=>walk_at "T.s")) | ((with_reducible refine' s_for ?a1 ?a2 ?a3);(case a1=>walk_at "T.i");(case a2=>walk_at "T.g");(case a3=>walk_at "T.s")) | ((with_reducible refine' s_while ?a1 ?a2);(case a1=>walk_at "T.t");(case a2=>walk_at "T.s")) | (with_reducible exact s_raise))
local macro_rules | `(tactic| walk_at "T.s")=>`(tactic| first | (with_reducible exact pss_nil) | ((with_reducible refine' pss_one ?a1);(case a1=>walk_at "T.st")) | ((with_reducible refine' pss_cons ?a1 ?a2);(case a1=>walk_at "T.st");(case a2=>walk_at "T.s")))
local macro_rules | `(tactic| walk_at "T.pf")=>`(tactic| first | (with_reducible exact pf_nil) | ((with_reducible refine' pf_one ?a1);(case a1=>walk_at "T.t")))
local macro_rules | `(tactic| walk_at "T.top1")=>`(tactic| ((refine' pss_one ?a1);(case a1=>walk_at "T.st")))
local macro_rules | `(tactic| walk_at "T.top")=>`(tactic| ((refine' pss_cons ?a1 ?a2);(case a1=>walk_at "T.st");(case a2=>walk_at "T.s")))
section
namespace K37
open PySem L2
section
variable {P:Program} {w:World} {K:PySem.W.Frag} {mg:Str->Option Value} {base:Heap}
abbrev sTexts:Stmt:=top 2
def spTexts (f:Addr) (spF:Sp):Sp:=fun vs H Q _=>match vs with
 | [.int s0,.ref f']=>s0=0/\f'=f/\∃ (nx:Nat->List Nat) (m:Nat) (W:Hp->Prop),(∀ H H',W H->Same H H'->W H')/\W H/\0 < m/\m<=8/\(∀ s,s < m->(nx s).length<=8/\∀ t∈nx s,t < m) ∧
   (∀ (s:Nat) H Q,s < m->W H->(∀ l ps H',Same H H'->H l=none->H' l=some (.lst ps)->Stps H' ps (nx s)->Q (.ref l) H')->spF [.int (s:Nat)] H Q E0) ∧
   ∀ d o (kvs:List (Key×V)) (qs:List Nat) H',Same H H'->H d=none->H' d=some (.frz o (.dK kvs))->kvs.map (·.1)=qs.map nk->qs.Nodup->(∀ s,s∈qs↔Om.Rch nx s)->qs.length<=8->Q (.ref d) H'
 | _=>False
theorem scTexts:FnScope ["start","steps","texts","queue","place","node","letter","to"] ["start","steps"] (defScope sTexts):=⟨rfl,rfl,rfl,by decide +kernel,rfl,by decide +kernel,by decide +kernel⟩
local macro_rules | `(tactic| walk_at "T.ps")=>`(tactic| first | (with_reducible exact pps_nil) | ((with_reducible refine' pps_cons ?a1 ?a2 ?a3);(case a1=>walk_at "T.e");(case a2=>walk_at "T.e");(case a3=>walk_at "T.ps")))
local macro_rules | `(tactic| walk_at "T.e")=>`(tactic| first | ((with_reducible refine' pe_disp ?a1 ?a2 ?a3 ?a4 ?a5);(case a1=>walk_at "T.ps");(case a2=>kernel_rfl);(case a3=>kernel_rfl);(case a4=>exact fun z=>nomatch z);(case a5=>decide)) | ((with_reducible refine' ix_atD ?a0 ?a1 ?a2);(case a0=>exact Room.units (by assumption));(case a1=>walk_at "T.e");(case a2=>walk_at "T.e")))
local macro_rules | `(tactic| walk_at "T.cmp")=>`(tactic| ((with_reducible refine' op_notInDict ?a0);(case a0=>exact Room.units (by assumption))))
local macro_rules | `(tactic| walk_at "T.b")=>`(tactic| ((with_reducible refine' e_callF "steps" 1 ?a0 ?a9 ?a1 ?a2);(case a0=>with_reducible assumption);(case a9=>exact ⟨rfl,rfl,rfl,rfl,rfl⟩);(case a1=>exact Room.mono (by assumption) (Nat.le_refl _));(case a2=>walk_at "T.a")))
local macro_rules | `(tactic| walk_at "T.g")=>`(tactic| ((with_reducible refine' g_subD ?a0 ?a1 ?a2);(case a0=>exact Room.units (by assumption));(case a1=>walk_at "T.e");(case a2=>walk_at "T.e")))
local macro_rules | `(tactic| walk_at "T.st")=>`(tactic| first | ((with_reducible refine' s_retF ?a1);(case a1=>walk_at "T.e")) | ((with_reducible refine' s_aug "place" 4 ?b0 ?a1);(case b0=>with_unfolding_all assumption);(case a1=>walk_at "T.e")))
theorem ok_texts {f:Addr} {k:Nat} {p:Str} {spF:Sp} (D:FnX K mg "texts_from" sTexts ["start","steps"]) (g1:mg "len" = none) (c1:CanL P w K mg base f k p spF):Can P w K mg base "texts_from" (k+1) ["start","steps"] (spTexts f spF):=by
 refine can_fn (k:=k) D scTexts (fun vs H Q E h=>?_) (fun f0 cdv A outer s H vs Q E hr h=>?_)
 all_goals
  unfold spTexts at h
  split at h
 ·rfl
 ·exact h.elim
 ·rename_i s0 f'
  obtain ⟨rfl,rfl,nx,m,W,Wm,hW,m0,m8,hn,hF,q⟩:=h
  have nd:=scTexts.nd
  refine ⟨_,(by walk_at "T.top"),?_⟩
  refine fun D hD=>⟨Nat.zero_le _,fun Z hZ=>⟨by rw [upd_ne (Ne.symm (upd_nn hZ).1)];exact upd_same,[(nk 0,.ref Z)],rfl,Nat.le_of_ble_eq_true rfl,?_⟩⟩
  refine ⟨le_line (Nat.le_of_ble_eq_true rfl),fun Qa hQ=>?_⟩
  have G0:=Tq.start hD hZ hQ
  refine ⟨fun mm σ H2=>∃ (v5 v6 v7:Option V) (kvs:List (Key×V)) (qs:List Nat) (c:Nat),σ=[some (.int 0),some (.ref f'),some (.ref D),some (.ref Qa),some (.int (c:Nat)),v5,v6,v7]/\mm+c=m/\Tq H H2 D Qa kvs qs qs.length/\(∀ s∈qs,s < m)/\0∈qs/\(∀ s∈qs,Om.Rch nx s)/\c<=qs.length/\∀ (i s:Nat),i < c->qs[i]? = some s->∀ t∈nx s,t∈qs,
   ⟨m,none,none,none,_,[0],0,rfl,rfl,G0.le (Nat.zero_le _),by simpa using m0,by simp,(fun s hs=>by rw [List.mem_singleton.mp hs];exact .z),Nat.zero_le _,fun i s h=>absurd h (Nat.not_lt_zero _)⟩,?_⟩
  rintro mm σ H2 ⟨v5,v6,v7,kvs,qs,c,rfl,hmm,G,hlt,h0,hrc,cl,hdone⟩
  have ql:=Om.nodup_len m qs G.nd hlt
  refine ⟨_,lenL G.hQ,?_⟩
  dsimp only [rN0]
  rw [List.length_map]
  refine ite2 (fun lt=>?_) (fun ge=>?_)
  ·have lt:c < qs.length:=by simpa using lt
   obtain ⟨s,hs⟩ : ∃ s,qs[c]? = some s:=⟨_,List.getElem?_eq_getElem lt⟩
   have sm:=List.mem_of_getElem? hs
   have slt:=hlt s sm
   obtain ⟨n8,nlt⟩:=hn s slt
   refine ⟨fun σ' H'=>∃ (v6 v7:Option V) (kvs:List (Key×V)) (more:List Nat),σ'=[some (.int 0),some (.ref f'),some (.ref D),some (.ref Qa),some (.int ((c:Nat)+1)),some (.int (s:Nat)),v6,v7]/\Tq H H' D Qa kvs (qs++more) (qs++more).length/\(∀ s∈more,s < m/\Om.Rch nx s)/\∀ t∈nx s,t∈qs++more,?_,?_⟩
   ·rintro σ' H' ⟨v6,v7,kvs,more,rfl,G',hm',hd'⟩
    refine ⟨mm - 1,by omega,_,v6,v7,kvs,qs++more,c+1,rfl,by omega,G',fun x hx=>?_,List.mem_append_left _ h0,fun x hx=>?_,by rw [List.length_append];omega,fun i x hi hx t ht=>?_⟩
    ·exact (List.mem_append.mp hx).elim (hlt x) fun z=>(hm' x z).1
    ·exact (List.mem_append.mp hx).elim (hrc x) fun z=>(hm' x z).2
    ·rw [List.getElem?_append_left (by omega)] at hx
     by_cases e:i=c
     ·subst e
      rw [hs] at hx
      cases hx
      exact hd' t ht
     ·exact List.mem_append_left _ (hdone i x (by omega) hx t ht)
   ·refine .inl ⟨_,gl G.hQ (by omega) (by rw [List.getElem?_map,show ((c:Nat):Int).toNat=c by omega,hs];rfl),?_⟩
    refine ⟨rfl,hF s _ _ slt (Wm _ _ hW G.s) fun l ps H3 s3 nl hl st=>?_⟩
    have lD:l≠D:=Ne.symm (ne_of_none G.hD nl)
    have lQ:l≠Qa:=Ne.symm (ne_of_none G.hQ nl)
    refine ⟨⟨_,SqL.of hl⟩,for_by (it_list _ l ps) (fun i σ H4=>∃ (v6 v7:Option V) (kvs:List (Key×V)) (more:List Nat),σ=[some (.int 0),some (.ref f'),some (.ref D),some (.ref Qa),some (.int ((c:Nat)+1)),some (.int (s:Nat)),v6,v7]/\Tq H H4 D Qa kvs (qs++more) (qs++more).length/\(∀ s∈more,s < m/\Om.Rch nx s)/\H4 l=some (.lst ps)/\Stps H4 ps (nx s)/\∀ (j t:Nat),j < i->(nx s)[j]? = some t->t∈qs++more)
     ⟨v6,v7,kvs,[],rfl,by rw [List.append_nil];exact G.mono s3,by simp,hl,st,fun j t h=>absurd h (Nat.not_lt_zero _)⟩ (fun i σ H4 _ ⟨_,_,_,_,_,_,_,h,_⟩=>SqL.of h) ?_ ?_⟩
    ·rintro i x σ H4 hi hx ⟨v6,v7,kvs,more,rfl,G4,hm4,hl4,st4,hd4⟩
     have hi':i < (nx s).length:=by rw [<-st4.1];exact hi
     obtain ⟨qa,e1,e2⟩:=st4.2 i (nx s)[i] (List.getElem?_eq_getElem hi')
     rw [e1] at hx
     cases hx
     have tm:(nx s)[i]∈nx s:=List.getElem_mem hi'
     have tlt:=nlt _ tm
     generalize et:(nx s)[i]=t at e2 tm tlt
     have ei:(nx s)[i]? = some t:=by rw [List.getElem?_eq_getElem hi',et]
     refine ⟨_,.inl e2,rfl,rfl,?_⟩
     refine ⟨D,_,rfl,DGet.k (k:=nk t) G4.hD,?_⟩
     rw [G4.has t]
     have l4:(qs++more).length<=m:=Om.nodup_len m _ G4.nd fun x hx=>(List.mem_append.mp hx).elim (hlt x) fun z=>(hm4 x z).1
     refine ite2 (fun c1=>?_) (fun c1=>?_)
     ·have nt:t ∉ qs++more:=by simpa using c1
      obtain ⟨t0,zs,w1,w2,w3,w4⟩:=G4.vl s (List.mem_append_left _ sm)
      refine .inr ⟨D,.ref t0,rfl,w1 ▸ DGet.k (k:=nk s) G4.hD,?_⟩
      refine ⟨le_line (Nat.le_of_ble_eq_true rfl),fun B hB=>?_⟩
      have s5:Same H4 (upd H4 B (.lst [.int (i:Nat)])):=Same.upd hB
      refine ⟨zs,[.int (i:Nat)],s5 _ _ w2,upd_same,le_line (by simp;omega),fun U hU=>?_⟩
      have s6:=s5.trans (Same.upd (o:=.lst (zs++[.int (i:Nat)])) hU)
      have G6:=G4.mono s6
      have UQ:U≠Qa:=Ne.symm (ne_of_none (s5 _ _ G4.hQ) hU)
      have kl:=G6.klen
      refine .inr ⟨D,_,rfl,DPut.k (k:=nk t) G6.hD (lt_line (by omega)),?_⟩
      have DQ:D≠Qa:=ne_of G6.hD G6.hQ (fun z=>nomatch z)
      refine ⟨⟨_,rfl,by rw [upd_ne (Ne.symm DQ)];exact G6.hQ⟩,_,by rw [upd_ne (Ne.symm DQ)];exact G6.hQ,lt_line (by rw [List.length_map];omega),?_⟩
      have G7:=(G6.le (Nat.le_succ _)).put (u:=U) (zs:=zs++[.int (i:Nat)]) nt upd_same UQ (by rw [List.length_append];exact Nat.add_le_add_right w3 1)
      rw [show (qs++more).length.succ=(qs++more++[t]).length from (List.length_append (as:=qs++more) (bs:=[t])).symm,List.append_assoc] at G7
      refine ⟨_,_,_,more++[t],rfl,G7,fun x hx=>?_,Tq.put_at (s6 _ _ hl4) lD lQ,⟨st4.1,fun j t' hj=>?_⟩,fun j t' hj ht'=>?_⟩
      ·rcases List.mem_append.mp hx with z | z
       ·exact hm4 x z
       ·have:x=t:=by simpa using z
        subst this
        exact ⟨tlt,.s (hrc s sm) tm⟩
      ·obtain ⟨qb,a1,a2⟩:=st4.2 j t' hj
       exact ⟨qb,a1,Tq.put_at (s6 _ _ a2) (ne_of (s6 _ _ a2) G6.hD (fun z=>nomatch z)) (ne_of (s6 _ _ a2) G6.hQ (fun z=>nomatch z))⟩
      ·rw [<-List.append_assoc]
       by_cases e:j=i
       ·subst e
        rw [ei] at ht'
        cases ht'
        exact List.mem_append_right _ (by simp)
       ·exact List.mem_append_left _ (hd4 j t' (by omega) ht')
     ·have nt:t∈qs++more:=by
       by_cases z:t∈qs++more
       ·exact z
       ·exact absurd (by simpa using z) c1
      refine ⟨_,_,kvs,more,rfl,G4,hm4,hl4,st4,fun j t' hj ht'=>?_⟩
      by_cases e:j=i
      ·subst e
       rw [ei] at ht'
       cases ht'
       exact nt
      ·exact hd4 j t' (by omega) ht'
    ·rintro σ H4 ⟨v6,v7,kvs,more,rfl,G4,hm4,hl4,st4,hd4⟩
     refine ⟨v6,v7,kvs,more,rfl,G4,hm4,fun t ht=>?_⟩
     obtain ⟨j,hj⟩:=List.mem_iff_getElem?.mp ht
     have lj:=(List.getElem?_eq_some_iff.mp hj).1
     exact hd4 j t (by rw [st4.1];exact lj) hj
  ·have ge:qs.length<=c:=by
    by_cases z:c < qs.length
    ·exact absurd (by simpa using z) ge
    ·omega
   refine .inl ⟨_,G.hD,trivial,fun o=>?_⟩
   refine q D o kvs qs _ (fun b u e=>?_) hD upd_same G.ks G.nd (fun s=>⟨hrc s,Om.rch_in h0 (fun a ha b hb=>?_) s⟩) (by omega)
   ·rw [upd_ne (ne_of_none e hD)]
    exact G.s _ _ e
   ·obtain ⟨i,hi⟩:=List.mem_iff_getElem?.mp ha
    have li:=(List.getElem?_eq_some_iff.mp hi).1
    exact hdone i a (by omega) hi b hb
 ·exact h.elim
end
end K37
end
section
namespace K37
open PySem L2
section
variable {P:Program} {w:World} {K:PySem.W.Frag} {mg:Str->Option Value} {base:Heap}
abbrev sStT:Stmt:=top 3
abbrev lamSt:Expr:=callArg 1 (retE (.Name "" ⟨0,0,0,0⟩) ((defBody sStT).getD 0 (.Pass ⟨0,0,0,0⟩)))
abbrev qSt:Str:=("state_texts"++".<locals>." : Str)++"<lambda>"
def spLamSt (c:Addr) (fvs:List V):Sp:=fun vs H Q _=>match vs with
 | [.int s0]=>∃ (k n:Nat) (rows:Om.Rows) (cv:V) (s:Nat),s0=(s:Nat)/\fvs=[cv]/\DV H cv (codeD k n rows)/\Om.CodeOk k n rows/\s < rows.length/\H c=some (CodeO c qSt) ∧
   ∀ l ps H',Same H H'->H l=none->H' l=some (.lst ps)->Stps H' ps (Om.nxR rows s)->Q (.ref l) H'
 | _=>False
local macro_rules | `(tactic| walk_at "T.c")=>`(tactic| (have ndc:(["letter","row"]:List Str).Nodup:=(by decide +kernel));((with_reducible refine' c_comp ["letter","row"] [] ?b1 ?b2 (fun cl C s H fp=>?b3) (fun cl C s H fp=>?b4) (fun cl C s H fp=>?b5));(case b1=>exact ndc);(case b2=>walk_at "T.i");(case b3=>walk_at "T.g");(case b4=>walk_at "T.pf");(case b5=>walk_at "T.e")))
theorem lam_st {f c:Addr} {fvs:List V} (L:LamIn base f (lamArgs lamSt) (lamBody lamSt) (lamScope lamSt) qSt c ["code"] fvs) (hl:["code"].length=fvs.length) (g1:mg "enumerate" = none):CanL P w K mg base f 1 "state" (spLamSt c fvs):=by
 refine lam_ok (k:=0) L ⟨rfl,rfl,rfl,rfl,by decide +kernel,by decide +kernel⟩ hl (fun _ _ _ _=>rfl) (fun vs H Q E h=>?_) (fun clos A outer s H v Q E hr h=>?_)
 ·unfold spLamSt at h
  split at h
  ·rfl
  ·exact h.elim
 ·unfold spLamSt at h
  split at h
  ·rename_i s0 hv
   cases hv
   obtain ⟨k,n,rows,cv,st,rfl,rfl,hc,ok,hs,hcd,q⟩:=h
   refine ⟨hcd,?_⟩
   have ndc:(["letter","row"]:List Str).Nodup:=by decide +kernel
   refine ⟨_,(by (refine' c_comp ["letter","row"] [] ?b1 ?b2 (fun cl C s H fp=>?b3) (fun cl C s H fp=>?b4) (fun cl C s H fp=>?b5));(case b1=>exact ndc);(case b2=>walk_at "T.i");(case b3=>walk_at "T.g");(case b4=>walk_at "T.pf");(case b5=>walk_at "T.e")),?_⟩
   obtain ⟨a,b,ss,rfl,ha,hb,hss⟩:=code_inv hc
   obtain ⟨qx,rx,e1,e2,e3⟩:=state_at hss (s:=st) (st:=rows[st]) (List.getElem?_eq_getElem hs)
   have lx:rows[st].length=2 ^ k:=ok.len _ (List.getElem_mem hs)
   have rxl:rx.length=rows[st].length:=by rw [e3.length,List.length_map]
   have p8:rx.length<=8:=by rw [rxl,lx];exact Om.pow8 ok.k3
   have gx:Om.nxR rows st=rows[st].map (·.2):=by unfold Om.nxR;rw [List.getD_eq_getElem?_getD,List.getElem?_eq_getElem hs];rfl
   refine ⟨_,gt ha (by decide) rfl,.ref qx,gl hb (by omega) (by simpa using e1),⟨_,SqL.of e2⟩,fun R hR=>?_⟩
   refine comp_pr (it_enumP _ qx rx) (fun i τ H2 ys=>(∃ v1 v2,τ=[v1,v2])/\Same H H2/\H2 R=some (.lst ys)/\Stps H2 ys ((Om.nxR rows st).take i)) (le_line (by omega)) ⟨⟨none,none,rfl⟩,Same.upd hR,upd_same,rfl,fun i t h=>by simp at h⟩ ?_ ?_ ?_
   ·rintro i τ H2 ys hi ⟨_,s2,hR2,st2⟩
    exact ⟨s2 _ _ e2,hR2,by rw [st2.1,List.length_take];exact Nat.min_le_left _ _⟩
   ·rintro i t τ H2 ys hi ⟨⟨v1,v2,rfl⟩,s2,hR2,st2⟩ ht
    have hi':i < rows[st].length:=by omega
    obtain ⟨r,r1,r2⟩:=row_at e3 (l:=i) (r:=rows[st][i]) (List.getElem?_eq_getElem hi')
    have er:rx.getD i .non = .ref r:=by rw [List.getD_eq_getElem?_getD,r1];rfl
    rw [er]
    have s3:Same H2 (upd H2 t (.tup [.int (i:Nat),.ref r])):=Same.upd ht
    refine ⟨_,.inl upd_same,rfl,rfl,?_⟩
    refine ⟨_,gt (s3 _ _ (s2 _ _ r2)) (by decide) rfl,le_line (Nat.le_of_ble_eq_true rfl),fun p hp=>?_⟩
    have s4:=s3.trans (Same.upd (o:=.tup [.int (i:Nat),.int (rows[st][i].2:Nat)]) hp)
    refine ⟨s4 _ _ hR2,⟨_,_,rfl⟩,(s2.trans s4).own hR,upd_same,?_,fun j t' hj=>?_⟩
    ·rw [List.length_append,st2.1,List.length_take,List.length_take,gx,List.length_map]
     simp
     omega
    ·have il:ys.length=i:=by rw [st2.1,List.length_take,gx,List.length_map];omega
     have jl:j < i+1:=by
      have:=(List.getElem?_eq_some_iff.mp hj).1
      rw [List.length_take] at this
      omega
     rw [List.getElem?_take_of_lt jl] at hj
     by_cases e:j=i
     ·subst e
      have et:t'=rows[st][j].2:=by
       rw [gx,List.getElem?_map,List.getElem?_eq_getElem hi'] at hj
       exact (Option.some.inj hj).symm
      subst et
      refine ⟨p,by rw [List.getElem?_append_right (by omega),il];simp,?_⟩
      rw [upd_ne (ne_of (u:=.lst ys) upd_same (s4 _ _ hR2) (fun z=>nomatch z))]
      exact upd_same
     ·obtain ⟨q',a1,a2⟩:=st2.2 j t' (by rw [List.getElem?_take_of_lt (by omega)];exact hj)
      refine ⟨q',by rw [List.getElem?_append_left (by omega)];exact a1,?_⟩
      rw [upd_ne (ne_of a2 hR2 (fun z=>nomatch z))]
      exact s4 _ _ a2
   ·rintro τ H2 ys ⟨_,s2,hR2,st2⟩
    rw [List.take_of_length_le (by rw [gx,List.length_map];omega)] at st2
    exact q R ys _ s2 hR hR2 st2
  ·rename_i hv
   exact h.elim
end
section
variable {P:Program} {w:World} {K:PySem.W.Frag} {mg:Str->Option Value} {base:Heap}
def spStT (P0:Addr):Sp:=fun vs H Q _=>match vs with
 | [cv]=>∃ (k n:Nat) (rows:Om.Rows),DV H cv (codeD k n rows)/\Om.CodeOk k n rows/\Tab P0 (lamPos lamSt) qSt H ∧
   ∀ d o (kvs:List (Key×V)) (qs:List Nat) H',SameT P0 H H'->Tab P0 (lamPos lamSt) qSt H'->H d=none->H' d=some (.frz o (.dK kvs))->kvs.map (·.1)=qs.map nk->qs.Nodup->(∀ s,s∈qs↔Om.Rch (Om.nxR rows) s)->qs.length<=8->Q (.ref d) H'
 | _=>False
theorem scStT:FnScope ["code"] ["code"] (defScope sStT):=⟨rfl,rfl,rfl,by decide +kernel,rfl,by decide +kernel,by decide +kernel⟩
theorem ok_stT {c P0:Addr} (D:FnC K mg "state_texts" sStT ["code"] c) (D2:FnX K mg "texts_from" sTexts ["start","steps"]) (g1:mg "len" = none) (g2:mg "enumerate" = none) (M:Maker mg base c P0):Can P w K mg base "state_texts" 3 ["code"] (spStT P0):=by
 refine can_fnC (k:=2) D scStT (fun vs H Q E h=>?_) (fun f A outer s H vs Q E hr h=>?_)
 all_goals
  unfold spStT at h
  split at h
 ·rfl
 ·exact h.elim
 ·rename_i cv
  obtain ⟨k,n,rows,hc,ok,tb,q⟩:=h
  have hm:∃ f,mg "texts_from" = some (.ref f)/\PySem.W.keepIn K (.ref f)=true:=by
   obtain ⟨f,fd,F,hm,_⟩:=D2
   exact ⟨f,hm,F.kp⟩
  have hf0:∀ y∈(lamScope lamSt).names,y.2 = .free->(defScope sStT).names.lookup y.1=some .cell:=by decide +kernel
  refine ⟨_,(by
   refine' pss_one ?a1
   case a1=>
    refine' ps_ret ?a2
    case a2=>
     refine' e_lamcall "texts_from" (F:=["code"]) (js:=[0]) (k:=2) (ps:=["start","steps"]) (sp:=fun f c fvs=>spTexts f (spLamSt c fvs)) hm M rfl ?hF rfl ?hFs (fun _=>rfl) ?hfree ?hC hr ?ha ?hg rfl rfl ?he
     case hF=>
      intro i y h
      cases i with
      | zero=>cases h;exact ⟨0,rfl,rfl,by kernel_rfl⟩
      | succ i=>simp at h
     case hFs=>decide +kernel
     case hfree=>exact hf0
     case hC=>exact fun B f c' fvs m0 kb hl L=>ok_texts D2 g1 (lam_st L hl g2)
     case ha=>exact pe_int
     case hg=>kernel_rfl
     case he=>kernel_rfl),?_⟩
  refine ⟨tb,[cv],rfl,fun f' c' H2 sm e1 e2 nf=>?_⟩
  have rl:∀ s,s < rows.length->Om.nxR rows s=(rows.getD s []).map (·.2):=fun _ _=>rfl
  refine ⟨rfl,rfl,Om.nxR rows,rows.length,fun H=>DV H cv (codeD k n rows)/\H c'=some (CodeO c' qSt),fun H H' ⟨a,b⟩ s=>⟨a.mono s,s _ _ b⟩,⟨hc.monoT tb sm,e2⟩,ok.s1,ok.s8,fun s hs=>?_,fun s H Q hs ⟨a,b⟩ h=>⟨k,n,rows,cv,s,rfl,rfl,a,ok,hs,b,h⟩,
   fun d o kvs qs H' s' nd hd ks ndq hrr hl=>q d o kvs qs H' (sm.trans s'.t) (.inr ⟨c',s' _ _ e1,s' _ _ e2⟩) (sm.free nd fun z=>by rw [z,e1] at nd;cases nd) hd ks ndq hrr hl⟩
  exact Om.nx_ok ok hs
 ·exact h.elim
end
end K37
end
section
namespace K37
open PySem L2
section
variable {P:Program} {w:World} {K:PySem.W.Frag} {mg:Str->Option Value} {base:Heap}
abbrev sReached:Stmt:=top 4
def spReached (P0:Addr):Sp:=fun vs H Q _=>match vs with
 | [cv]=>∃ (k n:Nat) (rows:Om.Rows),DV H cv (codeD k n rows)/\Om.CodeOk k n rows/\Tab P0 (lamPos lamSt) qSt H ∧
   ∀ l (qs:List Nat) H',SameT P0 H H'->Tab P0 (lamPos lamSt) qSt H'->H l=none->H' l=some (.lst (qs.map fun s=>V.int (s:Nat)))->qs.Pairwise (· < ·)->(∀ s,s∈qs↔Om.Rch (Om.nxR rows) s)->qs.length<=8->Q (.ref l) H'
 | _=>False
theorem scReached:FnScope ["code"] ["code"] (defScope sReached):=⟨rfl,rfl,rfl,by decide +kernel,rfl,by decide +kernel,by decide +kernel⟩
local macro_rules | `(tactic| walk_at "T.b")=>`(tactic| ((with_reducible refine' fn_sortedD ?a0 ?a9 ?a1);(case a0=>with_reducible assumption);(case a9=>rfl);(case a1=>walk_at "T.a")))
theorem ok_reached {P0:Addr} (D:FnX K mg "reached" sReached ["code"]) (g1:mg "sorted" = none) (c1:Can P w K mg base "state_texts" 3 ["code"] (spStT P0)):Can P w K mg base "reached" 4 ["code"] (spReached P0):=by
 refine can_fn (k:=3) D scReached (fun vs H Q E h=>?_) (fun f cdv A outer s H vs Q E hr h=>?_)
 all_goals
  unfold spReached at h
  split at h
 ·rfl
 ·exact h.elim
 ·rename_i cv
  obtain ⟨k,n,rows,hc,ok,tb,q⟩:=h
  have nd:=scReached.nd
  refine ⟨_,(by walk_at "T.top1"),?_⟩
  refine ⟨k,n,rows,hc,ok,tb,fun d o kvs qs H' s1 t1 nd1 hd ks ndq hr8 l8=>?_⟩
  refine .inl ⟨d,kvs,qs.map fun s=>((s:Nat):Int),rfl,.inr ⟨o,hd⟩,by rw [ks,List.map_map];rfl,by rw [List.length_map];omega,fun l ns hl pm srt=>?_⟩
  obtain ⟨qs',rfl,pm'⟩:=Om.perm_nats pm
  refine q l qs' _ (s1.trans (Same.upd hl).t) (t1.mono (Same.upd hl)) (s1.free hl fun z=>by obtain ⟨ps,e⟩:=t1.tbl;rw [z,e] at hl;cases hl) ?_ ?_ (fun s=>?_) (by rw [pm'.length_eq];exact l8)
  ·rw [upd_same,List.map_map];rfl
  ·exact Om.lt_of_le (pm'.nodup_iff.mpr ndq) srt
  ·rw [pm'.mem_iff];exact hr8 s
 ·exact h.elim
end
section
variable {P:Program} {w:World} {K:PySem.W.Frag} {mg:Str->Option Value} {base:Heap}
end
end K37
end
section
namespace K37
open PySem L2
section
variable {P:Program} {w:World} {K:PySem.W.Frag} {mg:Str->Option Value} {base:Heap}
abbrev sPSteps:Stmt:=top 7
def spPSteps:Sp:=fun vs H Q _=>match vs with
 | [cv,.int x0,.int y0]=>∃ (k n:Nat) (rows:Om.Rows) (x y:Nat),x0=(x:Nat)/\y0=(y:Nat)/\DV H cv (codeD k n rows)/\Om.CodeOk k n rows/\x < rows.length/\y < rows.length ∧
   ∀ l (ss:List Om.Stp) H',Same H H'->H l=none->StL H' l ss->ss.length<=64->ss.Pairwise Om.LtS->(∀ s,s∈ss↔Om.St rows x y s)->Q (.ref l) H'
 | _=>False
theorem scPSteps:FnScope ["code","one","other","steps","letter","row","another","beside"] ["code","one","other"] (defScope sPSteps):=⟨rfl,rfl,rfl,by decide +kernel,rfl,by decide +kernel,by decide +kernel⟩
theorem ok_psteps (D:FnX K mg "pair_steps" sPSteps ["code","one","other"]) (g1:mg "enumerate" = none):Can P w K mg base "pair_steps" 1 ["code","one","other"] spPSteps:=by
 refine can_fn (k:=0) D scPSteps (fun vs H Q E h=>?_) (fun f cdv A outer s H vs Q E hr h=>?_)
 all_goals
  unfold spPSteps at h
  split at h
 ·rfl
 ·exact h.elim
 ·rename_i cv x0 y0
  obtain ⟨k,n,rows,x,y,rfl,rfl,hc,ok,hx,hy,q⟩:=h
  have nd:=scPSteps.nd
  obtain ⟨a,b,st,rfl,ha,hb,hst⟩:=code_inv hc
  obtain ⟨qx,rx,e1,e2,e3⟩:=state_at hst (s:=x) (st:=rows[x]) (List.getElem?_eq_getElem hx)
  obtain ⟨qy,ry,f1,f2,f3⟩:=state_at hst (s:=y) (st:=rows[y]) (List.getElem?_eq_getElem hy)
  have lx:rows[x].length=2 ^ k:=ok.len _ (List.getElem_mem hx)
  have ly:rows[y].length=2 ^ k:=ok.len _ (List.getElem_mem hy)
  have p8:2 ^ k<=8:=by
   have:=ok.k3
   have:k=0\/k=1\/k=2\/k=3:=by omega
   rcases this with rfl | rfl | rfl | rfl<;>decide
  have gx:rows.getD x []=rows[x]:=by simp [List.getD_eq_getElem?_getD,hx]
  have gy:rows.getD y []=rows[y]:=by simp [List.getD_eq_getElem?_getD,hy]
  have stx:∀ i (hi:i < rows[x].length),Om.step rows x i=rows[x][i]:=fun i hi=>by unfold Om.step;rw [gx];simp [List.getD_eq_getElem?_getD,hi]
  have sty:∀ i (hi:i < rows[y].length),Om.step rows y i=rows[y][i]:=fun i hi=>by unfold Om.step;rw [gy];simp [List.getD_eq_getElem?_getD,hi]
  have rxl:rx.length=2 ^ k:=by rw [e3.length,List.length_map,lx]
  have ryl:ry.length=2 ^ k:=by rw [f3.length,List.length_map,ly]
  refine ⟨_,(by walk_at "T.top"),?_⟩
  refine ⟨Nat.zero_le _,fun L hL=>?_⟩
  have R0:=Gr.start hL
  refine ⟨_,gt (R0.all _ _ ha) (by decide) rfl,.ref qx,gl (R0.all _ _ hb) (by omega) (by simpa using e1),⟨_,SqL.of (R0.all _ _ e2)⟩,?_⟩
  refine for_pr (it_enumP _ qx rx) (fun i σ H2=>∃ (v4 v5 v6 v7:Option V) (G:Hp) (vs:List V) (ss:List Om.Stp),σ=[some (.ref a),some (.int (x:Nat)),some (.int (y:Nat)),some (.ref L),v4,v5,v6,v7]/\Gr G H H2 L vs/\DVs G vs (ss.map sD)/\ss.length<=i * 8/\ss.Pairwise Om.LtS/\∀ s,s∈ss↔s.1.1 < i/\Om.St rows x y s)
   ⟨none,none,none,none,_,[],[],rfl,R0,.nil,by simp,List.Pairwise.nil,by simp⟩ (fun i σ H2 _ ⟨_,_,_,_,_,_,_,_,R,_⟩=>R.all _ _ e2) ?_ ?_
  ·rintro i t σ H2 hi ⟨v4,v5,v6,v7,G,vs,ss,rfl,R,hd,hl,ho,hb1⟩ ht
   have hi':i < rows[x].length:=by omega
   obtain ⟨r,r1,r2⟩:=row_at e3 (l:=i) (r:=rows[x][i]) (List.getElem?_eq_getElem hi')
   have er:rx.getD i .non = .ref r:=by rw [List.getD_eq_getElem?_getD,r1];rfl
   have R1:=R.new (o:=.tup [.int (i:Nat),.ref r]) ht
   dsimp only
   rw [er]
   refine ⟨_,.inl upd_same,rfl,rfl,?_⟩
   refine ⟨_,gt (R1.all _ _ ha) (by decide) rfl,.ref qy,gl (R1.all _ _ hb) (by omega) (by simpa using f1),⟨_,SqL.of (R1.all _ _ f2)⟩,?_⟩
   refine for_pr (it_enumP _ qy ry) (fun j σ H2=>∃ (v6 v7:Option V) (G:Hp) (vs:List V) (ss:List Om.Stp),σ=[some (.ref a),some (.int (x:Nat)),some (.int (y:Nat)),some (.ref L),some (.int (i:Nat)),some (.ref r),v6,v7]/\Gr G H H2 L vs/\DVs G vs (ss.map sD)/\ss.length<=i * 8+j/\ss.Pairwise Om.LtS/\∀ s,s∈ss↔(s.1.1 < i\/(s.1.1=i/\s.1.2 < j))/\Om.St rows x y s)
    ⟨v6,v7,G,vs,ss,rfl,R1,hd,by omega,ho,fun s=>by rw [hb1];constructor<;>rintro ⟨h1,h2⟩<;>exact ⟨by omega,h2⟩⟩ (fun i σ H2 _ ⟨_,_,_,_,_,_,R,_⟩=>R.all _ _ f2) ?_ ?_
   ·rintro j t2 σ H3 hj ⟨v6,v7,G,vs,ss,rfl,R2,hd,hl,ho,hb1⟩ ht2
    have hj':j < rows[y].length:=by omega
    obtain ⟨r',s1,s2⟩:=row_at f3 (l:=j) (r:=rows[y][j]) (List.getElem?_eq_getElem hj')
    have er':ry.getD j .non = .ref r':=by rw [List.getD_eq_getElem?_getD,s1];rfl
    have R3:=R2.new (o:=.tup [.int (j:Nat),.ref r']) ht2
    dsimp only
    rw [er']
    refine ⟨_,.inl upd_same,rfl,rfl,?_⟩
    refine ⟨_,gt (R3.all _ _ r2) (by decide) rfl,_,gt (R3.all _ _ s2) (by decide) rfl,?_⟩
    have key:∀ s:Om.Stp,s.1.1=i->s.1.2=j->(Om.St rows x y s↔rows[x][i].1=rows[y][j].1/\s=((i,j),(rows[x][i].2,rows[y][j].2))):=by
     rintro ⟨⟨a1,a2⟩,a3⟩ h1 h2
     dsimp only at h1 h2
     subst h1 h2
     unfold Om.St
     dsimp only
     rw [gx,gy,stx _ hi',sty _ hj']
     constructor
     ·rintro ⟨_,_,h3,h4⟩;exact ⟨h3,by rw [h4]⟩
     ·rintro ⟨h3,h4⟩
      exact ⟨hi',hj',h3,(Prod.mk.inj h4).2⟩
    refine ite2 (fun h1=>?_) (fun h1=>⟨_,_,G,vs,ss,rfl,R3,hd,by omega,ho,fun s=>?_⟩)
    ·have h1':=bs_inj (of_decide_eq_true h1)
     refine ⟨⟨_,rfl,R3.hL⟩,?_⟩
     refine ⟨le_line (Nat.le_of_ble_eq_true rfl),fun z hz=>?_⟩
     have R4:=R3.put (o:=.tup [.int (i:Nat),.int (j:Nat)]) hz
     have U4:=R3.up (o:=.tup [.int (i:Nat),.int (j:Nat)]) hz
     refine ⟨_,gt (R4.all _ _ r2) (by decide) rfl,_,gt (R4.all _ _ s2) (by decide) rfl,?_⟩
     refine ⟨le_line (Nat.le_of_ble_eq_true rfl),fun z1 hz1=>?_⟩
     have R5:=R4.put (o:=.tup [.int (rows[x][i].2:Nat),.int (rows[y][j].2:Nat)]) hz1
     have U5:=R4.up (o:=.tup [.int (rows[x][i].2:Nat),.int (rows[y][j].2:Nat)]) hz1
     refine ⟨le_line (Nat.le_of_ble_eq_true rfl),fun z2 hz2=>?_⟩
     have R6:=R5.put (o:=.tup [.ref z,.ref z1]) hz2
     have U6:=R5.up (o:=.tup [.ref z,.ref z1]) hz2
     have vl:vs.length=ss.length:=by rw [hd.length,List.length_map]
     refine ⟨_,R6.hL,by rw [vl];exact lt_line (by omega),?_⟩
     refine ⟨_,_,_,vs++[.ref z2],ss++[((i,j),(rows[x][i].2,rows[y][j].2))],rfl,R6.set,?_,by simp;omega,Om.pw_app ho (fun a ha=>by have:=((hb1 a).mp ha).1;show a.1.1 < i\/(a.1.1=i/\a.1.2 < j);exact this),fun u=>?_⟩
     ·rw [List.map_append]
      refine (hd.mono ((U4.trans U5).trans U6)).app (.cons (.tup upd_same (.cons ?_ (.cons ?_ .nil))) .nil)
      ·exact (pair_DV (x:=(i,j)) upd_same).mono (U5.trans U6)
      ·exact (pair_DV (x:=(rows[x][i].2,rows[y][j].2)) upd_same).mono U6
     ·rw [List.mem_append,hb1,List.mem_singleton]
      constructor
      ·rintro (⟨g1,g2⟩ | g)
       ·exact ⟨by omega,g2⟩
       ·subst g
        exact ⟨.inr ⟨rfl,Nat.lt_succ_self _⟩,(key _ rfl rfl).mpr ⟨h1',rfl⟩⟩
      ·rintro ⟨g1,g2⟩
       by_cases c:u.1.1=i/\u.1.2=j
       ·exact .inr ((key _ c.1 c.2).mp g2).2
       ·exact .inl ⟨by omega,g2⟩
    ·have h1':¬ rows[x][i].1=rows[y][j].1:=fun z=>by rw [z] at h1;simp at h1
     rw [hb1]
     constructor
     ·rintro ⟨g1,g2⟩;exact ⟨by omega,g2⟩
     ·rintro ⟨g1,g2⟩
      by_cases c:s.1.1=i/\s.1.2=j
      ·exact absurd ((key _ c.1 c.2).mp g2).1 h1'
      ·exact ⟨by omega,g2⟩
   ·rintro σ H3 ⟨v6,v7,G,vs,ss,rfl,R2,hd,hl,ho,hb1⟩
    refine ⟨_,_,_,_,G,vs,ss,rfl,R2,hd,by omega,ho,fun s=>?_⟩
    rw [hb1]
    constructor
    ·rintro ⟨g1,g2⟩;exact ⟨by omega,g2⟩
    ·rintro ⟨g1,g2⟩
     refine ⟨?_,g2⟩
     have:=g2.2.1
     rw [gy] at this
     omega
  ·rintro σ H2 ⟨v4,v5,v6,v7,G,vs,ss,rfl,R,hd,hl,ho,hb1⟩
   refine q L ss _ R.all hL (.lst R.hL (hd.mono R.s)) (by omega) ho fun s=>?_
   rw [hb1]
   constructor
   ·exact fun h=>h.2
   ·intro h
    refine ⟨?_,h⟩
    have:=h.1
    rw [gx] at this
    omega
 ·exact h.elim
end
end K37
end
section
namespace K37
open PySem L2
section
variable {P:Program} {w:World} {K:PySem.W.Frag} {mg:Str->Option Value} {base:Heap}
abbrev sGraph:Stmt:=top 6
def spGraph:Sp:=fun vs H Q _=>match vs with
 | [cv,.ref sl]=>∃ (k n:Nat) (rows:Om.Rows) (qs:List Nat),DV H cv (codeD k n rows)/\Om.CodeOk k n rows/\H sl=some (.lst (qs.map fun i=>V.int (i:Nat)))/\qs.Pairwise (· < ·)/\(∀ s∈qs,s < rows.length)/\∀ v H',Same H H'->GrO 64 Om.LtS H' v (fun x y=>x∈qs/\y∈qs) (Om.St rows)->Q v H'
 | _=>False
theorem scGraph:FnScope ["code","states","graph","one","other"] ["code","states"] (defScope sGraph):=⟨rfl,rfl,rfl,by decide +kernel,rfl,by decide +kernel,by decide +kernel⟩
local macro_rules | `(tactic| walk_at "T.e")=>`(tactic| (with_reducible exact pe_dnewT))
local macro_rules | `(tactic| walk_at "T.g")=>`(tactic| ((with_reducible refine' g_subD ?a0 ?a1 ?a2);(case a0=>exact Room.units (by assumption));(case a1=>walk_at "T.e");(case a2=>walk_at "T.e")))
local macro_rules | `(tactic| walk_at "T.st")=>`(tactic| ((with_reducible refine' s_retF ?a1);(case a1=>walk_at "T.e")))
theorem qs_at {qs:List Nat} {i:Nat} {z:V} (h:(qs.map fun i=>V.int (i:Nat))[i]? = some z):∃ s,qs[i]? = some s/\z = .int (s:Nat):=by
 rw [List.getElem?_map] at h
 obtain ⟨j,h1,rfl⟩:=Option.map_eq_some_iff.mp h
 exact ⟨j,h1,rfl⟩
theorem take_ltq {qs:List Nat} (h:qs.Pairwise (· < ·)) {i s x:Nat} (hi:qs[i]? = some s) (hx:x∈qs.take i):x < s:=by
 obtain ⟨il,rfl⟩:=List.getElem?_eq_some_iff.mp hi
 obtain ⟨j,hj⟩:=List.mem_iff_getElem?.mp hx
 rw [List.getElem?_take] at hj
 split at hj
 ·rename_i ji
  have:=List.pairwise_iff_getElem.mp h j i (by omega) il ji
  rw [List.getElem?_eq_getElem (by omega)] at hj
  have:=Option.some.inj hj
  omega
 ·cases hj
theorem mem_takeS {qs:List Nat} {i s x:Nat} (hi:qs[i]? = some s):x∈qs.take (i+1)↔x∈qs.take i\/x=s:=by
 rw [List.take_add_one,hi,List.mem_append]
 simp
theorem ok_graph (D:FnX K mg "pair_graph" sGraph ["code","states"]) (c1:Can P w K mg base "pair_steps" 1 ["code","one","other"] spPSteps):Can P w K mg base "pair_graph" 2 ["code","states"] spGraph:=by
 refine can_fn (k:=1) D scGraph (fun vs H Q E h=>?_) (fun f cdv A outer s H vs Q E hr h=>?_)
 all_goals
  unfold spGraph at h
  split at h
 ·rfl
 ·exact h.elim
 ·rename_i cv sl
  obtain ⟨k,n,rows,qs,hc,ok,hsl,pw,lt,q⟩:=h
  have nd:=scGraph.nd
  have s8:=ok.s8
  refine ⟨_,(by walk_at "T.top"),?_⟩
  intro D hD
  have M0:=Gd.start hD
  refine ⟨⟨_,SqL.of (M0.all _ _ hsl)⟩,?_⟩
  refine for_by (it_list _ sl _) (fun i σ H2=>∃ (v3 v4:Option V) (G:Hp) (kvs:List (List Key×V)) (ks:List (Nat×Nat)),σ=[some cv,some (.ref sl),some (.ref D),v3,v4]/\Gd G H H2 D kvs/\KD ks kvs/\ValsO G kvs ks (Om.St rows) ∧
    ks.Pairwise Om.LtL/\∀ x y,(x,y)∈ks↔x∈qs.take i/\y∈qs)
   ⟨none,none,_,[],[],rfl,M0,KD.nil,(fun p hp=>nomatch hp),List.Pairwise.nil,fun x' y'=>by simp⟩ (fun i σ H2 _ ⟨_,_,_,_,_,_,M,_⟩=>SqL.of (M.all _ _ hsl)) ?_ ?_
  ·rintro i z σ H2 hi hz ⟨v3,v4,G,kvs,ks,rfl,M,kd,hv,ho,hm⟩
   obtain ⟨si,hsi,rfl⟩:=qs_at hz
   have lti:=lt _ (List.mem_of_getElem? hsi)
   refine ⟨⟨_,SqL.of (M.all _ _ hsl)⟩,?_⟩
   refine for_by (it_list _ sl _) (fun j σ H2=>∃ (v4:Option V) (G:Hp) (kvs:List (List Key×V)) (ks:List (Nat×Nat)),σ=[some cv,some (.ref sl),some (.ref D),some (.int (si:Nat)),v4]/\Gd G H H2 D kvs/\KD ks kvs/\ValsO G kvs ks (Om.St rows) ∧
     ks.Pairwise Om.LtL/\∀ x y,(x,y)∈ks↔(x∈qs.take i/\y∈qs)\/(x=si/\y∈qs.take j))
    ⟨v4,G,kvs,ks,rfl,M,kd,hv,ho,fun x' y'=>by rw [hm];simp⟩ (fun i σ H2 _ ⟨_,_,_,_,_,M,_⟩=>SqL.of (M.all _ _ hsl)) ?_ ?_
   ·rintro j z σ H3 hj hz ⟨v4,G,kvs,ks,rfl,M,kd,hv,ho,hm⟩
    obtain ⟨sj,hsj,rfl⟩:=qs_at hz
    have ltj:=lt _ (List.mem_of_getElem? hsj)
    refine ⟨k,n,rows,si,sj,rfl,rfl,hc.mono M.all,ok,lti,ltj,fun l ss H4 s4 hl4 hst h64 hso hmem=>?_⟩
    obtain ⟨G1,M1,gg,he⟩:=M.call s4
    have st1:StL G1 l ss:=DV.lt (Lt.but M1.hD he) hst
    have hv1:=hv.mono gg
    refine ⟨le_line (Nat.le_of_ble_eq_true rfl),fun t ht=>?_⟩
    have M2:=M1.put (o:=.tup [.int (si:Nat),.int (sj:Nat)]) ht
    have U2:=M1.up (o:=.tup [.int (si:Nat),.int (sj:Nat)]) ht
    have nin:(si,sj) ∉ ks:=fun z=>by
     rcases (hm _ _).mp z with ⟨h1,_⟩ | ⟨_,h1⟩
     ·exact absurd (take_ltq pw hsi h1) (Nat.lt_irrefl _)
     ·exact absurd (take_ltq pw hsj h1) (Nat.lt_irrefl _)
    refine .inr ⟨_,_,rfl,.inr ⟨kvs,kk (si,sj),t,M2.hD,rfl,upd_same,kd.lt_line,rfl⟩,?_⟩
    refine ⟨_,_,_,_,rfl,M2.set,kd.put (v:=.ref l) nin (by show si < 8;omega) (by show sj < 8;omega),(hv1.mono U2).put nin (st1.mono U2) h64 hso hmem,Om.pw_app ho (fun a ha=>by
     rcases (hm a.1 a.2).mp ha with ⟨h1,_⟩ | ⟨h1,h2⟩
     ·exact .inl (take_ltq pw hsi h1)
     ·exact .inr ⟨h1,take_ltq pw hsj h2⟩),fun x' y'=>?_⟩
    rw [List.mem_append,hm,List.mem_singleton,Prod.mk.injEq,mem_takeS hsj]
    constructor
    ·rintro ((h | h) | h)
     ·exact .inl h
     ·exact .inr ⟨h.1,.inl h.2⟩
     ·exact .inr ⟨h.1,.inr h.2⟩
    ·rintro (h | ⟨h,h2 | h2⟩)
     ·exact .inl (.inl h)
     ·exact .inl (.inr ⟨h,h2⟩)
     ·exact .inr ⟨h,h2⟩
   ·rintro σ H3 ⟨v4,G,kvs,ks,rfl,M,kd,hv,ho,hm⟩
    refine ⟨_,_,G,kvs,ks,rfl,M,kd,hv,ho,fun x' y'=>?_⟩
    rw [hm,List.length_map,List.take_length,mem_takeS hsi]
    constructor
    ·rintro (h | h)
     ·exact ⟨.inl h.1,h.2⟩
     ·exact ⟨.inr h.1,h.2⟩
    ·rintro ⟨h | h,h2⟩
     ·exact .inl ⟨h,h2⟩
     ·exact .inr ⟨h,h2⟩
  ·rintro σ H2 ⟨v3,v4,G,kvs,ks,rfl,M,kd,hv,ho,hm⟩
   refine .inl ⟨_,M.hD,trivial,fun o=>?_⟩
   refine q _ _ (M.s0.trans M.frz) ⟨D,o,kvs,ks,rfl,upd_same,kd,fun x' y'=>?_,ho,hv.mono M.frz⟩
   rw [hm,List.length_map,List.take_length]
 ·exact h.elim
end
end K37
end
section
namespace K37
open PySem L2
def RchL (rows:Om.Rows) (qs:List Nat):Prop:=qs.Pairwise (· < ·)/\(∀ s,s∈qs↔Om.Rch (Om.nxR rows) s)/\qs.length<=8
theorem nat_uniq:∀ {l m:List Nat},l.Pairwise (· < ·)->m.Pairwise (· < ·)->(∀ x,x∈l↔x∈m)->l=m
 | [],[],_,_,_=>rfl
 | [],b :: m,_,_,h=>absurd ((h b).mpr (List.mem_cons_self ..)) (by simp)
 | a :: l,[],_,_,h=>absurd ((h a).mp (List.mem_cons_self ..)) (by simp)
 | a :: l,b :: m,hl,hm,h=>by
  rw [List.pairwise_cons] at hl hm
  have e:a=b:=by
   rcases List.mem_cons.mp ((h a).mp List.mem_cons_self) with z | z
   ·exact z
   ·rcases List.mem_cons.mp ((h b).mpr List.mem_cons_self) with y | y
    ·exact y.symm
    ·have:=hm.1 a z
     have:=hl.1 b y
     omega
  subst e
  rw [nat_uniq hl.2 hm.2 fun x=>⟨fun z=>?_,fun z=>?_⟩]
  ·rcases List.mem_cons.mp ((h x).mp (List.mem_cons_of_mem _ z)) with y | y
   ·have:=hl.1 x z
    omega
   ·exact y
  ·rcases List.mem_cons.mp ((h x).mpr (List.mem_cons_of_mem _ z)) with y | y
   ·have:=hm.1 x z
    omega
   ·exact y
theorem RchL.uniq {rows:Om.Rows} {qs qs':List Nat} (h:RchL rows qs) (h':RchL rows qs'):qs=qs':=nat_uniq h.1 h'.1 fun s=>(h.2.1 s).trans (h'.2.1 s).symm
end K37
end
section
namespace K37
open PySem L2
abbrev FEnt:=(Nat×Nat)×(Nat×(Nat×Nat))
noncomputable def gS (rows:Om.Rows) (p:Nat×Nat):List Om.Stp:=Om.canon Om.LtS (Om.St rows p.1 p.2)
noncomputable def gK (qs:List Nat):List (Nat×Nat):=Om.canon Om.LtL fun p=>p.1∈qs/\p.2∈qs
def putF (s:Nat) (acc:List FEnt) (t:Om.Stp):List FEnt:=if t.1.1=t.1.2\/t.2∈acc.map (·.1) then acc else acc++[(t.2,(s,t.1))]
noncomputable def stF (rows:Om.Rows) (acc:List FEnt) (s:Nat):List FEnt:=(gS rows (s,s)).foldl (putF s) acc
noncomputable def fpF (rows:Om.Rows) (qs:List Nat):List FEnt:=qs.foldl (stF rows) []
theorem putF_mem {s:Nat} {acc:List FEnt} {t:Om.Stp} {e:FEnt} (h:e∈putF s acc t):e∈acc\/(e=(t.2,(s,t.1))/\t.1.1≠t.1.2):=by
 unfold putF at h
 by_cases c:t.1.1=t.1.2\/t.2∈acc.map (·.1)
 ·rw [if_pos c] at h;exact .inl h
 ·rw [if_neg c,List.mem_append,List.mem_singleton] at h
  exact h.imp id fun e=>⟨e,fun z=>c (.inl z)⟩
theorem foldF_mem {s:Nat}:∀ {l:List Om.Stp} {acc:List FEnt} {e:FEnt},e∈l.foldl (putF s) acc->e∈acc\/∃ t∈l,e=(t.2,(s,t.1))/\t.1.1≠t.1.2
 | [],_,_,h=>.inl h
 | t :: l,acc,e,h=>by
  rcases foldF_mem (l:=l) h with h | ⟨t',h1,h2⟩
  ·rcases putF_mem h with h | h
   ·exact .inl h
   ·exact .inr ⟨t,List.mem_cons_self,h⟩
  ·exact .inr ⟨t',List.mem_cons_of_mem _ h1,h2⟩
theorem fp_mem' {rows:Om.Rows}:∀ {qs:List Nat} {acc:List FEnt} {e:FEnt},e∈qs.foldl (stF rows) acc->e∈acc\/∃ s∈qs,∃ t∈gS rows (s,s),e=(t.2,(s,t.1))/\t.1.1≠t.1.2
 | [],_,_,h=>.inl h
 | s :: qs,acc,e,h=>by
  rcases fp_mem' (qs:=qs) h with h | ⟨s',h1,h2⟩
  ·rcases foldF_mem h with h | ⟨t,h1,h2⟩
   ·exact .inl h
   ·exact .inr ⟨s,List.mem_cons_self,t,h1,h2⟩
  ·exact .inr ⟨s',List.mem_cons_of_mem _ h1,h2⟩
theorem fp_mem {rows:Om.Rows} {qs:List Nat} {e:FEnt} (h:e∈fpF rows qs):∃ s∈qs,∃ t∈gS rows (s,s),e=(t.2,(s,t.1))/\t.1.1≠t.1.2:=(fp_mem' h).resolve_left (fun z=>nomatch z)
def FAt (H:Hp) (kvs:List (List Key×V)) (e:FEnt):Prop:=∃ t la,valV kvs (kk e.1)=some (.ref t)/\H t=some (.tup [.int (e.2.1:Nat),.ref la])/\H la=some (.tup [.int (e.2.2.1:Nat),.int (e.2.2.2:Nat)])
def LyF (H:Hp) (v:V) (fs:List FEnt):Prop:=∃ a o kvs,v = .ref a/\H a=some (.frz o (.dT kvs))/\KD (fs.map (·.1)) kvs/\∀ e∈fs,FAt H kvs e
theorem FAt.keep {H H':Hp} {kvs:List (List Key×V)} {e:FEnt} (h:FAt H kvs e) (k:∀ b ys,H b=some (.tup ys)->H' b=some (.tup ys)):FAt H' kvs e:=by
 obtain ⟨t,la,h1,h2,h3⟩:=h
 exact ⟨t,la,h1,k _ _ h2,k _ _ h3⟩
theorem LyF.mono {H H':Hp} {v:V} {fs:List FEnt} (h:LyF H v fs) (s:Same H H'):LyF H' v fs:=by
 obtain ⟨a,o,kvs,e,h1,h2,h3⟩:=h
 exact ⟨a,o,kvs,e,s _ _ h1,h2,fun e he=>(h3 e he).keep fun _ _ x=>s _ _ x⟩
theorem Tab.offD {P0 D:Addr} {c:Pos} {q:Str} {H H':Hp} {kv:List (List Key×V)} (t:Tab P0 c q H) (n:P0≠D) (hD:H D=some (.dT kv)) (s:SameT D H H'):Tab P0 c q H':=by
 rcases t with e | ⟨d,e1,e2⟩
 ·exact .inl (s _ _ n e)
 ·exact .inr ⟨d,s _ _ n e1,s _ _ (fun z=>by rw [z,hD] at e2;cases e2) e2⟩
section
variable {P:Program} {w:World} {K:PySem.W.Frag} {mg:Str->Option Value} {base:Heap}
abbrev sFP:Stmt:=top 13
def spFP (P0:Addr):Sp:=fun vs H Q _=>match vs with
 | [cv]=>∃ (k n:Nat) (rows:Om.Rows),DV H cv (codeD k n rows)/\Om.CodeOk k n rows/\Tab P0 (lamPos lamSt) qSt H ∧
   ∀ v (qs:List Nat) H',SameT P0 H H'->Tab P0 (lamPos lamSt) qSt H'->RchL rows qs->LyF H' v (fpF rows qs)->Q v H'
 | _=>False
theorem scFP:FnScope ["code","pairs","state","label","pair"] ["code"] (defScope sFP):=⟨rfl,rfl,rfl,by decide +kernel,rfl,by decide +kernel,by decide +kernel⟩
local macro_rules | `(tactic| walk_at "T.e")=>`(tactic| (with_reducible exact pe_dnewT))
local macro_rules | `(tactic| walk_at "T.cmp")=>`(tactic| ((with_reducible refine' op_notInDict ?a1);(case a1=>exact Room.units (by assumption))))
local macro_rules | `(tactic| walk_at "T.g")=>`(tactic| ((with_reducible refine' g_subD ?a0 ?a1 ?a2);(case a0=>exact Room.units (by assumption));(case a1=>walk_at "T.e");(case a2=>walk_at "T.e")))
local macro_rules | `(tactic| walk_at "T.st")=>`(tactic| ((with_reducible refine' s_retF ?a1);(case a1=>walk_at "T.e")))
theorem ok_fp {P0:Addr} (D:FnX K mg "first_pairs" sFP ["code"]) (c1:Can P w K mg base "reached" 4 ["code"] (spReached P0)) (c2:Can P w K mg base "pair_steps" 1 ["code","one","other"] spPSteps):Can P w K mg base "first_pairs" 5 ["code"] (spFP P0):=by
 refine can_fn (k:=4) D scFP (fun vs H Q E h=>?_) (fun f cdv A outer s H vs Q E hr h=>?_)
 all_goals
  unfold spFP at h
  split at h
 ·rfl
 ·exact h.elim
 ·rename_i cv
  obtain ⟨k,n,rows,hc,ok,tb,q⟩:=h
  have nd:=scFP.nd
  have s8:=ok.s8
  refine ⟨_,(by walk_at "T.top"),?_⟩
  intro D hD
  have u1:=Same.upd (o:=.dT []) hD
  have hD1:upd H D (.dT []) D=some (.dT []):=upd_same
  have tb1:=tb.mono u1
  generalize upd H D (.dT [])=H1 at u1 hD1 tb1
  refine ⟨k,n,rows,hc.mono u1,ok,tb1,fun sl qs H2 s2 t2 nsl hsl pw mem q8=>?_⟩
  have rc:RchL rows qs:=⟨pw,mem,q8⟩
  have DP:D≠P0:=fun z=>by obtain ⟨ps,e⟩:=tb1.tbl;rw [<-z,hD1] at e;cases e
  have hD2:=s2 _ _ DP hD1
  have slD:sl≠D:=fun z=>by rw [z,hD1] at nsl;cases nsl
  have hc2:=(hc.mono u1).monoT tb1 s2
  have lt:∀ s∈qs,s < rows.length:=fun s hs=>Om.rch_ok ok _ ((mem s).mp hs)
  refine ⟨⟨_,SqL.of hsl⟩,?_⟩
  have SH:∀ {Hx:Hp},SameT D H2 Hx->SameT P0 H Hx:=fun {Hx} s3 b o nb e=>s3 _ _ (ne_of_none e hD) (s2 _ _ nb (u1 _ _ e))
  refine for_by (it_list _ sl (qs.map fun s=>V.int (s:Nat))) (fun i σ H3=>∃ (v2 v3 v4:Option V) (kvs:List (List Key×V)) (acc:List FEnt),σ=[some cv,some (.ref D),v2,v3,v4]/\SameT D H2 H3/\H3 D=some (.dT kvs)/\KD (acc.map (·.1)) kvs/\(∀ e∈acc,FAt H3 kvs e)/\acc=(qs.take i).foldl (stF rows) [])
   ⟨none,none,none,[],[],rfl,SameT.refl _ _,hD2,KD.nil,(fun e he=>nomatch he),rfl⟩ (fun i σ H3 _ ⟨_,_,_,_,_,_,s3,_⟩=>SqL.of (s3 _ _ slD hsl)) ?_ ?_
  ·rintro i v σ H3 hi hv ⟨v2,v3,v4,kvs,acc0,rfl,s3,hD3,kd,fa,ea⟩
   rw [List.length_map] at hi
   rw [List.getElem?_map,List.getElem?_eq_getElem hi] at hv
   cases hv
   have lti:=lt _ (List.getElem_mem hi)
   have hstep0:=Om.fold_take (stF rows) [] hi
   rw [<-ea] at hstep0
   generalize qs[i]=st at lti hstep0
   have hc3:DV H3 cv (codeD k n rows):=hc.monoT tb (SH s3)
   dsimp only [gName]
   refine ⟨k,n,rows,st,st,rfl,rfl,hc3,ok,lti,lti,fun l ss H4 s4 nl hst h64 hso hmem=>?_⟩
   have egs:gS rows (st,st)=ss:=Om.canon_eq (fun _ _=>Om.LtS.as) hso hmem
   obtain ⟨l',xs,e,hl,hxs⟩:=(show DV H4 (.ref l) (.list (ss.map sD)) from hst).lst_inv
   cases e
   have xl:xs.length=ss.length:=by rw [hxs.length,List.length_map]
   have hD4:=s4 _ _ hD3
   have lD:l≠D:=fun z=>by rw [z,hD3] at nl;cases nl
   refine ⟨⟨_,SqL.of hl⟩,?_⟩
   refine for_by (it_list _ l xs) (fun j σ H5=>∃ (v3 v4:Option V) (kvs:List (List Key×V)) (acc:List FEnt),σ=[some cv,some (.ref D),some (.int (st:Nat)),v3,v4]/\SameT D H4 H5/\H5 D=some (.dT kvs)/\KD (acc.map (·.1)) kvs/\(∀ e∈acc,FAt H5 kvs e)/\acc=(ss.take j).foldl (putF st) acc0)
    ⟨v3,v4,kvs,acc0,rfl,SameT.refl _ _,hD4,kd,(fun e he=>(fa e he).keep fun _ _ x=>s4 _ _ x),rfl⟩ (fun i σ H5 _ ⟨_,_,_,_,_,s5,_⟩=>SqL.of (s5 _ _ lD hl)) ?_ ?_
   ·clear kd fa
    rintro j z σ H5 hj hz ⟨v3,v4,kvs,acc,rfl,s5,hD5,kd,fa,ej⟩
    have hj':j < ss.length:=by rw [<-xl];exact hj
    have es:ss[j]? = some ss[j]:=List.getElem?_eq_getElem hj'
    have hstep:=Om.fold_take (putF st) acc0 hj'
    rw [<-ej] at hstep
    have sE:ss[j]∈ss:=List.getElem_mem hj'
    generalize ss[j]=sj at *
    obtain ⟨z',hz',dz⟩:=hxs.get (i:=j) (d:=sD sj) (by rw [List.getElem?_map,es];rfl)
    rw [hz] at hz'
    cases hz'
    obtain ⟨p,a,c,rfl,h1,h2,h3⟩:=sD_inv dz
    have tD:∀ {b:Addr} {ys:List V},H4 b=some (.tup ys)->H5 b=some (.tup ys):=fun {b ys} e=>s5 _ _ (ne_of e hD4 (fun z=>nomatch z)) e
    have ha5:=tD h2
    have hc5:H5 c=some (.tup ((kk sj.2).map kV)):=tD h3
    refine ⟨_,.inl (tD h1),rfl,rfl,?_⟩
    refine ⟨_,gt ha5 (by decide) rfl,_,gt ha5 (by decide) rfl,?_⟩
    refine ite2 (fun c1=>?_) (fun c1=>?_)
    ·have ne:sj.1.1≠sj.1.2:=fun z=>by rw [z] at c1;simp [rNeU,rEqU] at c1
     refine ⟨_,_,rfl,.inr ⟨kvs,kk sj.2,c,.inl hD5,rfl,hc5,rfl⟩,?_⟩
     refine ite2 (fun c2=>?_) (fun c2=>?_)
     ·have nin:sj.2 ∉ acc.map (·.1):=fun z=>by
       have:=kd.mem.mpr z
       rw [this] at c2;cases c2
      have hb:sj.2.1 < 8/\sj.2.2 < 8:=by
       obtain ⟨g1,g2,_,g4⟩:=(hmem sj).mp sE
       rw [g4]
       exact ⟨Nat.lt_of_lt_of_le (ok.stp g1).2.2 s8,Nat.lt_of_lt_of_le (ok.stp g2).2.2 s8⟩
      refine ⟨le_line (Nat.le_of_ble_eq_true rfl),fun t ht=>?_⟩
      have u6:=Same.upd (o:=.tup [.int (st:Nat),.ref a]) ht
      have ht6:upd H5 t (.tup [.int (st:Nat),.ref a]) t=some (.tup [.int (st:Nat),.ref a]):=upd_same
      have hD6:=u6 _ _ hD5
      generalize upd H5 t (.tup [.int (st:Nat),.ref a])=H6 at u6 ht6 hD6
      refine .inr ⟨_,_,rfl,.inr ⟨kvs,kk sj.2,c,hD6,rfl,u6 _ _ hc5,kd.lt_line,rfl⟩,?_⟩
      have kt:∀ {b:Addr} {ys:List V},H6 b=some (.tup ys)->upd H6 D (.dT (putK kvs (kk sj.2) (.ref t))) b=some (.tup ys):=fun {b ys} e=>by rw [upd_ne (ne_of e hD6 (fun z=>nomatch z))];exact e
      refine ⟨_,_,_,acc++[(sj.2,(st,sj.1))],rfl,fun b o nb e=>by rw [upd_ne nb];exact u6 _ _ (s5 _ _ nb e),upd_same,?_,fun e he=>?_,?_⟩
      ·rw [List.map_append]
       exact kd.put (v:=.ref t) nin hb.1 hb.2
      ·rcases List.mem_append.mp he with he | he
       ·obtain ⟨t',la,k1,k2,k3⟩:=fa e he
        have nee:e.1≠sj.2:=fun z=>nin (z ▸ List.mem_map_of_mem he)
        exact ⟨t',la,by rw [valV_put_ne nee];exact k1,kt (u6 _ _ k2),kt (u6 _ _ k3)⟩
       ·have:e=(sj.2,(st,sj.1)):=by simpa using he
        subst this
        exact ⟨t,a,valV_put_eq,kt ht6,kt (u6 _ _ ha5)⟩
      ·rw [hstep]
       unfold putF
       rw [if_neg (fun z=>z.elim ne nin)]
     ·have isin:sj.2∈acc.map (·.1):=kd.mem.mp (by
       cases hq:(valV kvs (kk sj.2)).isSome with
       | true=>rfl
       | false=>rw [hq] at c2;exact absurd rfl c2)
      exact ⟨_,_,kvs,acc,rfl,s5,hD5,kd,fa,by rw [hstep];unfold putF;rw [if_pos (.inr isin)]⟩
    ·have eq:sj.1.1=sj.1.2:=by
      by_cases e:sj.1.1=sj.1.2
      ·exact e
      ·exact absurd (by show (!decide (((sj.1.1:Nat):Int)=((sj.1.2:Nat):Int)))=true;rw [decide_eq_false (fun z=>e (by omega))];rfl) c1
     exact ⟨_,_,kvs,acc,rfl,s5,hD5,kd,fa,by rw [hstep];unfold putF;rw [if_pos (.inl eq)]⟩
   ·rintro σ H5 ⟨v3,v4,kvs,acc,rfl,s5,hD5,kd,fa,ej⟩
    refine ⟨_,_,_,kvs,acc,rfl,fun b o nb e=>s5 _ _ nb (s4 _ _ (s3 _ _ nb e)),hD5,kd,fa,?_⟩
    rw [xl,List.take_length] at ej
    rw [hstep0,ej]
    show _=(gS rows (st,st)).foldl (putF st) acc0
    rw [egs]
  ·rintro σ H3 ⟨v2,v3,v4,kvs,acc,rfl,s3,hD3,kd,fa,ea⟩
   rw [List.length_map,List.take_length] at ea
   refine .inl ⟨_,hD3,trivial,fun o=>?_⟩
   have kf:∀ b ys,H3 b=some (.tup ys)->upd H3 D (.frz o (.dT kvs)) b=some (.tup ys):=fun b ys e=>by rw [upd_ne (ne_of e hD3 (fun z=>nomatch z))];exact e
   have s4:SameT D H2 (upd H3 D (.frz o (.dT kvs))):=fun b u nb e=>by rw [upd_ne nb];exact s3 _ _ nb e
   refine q _ qs _ (SH s4) (Tab.offD t2 (Ne.symm DP) hD2 s4) rc ⟨D,o,kvs,rfl,upd_same,by unfold fpF;rw [<-ea];exact kd,fun e he=>(fa e (by rw [ea];exact he)).keep kf⟩
 ·exact h.elim
end
end K37
end
section
namespace K37
open PySem L2
section
variable {P:Program} {w:World} {K:PySem.W.Frag} {mg:Str->Option Value} {base:Heap}
abbrev sLayer:Stmt:=top 9
def spLayer:Sp:=fun vs H Q _=>match vs with
 | [lv,gv]=>∃ (c:Nat) (lks gks:List (Nat×Nat)) (g:Nat×Nat->List Om.Stp),LyK H lv lks/\GrX c H gv gks g/\(∀ p∈lks,p∈gks)/\(∀ p∈gks,∀ s∈g p,s.2∈gks)/\∀ v H',Same H H'->LyX H' v (Om.behE g lks)->Q v H'
 | _=>False
theorem scLayer:FnScope ["layer","graph","behind","node","label","to"] ["layer","graph"] (defScope sLayer):=⟨rfl,rfl,rfl,by decide +kernel,rfl,by decide +kernel,by decide +kernel⟩
local macro_rules | `(tactic| walk_at "T.e")=>`(tactic| first | (with_reducible exact pe_dnewT) | ((with_reducible refine' ix_atD ?a0 ?a1 ?a2);(case a0=>exact Room.units (by assumption));(case a1=>walk_at "T.e");(case a2=>walk_at "T.e")))
local macro_rules | `(tactic| walk_at "T.i")=>`(tactic| ((with_reducible refine' pi_lstD ?a1);(case a1=>walk_at "T.e")))
local macro_rules | `(tactic| walk_at "T.cmp")=>`(tactic| ((with_reducible refine' op_notInDict ?a1);(case a1=>exact Room.units (by assumption))))
local macro_rules | `(tactic| walk_at "T.g")=>`(tactic| ((with_reducible refine' g_subD ?a0 ?a1 ?a2);(case a0=>exact Room.units (by assumption));(case a1=>walk_at "T.e");(case a2=>walk_at "T.e")))
local macro_rules | `(tactic| walk_at "T.st")=>`(tactic| ((with_reducible refine' s_retF ?a1);(case a1=>walk_at "T.e")))
theorem ok_layer (D:FnX K mg "layer_behind" sLayer ["layer","graph"]):Can P w K mg base "layer_behind" 1 ["layer","graph"] spLayer:=by
 refine can_fn (k:=0) D scLayer (fun vs H Q E h=>?_) (fun f cdv A outer s H vs Q E hr h=>?_)
 all_goals
  unfold spLayer at h
  split at h
 ·rfl
 ·exact h.elim
 ·rename_i lv gv
  obtain ⟨cN,lks,gks,g,hly,hgr,hsub,hcl,q⟩:=h
  have nd:=scLayer.nd
  obtain ⟨la,lo,lkvs,rfl,hla,lkd⟩:=hly
  obtain ⟨ga,go,gkvs,rfl,hga,gkd,gst⟩:=hgr
  refine ⟨_,(by walk_at "T.top"),?_⟩
  intro D hD
  have M0:=Gd.start hD
  refine .inr (.inl ⟨lo,lkvs,M0.all _ _ hla,fun bs hbs=>?_⟩)
  have hbl:=lkd.blen hbs
  have hbsH:KeysAt H lkvs bs:=Paired.mapP hbs fun x b e=>by
   have:b≠D:=fun z=>by subst z;rw [upd_same] at e;cases e
   rw [upd_ne this] at e;exact e
  have le:lks.length<=64:=lkd.le
  refine for_by (it_keys la lo (bs.map V.ref)) (fun i σ H2=>∃ (v3 v4 v5:Option V) (G:Hp) (kvs:List (List Key×V)) (acc:List Om.Ent),σ=[some (.ref la),some (.ref ga),some (.ref D),v3,v4,v5]/\Gd G H H2 D kvs/\KeysAt H2 lkvs bs/\KD (acc.map (·.1)) kvs/\(∀ e∈acc,EntAt G kvs e)/\acc=(lks.take i).foldl (Om.nodeE g) [])
   ⟨none,none,none,_,[],[],rfl,M0,hbs,KD.nil,(fun p hp=>nomatch hp),rfl⟩ (fun i σ H2 _ ⟨_,_,_,_,_,_,_,M,_⟩=>⟨_,M.all _ _ hla⟩) ?_ ?_
  ·rintro i z σ H2 hi hz ⟨v3,v4,v5,G,kvs,acc0,rfl,M,hb2,kd,hst,hm0⟩
   have hi':i < lks.length:=by rw [<-hbl];exact hi
   obtain ⟨b,rfl,hb⟩:=lkd.key hb2 hi' hz
   have hbH:H b=some (.tup ((kk lks[i]).map kV)):=by
    obtain ⟨b',e,h⟩:=lkd.key hbsH hi' hz
    cases e;exact h
   have pg:lks[i]∈gks:=hsub _ (List.getElem_mem hi')
   obtain ⟨l,g1,g2,g3⟩:=gst lks[i] pg
   obtain ⟨l',xs,e,hl,hxs⟩:=g2.lst_inv
   cases e
   have hgb:DGet H2 ga (.ref b) (some (.ref l)):=.inr ⟨gkvs,kk lks[i],b,.inr ⟨go,M.all _ _ hga⟩,rfl,hb,g1.symm⟩
   refine .inr ⟨_,_,rfl,hgb,?_⟩
   refine .inl ⟨⟨_,SqL.of (M.all _ _ hl)⟩,?_⟩
   have xl:xs.length=(g lks[i]).length:=by rw [hxs.length,List.length_map]
   refine for_by (it_list _ l xs) (fun j σ H3=>∃ (v4 v5:Option V) (G:Hp) (kvs:List (List Key×V)) (acc:List Om.Ent),σ=[some (.ref la),some (.ref ga),some (.ref D),some (.ref b),v4,v5]/\Gd G H H3 D kvs/\KeysAt H3 lkvs bs/\KD (acc.map (·.1)) kvs/\(∀ e∈acc,EntAt G kvs e)/\H3 b=some (.tup ((kk lks[i]).map kV))/\acc=((g lks[i]).take j).foldl (Om.putE lks[i]) acc0)
    ⟨v4,v5,G,kvs,acc0,rfl,M,hb2,kd,hst,hb,rfl⟩ (fun i σ H2 _ ⟨_,_,_,_,_,_,M,_⟩=>SqL.of (M.all _ _ hl)) ?_ ?_
   ·rintro j z σ H3 hj hz ⟨v4,v5,G,kvs,acc,rfl,M,hb2,kd,hst,hb,hm⟩
    have hj':j < (g lks[i]).length:=by rw [<-xl];exact hj
    have es:(g lks[i])[j]? = some (g lks[i])[j]:=List.getElem?_eq_getElem hj'
    have hstep:=Om.fold_take (Om.putE lks[i]) acc0 hj'
    rw [<-hm] at hstep
    have sE:(g lks[i])[j]∈g lks[i]:=List.getElem_mem hj'
    generalize (g lks[i])[j]=sj at *
    obtain ⟨z',hz',dz⟩:=hxs.get (i:=j) (d:=sD sj) (by rw [List.getElem?_map,es];rfl)
    rw [hz] at hz'
    cases hz'
    obtain ⟨p,a,c,rfl,h1,h2,h3⟩:=sD_inv dz
    refine ⟨_,.inl (M.all _ _ h1),rfl,rfl,?_⟩
    have hc3:H3 c=some (.tup ((kk sj.2).map kV)):=M.all _ _ h3
    refine ⟨_,_,rfl,.inr ⟨kvs,kk sj.2,c,.inl M.hD,rfl,hc3,rfl⟩,?_⟩
    refine ite2 (fun c1=>?_) (fun c1=>?_)
    ·have nin:sj.2 ∉ acc.map (·.1):=fun z=>by
      have:=kd.mem.mpr z
      rw [this] at c1;cases c1
     rw [Om.putE_new nin] at hstep
     refine ⟨le_line (Nat.le_of_ble_eq_true rfl),fun t ht=>?_⟩
     have M1:=M.put (o:=.tup [.ref b,.ref a]) ht
     have tD:D≠t:=ne_of_none M.hD ht
     have b8:=gkd.lt _ (hcl _ pg _ sE)
     refine .inr ⟨_,_,rfl,.inr ⟨kvs,kk sj.2,c,M1.hD,rfl,Same.upd ht _ _ hc3,kd.lt_line,rfl⟩,?_⟩
     have sm:Same H3 (upd H3 t (.tup [.ref b,.ref a])):=Same.upd ht
     refine ⟨_,_,_,_,acc++[(sj.2,(lks[i],sj.1))],rfl,M1.set,?_,?_,?_,?_,hstep.symm⟩
     ·refine Paired.mapP hb2 fun p b' h=>?_
      have:b'≠D:=ne_of h M.hD (fun z=>nomatch z)
      rw [upd_ne this];exact sm _ _ h
     ·rw [List.map_append]
      exact kd.put (v:=.ref t) nin b8.1 b8.2
     ·intro e he
      have U1:=M.up (o:=.tup [.ref b,.ref a]) ht
      rcases List.mem_append.mp he with he | he
      ·obtain ⟨t',pa,la',k1,k2,k3,k4⟩:=hst e he
       have ne:e.1≠sj.2:=fun z=>nin (z ▸ List.mem_map_of_mem he)
       exact ⟨t',pa,la',by rw [valV_put_ne ne];exact k1,U1 _ _ k2,U1 _ _ k3,U1 _ _ k4⟩
      ·have:e=(sj.2,(lks[i],sj.1)):=by simpa using he
       subst this
       exact ⟨t,b,a,valV_put_eq,upd_same,U1 _ _ (M.s0 _ _ hbH),U1 _ _ (M.s0 _ _ h2)⟩
     ·have:b≠D:=ne_of hb M.hD (fun z=>nomatch z)
      rw [upd_ne this];exact sm _ _ hb
    ·have isin:sj.2∈acc.map (·.1):=kd.mem.mp (by
      cases hq:(valV kvs (kk sj.2)).isSome with
      | true=>rfl
      | false=>rw [hq] at c1;exact absurd rfl c1)
     rw [Om.putE_old isin] at hstep
     exact ⟨_,_,G,kvs,acc,rfl,M,hb2,kd,hst,hb,hstep.symm⟩
   ·rintro σ H3 ⟨v4,v5,G,kvs,acc,rfl,M,hb2,kd,hst,hb,hm⟩
    refine ⟨_,_,_,G,kvs,acc,rfl,M,hb2,kd,hst,?_⟩
    rw [xl,List.take_length] at hm
    rw [Om.fold_take _ _ hi',<-hm0]
    exact hm
  ·rintro σ H2 ⟨v3,v4,v5,G,kvs,acc,rfl,M,hb2,kd,hst,hm⟩
   rw [hbl,List.take_length] at hm
   refine .inl ⟨_,M.hD,trivial,fun o=>?_⟩
   refine q _ _ (M.s0.trans M.frz) ?_
   show LyX _ _ (lks.foldl (Om.nodeE g) [])
   rw [<-hm]
   exact ⟨D,o,kvs,rfl,upd_same,kd,fun e he=>(hst e he).mono M.frz⟩
 ·exact h.elim
end
end K37
end
section
namespace K37
open PySem L2
def LyT8 (H:Hp) (v:V) (g:Nat×Nat->List Om.Stp) (fs:List FEnt):Nat->Prop
 | 0=>LyF H v fs
 | i+1=>LyX H v (Om.lay g (fs.map (·.1)) (i+1))
section
variable {H H':Hp} {v:V} {g:Nat×Nat->List Om.Stp} {fs:List FEnt}
theorem LyT8.mono (s:Same H H'):∀ {i:Nat},LyT8 H v g fs i->LyT8 H' v g fs i
 | 0,h=>LyF.mono h s
 | _+1,h=>LyX.mono h s
theorem LyT8.k:∀ {i:Nat},LyT8 H v g fs i->LyK H v (Om.layK g (fs.map (·.1)) i)
 | 0,h=>by
  obtain ⟨a,o,kvs,e,h1,h2,h3⟩:=(show LyF H v fs from h)
  rw [Om.layK_zero]
  exact ⟨a,o,kvs,e,h1,h2⟩
 | _+1,h=>LyX.k h
theorem LyF.updR {L:Addr} {xs ys:List V} (hL:H L=some (.lst xs)) (h:LyF H v fs):LyF (upd H L (.lst ys)) v fs:=by
 obtain ⟨a,o,kvs,e,h1,h2,h3⟩:=h
 exact ⟨a,o,kvs,e,noL hL h1 (fun _ z=>nomatch z),h2,fun e he=>(h3 e he).keep fun b ws x=>noL hL x (fun _ z=>nomatch z)⟩
theorem LyT8.updR {L:Addr} {xs ys:List V} (hL:H L=some (.lst xs)):∀ {i:Nat},LyT8 H v g fs i->LyT8 (upd H L (.lst ys)) v g fs i
 | 0,h=>LyF.updR hL h
 | _+1,h=>LyX.updR hL h
end
section
variable {P:Program} {w:World} {K:PySem.W.Frag} {mg:Str->Option Value} {base:Heap}
abbrev sLayers:Stmt:=top 8
def spLayers:Sp:=fun vs H Q _=>match vs with
 | [fv,.ref ga]=>∃ (c:Nat) (fs:List FEnt) (gks:List (Nat×Nat)) (g:Nat×Nat->List Om.Stp),LyF H fv fs/\GrX c H (.ref ga) gks g/\(∀ p∈fs.map (·.1),p∈gks)/\(∀ p∈gks,∀ s∈g p,s.2∈gks) ∧
   ∀ l (vs:List V) H',Same H H'->H l=none->H' l=some (.lst vs)->(∀ i v,vs[i]? = some v->LyT8 H' v g fs i)->(∀ i,i < vs.length->Om.layK g (fs.map (·.1)) i≠[])->vs.length<=gks.length+1->(vs.length=gks.length+1\/Om.layK g (fs.map (·.1)) vs.length=[])->Q (.ref l) H'
 | _=>False
theorem scLayers:FnScope ["first","graph","layers","layer"] ["first","graph"] (defScope sLayers):=⟨rfl,rfl,rfl,by decide +kernel,rfl,by decide +kernel,by decide +kernel⟩
local macro_rules | `(tactic| walk_at "T.t")=>`(tactic| ((with_reducible refine' t_truD ?a1);(case a1=>walk_at "T.n")))
local macro_rules | `(tactic| walk_at "T.b")=>`(tactic| ((with_reducible refine' fn_lenD ?a0 ?a9 ?a1);(case a0=>with_reducible assumption);(case a9=>rfl);(case a1=>walk_at "T.a")))
theorem ok_layers (D:FnX K mg "layers_of" sLayers ["first","graph"]) (g1:mg "len" = none) (c1:Can P w K mg base "layer_behind" 1 ["layer","graph"] spLayer):Can P w K mg base "layers_of" 2 ["first","graph"] spLayers:=by
 refine can_fn (k:=1) D scLayers (fun vs H Q E h=>?_) (fun f cdv A outer s H vs Q E hr h=>?_)
 all_goals
  unfold spLayers at h
  split at h
 ·rfl
 ·exact h.elim
 ·rename_i fv ga
  obtain ⟨c,fs,gks,g,hly,hgr,hsub,hcl,q⟩:=h
  obtain ⟨gkvs,rdg,gsz,s64⟩ : ∃ kvs,Rd H ga (.dT kvs)/\kvs.length=gks.length/\gks.length<=64:=by
   obtain ⟨a,o,kvs,e,h1,h2,_⟩:=hgr
   cases e
   exact ⟨kvs,.inr ⟨o,h1⟩,h2.len,h2.le⟩
  have nd:=scLayers.nd
  refine ⟨_,(by walk_at "T.top"),?_⟩
  refine ⟨Nat.zero_le _,fun L hL=>?_⟩
  have iR0:=Om.layK_in hsub hcl
  refine ⟨fun m σ H2=>∃ (v:V) (vs:List V),σ=[some fv,some (.ref ga),some (.ref L),some v]/\m+vs.length=gks.length+1/\Same H H2/\H2 L=some (.lst vs)/\LyT8 H2 v g fs vs.length/\(∀ i v,vs[i]? = some v->LyT8 H2 v g fs i)/\∀ i,i < vs.length->Om.layK g (fs.map (·.1)) i≠[],
   ⟨gks.length+1,fv,[],rfl,rfl,Same.upd hL,upd_same,hly.mono (Same.upd hL),(fun i v h=>by simp at h),(fun i h=>absurd h (Nat.not_lt_zero _))⟩,?_⟩
  rintro m σ H2 ⟨v,vs,rfl,hm,s2,h2,l2,hv2,hne⟩
  have l2':=l2
  obtain ⟨va,vo,vkvs,rfl,hva,vkd⟩:=l2.k
  have rd2:Rd H2 ga (.dT gkvs):=by
   rcases rdg with h | ⟨o,h⟩
   ·exact .inl (s2 _ _ h)
   ·exact .inr ⟨o,s2 _ _ h⟩
  have key:Om.layK g (fs.map (·.1)) vs.length≠[]↔vkvs≠[]:=by
   have ln:=vkd.len
   constructor
   ·intro h z
    rw [z] at ln
    exact h (List.length_eq_zero_iff.mp (by simpa using ln.symm))
   ·intro h z
    rw [z] at ln
    exact h (List.length_eq_zero_iff.mp (by simpa using ln))
  refine .inr (.inr ⟨vkvs,.inr ⟨vo,hva⟩,?_⟩)
  cases hvk:vkvs with
  | nil=>
   refine iteF (iteF ?_)
   refine q L vs _ s2 hL h2 hv2 hne (by omega) (.inr ?_)
   by_cases z:Om.layK g (fs.map (·.1)) vs.length=[]
   ·exact z
   ·exact absurd hvk (key.mp z)
  | cons kv0 kvr=>
   refine iteP rfl ?_
   have ne:Om.layK g (fs.map (·.1)) vs.length≠[]:=key.mpr (by rw [hvk];exact fun z=>nomatch z)
   refine .inr ⟨_,lenL h2,?_⟩
   refine .inl ⟨ga,gkvs,rfl,rd2,by omega,?_⟩
   rw [gsz]
   dsimp only [rN0]
   by_cases le:vs.length<=gks.length
   ·rw [decide_eq_true (by omega)]
    refine iteP rfl ?_
    refine ⟨fun σ' H'=>∃ (v:V),σ'=[some fv,some (.ref ga),some (.ref L),some v]/\Same H H'/\H' L=some (.lst (vs++[.ref va]))/\LyT8 H' v g fs (vs.length+1)/\(∀ i v,(vs++[.ref va])[i]? = some v->LyT8 H' v g fs i),?_,?_⟩
    ·rintro σ' H' ⟨v',rfl,s',h',l',hv'⟩
     refine ⟨m - 1,by omega,v',vs++[.ref va],rfl,by rw [List.length_append];simp;omega,s',h',by rw [List.length_append];exact l',hv',fun i hi=>?_⟩
     rw [List.length_append] at hi
     by_cases e:i=vs.length
     ·subst e;exact ne
     ·exact hne i (by simp at hi;omega)
    ·refine ⟨⟨_,rfl,h2⟩,_,h2,lt_line (by omega),?_⟩
     have s3:Same H (upd H2 L (.lst (vs++[.ref va]))):=s2.own hL
     refine ⟨c,_,gks,g,(LyT8.updR h2 l2').k,hgr.mono s3,iR0 _,hcl,fun v' H4 s4 l4=>?_⟩
     refine ⟨v',rfl,s3.trans s4,s4 _ _ upd_same,l4,fun i u hu=>?_⟩
     by_cases e:i < vs.length
     ·rw [List.getElem?_append_left e] at hu
      exact LyT8.mono s4 (LyT8.updR h2 (hv2 i u hu))
     ·rw [List.getElem?_append_right (by omega)] at hu
      have e2:i - vs.length=0:=by
       cases h:i - vs.length with
       | zero=>rfl
       | succ _=>rw [h] at hu;simp at hu
      rw [e2] at hu
      have:u = .ref va:=by simpa using hu.symm
      subst this
      have:i=vs.length:=by omega
      subst this
      exact LyT8.mono s4 (LyT8.updR h2 l2')
   ·rw [decide_eq_false (by omega)]
    refine iteF ?_
    exact q L vs _ s2 hL h2 hv2 hne (by omega) (.inl (by omega))
 ·exact h.elim
end
section
variable {P:Program} {w:World} {K:PySem.W.Frag} {mg:Str->Option Value} {base:Heap}
abbrev sComes:Stmt:=top 10
def spComes:Sp:=fun vs H Q _=>match vs with
 | [.ref l,.ref ga]=>∃ (xs:List V) (kvs:List (List Key×V)),H l=some (.lst xs)/\Rd H ga (.dT kvs)/\kvs.length<=64/\Q (.bl (decide (kvs.length < xs.length))) H
 | _=>False
theorem scComes:FnScope ["layers","graph"] ["layers","graph"] (defScope sComes):=⟨rfl,rfl,rfl,by decide +kernel,rfl,by decide +kernel,by decide +kernel⟩
local macro_rules | `(tactic| walk_at "T.b")=>`(tactic| ((with_reducible refine' fn_lenD ?a0 ?a9 ?a1);(case a0=>with_reducible assumption);(case a9=>rfl);(case a1=>walk_at "T.a")))
theorem ok_comes (D:FnX K mg "comes_back" sComes ["layers","graph"]) (g1:mg "len" = none):Can P w K mg base "comes_back" 1 ["layers","graph"] spComes:=by
 refine can_fn (k:=0) D scComes (fun vs H Q E h=>?_) (fun f cdv A outer s H vs Q E hr h=>?_)
 all_goals
  unfold spComes at h
  split at h
 ·rfl
 ·exact h.elim
 ·rename_i l ga
  obtain ⟨xs,kvs,hl,rd,k64,q⟩:=h
  have nd:=scComes.nd
  refine ⟨_,(by walk_at "T.top1"),?_⟩
  refine .inr ⟨_,lenL hl,?_⟩
  refine .inl ⟨ga,kvs,rfl,rd,by omega,?_⟩
  dsimp only [rN0]
  have e:decide (((xs.length:Nat):Int) > ((kvs.length:Nat):Int))=decide (kvs.length < xs.length):=by
   rw [Bool.eq_iff_iff,decide_eq_true_eq,decide_eq_true_eq];omega
  rw [e]
  exact q
 ·exact h.elim
end
end K37
end
section
namespace K37
open PySem L2
def Kp (H H':Hp):Prop:=∀ b o,(∀ ps,o≠.tbl ps)->H b=some o->H' b=some o
theorem SameT.kp {P0:Addr} {c:Pos} {q:Str} {H H':Hp} (tb:Tab P0 c q H) (s:SameT P0 H H'):Kp H H':=fun b o n e=>s _ _ (fun z=>by obtain ⟨ps,e'⟩:=tb.tbl;rw [z,e'] at e;exact n ps (Option.some.inj e).symm) e
theorem Kp.trans {H H1 H2:Hp} (a:Kp H H1) (b:Kp H1 H2):Kp H H2:=fun c o n h=>b c o n (a c o n h)
theorem Kp.lst {H H':Hp} (s:Kp H H') {b:Addr} {xs:List V} (h:H b=some (.lst xs)):H' b=some (.lst xs):=s _ _ (fun ps z=>nomatch z) h
theorem Kp.tup {H H':Hp} (s:Kp H H') {b:Addr} {xs:List V} (h:H b=some (.tup xs)):H' b=some (.tup xs):=s _ _ (fun ps z=>nomatch z) h
mutual
theorem DV.kp {H H':Hp} (s:Kp H H'):∀ {v:V} {d:PyData},DV H v d->DV H' v d
 | _,_,.non=>.non
 | _,_,.bl b=>.bl b
 | _,_,.int i=>.int i
 | _,_,.str x=>.str x
 | _,_,.lst h r=>.lst (s.lst h) (DVs.kp s r)
 | _,_,.tup h r=>.tup (s.tup h) (DVs.kp s r)
 | _,_,.dic h=>.dic (s _ _ (fun ps z=>nomatch z) h)
theorem DVs.kp {H H':Hp} (s:Kp H H'):∀ {vs:List V} {ds:List PyData},DVs H vs ds->DVs H' vs ds
 | _,_,.nil=>.nil
 | _,_,.cons h r=>.cons (DV.kp s h) (DVs.kp s r)
end
theorem GrO.xg {c:Nat} {H:Hp} {v:V} {qs:List Nat} {rows:Om.Rows} (h:GrO c Om.LtS H v (fun x y=>x∈qs/\y∈qs) (Om.St rows)):GrX c H v (gK qs) (gS rows)/\(∀ p,p∈gK qs↔p.1∈qs/\p.2∈qs)/\∀ p∈gK qs,∀ s,s∈gS rows p↔Om.St rows p.1 p.2 s:=by
 obtain ⟨a,o,kvs,ks,e,h1,h2,h3,h5,h4⟩:=h
 have ek:gK qs=ks:=Om.canon_eq (fun _ _=>Om.LtL.as) h5 fun p=>h3 p.1 p.2
 rw [ek]
 refine ⟨⟨a,o,kvs,e,h1,h2,fun p hp=>?_⟩,fun p=>h3 p.1 p.2,fun p hp=>?_⟩
 ·obtain ⟨l,ss,q1,q2,q3,q5,q4⟩:=h4 p hp
  have eb:gS rows p=ss:=Om.canon_eq (fun _ _=>Om.LtS.as) q5 q4
  rw [eb]
  exact ⟨l,q1,q2,q3⟩
 ·obtain ⟨l,ss,q1,q2,q3,q5,q4⟩:=h4 p hp
  have eb:gS rows p=ss:=Om.canon_eq (fun _ _=>Om.LtS.as) q5 q4
  rw [eb]
  exact q4
theorem GrX.kp {c:Nat} {H H':Hp} {v:V} {gks:List (Nat×Nat)} {g:Nat×Nat->List Om.Stp} (h:GrX c H v gks g) (s:Kp H H'):GrX c H' v gks g:=by
 obtain ⟨a,o,kvs,e,h1,h2,h3⟩:=h
 refine ⟨a,o,kvs,e,s _ _ (fun ps z=>nomatch z) h1,h2,fun p hp=>?_⟩
 obtain ⟨l,q1,q2,q3⟩:=h3 p hp
 exact ⟨l,q1,DV.kp s q2,q3⟩
noncomputable def lyN (rows:Om.Rows) (qs:List Nat) (i:Nat):List (Nat×Nat):=Om.layK (gS rows) ((fpF rows qs).map (·.1)) i
def BackL (rows:Om.Rows) (qs:List Nat):Prop:=lyN rows qs (gK qs).length≠[]
def DL (rows:Om.Rows) (qs:List Nat) (d:Nat):Prop:=(∀ i,i < d->lyN rows qs i≠[])/\lyN rows qs d=[]
theorem lyN_nil {rows:Om.Rows} {qs:List Nat} {i:Nat} (h:lyN rows qs i=[]):∀ j,lyN rows qs (i+j)=[]
 | 0=>h
 | j+1=>by
  have ih:=lyN_nil h j
  refine List.eq_nil_iff_forall_not_mem.mpr fun p hp=>?_
  obtain ⟨q,h1,_⟩:=Om.layK_succ.mp (show p∈Om.layK _ _ (i+j+1) from hp)
  have h1:q∈lyN rows qs (i+j):=h1
  rw [ih] at h1
  cases h1
section
variable {P:Program} {w:World} {K:PySem.W.Frag} {mg:Str->Option Value} {base:Heap}
theorem graph_on {k n:Nat} {rows:Om.Rows} (ok:Om.CodeOk k n rows) {qs:List Nat} (rc:RchL rows qs) (gm:∀ p,p∈gK qs↔p.1∈qs/\p.2∈qs) (gst:∀ p∈gK qs,∀ s,s∈gS rows p↔Om.St rows p.1 p.2 s) :
  (∀ p∈gK qs,∀ s∈gS rows p,s.2∈gK qs)/\∀ p∈(fpF rows qs).map (·.1),p∈gK qs:=by
 have cl:∀ p∈gK qs,∀ s∈gS rows p,s.2∈gK qs:=fun p hp s hs=>by
  obtain ⟨g1,g2,_,g4⟩:=(gst p hp s).mp hs
  have st:∀ {x l:Nat},x∈qs->l < (rows.getD x []).length->(Om.step rows x l).2∈qs:=fun {x l} hx hl=>by
   refine (rc.2.1 _).mpr (.s ((rc.2.1 _).mp hx) (List.mem_map.mpr ⟨Om.step rows x l,?_,rfl⟩))
   unfold Om.step
   rw [List.getD_eq_getElem?_getD (l:=rows.getD x []),List.getElem?_eq_getElem hl]
   exact List.getElem_mem hl
  obtain ⟨m1,m2⟩:=(gm p).mp hp
  rw [gm,g4]
  exact ⟨st m1 g1,st m2 g2⟩
 refine ⟨cl,fun p hp=>?_⟩
 obtain ⟨e,he,rfl⟩:=List.mem_map.mp hp
 obtain ⟨s,hs,t,ht,rfl,_⟩:=fp_mem he
 exact cl (s,s) ((gm _).mpr ⟨hs,hs⟩) t ht
def GOn (rows:Om.Rows) (qs:List Nat):Prop:=(∀ p,p∈gK qs↔p.1∈qs/\p.2∈qs)/\∀ p∈gK qs,∀ s,s∈gS rows p↔Om.St rows p.1 p.2 s
abbrev sLate:Stmt:=top 12
def spLate (P0:Addr):Sp:=fun vs H Q _=>match vs with
 | [cv]=>∃ (k n:Nat) (rows:Om.Rows),DV H cv (codeD k n rows)/\Om.CodeOk k n rows/\Tab P0 (lamPos lamSt) qSt H ∧
   (∀ (qs:List Nat) H',SameT P0 H H'->Tab P0 (lamPos lamSt) qSt H'->RchL rows qs->GOn rows qs->BackL rows qs->Q .non H') ∧
   ∀ (d:Nat) (qs:List Nat) H',SameT P0 H H'->Tab P0 (lamPos lamSt) qSt H'->RchL rows qs->GOn rows qs->¬ BackL rows qs->DL rows qs d->d<=64->Q (.int (d:Nat)) H'
 | _=>False
theorem scLate:FnScope ["code","graph","layers"] ["code"] (defScope sLate):=⟨rfl,rfl,rfl,by decide +kernel,rfl,by decide +kernel,by decide +kernel⟩
local macro_rules | `(tactic| walk_at "T.e")=>`(tactic| ((with_reducible refine' pe_ifExp ?a1 ?a2 ?a3);(case a1=>walk_at "T.t");(case a2=>walk_at "T.e");(case a3=>walk_at "T.e")))
theorem ok_late {P0:Addr} (D:FnX K mg "late" sLate ["code"]) (g1:mg "len" = none) (c1:Can P w K mg base "pair_graph" 2 ["code","states"] spGraph) (c2:Can P w K mg base "reached" 4 ["code"] (spReached P0)) (c3:Can P w K mg base "layers_of" 2 ["first","graph"] spLayers) (c4:Can P w K mg base "first_pairs" 5 ["code"] (spFP P0)) (c5:Can P w K mg base "comes_back" 1 ["layers","graph"] spComes):Can P w K mg base "late" 6 ["code"] (spLate P0):=by
 refine can_fn (k:=5) D scLate (fun vs H Q E h=>?_) (fun f cdv A outer s H vs Q E hr h=>?_)
 all_goals
  unfold spLate at h
  split at h
 ·rfl
 ·exact h.elim
 ·rename_i cv
  obtain ⟨k,n,rows,hc,ok,tb,qn,qt⟩:=h
  have nd:=scLate.nd
  refine ⟨_,(by walk_at "T.top"),?_⟩
  refine ⟨k,n,rows,hc,ok,tb,fun sl qs H1 s1 t1 nsl hsl pw mem q8=>?_⟩
  have rc:RchL rows qs:=⟨pw,mem,q8⟩
  refine ⟨k,n,rows,qs,hc.monoT tb s1,ok,hsl,pw,fun s hs=>Om.rch_ok ok _ ((mem s).mp hs),fun gv H2 s2 g0=>?_⟩
  obtain ⟨gx,gm,gst⟩:=GrO.xg g0
  have t2:=t1.mono s2
  have S2:SameT P0 H H2:=s1.trans s2.t
  dsimp only [gName]
  refine ⟨k,n,rows,hc.monoT tb S2,ok,t2,fun fv qs' H3 s3 t3 rc' lf=>?_⟩
  have qe:=rc'.uniq rc
  subst qe
  have gx3:=GrX.kp gx (SameT.kp t2 s3)
  obtain ⟨cl,hsub⟩:=graph_on ok rc gm gst
  obtain ⟨ga,go,gkvs,rfl,hga,gkd,_⟩:=id gx3
  have gl64:gkvs.length<=64:=by rw [gkd.len];exact gkd.le
  refine ⟨64,_,_,_,lf,gx3,hsub,cl,fun l vs H4 s4 nl h4 hv hne hle hend=>?_⟩
  have S4:SameT P0 H H4:=(S2.trans s3).trans s4.t
  have t4:=t3.mono s4
  refine ⟨vs,gkvs,h4,.inr ⟨go,s4 _ _ hga⟩,gl64,?_⟩
  rw [gkd.len]
  by_cases e:(gK qs').length < vs.length
  ·rw [decide_eq_true e]
   refine iteP rfl ?_
   exact qn qs' _ S4 t4 rc ⟨gm,gst⟩ (hne _ e)
  ·rw [decide_eq_false e]
   refine iteF ?_
   have e0:lyN rows qs' vs.length=[]:=hend.resolve_left (by omega)
   refine ⟨_,lenL h4,?_⟩
   refine qt vs.length qs' _ S4 t4 rc ⟨gm,gst⟩ (fun z=>z ?_) ⟨hne,e0⟩ (by rw [gkd.len] at gl64;omega)
   have:=lyN_nil e0 ((gK qs').length - vs.length)
   rwa [show vs.length+((gK qs').length - vs.length)=(gK qs').length by omega] at this
 ·exact h.elim
end
end K37
end
section
namespace K37
open PySem L2
section
variable {P:Program} {w:World} {K:PySem.W.Frag} {mg:Str->Option Value} {base:Heap}
theorem new_of {H H':Hp} {l:Addr} (s:Same H H') (h:H' l=none):H l=none:=by
 cases e:H l with
 | none=>rfl
 | some o=>rw [s _ _ e] at h;cases h
abbrev sEvery:Stmt:=top 5
def spEvery:Sp:=fun vs H Q _=>match vs with
 | [cv]=>∃ (k n:Nat) (rows:Om.Rows),DV H cv (codeD k n rows)/\rows.length<=8/\∀ l H',Same H H'->H l=none->H' l=some (.lst ((List.range rows.length).map fun i=>V.int (i:Nat)))->Q (.ref l) H'
 | _=>False
theorem scEvery:FnScope ["code"] ["code"] (defScope sEvery):=⟨rfl,rfl,rfl,by decide +kernel,rfl,by decide +kernel,by decide +kernel⟩
local macro_rules | `(tactic| walk_at "T.b")=>`(tactic| first | ((with_reducible refine' fn_listR ?a0 ?a9 ?a1);(case a0=>with_reducible assumption);(case a9=>rfl);(case a1=>walk_at "T.a")) | ((with_reducible refine' e_rng1 ?a0 ?a9 ?a1);(case a0=>with_reducible assumption);(case a9=>rfl);(case a1=>walk_at "T.a")))
theorem ok_every (D:FnX K mg "every_state" sEvery ["code"]) (g1:mg "list" = none) (g2:mg "range" = none) (g3:mg "len" = none):Can P w K mg base "every_state" 1 ["code"] spEvery:=by
 refine can_fn (k:=0) D scEvery (fun vs H Q E h=>?_) (fun f cdv A outer s H vs Q E hr h=>?_)
 all_goals
  unfold spEvery at h
  split at h
 ·rfl
 ·exact h.elim
 ·rename_i cv
  obtain ⟨k,n,rows,hc,rl,q⟩:=h
  have nd:=scEvery.nd
  obtain ⟨a,b,ss,rfl,ha,hb,hss⟩:=code_inv hc
  have sl:ss.length=rows.length:=by rw [hss.length,List.length_map]
  refine ⟨_,(by walk_at "T.top1"),?_⟩
  refine ⟨_,gt ha (by decide) rfl,_,lenL hb,by omega,by omega,fun r hr=>?_⟩
  refine .inl ⟨ss.length,upd_same,by omega,fun l hl=>?_⟩
  rw [sl] at hl ⊢
  exact q _ _ ((Same.upd hr).trans (Same.upd hl)) (new_of (Same.upd hr) hl) upd_same
 ·exact h.elim
end
end K37
end
section
namespace K37
open PySem L2
section
variable {P:Program} {w:World} {K:PySem.W.Frag} {mg:Str->Option Value} {base:Heap}
abbrev sGraphB:Stmt:=top 6
def spGraphB:Sp:=fun vs H Q _=>match vs with
 | [cv,.ref sl]=>∃ (k n:Nat) (rows:Om.Rows),DV H cv (codeD k n rows)/\Om.CodeOk k n rows/\H sl=some (.lst ((List.range rows.length).map fun i=>V.int (i:Nat)))/\∀ v H',Same H H'->GrO 64 Om.LtS H' v (Om.AllR rows) (Om.St rows)->Q v H'
 | _=>False
theorem scGraphB:FnScope ["code","states","graph","one","other"] ["code","states"] (defScope sGraphB):=⟨rfl,rfl,rfl,by decide +kernel,rfl,by decide +kernel,by decide +kernel⟩
local macro_rules | `(tactic| walk_at "T.e")=>`(tactic| (with_reducible exact pe_dnewT))
local macro_rules | `(tactic| walk_at "T.g")=>`(tactic| ((with_reducible refine' g_subD ?a0 ?a1 ?a2);(case a0=>exact Room.units (by assumption));(case a1=>walk_at "T.e");(case a2=>walk_at "T.e")))
local macro_rules | `(tactic| walk_at "T.st")=>`(tactic| ((with_reducible refine' s_retF ?a1);(case a1=>walk_at "T.e")))
theorem rng_at {S i:Nat} {z:V} (h:((List.range S).map fun i=>V.int (i:Nat))[i]? = some z):i < S/\z = .int (i:Nat):=by
 rw [List.getElem?_map] at h
 obtain ⟨j,h1,rfl⟩:=Option.map_eq_some_iff.mp h
 have hlt:i < S:=by
  obtain ⟨hl,_⟩:=List.getElem?_eq_some_iff.mp h1
  simpa using hl
 rw [List.getElem?_range hlt] at h1
 cases h1
 exact ⟨hlt,rfl⟩
theorem ok_graphB (D:FnX K mg "pair_graph" sGraphB ["code","states"]) (c1:Can P w K mg base "pair_steps" 1 ["code","one","other"] spPSteps):Can P w K mg base "pair_graph" 2 ["code","states"] spGraphB:=by
 refine can_fn (k:=1) D scGraphB (fun vs H Q E h=>?_) (fun f cdv A outer s H vs Q E hr h=>?_)
 all_goals
  unfold spGraphB at h
  split at h
 ·rfl
 ·exact h.elim
 ·rename_i cv sl
  obtain ⟨k,n,rows,hc,ok,hsl,q⟩:=h
  have nd:=scGraphB.nd
  have s8:=ok.s8
  refine ⟨_,(by walk_at "T.top"),?_⟩
  intro D hD
  have M0:=Gd.start hD
  refine ⟨⟨_,SqL.of (M0.all _ _ hsl)⟩,?_⟩
  refine for_by (it_list _ sl _) (fun i σ H2=>∃ (v3 v4:Option V) (G:Hp) (kvs:List (List Key×V)) (ks:List (Nat×Nat)),σ=[some cv,some (.ref sl),some (.ref D),v3,v4]/\Gd G H H2 D kvs/\KD ks kvs/\ValsO G kvs ks (Om.St rows) ∧
    ks.Pairwise Om.LtL/\∀ x y,(x,y)∈ks↔x < i/\y < rows.length)
   ⟨none,none,_,[],[],rfl,M0,KD.nil,(fun p hp=>nomatch hp),List.Pairwise.nil,fun x' y'=>by simp⟩ (fun i σ H2 _ ⟨_,_,_,_,_,_,M,_⟩=>SqL.of (M.all _ _ hsl)) ?_ ?_
  ·rintro i z σ H2 hi hz ⟨v3,v4,G,kvs,ks,rfl,M,kd,hv,ho,hm⟩
   obtain ⟨hi',rfl⟩:=rng_at hz
   refine ⟨⟨_,SqL.of (M.all _ _ hsl)⟩,?_⟩
   refine for_by (it_list _ sl _) (fun j σ H2=>∃ (v4:Option V) (G:Hp) (kvs:List (List Key×V)) (ks:List (Nat×Nat)),σ=[some cv,some (.ref sl),some (.ref D),some (.int (i:Nat)),v4]/\Gd G H H2 D kvs/\KD ks kvs/\ValsO G kvs ks (Om.St rows) ∧
     ks.Pairwise Om.LtL/\∀ x y,(x,y)∈ks↔(x < i/\y < rows.length)\/(x=i/\y < j))
    ⟨v4,G,kvs,ks,rfl,M,kd,hv,ho,fun x' y'=>by rw [hm];simp⟩ (fun i σ H2 _ ⟨_,_,_,_,_,M,_⟩=>SqL.of (M.all _ _ hsl)) ?_ ?_
   ·rintro j z σ H3 hj hz ⟨v4,G,kvs,ks,rfl,M,kd,hv,ho,hm⟩
    obtain ⟨hj',rfl⟩:=rng_at hz
    refine ⟨k,n,rows,i,j,rfl,rfl,hc.mono M.all,ok,hi',hj',fun l ss H4 s4 hl4 hst h64 hso hmem=>?_⟩
    obtain ⟨G1,M1,gg,he⟩:=M.call s4
    have st1:StL G1 l ss:=DV.lt (Lt.but M1.hD he) hst
    have hv1:=hv.mono gg
    refine ⟨le_line (Nat.le_of_ble_eq_true rfl),fun t ht=>?_⟩
    have M2:=M1.put (o:=.tup [.int (i:Nat),.int (j:Nat)]) ht
    have U2:=M1.up (o:=.tup [.int (i:Nat),.int (j:Nat)]) ht
    have nin:(i,j) ∉ ks:=fun z=>by
     rcases (hm _ _).mp z with ⟨h1,_⟩ | ⟨_,h1⟩
     ·exact absurd h1 (Nat.lt_irrefl _)
     ·exact absurd h1 (Nat.lt_irrefl _)
    refine .inr ⟨_,_,rfl,.inr ⟨kvs,kk (i,j),t,M2.hD,rfl,upd_same,kd.lt_line,rfl⟩,?_⟩
    refine ⟨_,_,_,_,rfl,M2.set,kd.put (v:=.ref l) nin (by show i < 8;omega) (by show j < 8;omega),(hv1.mono U2).put nin (st1.mono U2) h64 hso hmem,Om.pw_app ho (fun a ha=>by have:=(hm a.1 a.2).mp ha;show a.1 < i\/(a.1=i/\a.2 < j);omega),fun x' y'=>?_⟩
    rw [List.mem_append,hm,List.mem_singleton,Prod.mk.injEq]
    omega
   ·rintro σ H3 ⟨v4,G,kvs,ks,rfl,M,kd,hv,ho,hm⟩
    refine ⟨_,_,G,kvs,ks,rfl,M,kd,hv,ho,fun x' y'=>?_⟩
    rw [hm,List.length_map,List.length_range]
    omega
  ·rintro σ H2 ⟨v3,v4,G,kvs,ks,rfl,M,kd,hv,ho,hm⟩
   refine .inl ⟨_,M.hD,trivial,fun o=>?_⟩
   refine q _ _ (M.s0.trans M.frz) ⟨D,o,kvs,ks,rfl,upd_same,kd,fun x' y'=>?_,ho,hv.mono M.frz⟩
   rw [hm,List.length_map,List.length_range]
   exact Iff.rfl
 ·exact h.elim
end
end K37
end
section
namespace K37
open PySem L2
section
variable {P:Program} {w:World} {K:PySem.W.Frag} {mg:Str->Option Value} {base:Heap}
abbrev sBack:Stmt:=top 16
def spBack:Sp:=fun vs H Q _=>match vs with
 | [cv]=>∃ (k n:Nat) (rows:Om.Rows),DV H cv (codeD k n rows)/\Om.CodeOk k n rows/\∀ v H',Same H H'->GrO 4096 Om.LtB H' v (Om.AllR rows) (Om.BSt rows)->Q v H'
 | _=>False
theorem scBack:FnScope ["code","forward","graph","pair","label","to"] ["code"] (defScope sBack):=⟨rfl,rfl,rfl,by decide +kernel,rfl,by decide +kernel,by decide +kernel⟩
local macro_rules | `(tactic| walk_at "T.e")=>`(tactic| first | (with_reducible exact pe_dnewT) | ((with_reducible refine' ix_atD ?a0 ?a1 ?a2);(case a0=>exact Room.units (by assumption));(case a1=>walk_at "T.e");(case a2=>walk_at "T.e")))
local macro_rules | `(tactic| walk_at "T.i")=>`(tactic| ((with_reducible refine' pi_lstD ?a1);(case a1=>walk_at "T.e")))
local macro_rules | `(tactic| walk_at "T.g")=>`(tactic| ((with_reducible refine' g_subD ?a0 ?a1 ?a2);(case a0=>exact Room.units (by assumption));(case a1=>walk_at "T.e");(case a2=>walk_at "T.e")))
local macro_rules | `(tactic| walk_at "T.st")=>`(tactic| ((with_reducible refine' s_retF ?a1);(case a1=>walk_at "T.e")))
theorem ok_back (D:FnX K mg "backward_graph" sBack ["code"]) (c3:Can P w K mg base "pair_graph" 2 ["code","states"] spGraphB) (c4:Can P w K mg base "every_state" 1 ["code"] spEvery):Can P w K mg base "backward_graph" 3 ["code"] spBack:=by
 refine can_fn (k:=2) D scBack (fun vs H Q E h=>?_) (fun f cdv A outer s H vs Q E hr h=>?_)
 all_goals
  unfold spBack at h
  split at h
 ·rfl
 ·exact h.elim
 ·rename_i cv
  obtain ⟨k,n,rows,hc,ok,q⟩:=h
  have nd:=scBack.nd
  refine ⟨_,(by walk_at "T.top"),?_⟩
  refine ⟨k,n,rows,hc,ok.s8,fun l H1 s1 _ h1=>?_⟩
  refine ⟨k,n,rows,hc.mono s1,ok,h1,fun gv H2 s2 g2=>?_⟩
  obtain ⟨fa,fo,fkvs,fks,rfl,hfa,fkd,fmem,fod,fst⟩:=g2
  intro D hD
  have M0:=Gc.start hD
  refine .inr (.inl ⟨fo,fkvs,M0.all _ _ hfa,fun bs hbs=>?_⟩)
  have hbl:=fkd.blen hbs
  have kb2:KeysAt H2 fkvs bs:=Paired.mapP hbs fun x b e=>by
   have:b≠D:=fun z=>by subst z;rw [upd_same] at e;cases e
   rw [upd_ne this] at e;exact e
  refine for_by (it_keys fa fo (bs.map V.ref)) (fun i σ H3=>∃ (v3:Option V) (G:Hp) (kvs:List (List Key×V)),σ=[some cv,some (.ref fa),some (.ref D),v3,none,none]/\Gc G H2 H3 D kvs (fks.take i) 0 (fun _ _=>False))
   ⟨none,_,[],rfl,by rw [List.take_zero];exact M0⟩ (fun i σ H2 _ ⟨_,_,_,_,M⟩=>⟨_,M.all _ _ hfa⟩) ?_ ?_
  ·rintro i z σ H3 hi hz ⟨v3,G,kvs,rfl,M⟩
   have hi':i < fks.length:=by rw [<-hbl];exact hi
   obtain ⟨b,rfl,hb⟩:=fkd.key kb2 hi' hz
   have ti:fks.take (i+1)=fks.take i++[fks[i]]:=by rw [List.take_add_one,List.getElem?_eq_getElem hi'];rfl
   have nin:fks[i] ∉ fks.take i:=fun z=>by
    have nd2:=fkd.nd
    rw [<-List.take_append_drop (i+1) fks,ti] at nd2
    have nd3:=(List.nodup_append.mp nd2).1
    exact (List.nodup_append.mp nd3).2.2 _ z _ (List.mem_singleton.mpr rfl) rfl
   have b8:=fkd.lt _ (List.getElem_mem hi')
   refine ⟨Nat.zero_le _,fun C hC=>?_⟩
   have hb3:=Same.upd (o:=.lst []) hC _ _ (M.all _ _ hb)
   have hD3:(upd H3 C (.lst [])) D=some (.dT kvs):=Same.upd hC _ _ M.hD
   refine .inr ⟨_,_,rfl,.inr ⟨kvs,kk fks[i],b,hD3,rfl,hb3,M.kd.lt_line,rfl⟩,?_⟩
   refine ⟨_,G,putK kvs (kk fks[i]) (.ref C),rfl,?_⟩
   rw [ti]
   exact M.key hC nin b8.1 b8.2
  ·rintro σ H3 ⟨v3,G,kvs,rfl,M⟩
   rw [hbl,List.take_length] at M
   refine .inr (.inl ⟨fo,fkvs,M.all _ _ hfa,fun bs2 hbs2=>?_⟩)
   have hbl2:=fkd.blen hbs2
   have M':Gc G H2 H3 D kvs fks (0 * 64) (fun q s=>∃ j,j < 0/\fks[j]? = some s.2/\Om.BSt rows q.1 q.2 s):=M.imp (Nat.le_refl _) fun q s _=>⟨False.elim,fun ⟨j,h,_⟩=>absurd h (Nat.not_lt_zero _)⟩
   have fl:fks.length<=64:=fkd.le
   refine for_by (it_keys fa fo (bs2.map V.ref)) (fun i σ H4=>∃ (v3 v4 v5:Option V) (G:Hp),σ=[some cv,some (.ref fa),some (.ref D),v3,v4,v5]/\Gc G H2 H4 D kvs fks (i * 64) (fun q s=>∃ j,j < i/\fks[j]? = some s.2/\Om.BSt rows q.1 q.2 s)/\KeysAt H4 fkvs bs2)
    ⟨v3,none,none,G,rfl,M',hbs2⟩ (fun i σ H2 _ ⟨_,_,_,_,_,M,_⟩=>⟨_,M.all _ _ hfa⟩) ?_ ?_
   ·rintro i z σ H4 hi hz ⟨v3,v4,v5,G4,rfl,M4,kb4⟩
    have hi':i < fks.length:=by rw [<-hbl2];exact hi
    obtain ⟨b,rfl,hb⟩:=fkd.key kb4 hi' hz
    have ep:fks[i]? = some fks[i]:=List.getElem?_eq_getElem hi'
    obtain ⟨l,ss,g1,g2,g3,g5,g4⟩:=fst fks[i] (List.getElem_mem hi')
    obtain ⟨l',xs,e,hl,hxs⟩:=g2.lst_inv
    cases e
    have xl:xs.length=ss.length:=by rw [hxs.length,List.length_map]
    refine .inr ⟨_,_,rfl,.inr ⟨fkvs,kk fks[i],b,.inr ⟨fo,M4.all _ _ hfa⟩,rfl,hb,g1.symm⟩,?_⟩
    refine .inl ⟨⟨_,SqL.of (M4.all _ _ hl)⟩,?_⟩
    refine for_by (it_list _ l xs) (fun g σ H5=>∃ (v4 v5:Option V) (G:Hp),σ=[some cv,some (.ref fa),some (.ref D),some (.ref b),v4,v5]/\Gc G H2 H5 D kvs fks (i * 64+g) (fun q s=>(∃ j,j < i/\fks[j]? = some s.2/\Om.BSt rows q.1 q.2 s)\/(s.2=fks[i]/\∃ g',g' < g/\ss[g']? = some (s.1,q)))/\KeysAt H5 fkvs bs2/\H5 b=some (.tup ((kk fks[i]).map kV)))
     ⟨v4,v5,G4,rfl,M4.imp (by omega) (fun q s _=>⟨.inl,fun h=>h.elim id fun ⟨_,g',h,_⟩=>absurd h (Nat.not_lt_zero _)⟩),kb4,hb⟩ (fun i σ H2 _ ⟨_,_,_,_,M,_⟩=>SqL.of (M.all _ _ hl)) ?_ ?_
    ·rintro g z σ H5 hg hz ⟨v4,v5,G5,rfl,M5,kb5,hb5⟩
     have hg':g < ss.length:=by omega
     have es:ss[g]? = some ss[g]:=List.getElem?_eq_getElem hg'
     obtain ⟨z',hz',dz⟩:=hxs.get (i:=g) (d:=sD ss[g]) (by rw [List.getElem?_map,es];rfl)
     rw [hz] at hz'
     cases hz'
     obtain ⟨p,la,ta,rfl,h1,h2,h3⟩:=sD_inv dz
     refine ⟨_,.inl (M5.all _ _ h1),rfl,rfl,?_⟩
     have sE:Om.St rows fks[i].1 fks[i].2 ss[g]:=(g4 _).mp (List.getElem_mem hg')
     have toA:Om.AllR rows ss[g].2.1 ss[g].2.2:=by
      obtain ⟨k1,k2,k3,k4⟩:=sE
      rw [k4]
      exact ⟨(ok.stp k1).2.2,(ok.stp k2).2.2⟩
     have toK:ss[g].2∈fks:=(fmem _ _).mpr toA
     obtain ⟨t,vs,sl,w1,w2,w3,w4,w5,_,w6⟩:=M5.ls _ toK
     have vl:vs.length=sl.length:=by rw [w4.length,List.length_map]
     refine .inr ⟨_,_,rfl,.inr ⟨kvs,kk ss[g].2,ta,.inl M5.hD,rfl,M5.all _ _ h3,w1.symm⟩,?_⟩
     refine ⟨⟨_,rfl,w3⟩,?_⟩
     refine ⟨le_line (Nat.le_of_ble_eq_true rfl),fun z hz=>?_⟩
     have M6:=M5.put (o:=.tup [.ref la,.ref b]) hz
     have U6:=M5.up (o:=.tup [.ref la,.ref b]) hz
     have w3':=Same.upd (o:=.tup [.ref la,.ref b]) hz _ _ w3
     have big:i * 64<=63 * 64:=Nat.mul_le_mul_right _ (by omega)
     refine ⟨_,w3',by rw [sizeLine_eq];omega,?_⟩
     have dz6:DV (upd G5 z (.tup [.ref la,.ref b])) (.ref z) (sD (ss[g].1,fks[i])):=.tup upd_same (.cons (pair_DV (x:=ss[g].1) (U6 _ _ (M5.s0 _ _ h2))) (.cons (pair_DV (x:=fks[i]) (U6 _ _ (M5.tp _ _ hb5))) .nil))
     have M7:=M6.app toK w1 w3' dz6 (by
      rintro s (⟨j,j1,j2,_⟩ | ⟨k1,g',k2,k3⟩)
      ·obtain ⟨j3,j4⟩:=List.getElem?_eq_some_iff.mp j2
       have:=List.pairwise_iff_getElem.mp fod j i j3 hi' j1
       rw [j4] at this
       exact .inl this
      ·obtain ⟨j3,j4⟩:=List.getElem?_eq_some_iff.mp k3
       have:=List.pairwise_iff_getElem.mp g5 g' g j3 hg' k2
       rw [j4] at this
       exact .inr ⟨k1,this⟩)
     have tt:∀ {x:Addr} {ys:List V},H5 x=some (.tup ys)->upd (upd H5 z (.tup [.ref la,.ref b])) t (.lst (vs++[.ref z])) x=some (.tup ys):=fun {x ys} e=>by
      rw [upd_ne (ne_of e w3 (fun z=>nomatch z))];exact Same.upd hz _ _ e
     refine ⟨_,_,_,rfl,M7.imp (Nat.le_refl _) (fun q s _=>?_),Paired.mapP kb5 fun x b' e=>tt e,tt hb5⟩
     constructor
     ·rintro ((h | ⟨h1',g',k1,k2⟩) | ⟨rfl,rfl⟩)
      ·exact .inl h
      ·exact .inr ⟨h1',g',by omega,k2⟩
      ·exact .inr ⟨rfl,g,by omega,es⟩
     ·rintro (h | ⟨h1',g',k1,k2⟩)
      ·exact .inl (.inl h)
      ·by_cases e:g'=g
       ·subst e
        rw [es] at k2
        have k3:=Option.some.inj k2
        refine .inr ⟨?_,?_⟩
        ·rw [k3]
        ·obtain ⟨s1',s2'⟩:=s
         dsimp only at h1' k3 ⊢
         rw [k3,h1']
       ·exact .inl (.inr ⟨h1',g',by omega,k2⟩)
    ·rintro σ H5 ⟨v4,v5,G5,rfl,M5,kb5,hb5⟩
     refine ⟨_,_,_,G5,rfl,M5.imp (by omega) (fun q s hq=>?_),kb5⟩
     constructor
     ·rintro (⟨j,k1,k2,k3⟩ | ⟨h1,g',k1,k2⟩)
      ·exact ⟨j,by omega,k2,k3⟩
      ·refine ⟨i,by omega,by rw [ep,h1],?_⟩
       have:=(g4 _).mp (List.mem_of_getElem? k2)
       unfold Om.BSt
       rw [h1]
       exact this
     ·rintro ⟨j,k1,k2,k3⟩
      by_cases e:j=i
      ·subst e
       rw [ep] at k2
       have k4:=Option.some.inj k2
       unfold Om.BSt at k3
       rw [<-k4] at k3
       obtain ⟨g',e1,e2⟩:=List.mem_iff_getElem.mp ((g4 _).mpr k3)
       exact .inr ⟨k4.symm,g',by omega,by rw [List.getElem?_eq_getElem e1,e2]⟩
      ·exact .inl ⟨j,by omega,k2,k3⟩
   ·rintro σ H4 ⟨v3,v4,v5,G4,rfl,M4,kb4⟩
    rw [hbl2] at M4
    refine .inl ⟨_,M4.hD,trivial,fun o=>?_⟩
    obtain ⟨sh,gh⟩:=M4.held (ob:=o)
    refine q _ _ ((s1.trans s2).trans sh) ((gh _ fod fmem).cong (by have:=Nat.mul_le_mul_right 64 fl;omega) fun x y s hxy=>?_)
    constructor
    ·rintro ⟨j,_,_,h⟩;exact h
    ·intro h
     have hA:Om.AllR rows s.2.1 s.2.2:=by
      obtain ⟨k1,k2,_⟩:=h
      exact ⟨(ok.stp k1).1,(ok.stp k2).1⟩
     obtain ⟨j,e1,e2⟩:=List.mem_iff_getElem.mp ((fmem _ _).mpr hA)
     exact ⟨j,e1,by rw [List.getElem?_eq_getElem e1,e2],h⟩
 ·exact h.elim
end
end K37
end
section
namespace K37
open PySem L2
section
variable {P:Program} {w:World} {K:PySem.W.Frag} {mg:Str->Option Value} {base:Heap}
abbrev sUnlP:Stmt:=top 17
def spUnlP:Sp:=fun vs H Q _=>match vs with
 | [gv]=>∃ (gks:List (Nat×Nat)),LyK H gv gks/\∀ v H',Same H H'->LyN H' v (gks.filter fun p=>decide (p.1≠p.2))->Q v H'
 | _=>False
theorem scUnlP:FnScope ["graph","pairs","pair"] ["graph"] (defScope sUnlP):=⟨rfl,rfl,rfl,by decide +kernel,rfl,by decide +kernel,by decide +kernel⟩
local macro_rules | `(tactic| walk_at "T.e")=>`(tactic| (with_reducible exact pe_dnewT))
local macro_rules | `(tactic| walk_at "T.i")=>`(tactic| ((with_reducible refine' pi_lstD ?a1);(case a1=>walk_at "T.e")))
local macro_rules | `(tactic| walk_at "T.g")=>`(tactic| ((with_reducible refine' g_subD ?a0 ?a1 ?a2);(case a0=>exact Room.units (by assumption));(case a1=>walk_at "T.e");(case a2=>walk_at "T.e")))
local macro_rules | `(tactic| walk_at "T.st")=>`(tactic| ((with_reducible refine' s_retF ?a1);(case a1=>walk_at "T.e")))
theorem ok_unlP (D:FnX K mg "unlike_pairs" sUnlP ["graph"]):Can P w K mg base "unlike_pairs" 1 ["graph"] spUnlP:=by
 refine can_fn (k:=0) D scUnlP (fun vs H Q E h=>?_) (fun f cdv A outer s H vs Q E hr h=>?_)
 all_goals
  unfold spUnlP at h
  split at h
 ·rfl
 ·exact h.elim
 ·rename_i gv
  obtain ⟨gks,⟨ga,go,gkvs,rfl,hga,gkd⟩,q⟩:=h
  have nd:=scUnlP.nd
  refine ⟨_,(by walk_at "T.top"),?_⟩
  intro D hD
  have M0:=Gd.start hD
  refine .inr (.inl ⟨go,gkvs,M0.all _ _ hga,fun bs hbs=>?_⟩)
  have hbl:=gkd.blen hbs
  refine for_by (it_keys ga go (bs.map V.ref)) (fun i σ H2=>∃ (v2:Option V) (G:Hp) (kvs:List (List Key×V)) (ks:List (Nat×Nat)),σ=[some (.ref ga),some (.ref D),v2]/\Gd G H H2 D kvs/\KeysAt H2 gkvs bs/\KD ks kvs/\(∀ p∈ks,∃ t,valV kvs (kk p)=some (.ref t)/\G t=some (.tup [.non,.non]))/\ks=(gks.take i).filter fun p=>decide (p.1≠p.2))
   ⟨none,_,[],[],rfl,M0,hbs,KD.nil,(fun p hp=>nomatch hp),rfl⟩ (fun i σ H2 _ ⟨_,_,_,_,_,M,_⟩=>⟨_,M.all _ _ hga⟩) ?_ ?_
  ·rintro i z σ H2 hi hz ⟨v2,G,kvs,ks,rfl,M,hb2,kd,hst,hm⟩
   have hi':i < gks.length:=by rw [<-hbl];exact hi
   obtain ⟨b,rfl,hb⟩:=gkd.key hb2 hi' hz
   have ti:gks.take (i+1)=gks.take i++[gks[i]]:=by rw [List.take_add_one,List.getElem?_eq_getElem hi'];rfl
   have b8:=gkd.lt _ (List.getElem_mem hi')
   have hbt:H2 b=some (.tup [.int (gks[i].1:Nat),.int (gks[i].2:Nat)]):=hb
   refine ⟨_,gt hbt (by decide) rfl,_,gt hbt (by decide) rfl,?_⟩
   refine ite2 (fun c1=>?_) (fun c1=>?_)
   ·have ne:gks[i].1≠gks[i].2:=fun z=>by rw [z] at c1;simp at c1
    refine ⟨le_line (Nat.le_of_ble_eq_true rfl),fun t ht=>?_⟩
    have M1:=M.put (o:=.tup [.non,.non]) ht
    have sm:Same H2 (upd H2 t (.tup [.non,.non])):=Same.upd ht
    have nin:gks[i] ∉ ks:=fun z=>by
     rw [hm] at z
     have z:=(List.mem_filter.mp z).1
     have nd2:=gkd.nd
     rw [<-List.take_append_drop (i+1) gks,ti] at nd2
     exact (List.nodup_append.mp (List.nodup_append.mp nd2).1).2.2 _ z _ (List.mem_singleton.mpr rfl) rfl
    refine .inr ⟨_,_,rfl,.inr ⟨kvs,kk gks[i],b,M1.hD,rfl,sm _ _ hb,kd.lt_line,rfl⟩,?_⟩
    refine ⟨_,_,_,ks++[gks[i]],rfl,M1.set,?_,kd.put (v:=.ref t) nin b8.1 b8.2,fun p hpk=>?_,?_⟩
    ·refine Paired.mapP hb2 fun p b' h=>?_
     have:b'≠D:=ne_of h M.hD (fun z=>nomatch z)
     rw [upd_ne this];exact sm _ _ h
    ·have U1:=M.up (o:=.tup [.non,.non]) ht
     by_cases e:p=gks[i]
     ·subst e;exact ⟨t,valV_put_eq,upd_same⟩
     ·obtain ⟨t',k1,k2⟩:=hst p ((List.mem_append.mp hpk).resolve_right (fun z=>e (by simpa using z)))
      exact ⟨t',by rw [valV_put_ne e];exact k1,U1 _ _ k2⟩
    ·rw [ti,List.filter_append,<-hm,List.filter_cons_of_pos (by simpa using ne),List.filter_nil]
   ·have eq:gks[i].1=gks[i].2:=by
     by_cases e:gks[i].1=gks[i].2
     ·exact e
     ·exact absurd (by
       rw [decide_eq_false (fun z=>e (by omega))];rfl) c1
    refine ⟨_,G,kvs,ks,rfl,M,hb2,kd,hst,?_⟩
    rw [ti,List.filter_append,<-hm,List.filter_cons_of_neg (by simpa using eq),List.filter_nil,List.append_nil]
  ·rintro σ H2 ⟨v2,G,kvs,ks,rfl,M,hb2,kd,hst,hm⟩
   rw [hbl,List.take_length] at hm
   refine .inl ⟨_,M.hD,trivial,fun o=>?_⟩
   refine q _ _ (M.s0.trans M.frz) (hm ▸ ⟨D,o,kvs,rfl,upd_same,kd,fun p hp=>?_⟩)
   obtain ⟨t,k1,k2⟩:=hst p hp
   exact ⟨t,k1,M.frz _ _ k2⟩
 ·exact h.elim
end
section
variable {P:Program} {w:World} {K:PySem.W.Frag} {mg:Str->Option Value} {base:Heap}
abbrev sLayersB:Stmt:=top 8
def spLayersB:Sp:=fun vs H Q _=>match vs with
 | [fv,.ref ga]=>∃ (c:Nat) (ks0 gks:List (Nat×Nat)) (g:Nat×Nat->List Om.Stp),LyN H fv ks0/\GrX c H (.ref ga) gks g/\(∀ p∈ks0,p∈gks)/\(∀ p∈gks,∀ s∈g p,s.2∈gks) ∧
   ∀ l (vs:List V) H',Same H H'->H l=none->H' l=some (.lst vs)->(∀ i v,vs[i]? = some v->LyT H' v g ks0 i)->(∀ i,i < vs.length->Om.layK g ks0 i≠[])->vs.length<=gks.length+1->(vs.length=gks.length+1\/Om.layK g ks0 vs.length=[])->Q (.ref l) H'
 | _=>False
theorem scLayersB:FnScope ["first","graph","layers","layer"] ["first","graph"] (defScope sLayersB):=⟨rfl,rfl,rfl,by decide +kernel,rfl,by decide +kernel,by decide +kernel⟩
local macro_rules | `(tactic| walk_at "T.t")=>`(tactic| ((with_reducible refine' t_truD ?a1);(case a1=>walk_at "T.n")))
local macro_rules | `(tactic| walk_at "T.b")=>`(tactic| ((with_reducible refine' fn_lenD ?a0 ?a9 ?a1);(case a0=>with_reducible assumption);(case a9=>rfl);(case a1=>walk_at "T.a")))
theorem ok_layersB (D:FnX K mg "layers_of" sLayersB ["first","graph"]) (g1:mg "len" = none) (c1:Can P w K mg base "layer_behind" 1 ["layer","graph"] spLayer):Can P w K mg base "layers_of" 2 ["first","graph"] spLayersB:=by
 refine can_fn (k:=1) D scLayersB (fun vs H Q E h=>?_) (fun f cdv A outer s H vs Q E hr h=>?_)
 all_goals
  unfold spLayersB at h
  split at h
 ·rfl
 ·exact h.elim
 ·rename_i fv ga
  obtain ⟨c,ks0,gks,g,hly,hgr,hsub,hcl,q⟩:=h
  obtain ⟨gkvs,rdg,gsz,s64⟩ : ∃ kvs,Rd H ga (.dT kvs)/\kvs.length=gks.length/\gks.length<=64:=by
   obtain ⟨a,o,kvs,e,h1,h2,_⟩:=hgr
   cases e
   exact ⟨kvs,.inr ⟨o,h1⟩,h2.len,h2.le⟩
  have nd:=scLayersB.nd
  refine ⟨_,(by walk_at "T.top"),?_⟩
  refine ⟨Nat.zero_le _,fun L hL=>?_⟩
  have iR0:=Om.layK_in hsub hcl
  refine ⟨fun m σ H2=>∃ (v:V) (vs:List V),σ=[some fv,some (.ref ga),some (.ref L),some v]/\m+vs.length=gks.length+1/\Same H H2/\H2 L=some (.lst vs)/\LyT H2 v g ks0 vs.length/\(∀ i v,vs[i]? = some v->LyT H2 v g ks0 i)/\∀ i,i < vs.length->Om.layK g ks0 i≠[],
   ⟨gks.length+1,fv,[],rfl,rfl,Same.upd hL,upd_same,hly.mono (Same.upd hL),(fun i v h=>by simp at h),(fun i h=>absurd h (Nat.not_lt_zero _))⟩,?_⟩
  rintro m σ H2 ⟨v,vs,rfl,hm,s2,h2,l2,hv2,hne⟩
  have l2':=l2
  obtain ⟨va,vo,vkvs,rfl,hva,vkd⟩:=l2.k
  have rd2:Rd H2 ga (.dT gkvs):=by
   rcases rdg with h | ⟨o,h⟩
   ·exact .inl (s2 _ _ h)
   ·exact .inr ⟨o,s2 _ _ h⟩
  have key:Om.layK g ks0 vs.length≠[]↔vkvs≠[]:=by
   have ln:=vkd.len
   constructor
   ·intro h z
    rw [z] at ln
    exact h (List.length_eq_zero_iff.mp (by simpa using ln.symm))
   ·intro h z
    rw [z] at ln
    exact h (List.length_eq_zero_iff.mp (by simpa using ln))
  refine .inr (.inr ⟨vkvs,.inr ⟨vo,hva⟩,?_⟩)
  cases hvk:vkvs with
  | nil=>
   refine iteF (iteF ?_)
   refine q L vs _ s2 hL h2 hv2 hne (by omega) (.inr ?_)
   by_cases z:Om.layK g ks0 vs.length=[]
   ·exact z
   ·exact absurd hvk (key.mp z)
  | cons kv0 kvr=>
   refine iteP rfl ?_
   have ne:Om.layK g ks0 vs.length≠[]:=key.mpr (by rw [hvk];exact fun z=>nomatch z)
   refine .inr ⟨_,lenL h2,?_⟩
   refine .inl ⟨ga,gkvs,rfl,rd2,by omega,?_⟩
   rw [gsz]
   dsimp only [rN0]
   by_cases le:vs.length<=gks.length
   ·rw [decide_eq_true (by omega)]
    refine iteP rfl ?_
    refine ⟨fun σ' H'=>∃ (v:V),σ'=[some fv,some (.ref ga),some (.ref L),some v]/\Same H H'/\H' L=some (.lst (vs++[.ref va]))/\LyT H' v g ks0 (vs.length+1)/\(∀ i v,(vs++[.ref va])[i]? = some v->LyT H' v g ks0 i),?_,?_⟩
    ·rintro σ' H' ⟨v',rfl,s',h',l',hv'⟩
     refine ⟨m - 1,by omega,v',vs++[.ref va],rfl,by rw [List.length_append];simp;omega,s',h',by rw [List.length_append];exact l',hv',fun i hi=>?_⟩
     rw [List.length_append] at hi
     by_cases e:i=vs.length
     ·subst e;exact ne
     ·exact hne i (by simp at hi;omega)
    ·refine ⟨⟨_,rfl,h2⟩,_,h2,lt_line (by omega),?_⟩
     have s3:Same H (upd H2 L (.lst (vs++[.ref va]))):=s2.own hL
     refine ⟨c,_,gks,g,(LyT.updR h2 l2').k,hgr.mono s3,iR0 _,hcl,fun v' H4 s4 l4=>?_⟩
     refine ⟨v',rfl,s3.trans s4,s4 _ _ upd_same,l4,fun i u hu=>?_⟩
     by_cases e:i < vs.length
     ·rw [List.getElem?_append_left e] at hu
      exact LyT.mono s4 (LyT.updR h2 (hv2 i u hu))
     ·rw [List.getElem?_append_right (by omega)] at hu
      have e2:i - vs.length=0:=by
       cases h:i - vs.length with
       | zero=>rfl
       | succ _=>rw [h] at hu;simp at hu
      rw [e2] at hu
      have:u = .ref va:=by simpa using hu.symm
      subst this
      have:i=vs.length:=by omega
      subst this
      exact LyT.mono s4 (LyT.updR h2 l2')
   ·rw [decide_eq_false (by omega)]
    refine iteF ?_
    exact q L vs _ s2 hL h2 hv2 hne (by omega) (.inl (by omega))
 ·exact h.elim
end
section
variable {P:Program} {w:World} {K:PySem.W.Frag} {mg:Str->Option Value} {base:Heap}
abbrev sComesB:Stmt:=top 10
def spComesB:Sp:=fun vs H Q _=>match vs with
 | [.ref l,.ref ga]=>∃ (xs:List V) (kvs:List (List Key×V)),H l=some (.lst xs)/\Rd H ga (.dT kvs)/\kvs.length<=64/\Q (.bl (decide (kvs.length < xs.length))) H
 | _=>False
theorem scComesB:FnScope ["layers","graph"] ["layers","graph"] (defScope sComesB):=⟨rfl,rfl,rfl,by decide +kernel,rfl,by decide +kernel,by decide +kernel⟩
local macro_rules | `(tactic| walk_at "T.b")=>`(tactic| ((with_reducible refine' fn_lenD ?a0 ?a9 ?a1);(case a0=>with_reducible assumption);(case a9=>rfl);(case a1=>walk_at "T.a")))
theorem ok_comesB (D:FnX K mg "comes_back" sComesB ["layers","graph"]) (g1:mg "len" = none):Can P w K mg base "comes_back" 1 ["layers","graph"] spComesB:=by
 refine can_fn (k:=0) D scComesB (fun vs H Q E h=>?_) (fun f cdv A outer s H vs Q E hr h=>?_)
 all_goals
  unfold spComesB at h
  split at h
 ·rfl
 ·exact h.elim
 ·rename_i l ga
  obtain ⟨xs,kvs,hl,rd,k64,q⟩:=h
  have nd:=scComesB.nd
  refine ⟨_,(by walk_at "T.top1"),?_⟩
  refine .inr ⟨_,lenL hl,?_⟩
  refine .inl ⟨ga,kvs,rfl,rd,by omega,?_⟩
  dsimp only [rN0]
  have e:decide (((xs.length:Nat):Int) > ((kvs.length:Nat):Int))=decide (kvs.length < xs.length):=by
   rw [Bool.eq_iff_iff,decide_eq_true_eq,decide_eq_true_eq];omega
  rw [e]
  exact q
 ·exact h.elim
end
end K37
end
section
namespace K37
open PySem L2
section
variable {P:Program} {w:World} {K:PySem.W.Frag} {mg:Str->Option Value} {base:Heap}
abbrev sSettles:Stmt:=top 15
def spSettles:Sp:=fun vs H Q _=>match vs with
 | [cv]=>∃ (k n:Nat) (rows:Om.Rows),DV H cv (codeD k n rows)/\Om.CodeOk k n rows/\∀ (r:Option Nat) H',Same H H'->Om.SetBy rows r->Q (optV r) H'
 | _=>False
theorem scSettles:FnScope ["code","graph","layers"] ["code"] (defScope sSettles):=⟨rfl,rfl,rfl,by decide +kernel,rfl,by decide +kernel,by decide +kernel⟩
local macro_rules | `(tactic| walk_at "T.c")=>`(tactic| ((with_reducible refine' pe_ifExp ?a1 ?a2 ?a3);(case a1=>walk_at "T.t");(case a2=>walk_at "T.e");(case a3=>walk_at "T.e")))
theorem ok_settles (D:FnX K mg "settles" sSettles ["code"]) (g1:mg "len" = none) (c1:Can P w K mg base "backward_graph" 3 ["code"] spBack) (c2:Can P w K mg base "layers_of" 2 ["first","graph"] spLayersB) (c3:Can P w K mg base "unlike_pairs" 1 ["graph"] spUnlP) (c4:Can P w K mg base "comes_back" 1 ["layers","graph"] spComesB):Can P w K mg base "settles" 4 ["code"] spSettles:=by
 refine can_fn (k:=3) D scSettles (fun vs H Q E h=>?_) (fun f cdv A outer s H vs Q E hr h=>?_)
 all_goals
  unfold spSettles at h
  split at h
 ·rfl
 ·exact h.elim
 ·rename_i cv
  obtain ⟨k,n,rows,hc,ok,q⟩:=h
  have nd:=scSettles.nd
  refine ⟨_,(by walk_at "T.top"),?_⟩
  refine ⟨k,n,rows,hc,ok,fun gv H1 s1 g0=>?_⟩
  obtain ⟨g1,gmem,gst⟩:=g0.x
  refine ⟨_,g1.k,fun uv H2 s2 l2=>?_⟩
  have g2:=g1.mono s2
  obtain ⟨ga,go,gkvs,rfl,hga,gkd,_⟩:=g1
  have gl':gkvs.length=rows.length * rows.length:=by rw [gkd.len];exact Om.all_len gkd.nd gmem
  have gl64:gkvs.length<=64:=by rw [gkd.len];exact gkd.le
  have cl:∀ p∈Om.keysL rows,∀ s∈Om.backL rows p,s.2∈Om.keysL rows:=fun p hp s hs=>by
   obtain ⟨h1,h2,_⟩:=(gst p hp s).mp hs
   exact (gmem _).mpr ⟨(ok.stp h1).1,(ok.stp h2).1⟩
  have hsub:∀ p∈(Om.keysL rows).filter (fun p=>decide (p.1≠p.2)),p∈Om.keysL rows:=fun p hp=>(List.mem_filter.mp hp).1
  have hiter:=Om.layK_iter (R:=fun x y=>Om.AllR rows x y/\x≠y) (E:=Om.BSt rows) hsub cl (fun p=>by rw [List.mem_filter,gmem,decide_eq_true_eq]) gst
  refine ⟨4096,_,_,_,l2,g2,hsub,cl,fun l vs H3 s3 nl h3 hv hne hle hend=>?_⟩
  refine ⟨vs,gkvs,h3,.inr ⟨go,(s2.trans s3) _ _ hga⟩,gl64,?_⟩
  have hU:∀ m,Om.layK (Om.backL rows) ((Om.keysL rows).filter fun p=>decide (p.1≠p.2)) m≠[]↔Om.Uns rows m:=fun m=>by
   refine Iff.trans ?_ (Om.back_iff ok m _ fun x y h=>h.1)
   constructor
   ·intro h
    obtain ⟨p,hp⟩:=List.exists_mem_of_ne_nil _ h
    exact ⟨p.1,p.2,(hiter m p).mp hp⟩
   ·rintro ⟨x,y,h⟩ z
    have:=(hiter m (x,y)).mpr h
    rw [z] at this;cases this
  rw [<-gkd.len] at hle hend
  have s13:=(s1.trans s2).trans s3
  dsimp only [tIf,tTru,tCan,tCons,tNil,tV]
  by_cases e:gkvs.length < vs.length
  ·rw [decide_eq_true e]
   refine iteP rfl ?_
   refine q none _ s13 ?_
   intro m hm
   exact (hU m).mp (hne m (by omega))
  ·rw [decide_eq_false e]
   refine iteF ?_
   refine ⟨_,lenL h3,?_⟩
   refine q (some vs.length) _ s13 ⟨by omega,fun m hm=>(hU m).mp (hne m hm),fun h=>?_⟩
   have z1:=(hU _).mpr h
   rcases hend with z | z
   ·omega
   ·exact z1 z
 ·exact h.elim
end
end K37
end
section
namespace K37
open PySem L2
section
variable {P:Program} {w:World} {K:PySem.W.Frag} {mg:Str->Option Value} {base:Heap}
abbrev sPStepsC:Stmt:=top 7
def spPStepsC:Sp:=fun vs H Q _=>match vs with
 | [cv,.int x0,.int y0]=>∃ (k n:Nat) (rows:Om.Rows) (x y:Nat),x0=(x:Nat)/\y0=(y:Nat)/\DV H cv (codeD k n rows)/\Om.CodeOk k n rows/\x < rows.length/\y < rows.length ∧
   ∀ l (ss:List Om.Stp) H',Same H H'->H l=none->StL H' l ss->ss.length<=64->(∀ s,s∈ss↔Om.St rows x y s)->Q (.ref l) H'
 | _=>False
theorem scPStepsC:FnScope ["code","one","other","steps","letter","row","another","beside"] ["code","one","other"] (defScope sPStepsC):=⟨rfl,rfl,rfl,by decide +kernel,rfl,by decide +kernel,by decide +kernel⟩
theorem ok_pstepsC (D:FnX K mg "pair_steps" sPStepsC ["code","one","other"]) (g1:mg "enumerate" = none):Can P w K mg base "pair_steps" 1 ["code","one","other"] spPStepsC:=by
 refine can_fn (k:=0) D scPStepsC (fun vs H Q E h=>?_) (fun f cdv A outer s H vs Q E hr h=>?_)
 all_goals
  unfold spPStepsC at h
  split at h
 ·rfl
 ·exact h.elim
 ·rename_i cv x0 y0
  obtain ⟨k,n,rows,x,y,rfl,rfl,hc,ok,hx,hy,q⟩:=h
  have nd:=scPStepsC.nd
  obtain ⟨a,b,st,rfl,ha,hb,hst⟩:=code_inv hc
  obtain ⟨qx,rx,e1,e2,e3⟩:=state_at hst (s:=x) (st:=rows[x]) (List.getElem?_eq_getElem hx)
  obtain ⟨qy,ry,f1,f2,f3⟩:=state_at hst (s:=y) (st:=rows[y]) (List.getElem?_eq_getElem hy)
  have lx:rows[x].length=2 ^ k:=ok.len _ (List.getElem_mem hx)
  have ly:rows[y].length=2 ^ k:=ok.len _ (List.getElem_mem hy)
  have p8:2 ^ k<=8:=by
   have:=ok.k3
   have:k=0\/k=1\/k=2\/k=3:=by omega
   rcases this with rfl | rfl | rfl | rfl<;>decide
  have gx:rows.getD x []=rows[x]:=by simp [List.getD_eq_getElem?_getD,hx]
  have gy:rows.getD y []=rows[y]:=by simp [List.getD_eq_getElem?_getD,hy]
  have stx:∀ i (hi:i < rows[x].length),Om.step rows x i=rows[x][i]:=fun i hi=>by unfold Om.step;rw [gx];simp [List.getD_eq_getElem?_getD,hi]
  have sty:∀ i (hi:i < rows[y].length),Om.step rows y i=rows[y][i]:=fun i hi=>by unfold Om.step;rw [gy];simp [List.getD_eq_getElem?_getD,hi]
  have rxl:rx.length=2 ^ k:=by rw [e3.length,List.length_map,lx]
  have ryl:ry.length=2 ^ k:=by rw [f3.length,List.length_map,ly]
  refine ⟨_,(by walk_at "T.top"),?_⟩
  refine ⟨Nat.zero_le _,fun L hL=>?_⟩
  have R0:=Gr.start hL
  refine ⟨_,gt (R0.all _ _ ha) (by decide) rfl,.ref qx,gl (R0.all _ _ hb) (by omega) (by simpa using e1),⟨_,SqL.of (R0.all _ _ e2)⟩,?_⟩
  refine for_pr (it_enumP _ qx rx) (fun i σ H2=>∃ (v4 v5 v6 v7:Option V) (G:Hp) (vs:List V) (ss:List Om.Stp),σ=[some (.ref a),some (.int (x:Nat)),some (.int (y:Nat)),some (.ref L),v4,v5,v6,v7]/\Gr G H H2 L vs/\DVs G vs (ss.map sD)/\ss.length<=i * 8/\∀ s,s∈ss↔s.1.1 < i/\Om.St rows x y s)
   ⟨none,none,none,none,_,[],[],rfl,R0,.nil,by simp,by simp⟩ (fun i σ H2 _ ⟨_,_,_,_,_,_,_,_,R,_⟩=>R.all _ _ e2) ?_ ?_
  ·rintro i t σ H2 hi ⟨v4,v5,v6,v7,G,vs,ss,rfl,R,hd,hl,hb1⟩ ht
   have hi':i < rows[x].length:=by omega
   obtain ⟨r,r1,r2⟩:=row_at e3 (l:=i) (r:=rows[x][i]) (List.getElem?_eq_getElem hi')
   have er:rx.getD i .non = .ref r:=by rw [List.getD_eq_getElem?_getD,r1];rfl
   have R1:=R.new (o:=.tup [.int (i:Nat),.ref r]) ht
   dsimp only
   rw [er]
   refine ⟨_,.inl upd_same,rfl,rfl,?_⟩
   refine ⟨_,gt (R1.all _ _ ha) (by decide) rfl,.ref qy,gl (R1.all _ _ hb) (by omega) (by simpa using f1),⟨_,SqL.of (R1.all _ _ f2)⟩,?_⟩
   refine for_pr (it_enumP _ qy ry) (fun j σ H2=>∃ (v6 v7:Option V) (G:Hp) (vs:List V) (ss:List Om.Stp),σ=[some (.ref a),some (.int (x:Nat)),some (.int (y:Nat)),some (.ref L),some (.int (i:Nat)),some (.ref r),v6,v7]/\Gr G H H2 L vs/\DVs G vs (ss.map sD)/\ss.length<=i * 8+j/\∀ s,s∈ss↔(s.1.1 < i\/(s.1.1=i/\s.1.2 < j))/\Om.St rows x y s)
    ⟨v6,v7,G,vs,ss,rfl,R1,hd,by omega,fun s=>by rw [hb1];constructor<;>rintro ⟨h1,h2⟩<;>exact ⟨by omega,h2⟩⟩ (fun i σ H2 _ ⟨_,_,_,_,_,_,R,_⟩=>R.all _ _ f2) ?_ ?_
   ·rintro j t2 σ H3 hj ⟨v6,v7,G,vs,ss,rfl,R2,hd,hl,hb1⟩ ht2
    have hj':j < rows[y].length:=by omega
    obtain ⟨r',s1,s2⟩:=row_at f3 (l:=j) (r:=rows[y][j]) (List.getElem?_eq_getElem hj')
    have er':ry.getD j .non = .ref r':=by rw [List.getD_eq_getElem?_getD,s1];rfl
    have R3:=R2.new (o:=.tup [.int (j:Nat),.ref r']) ht2
    dsimp only
    rw [er']
    refine ⟨_,.inl upd_same,rfl,rfl,?_⟩
    refine ⟨_,gt (R3.all _ _ r2) (by decide) rfl,_,gt (R3.all _ _ s2) (by decide) rfl,?_⟩
    have key:∀ s:Om.Stp,s.1.1=i->s.1.2=j->(Om.St rows x y s↔rows[x][i].1=rows[y][j].1/\s=((i,j),(rows[x][i].2,rows[y][j].2))):=by
     rintro ⟨⟨a1,a2⟩,a3⟩ h1 h2
     dsimp only at h1 h2
     subst h1 h2
     unfold Om.St
     dsimp only
     rw [gx,gy,stx _ hi',sty _ hj']
     constructor
     ·rintro ⟨_,_,h3,h4⟩;exact ⟨h3,by rw [h4]⟩
     ·rintro ⟨h3,h4⟩
      exact ⟨hi',hj',h3,(Prod.mk.inj h4).2⟩
    refine ite2 (fun h1=>?_) (fun h1=>⟨_,_,G,vs,ss,rfl,R3,hd,by omega,fun s=>?_⟩)
    ·have h1':=bs_inj (of_decide_eq_true h1)
     refine ⟨⟨_,rfl,R3.hL⟩,?_⟩
     refine ⟨le_line (Nat.le_of_ble_eq_true rfl),fun z hz=>?_⟩
     have R4:=R3.put (o:=.tup [.int (i:Nat),.int (j:Nat)]) hz
     have U4:=R3.up (o:=.tup [.int (i:Nat),.int (j:Nat)]) hz
     refine ⟨_,gt (R4.all _ _ r2) (by decide) rfl,_,gt (R4.all _ _ s2) (by decide) rfl,?_⟩
     refine ⟨le_line (Nat.le_of_ble_eq_true rfl),fun z1 hz1=>?_⟩
     have R5:=R4.put (o:=.tup [.int (rows[x][i].2:Nat),.int (rows[y][j].2:Nat)]) hz1
     have U5:=R4.up (o:=.tup [.int (rows[x][i].2:Nat),.int (rows[y][j].2:Nat)]) hz1
     refine ⟨le_line (Nat.le_of_ble_eq_true rfl),fun z2 hz2=>?_⟩
     have R6:=R5.put (o:=.tup [.ref z,.ref z1]) hz2
     have U6:=R5.up (o:=.tup [.ref z,.ref z1]) hz2
     have vl:vs.length=ss.length:=by rw [hd.length,List.length_map]
     refine ⟨_,R6.hL,by rw [vl];exact lt_line (by omega),?_⟩
     refine ⟨_,_,_,vs++[.ref z2],ss++[((i,j),(rows[x][i].2,rows[y][j].2))],rfl,R6.set,?_,by simp;omega,fun u=>?_⟩
     ·rw [List.map_append]
      refine (hd.mono ((U4.trans U5).trans U6)).app (.cons (.tup upd_same (.cons ?_ (.cons ?_ .nil))) .nil)
      ·exact (pair_DV (x:=(i,j)) upd_same).mono (U5.trans U6)
      ·exact (pair_DV (x:=(rows[x][i].2,rows[y][j].2)) upd_same).mono U6
     ·rw [List.mem_append,hb1,List.mem_singleton]
      constructor
      ·rintro (⟨g1,g2⟩ | g)
       ·exact ⟨by omega,g2⟩
       ·subst g
        exact ⟨.inr ⟨rfl,Nat.lt_succ_self _⟩,(key _ rfl rfl).mpr ⟨h1',rfl⟩⟩
      ·rintro ⟨g1,g2⟩
       by_cases c:u.1.1=i/\u.1.2=j
       ·exact .inr ((key _ c.1 c.2).mp g2).2
       ·exact .inl ⟨by omega,g2⟩
    ·have h1':¬ rows[x][i].1=rows[y][j].1:=fun z=>by rw [z] at h1;simp at h1
     rw [hb1]
     constructor
     ·rintro ⟨g1,g2⟩;exact ⟨by omega,g2⟩
     ·rintro ⟨g1,g2⟩
      by_cases c:s.1.1=i/\s.1.2=j
      ·exact absurd ((key _ c.1 c.2).mp g2).1 h1'
      ·exact ⟨by omega,g2⟩
   ·rintro σ H3 ⟨v6,v7,G,vs,ss,rfl,R2,hd,hl,hb1⟩
    refine ⟨_,_,_,_,G,vs,ss,rfl,R2,hd,by omega,fun s=>?_⟩
    rw [hb1]
    constructor
    ·rintro ⟨g1,g2⟩;exact ⟨by omega,g2⟩
    ·rintro ⟨g1,g2⟩
     refine ⟨?_,g2⟩
     have:=g2.2.1
     rw [gy] at this
     omega
  ·rintro σ H2 ⟨v4,v5,v6,v7,G,vs,ss,rfl,R,hd,hl,hb1⟩
   refine q L ss _ R.all hL (.lst R.hL (hd.mono R.s)) (by omega) fun s=>?_
   rw [hb1]
   constructor
   ·exact fun h=>h.2
   ·intro h
    refine ⟨?_,h⟩
    have:=h.1
    rw [gx] at this
    omega
 ·exact h.elim
end
end K37
end
section
namespace K37
open PySem L2
section
variable {P:Program} {w:World} {K:PySem.W.Frag} {mg:Str->Option Value} {base:Heap}
abbrev sLayerC:Stmt:=top 9
def spLayerC:Sp:=fun vs H Q _=>match vs with
 | [lv,gv]=>∃ (R R0:Om.R2n) (E:Nat->Nat->Om.Stp->Prop),LyV H lv R/\GrV H gv R0 E/\(∀ x y,R x y->R0 x y)/\(∀ x y s,R0 x y->E x y s->R0 s.2.1 s.2.2)/\∀ v H',Same H H'->LyV H' v (Om.nextR E R)->Q v H'
 | _=>False
theorem scLayerC:FnScope ["layer","graph","behind","node","label","to"] ["layer","graph"] (defScope sLayerC):=⟨rfl,rfl,rfl,by decide +kernel,rfl,by decide +kernel,by decide +kernel⟩
local macro_rules | `(tactic| walk_at "T.e")=>`(tactic| first | (with_reducible exact pe_dnewT) | ((with_reducible refine' ix_atD ?a0 ?a1 ?a2);(case a0=>exact Room.units (by assumption));(case a1=>walk_at "T.e");(case a2=>walk_at "T.e")))
local macro_rules | `(tactic| walk_at "T.i")=>`(tactic| ((with_reducible refine' pi_lstD ?a1);(case a1=>walk_at "T.e")))
local macro_rules | `(tactic| walk_at "T.cmp")=>`(tactic| ((with_reducible refine' op_notInDict ?a1);(case a1=>exact Room.units (by assumption))))
local macro_rules | `(tactic| walk_at "T.g")=>`(tactic| ((with_reducible refine' g_subD ?a0 ?a1 ?a2);(case a0=>exact Room.units (by assumption));(case a1=>walk_at "T.e");(case a2=>walk_at "T.e")))
local macro_rules | `(tactic| walk_at "T.st")=>`(tactic| ((with_reducible refine' s_retF ?a1);(case a1=>walk_at "T.e")))
theorem ok_layerC (D:FnX K mg "layer_behind" sLayerC ["layer","graph"]):Can P w K mg base "layer_behind" 1 ["layer","graph"] spLayerC:=by
 refine can_fn (k:=0) D scLayerC (fun vs H Q E h=>?_) (fun f cdv A outer s H vs Q E hr h=>?_)
 all_goals
  unfold spLayerC at h
  split at h
 ·rfl
 ·exact h.elim
 ·rename_i lv gv
  obtain ⟨R,R0,Ed,hly,hgr,hsub,hcl,q⟩:=h
  have nd:=scLayerC.nd
  obtain ⟨la,lo,lkvs,lks,rfl,hla,lkd,lmem⟩:=hly
  obtain ⟨ga,go,gkvs,gks,rfl,hga,gkd,gmem,gst⟩:=hgr
  refine ⟨_,(by walk_at "T.top"),?_⟩
  intro D hD
  have M0:=Gd.start hD
  refine .inr (.inl ⟨lo,lkvs,M0.all _ _ hla,fun bs hbs=>?_⟩)
  have hbl:=lkd.blen hbs
  have le:lks.length<=64:=lkd.le
  refine for_by (it_keys la lo (bs.map V.ref)) (fun i σ H2=>∃ (v3 v4 v5:Option V) (G:Hp) (kvs:List (List Key×V)) (ks:List (Nat×Nat)),σ=[some (.ref la),some (.ref ga),some (.ref D),v3,v4,v5]/\Gd G H H2 D kvs/\KeysAt H2 lkvs bs/\KD ks kvs ∧
    ∀ x' y',(x',y')∈ks↔∃ j,j < i/\∃ p,lks[j]? = some p/\∃ s,Ed p.1 p.2 s/\s.2=(x',y'))
   ⟨none,none,none,_,[],[],rfl,M0,hbs,KD.nil,fun x' y'=>by simp⟩ (fun i σ H2 _ ⟨_,_,_,_,_,_,_,M,_⟩=>⟨_,M.all _ _ hla⟩) ?_ ?_
  ·rintro i z σ H2 hi hz ⟨v3,v4,v5,G,kvs,ks,rfl,M,hb2,kd,hm⟩
   have hi':i < lks.length:=by rw [<-hbl];exact hi
   obtain ⟨b,rfl,hb⟩:=lkd.key hb2 hi' hz
   have hp:lks[i]? = some lks[i]:=List.getElem?_eq_getElem hi'
   have pR:R lks[i].1 lks[i].2:=(lmem _ _).mp (List.getElem_mem hi')
   have pR0:=hsub _ _ pR
   obtain ⟨l,ss,g1,g2,g3,g4⟩:=gst lks[i] ((gmem _ _).mpr pR0)
   obtain ⟨l',xs,e,hl,hxs⟩:=g2.lst_inv
   cases e
   have hgb:DGet H2 ga (.ref b) (some (.ref l)):=.inr ⟨gkvs,kk lks[i],b,.inr ⟨go,M.all _ _ hga⟩,rfl,hb,g1.symm⟩
   refine .inr ⟨_,_,rfl,hgb,?_⟩
   refine .inl ⟨⟨_,SqL.of (M.all _ _ hl)⟩,?_⟩
   have xl:xs.length=ss.length:=by rw [hxs.length,List.length_map]
   refine for_by (it_list _ l xs) (fun j σ H3=>∃ (v4 v5:Option V) (G:Hp) (kvs:List (List Key×V)) (ks:List (Nat×Nat)),σ=[some (.ref la),some (.ref ga),some (.ref D),some (.ref b),v4,v5]/\Gd G H H3 D kvs/\KeysAt H3 lkvs bs/\KD ks kvs/\H3 b=some (.tup ((kk lks[i]).map kV)) ∧
     ∀ x' y',(x',y')∈ks↔(∃ j,j < i/\∃ p,lks[j]? = some p/\∃ s,Ed p.1 p.2 s/\s.2=(x',y'))\/∃ m s,m < j/\ss[m]? = some s/\s.2=(x',y'))
    ⟨v4,v5,G,kvs,ks,rfl,M,hb2,kd,hb,fun x' y'=>by rw [hm];simp⟩ (fun i σ H2 _ ⟨_,_,_,_,_,_,M,_⟩=>SqL.of (M.all _ _ hl)) ?_ ?_
   ·rintro j z σ H3 hj hz ⟨v4,v5,G,kvs,ks,rfl,M,hb2,kd,hb,hm⟩
    have hj':j < ss.length:=by rw [<-xl];exact hj
    have es:ss[j]? = some ss[j]:=List.getElem?_eq_getElem hj'
    obtain ⟨z',hz',dz⟩:=hxs.get (i:=j) (d:=sD ss[j]) (by rw [List.getElem?_map,es];rfl)
    rw [hz] at hz'
    cases hz'
    obtain ⟨p,a,c,rfl,h1,h2,h3⟩:=sD_inv dz
    refine ⟨_,.inl (M.all _ _ h1),rfl,rfl,?_⟩
    have hc3:H3 c=some (.tup ((kk ss[j].2).map kV)):=M.all _ _ h3
    have sE:Ed lks[i].1 lks[i].2 ss[j]:=(g4 _).mp (List.getElem_mem hj')
    refine ⟨_,_,rfl,.inr ⟨kvs,kk ss[j].2,c,.inl M.hD,rfl,hc3,rfl⟩,?_⟩
    refine ite2 (fun c1=>?_) (fun c1=>?_)
    ·have nin:ss[j].2 ∉ ks:=fun z=>by
      have:=kd.mem.mpr z
      rw [this] at c1;cases c1
     refine ⟨le_line (Nat.le_of_ble_eq_true rfl),fun t ht=>?_⟩
     have M1:=M.put (o:=.tup [.ref b,.ref a]) ht
     have tD:D≠t:=ne_of_none M.hD ht
     have hcl':=hcl _ _ _ pR0 sE
     have b8:=gkd.lt _ ((gmem _ _).mpr hcl')
     refine .inr ⟨_,_,rfl,.inr ⟨kvs,kk ss[j].2,c,M1.hD,rfl,Same.upd ht _ _ hc3,kd.lt_line,rfl⟩,?_⟩
     have sm:Same H3 (upd H3 t (.tup [.ref b,.ref a])):=Same.upd ht
     refine ⟨_,_,_,_,_,rfl,M1.set,?_,kd.put (v:=.ref t) nin b8.1 b8.2,?_,fun x' y'=>?_⟩
     ·refine Paired.mapP hb2 fun p b' h=>?_
      have:b'≠D:=ne_of h M.hD (fun z=>nomatch z)
      rw [upd_ne this];exact sm _ _ h
     ·have:b≠D:=ne_of hb M.hD (fun z=>nomatch z)
      rw [upd_ne this];exact sm _ _ hb
     ·rw [List.mem_append,hm,List.mem_singleton]
      constructor
      ·rintro ((h | ⟨m,s,h1,h2,h3⟩) | h)
       ·exact .inl h
       ·exact .inr ⟨m,s,by omega,h2,h3⟩
       ·exact .inr ⟨j,ss[j],by omega,es,h.symm⟩
      ·rintro (h | ⟨m,s,k1,k2,k3⟩)
       ·exact .inl (.inl h)
       ·by_cases e:m=j
        ·subst e
         rw [es] at k2
         cases k2
         exact .inr k3.symm
        ·exact .inl (.inr ⟨m,s,by omega,k2,k3⟩)
    ·have isin:ss[j].2∈ks:=kd.mem.mp (by
      cases hq:(valV kvs (kk ss[j].2)).isSome with
      | true=>rfl
      | false=>rw [hq] at c1;exact absurd rfl c1)
     refine ⟨_,_,G,kvs,ks,rfl,M,hb2,kd,hb,fun x' y'=>?_⟩
     rw [hm]
     constructor
     ·rintro (h | ⟨m,s,h1,h2,h3⟩)
      ·exact .inl h
      ·exact .inr ⟨m,s,by omega,h2,h3⟩
     ·rintro (h | ⟨m,s,k1,k2,k3⟩)
      ·exact .inl h
      ·by_cases e:m=j
       ·subst e
        rw [es] at k2
        cases k2
        have:=(hm x' y').mp (by rw [<-k3];exact isin)
        exact this
       ·exact .inr ⟨m,s,by omega,k2,k3⟩
   ·rintro σ H3 ⟨v4,v5,G,kvs,ks,rfl,M,hb2,kd,hb,hm⟩
    refine ⟨_,_,_,G,kvs,ks,rfl,M,hb2,kd,fun x' y'=>?_⟩
    rw [hm]
    constructor
    ·rintro (⟨j,h1,h2⟩ | ⟨m,s,h1,h2,h3⟩)
     ·exact ⟨j,by omega,h2⟩
     ·exact ⟨i,by omega,lks[i],hp,s,(g4 _).mp (List.mem_of_getElem? h2),h3⟩
    ·rintro ⟨j,k1,p,k2,s,k3,k4⟩
     by_cases e:j=i
     ·subst e
      rw [hp] at k2
      cases k2
      obtain ⟨m,hm1,hm2⟩:=List.mem_iff_getElem.mp ((g4 _).mpr k3)
      exact .inr ⟨m,s,by omega,by rw [List.getElem?_eq_getElem hm1,hm2],k4⟩
     ·exact .inl ⟨j,by omega,p,k2,s,k3,k4⟩
  ·rintro σ H2 ⟨v3,v4,v5,G,kvs,ks,rfl,M,hb2,kd,hm⟩
   refine .inl ⟨_,M.hD,trivial,fun o=>?_⟩
   refine q _ _ (M.s0.trans M.frz) ⟨D,o,kvs,ks,rfl,upd_same,kd,fun x' y'=>?_⟩
   rw [hm]
   constructor
   ·rintro ⟨j,h1,p,h2,s,h3,h4⟩
    exact ⟨p.1,p.2,s,(lmem _ _).mp (List.mem_of_getElem? h2),h3,h4⟩
   ·rintro ⟨x,y,s,h1,h2,h3⟩
    obtain ⟨j,hj1,hj2⟩:=List.mem_iff_getElem.mp ((lmem x y).mpr h1)
    exact ⟨j,by rw [hbl];exact hj1,(x,y),by rw [List.getElem?_eq_getElem hj1,hj2],s,h2,h3⟩
 ·exact h.elim
end
end K37
end
section
namespace K37
open PySem L2
section
variable {P:Program} {w:World} {K:PySem.W.Frag} {mg:Str->Option Value} {base:Heap}
abbrev sGraphC:Stmt:=top 6
def spGraphC:Sp:=fun vs H Q _=>match vs with
 | [cv,.ref sl]=>∃ (k n:Nat) (rows:Om.Rows),DV H cv (codeD k n rows)/\Om.CodeOk k n rows/\H sl=some (.lst ((List.range rows.length).map fun i=>V.int (i:Nat)))/\∀ v H',Same H H'->GrV H' v (Om.AllR rows) (Om.St rows)->Q v H'
 | _=>False
theorem scGraphC:FnScope ["code","states","graph","one","other"] ["code","states"] (defScope sGraphC):=⟨rfl,rfl,rfl,by decide +kernel,rfl,by decide +kernel,by decide +kernel⟩
local macro_rules | `(tactic| walk_at "T.e")=>`(tactic| (with_reducible exact pe_dnewT))
local macro_rules | `(tactic| walk_at "T.g")=>`(tactic| ((with_reducible refine' g_subD ?a0 ?a1 ?a2);(case a0=>exact Room.units (by assumption));(case a1=>walk_at "T.e");(case a2=>walk_at "T.e")))
local macro_rules | `(tactic| walk_at "T.st")=>`(tactic| ((with_reducible refine' s_retF ?a1);(case a1=>walk_at "T.e")))
theorem rng_atC {S i:Nat} {z:V} (h:((List.range S).map fun i=>V.int (i:Nat))[i]? = some z):i < S/\z = .int (i:Nat):=by
 rw [List.getElem?_map] at h
 obtain ⟨j,h1,rfl⟩:=Option.map_eq_some_iff.mp h
 have hlt:i < S:=by
  obtain ⟨hl,_⟩:=List.getElem?_eq_some_iff.mp h1
  simpa using hl
 rw [List.getElem?_range hlt] at h1
 cases h1
 exact ⟨hlt,rfl⟩
theorem ok_graphC (D:FnX K mg "pair_graph" sGraphC ["code","states"]) (c1:Can P w K mg base "pair_steps" 1 ["code","one","other"] spPStepsC):Can P w K mg base "pair_graph" 2 ["code","states"] spGraphC:=by
 refine can_fn (k:=1) D scGraphC (fun vs H Q E h=>?_) (fun f cdv A outer s H vs Q E hr h=>?_)
 all_goals
  unfold spGraphC at h
  split at h
 ·rfl
 ·exact h.elim
 ·rename_i cv sl
  obtain ⟨k,n,rows,hc,ok,hsl,q⟩:=h
  have nd:=scGraphC.nd
  have s8:=ok.s8
  refine ⟨_,(by walk_at "T.top"),?_⟩
  intro D hD
  have M0:=Gd.start hD
  refine ⟨⟨_,SqL.of (M0.all _ _ hsl)⟩,?_⟩
  refine for_by (it_list _ sl _) (fun i σ H2=>∃ (v3 v4:Option V) (G:Hp) (kvs:List (List Key×V)) (ks:List (Nat×Nat)),σ=[some cv,some (.ref sl),some (.ref D),v3,v4]/\Gd G H H2 D kvs/\KD ks kvs/\Vals2 G kvs ks (Om.St rows) ∧
    ∀ x y,(x,y)∈ks↔x < i/\y < rows.length)
   ⟨none,none,_,[],[],rfl,M0,KD.nil,(fun p hp=>nomatch hp),fun x' y'=>by simp⟩ (fun i σ H2 _ ⟨_,_,_,_,_,_,M,_⟩=>SqL.of (M.all _ _ hsl)) ?_ ?_
  ·rintro i z σ H2 hi hz ⟨v3,v4,G,kvs,ks,rfl,M,kd,hv,hm⟩
   obtain ⟨hi',rfl⟩:=rng_atC hz
   refine ⟨⟨_,SqL.of (M.all _ _ hsl)⟩,?_⟩
   refine for_by (it_list _ sl _) (fun j σ H2=>∃ (v4:Option V) (G:Hp) (kvs:List (List Key×V)) (ks:List (Nat×Nat)),σ=[some cv,some (.ref sl),some (.ref D),some (.int (i:Nat)),v4]/\Gd G H H2 D kvs/\KD ks kvs/\Vals2 G kvs ks (Om.St rows) ∧
     ∀ x y,(x,y)∈ks↔(x < i/\y < rows.length)\/(x=i/\y < j))
    ⟨v4,G,kvs,ks,rfl,M,kd,hv,fun x' y'=>by rw [hm];simp⟩ (fun i σ H2 _ ⟨_,_,_,_,_,M,_⟩=>SqL.of (M.all _ _ hsl)) ?_ ?_
   ·rintro j z σ H3 hj hz ⟨v4,G,kvs,ks,rfl,M,kd,hv,hm⟩
    obtain ⟨hj',rfl⟩:=rng_atC hz
    refine ⟨k,n,rows,i,j,rfl,rfl,hc.mono M.all,ok,hi',hj',fun l ss H4 s4 hl4 hst h64 hmem=>?_⟩
    obtain ⟨G1,M1,gg,he⟩:=M.call s4
    have st1:StL G1 l ss:=DV.lt (Lt.but M1.hD he) hst
    have hv1:=hv.mono gg
    refine ⟨le_line (Nat.le_of_ble_eq_true rfl),fun t ht=>?_⟩
    have M2:=M1.put (o:=.tup [.int (i:Nat),.int (j:Nat)]) ht
    have U2:=M1.up (o:=.tup [.int (i:Nat),.int (j:Nat)]) ht
    have nin:(i,j) ∉ ks:=fun z=>by
     rcases (hm _ _).mp z with ⟨h1,_⟩ | ⟨_,h1⟩
     ·exact absurd h1 (Nat.lt_irrefl _)
     ·exact absurd h1 (Nat.lt_irrefl _)
    refine .inr ⟨_,_,rfl,.inr ⟨kvs,kk (i,j),t,M2.hD,rfl,upd_same,kd.lt_line,rfl⟩,?_⟩
    refine ⟨_,_,_,_,rfl,M2.set,kd.put (v:=.ref l) nin (by show i < 8;omega) (by show j < 8;omega),(hv1.mono U2).put nin (st1.mono U2) h64 hmem,fun x' y'=>?_⟩
    rw [List.mem_append,hm,List.mem_singleton,Prod.mk.injEq]
    omega
   ·rintro σ H3 ⟨v4,G,kvs,ks,rfl,M,kd,hv,hm⟩
    refine ⟨_,_,G,kvs,ks,rfl,M,kd,hv,fun x' y'=>?_⟩
    rw [hm,List.length_map,List.length_range]
    omega
  ·rintro σ H2 ⟨v3,v4,G,kvs,ks,rfl,M,kd,hv,hm⟩
   refine .inl ⟨_,M.hD,trivial,fun o=>?_⟩
   refine q _ _ (M.s0.trans M.frz) ⟨D,o,kvs,ks,rfl,upd_same,kd,fun x' y'=>?_,hv.mono M.frz⟩
   rw [hm,List.length_map,List.length_range]
   exact Iff.rfl
 ·exact h.elim
end
section
variable {P:Program} {w:World} {K:PySem.W.Frag} {mg:Str->Option Value} {base:Heap}
abbrev sUnlike:Stmt:=top 24
def unl (E:Nat->Nat->Om.Stp->Prop):Nat->Nat->Om.Stp->Prop:=fun x y s=>E x y s/\s.1.1≠s.1.2
def spUnlike:Sp:=fun vs H Q _=>match vs with
 | [gv]=>∃ (R:Om.R2n) (E:Nat->Nat->Om.Stp->Prop),GrV H gv R E/\∀ v H',Same H H'->GrV H' v R (unl E)->Q v H'
 | _=>False
theorem scUnlike:FnScope ["graph","unlike","pair"] ["graph"] (defScope sUnlike):=⟨rfl,rfl,rfl,by decide +kernel,rfl,by decide +kernel,by decide +kernel⟩
local macro_rules | `(tactic| walk_at "T.c")=>`(tactic| (have ndc:(["step"]:List Str).Nodup:=(by decide +kernel));((with_reducible refine' c_comp ["step"] [] ?b1 ?b2 (fun cl C s H fp=>?b3) (fun cl C s H fp=>?b4) (fun cl C s H fp=>?b5));(case b1=>exact ndc);(case b2=>walk_at "T.i");(case b3=>walk_at "T.g");(case b4=>walk_at "T.pf");(case b5=>walk_at "T.e")))
local macro_rules | `(tactic| walk_at "T.e")=>`(tactic| first | (with_reducible exact pe_dnewT) | ((with_reducible refine' ix_atD ?a0 ?a1 ?a2);(case a0=>exact Room.units (by assumption));(case a1=>walk_at "T.e");(case a2=>walk_at "T.e")))
local macro_rules | `(tactic| walk_at "T.i")=>`(tactic| ((with_reducible refine' pi_lstD ?a1);(case a1=>walk_at "T.e")))
local macro_rules | `(tactic| walk_at "T.g")=>`(tactic| ((with_reducible refine' g_subD ?a0 ?a1 ?a2);(case a0=>exact Room.units (by assumption));(case a1=>walk_at "T.e");(case a2=>walk_at "T.e")))
local macro_rules | `(tactic| walk_at "T.st")=>`(tactic| ((with_reducible refine' s_retF ?a1);(case a1=>walk_at "T.e")))
theorem ok_unlike (D:FnX K mg "unlike_steps" sUnlike ["graph"]):Can P w K mg base "unlike_steps" 1 ["graph"] spUnlike:=by
 refine can_fn (k:=0) D scUnlike (fun vs H Q E h=>?_) (fun f cdv A outer s H vs Q E hr h=>?_)
 all_goals
  unfold spUnlike at h
  split at h
 ·rfl
 ·exact h.elim
 ·rename_i gv
  obtain ⟨R,Ed,hgr,q⟩:=h
  have nd:=scUnlike.nd
  obtain ⟨ga,go,gkvs,gks,rfl,hga,gkd,gmem,gst⟩:=hgr
  refine ⟨_,(by walk_at "T.top"),?_⟩
  intro D hD
  have M0:=Gd.start hD
  refine .inr (.inl ⟨go,gkvs,M0.all _ _ hga,fun bs hbs=>?_⟩)
  have hbl:=gkd.blen hbs
  refine for_by (it_keys ga go (bs.map V.ref)) (fun i σ H2=>∃ (v2:Option V) (G:Hp) (kvs:List (List Key×V)) (ks:List (Nat×Nat)),σ=[some (.ref ga),some (.ref D),v2]/\Gd G H H2 D kvs/\KeysAt H2 gkvs bs/\KD ks kvs/\Vals2 G kvs ks (unl Ed)/\ks=gks.take i)
   ⟨none,_,[],[],rfl,M0,hbs,KD.nil,(fun p hp=>nomatch hp),by simp⟩ (fun i σ H2 _ ⟨_,_,_,_,_,M,_⟩=>⟨_,M.all _ _ hga⟩) ?_ ?_
  ·rintro i z σ H2 hi hz ⟨v2,G,kvs,ks,rfl,M,hb2,kd,hv,rfl⟩
   have hi':i < gks.length:=by rw [<-hbl];exact hi
   obtain ⟨b,rfl,hb⟩:=gkd.key hb2 hi' hz
   obtain ⟨l,ss,g1,g2,g3,g4⟩:=gst gks[i] (List.getElem_mem hi')
   obtain ⟨l',xs,e,hl,hxs⟩:=g2.lst_inv
   cases e
   have xl:xs.length=ss.length:=by rw [hxs.length,List.length_map]
   have hgb:DGet H2 ga (.ref b) (some (.ref l)):=.inr ⟨gkvs,kk gks[i],b,.inr ⟨go,M.all _ _ hga⟩,rfl,hb,g1.symm⟩
   refine .inr ⟨_,_,rfl,hgb,?_⟩
   refine .inl ⟨⟨_,SqL.of (M.all _ _ hl)⟩,fun C hC=>?_⟩
   refine comp_by (it_list _ l xs) (fun m τ H4 ys=>(∃ v,τ=[v])/\H4=upd H2 C (.lst ys)/\∃ zs:List Om.Stp,DVs H ys (zs.map sD)/\zs.length<=m/\∀ s,s∈zs↔(∃ m',m' < m/\ss[m']? = some s)/\s.1.1≠s.1.2)
    (by rw [xl];exact le_line (by omega)) ⟨⟨none,rfl⟩,rfl,[],.nil,Nat.le_refl _,by simp⟩ ?_ ?_ ?_
   ·rintro m τ H4 ys hm ⟨_,rfl,zs,hd,hzl,_⟩
    have:C≠l:=fun z=>by rw [z,M.all _ _ hl] at hC;cases hC
    exact ⟨SqL.of (Same.upd hC _ _ (M.all _ _ hl)),upd_same,by rw [hd.length,List.length_map];exact hzl⟩
   ·rintro m z τ H4 ys hm hz ⟨⟨v,rfl⟩,rfl,zs,hd,hzl,hmem⟩
    have hm':m < ss.length:=by rw [<-xl];exact hm
    have es:ss[m]? = some ss[m]:=List.getElem?_eq_getElem hm'
    obtain ⟨z',hz',dz⟩:=hxs.get (i:=m) (d:=sD ss[m]) (by rw [List.getElem?_map,es];rfl)
    rw [hz] at hz'
    cases hz'
    obtain ⟨p,a,c,rfl,h1,h2,h3⟩:=sD_inv dz
    have u4:Same H (upd H2 C (.lst ys)):=M.all.trans (Same.upd hC)
    dsimp only [gName]
    refine .inl ⟨_,gt (u4 _ _ h1) (by decide) rfl,.inl ⟨_,gt (u4 _ _ h2) (by decide) rfl,.inl ⟨_,gt (u4 _ _ h1) (by decide) rfl,.inl ⟨_,gt (u4 _ _ h2) (by decide) rfl,?_⟩⟩⟩⟩
    dsimp only
    refine ite2 (fun c1=>?_) (fun c1=>?_)
    ·have ne:ss[m].1.1≠ss[m].1.2:=fun z=>by rw [z] at c1;simp at c1
     refine ⟨upd_same,⟨_,rfl⟩,upd_upd,zs++[ss[m]],?_,by simp;omega,fun u=>?_⟩
     ·rw [List.map_append]
      exact hd.app (.cons dz .nil)
     ·rw [List.mem_append,hmem,List.mem_singleton]
      constructor
      ·rintro (⟨⟨m',k1,k2⟩,k3⟩ | k)
       ·exact ⟨⟨m',by omega,k2⟩,k3⟩
       ·subst k;exact ⟨⟨m,by omega,es⟩,ne⟩
      ·rintro ⟨⟨m',k1,k2⟩,k3⟩
       by_cases e:m'=m
       ·subst e
        rw [es] at k2
        exact .inr (Option.some.inj k2).symm
       ·exact .inl ⟨⟨m',by omega,k2⟩,k3⟩
    ·have eq:ss[m].1.1=ss[m].1.2:=by
      rcases Nat.decEq ss[m].1.1 ss[m].1.2 with h | h
      ·have h':¬ ((ss[m].1.1:Nat):Int)=((ss[m].1.2:Nat):Int):=by omega
       rw [decide_eq_false h'] at c1
       exact absurd rfl c1
      ·exact h
     refine ⟨⟨_,rfl⟩,rfl,zs,hd,by omega,fun u=>?_⟩
     rw [hmem]
     constructor
     ·rintro ⟨⟨m',k1,k2⟩,k3⟩;exact ⟨⟨m',by omega,k2⟩,k3⟩
     ·rintro ⟨⟨m',k1,k2⟩,k3⟩
      by_cases e:m'=m
      ·subst e
       rw [es] at k2
       cases k2
       exact absurd eq k3
      ·exact ⟨⟨m',by omega,k2⟩,k3⟩
   ·rintro τ H4 ys ⟨_,rfl,zs,hd,hzl,hmem⟩
    have M1:=M.put (o:=.lst ys) hC
    have U1:=M.up (o:=.lst ys) hC
    have hb3:upd H2 C (.lst ys) b=some (.tup ((kk gks[i]).map kV)):=Same.upd hC _ _ hb
    have ti:gks.take (i+1)=gks.take i++[gks[i]]:=by rw [List.take_add_one,List.getElem?_eq_getElem hi'];rfl
    have nin:gks[i] ∉ gks.take i:=fun z=>by
     have nd2:=gkd.nd
     rw [<-List.take_append_drop (i+1) gks,ti] at nd2
     have nd3:=(List.nodup_append.mp nd2).1
     exact (List.nodup_append.mp nd3).2.2 _ z _ (List.mem_singleton.mpr rfl) rfl
    refine .inr ⟨_,_,rfl,.inr ⟨kvs,kk gks[i],b,M1.hD,rfl,hb3,kd.lt_line,rfl⟩,?_⟩
    have b8:=gkd.lt _ (List.getElem_mem hi')
    have st:StL (upd G C (.lst ys)) C zs:=.lst upd_same (hd.mono (M.s0.trans U1))
    refine ⟨_,_,_,gks.take i++[gks[i]],rfl,M1.set,?_,kd.put (v:=.ref C) nin b8.1 b8.2,(hv.mono U1).put nin st (by omega) (fun s=>?_),ti.symm⟩
    ·refine Paired.mapP hb2 fun p b' h=>?_
     have:b'≠D:=ne_of h M.hD (fun z=>nomatch z)
     rw [upd_ne this];exact Same.upd hC _ _ h
    ·rw [hmem]
     unfold unl
     rw [<-g4]
     constructor
     ·rintro ⟨⟨m',k1,k2⟩,k3⟩;exact ⟨List.mem_of_getElem? k2,k3⟩
     ·rintro ⟨k2,k3⟩
      obtain ⟨m',e1,e2⟩:=List.mem_iff_getElem.mp k2
      exact ⟨⟨m',by rw [xl];exact e1,by rw [List.getElem?_eq_getElem e1,e2]⟩,k3⟩
  ·rintro σ H2 ⟨v2,G,kvs,ks,rfl,M,hb2,kd,hv,rfl⟩
   refine .inl ⟨_,M.hD,trivial,fun o=>?_⟩
   rw [hbl,List.take_length] at kd hv
   exact q _ _ (M.s0.trans M.frz) ⟨D,o,kvs,gks,rfl,upd_same,kd,gmem,hv.mono M.frz⟩
 ·exact h.elim
end
end K37
end
section
namespace K37
open PySem L2
section
variable {P:Program} {w:World} {K:PySem.W.Frag} {mg:Str->Option Value} {base:Heap}
abbrev sWhole:Stmt:=top 1
def spWhole:Sp:=fun vs H Q _=>match vs with
 | [.int _]=>Q (.bl true) H
 | _=>False
theorem scWhole:FnScope ["thing"] ["thing"] (defScope sWhole):=⟨rfl,rfl,rfl,by decide +kernel,rfl,by decide +kernel,by decide +kernel⟩
theorem ok_whole (D:FnX K mg "is_whole" sWhole ["thing"]) (g1:mg "isinstance" = none) (g2:mg "int" = none) (g3:mg "bool" = none):Can P w K mg base "is_whole" 1 ["thing"] spWhole:=by
 refine can_fn (k:=0) D scWhole (fun vs H Q E h=>?_) (fun f cdv A outer s H vs Q E hr h=>?_)
 all_goals
  unfold spWhole at h
  split at h
 ·rfl
 ·exact h.elim
 ·have nd:=scWhole.nd
  refine ⟨_,(by walk_at "T.top1"),?_⟩
  refine ⟨"int",rfl,by decide,?_⟩
  refine iteP (by decide) ?_
  refine ⟨"int",rfl,by decide,?_⟩
  exact h
 ·exact h.elim
abbrev sWin:Stmt:=top 21
def spWin:Sp:=fun vs H Q _=>match vs with
 | [.int b,.int a]=>0<=b/\0<=a/\Q (.bl true) H
 | _=>False
theorem scWin:FnScope ["back","ahead"] ["back","ahead"] (defScope sWin):=⟨rfl,rfl,rfl,by decide +kernel,rfl,by decide +kernel,by decide +kernel⟩
theorem ok_win (D:FnX K mg "is_window" sWin ["back","ahead"]) (c1:Can P w K mg base "is_whole" 1 ["thing"] spWhole):Can P w K mg base "is_window" 2 ["back","ahead"] spWin:=by
 refine can_fn (k:=1) D scWin (fun vs H Q E h=>?_) (fun f cdv A outer s H vs Q E hr h=>?_)
 all_goals
  unfold spWin at h
  split at h
 ·rfl
 ·exact h.elim
 ·obtain ⟨h0,h1,q⟩:=h
  have nd:=scWin.nd
  refine ⟨_,(by walk_at "T.top1"),?_⟩
  refine iteP (decide_eq_true h0) ?_
  have q':=q
  rw [<-decide_eq_true h1] at q'
  exact q'
 ·exact h.elim
abbrev sBehind:Stmt:=top 23
def spBehind:Sp:=fun vs H Q _=>match vs with
 | [lv,gv,.int c]=>∃ (m:Nat) (R R0:Om.R2n) (E:Nat->Nat->Om.Stp->Prop),c=(m:Nat)/\m<=100/\LyV H lv R/\GrV H gv R0 E/\(∀ x y,R x y->R0 x y)/\(∀ x y s,R0 x y->E x y s->R0 s.2.1 s.2.2)/\∀ v H',Same H H'->LyV H' v (Om.iterR E R m)->(∀ x y,Om.iterR E R m x y->R0 x y)->Q v H'
 | _=>False
theorem scBehind:FnScope ["pairs","graph","count","place"] ["pairs","graph","count"] (defScope sBehind):=⟨rfl,rfl,rfl,by decide +kernel,rfl,by decide +kernel,by decide +kernel⟩
theorem ok_behind (D:FnX K mg "pairs_behind" sBehind ["pairs","graph","count"]) (g1:mg "range" = none) (c1:Can P w K mg base "layer_behind" 1 ["layer","graph"] spLayerC):Can P w K mg base "pairs_behind" 2 ["pairs","graph","count"] spBehind:=by
 refine can_fn (k:=1) D scBehind (fun vs H Q E h=>?_) (fun f cdv A outer s H vs Q E hr h=>?_)
 all_goals
  unfold spBehind at h
  split at h
 ·rfl
 ·exact h.elim
 ·rename_i lv gv c
  obtain ⟨m,R,R0,Ed,rfl,m100,hly,hgr,hsub,hcl,q⟩:=h
  have nd:=scBehind.nd
  refine ⟨_,(by walk_at "T.top"),?_⟩
  refine ⟨by omega,by omega,for_by (it_range 0 _) (fun i σ H2=>∃ (v:V) (v3:Option V),σ=[some v,some gv,some (.int (m:Nat)),v3]/\Same H H2/\LyV H2 v (Om.iterR Ed R i)/\∀ x y,Om.iterR Ed R i x y->R0 x y)
   ⟨lv,none,rfl,Same.refl _,hly,hsub⟩ (fun _ _ _ _ _=>trivial) ?_ ?_⟩
  ·rintro i z σ H2 hi hz ⟨v,v3,rfl,s2,l2,b2⟩
   refine ⟨_,R0,Ed,l2,hgr.mono s2,b2,hcl,fun v' H3 s3 l3=>?_⟩
   refine ⟨v',_,rfl,s2.trans s3,l3,?_⟩
   rintro x y ⟨x1,y1,s,h1,h2,h3⟩
   have:=hcl _ _ _ (b2 _ _ h1) h2
   rw [h3] at this
   exact this
  ·rintro σ H2 ⟨v,v3,rfl,s2,l2,b2⟩
   rw [List.length_map,List.length_range,Int.toNat_natCast] at l2 b2
   exact q _ _ s2 l2 b2
 ·exact h.elim
end
section
variable {P:Program} {w:World} {K:PySem.W.Frag} {mg:Str->Option Value} {base:Heap}
abbrev sGTells:Stmt:=top 22
def spGTells:Sp:=fun vs H Q _=>match vs with
 | [gv,.int b0,.int a0]=>∃ (b a:Nat) (rows:Om.Rows) (k n:Nat),b0=(b:Nat)/\a0=(a:Nat)/\b<=100/\a<=100/\Om.CodeOk k n rows/\GrV H gv (Om.AllR rows) (Om.St rows)/\∀ (c:Bool) H',Same H H'->(c=true↔∀ x y,¬ Om.Clash rows b (b+1+a) x y)->Q (.bl c) H'
 | _=>False
theorem scGTells:FnScope ["graph","back","ahead","pairs"] ["graph","back","ahead"] (defScope sGTells):=⟨rfl,rfl,rfl,by decide +kernel,rfl,by decide +kernel,by decide +kernel⟩
local macro_rules | `(tactic| walk_at "T.e")=>`(tactic| ((with_reducible refine' e_notD ?a1);(case a1=>walk_at "T.e")))
theorem st_all {k n:Nat} {rows:Om.Rows} (ok:Om.CodeOk k n rows):∀ x y s,Om.AllR rows x y->Om.St rows x y s->Om.AllR rows s.2.1 s.2.2:=fun x y s _ h=>by
 obtain ⟨h1,h2,h3,h4⟩:=h
 rw [h4]
 exact ⟨(ok.stp h1).2.2,(ok.stp h2).2.2⟩
theorem ok_gtells (D:FnX K mg "graph_tells" sGTells ["graph","back","ahead"]) (c1:Can P w K mg base "pairs_behind" 2 ["pairs","graph","count"] spBehind) (c2:Can P w K mg base "layer_behind" 1 ["layer","graph"] spLayerC)
  (c3:Can P w K mg base "unlike_steps" 1 ["graph"] spUnlike):Can P w K mg base "graph_tells" 3 ["graph","back","ahead"] spGTells:=by
 refine can_fn (k:=2) D scGTells (fun vs H Q E h=>?_) (fun f cdv A outer s H vs Q E hr h=>?_)
 all_goals
  unfold spGTells at h
  split at h
 ·rfl
 ·exact h.elim
 ·rename_i gv b0 a0
  obtain ⟨b,a,rows,k,n,rfl,rfl,hb,ha,ok,hgr,q⟩:=h
  have nd:=scGTells.nd
  have cl:=st_all ok
  refine ⟨_,(by walk_at "T.top"),?_⟩
  refine ⟨b,Om.AllR rows,Om.AllR rows,Om.St rows,rfl,hb,hgr.ly,hgr,fun _ _ h=>h,cl,fun v1 H1 s1 l1 b1=>?_⟩
  refine ⟨_,_,hgr.mono s1,fun uv H2 s2 g2=>?_⟩
  refine ⟨_,_,_,l1.mono s2,g2,b1,fun x y s h1 h2=>cl x y s h1 h2.1,fun v3 H3 s3 l3=>?_⟩
  have hg3:=((hgr.mono s1).mono s2).mono s3
  have b3:∀ x y,Om.nextR (unl (Om.St rows)) (Om.iterR (Om.St rows) (Om.AllR rows) b) x y->Om.AllR rows x y:=by
   rintro x y ⟨x1,y1,s,h1,h2,h3⟩
   have:=cl _ _ _ (b1 _ _ h1) h2.1
   rw [h3] at this
   exact this
  refine ⟨a,_,_,_,rfl,ha,l3,hg3,b3,cl,fun v4 H4 s4 l4 b4=>?_⟩
  obtain ⟨la,lo,kvs,ks,rfl,hl,kd,hm⟩:=l4
  refine .inr (.inr ⟨kvs,.inr ⟨lo,hl⟩,?_⟩)
  refine q _ _ ((((s1.trans s2).trans s3).trans s4)) ?_
  have key:∀ x y,(x,y)∈ks↔Om.Clash rows b (b+1+a) x y:=fun x y=>by
   rw [hm]
   exact Om.clash_iff ok b a x y
  have e1:(!(!kvs.isEmpty))=true↔ks=[]:=by
   have:=kd.len
   cases kvs with
   | nil=>
    constructor
    ·intro _;cases ks with
     | nil=>rfl
     | cons _ _=>simp at this
    ·intro _;rfl
   | cons p r=>
    constructor
    ·intro h;simp at h
    ·intro h;subst h;simp at this
  rw [e1]
  constructor
  ·intro h x y hc
   have:=(key x y).mpr hc
   rw [h] at this
   cases this
  ·intro h
   cases ks with
   | nil=>rfl
   | cons p r=>exact absurd ((key p.1 p.2).mp List.mem_cons_self) (h _ _)
 ·exact h.elim
end
section
variable {P:Program} {w:World} {K:PySem.W.Frag} {mg:Str->Option Value} {base:Heap}
abbrev sTells:Stmt:=top 20
def spTells:Sp:=fun vs H Q _=>match vs with
 | [cv,.int b0,.int a0]=>∃ (b a:Nat) (rows:Om.Rows) (k n:Nat),b0=(b:Nat)/\a0=(a:Nat)/\b<=100/\a<=100/\Om.CodeOk k n rows/\DV H cv (codeD k n rows)/\∀ (c:Bool) H',Same H H'->(c=true↔∀ x y,¬ Om.Clash rows b (b+1+a) x y)->Q (.bl c) H'
 | _=>False
theorem scTells:FnScope ["code","back","ahead"] ["code","back","ahead"] (defScope sTells):=⟨rfl,rfl,rfl,by decide +kernel,rfl,by decide +kernel,by decide +kernel⟩
theorem ok_tells (D:FnX K mg "tells" sTells ["code","back","ahead"]) (c1:Can P w K mg base "is_window" 2 ["back","ahead"] spWin) (c2:Can P w K mg base "graph_tells" 3 ["graph","back","ahead"] spGTells)
  (c3:Can P w K mg base "pair_graph" 2 ["code","states"] spGraphC) (c4:Can P w K mg base "every_state" 1 ["code"] spEvery):Can P w K mg base "tells" 4 ["code","back","ahead"] spTells:=by
 refine can_fn (k:=3) D scTells (fun vs H Q E h=>?_) (fun f cdv A outer s H vs Q E hr h=>?_)
 all_goals
  unfold spTells at h
  split at h
 ·rfl
 ·exact h.elim
 ·rename_i cv b0 a0
  obtain ⟨b,a,rows,k,n,rfl,rfl,hb,ha,ok,hc,q⟩:=h
  have nd:=scTells.nd
  refine ⟨_,(by walk_at "T.top1"),?_⟩
  refine ⟨by omega,by omega,?_⟩
  refine iteP rfl ?_
  refine ⟨k,n,rows,hc,ok.s8,fun l H1 s1 _ h1=>?_⟩
  refine ⟨k,n,rows,hc.mono s1,ok,h1,fun gv H2 s2 g2=>?_⟩
  exact ⟨b,a,rows,k,n,rfl,rfl,hb,ha,ok,g2,fun c H3 s3 hc3=>q c _ ((s1.trans s2).trans s3) hc3⟩
 ·exact h.elim
end
end K37
end
section
namespace K37
open PySem L2
section
variable {P:Program} {w:World} {K:PySem.W.Frag} {mg:Str->Option Value} {base:Heap}
abbrev sLeast:Stmt:=top 25
def spLeast:Sp:=fun vs H Q _=>match vs with
 | [cv]=>∃ (rows:Om.Rows) (k n:Nat),Om.CodeOk k n rows/\DV H cv (codeD k n rows)/\∀ v H',Same H H'->FirstW rows v H'->Q v H'
 | _=>False
theorem scLeast:FnScope ["code","graph","both","back"] ["code"] (defScope sLeast):=⟨rfl,rfl,rfl,by decide +kernel,rfl,by decide +kernel,by decide +kernel⟩
local macro_rules | `(tactic| walk_at "T.e")=>`(tactic| ((with_reducible refine' e_gint ?a0 ?a9);(case a0=>assumption);(case a9=>rfl)))
theorem ok_least (D:FnX K mg "least_window" sLeast ["code"]) (g1:mg "range" = none) (g2:∃ tk,mg "WIDEST" = some (.int 6 tk)) (c2:Can P w K mg base "graph_tells" 3 ["graph","back","ahead"] spGTells)
  (c3:Can P w K mg base "pair_graph" 2 ["code","states"] spGraphC) (c4:Can P w K mg base "every_state" 1 ["code"] spEvery):Can P w K mg base "least_window" 4 ["code"] spLeast:=by
 refine can_fn (k:=3) D scLeast (fun vs H Q E h=>?_) (fun f cdv A outer s H vs Q E hr h=>?_)
 all_goals
  unfold spLeast at h
  split at h
 ·rfl
 ·exact h.elim
 ·rename_i cv
  obtain ⟨rows,k,n,ok,hc,q⟩:=h
  have nd:=scLeast.nd
  refine ⟨_,(by walk_at "T.top"),?_⟩
  refine ⟨k,n,rows,hc,ok.s8,fun l H1 s1 _ h1=>?_⟩
  refine ⟨k,n,rows,hc.mono s1,ok,h1,fun gv H2 s2 g2=>?_⟩
  refine ⟨by decide,by decide,for_by (it_range 0 _) (fun t σ H3=>∃ (v2 v3:Option V),σ=[some cv,some gv,v2,v3]/\Same H2 H3/\(Om.preW t 0).filter (Om.wf rows)=[])
   ⟨none,none,rfl,Same.refl _,rfl⟩ (fun _ _ _ _ _=>trivial) ?_ ?_⟩
  ·rintro t z σ H3 ht hz ⟨v2,v3,rfl,s3,e3⟩
   have ht':t < 7:=by rw [List.length_map,List.length_range] at ht;exact ht
   have ez:z = .int (t:Nat):=by
    rw [List.length_map,List.length_range] at ht
    rw [List.getElem?_map,List.getElem?_range ht] at hz
    have:=(Option.some.inj hz).symm
    rw [this];simp
   subst ez
   refine ⟨by omega,by omega,for_by (it_range 0 _) (fun b σ H4=>∃ (v3:Option V),σ=[some cv,some gv,some (.int (t:Nat)),v3]/\Same H2 H4/\b<=t+1/\(Om.preW t b).filter (Om.wf rows)=[])
    ⟨v3,rfl,s3,Nat.zero_le _,e3⟩ (fun _ _ _ _ _=>trivial) ?_ ?_⟩
   ·rintro b y σ H4 hb hy ⟨v3',rfl,s4,_,e4⟩
    have hb':b < t+1:=by rw [List.length_map,List.length_range] at hb;omega
    have ey:y = .int (b:Nat):=by
     rw [List.length_map,List.length_range] at hb
     rw [List.getElem?_map,List.getElem?_range hb] at hy
     have:=(Option.some.inj hy).symm
     rw [this];simp
    subst ey
    have ea:((t:Nat):Int) - ((b:Nat):Int)=((t - b:Nat):Int):=by omega
    refine ⟨b,t - b,rows,k,n,rfl,ea,by omega,by omega,ok,g2.mono s4,fun c H5 s5 hc5=>?_⟩
    refine ite2 (fun c1=>?_) (fun c1=>?_)
    ·refine ⟨le_line (Nat.le_of_ble_eq_true rfl),fun p hp=>?_⟩
     refine q _ _ ((((s1.trans s2).trans s4).trans s5).trans (Same.upd hp)) ?_
     refine FirstW.at ht' hb' e4 (hc5.mp c1) ?_
     rw [upd_same]
     show some (HO.tup [.int (b:Nat),.int (((t:Nat):Int) - ((b:Nat):Int))])=_
     rw [ea]
    ·refine ⟨_,rfl,s4.trans s5,hb',?_⟩
     rw [Om.preW_succ,List.filter_append,e4,List.nil_append,List.filter_cons,if_neg (fun z=>c1 (hc5.mpr (Om.wf_iff (p:=(b,t - b)) |>.mp z)))]
     rfl
   ·rintro σ H4 ⟨v3',rfl,s4,hb,e4⟩
    rw [List.length_map,List.length_range] at e4
    have et:(((t:Nat):Int)+1).toNat=t+1:=by omega
    rw [et,Om.preW_end] at e4
    exact ⟨_,_,rfl,s4,e4⟩
  ·rintro σ H3 ⟨v2,v3,rfl,s3,e3⟩
   exact q _ _ ((s1.trans s2).trans s3) (FirstW.none e3)
 ·exact h.elim
end
end K37
end
section
namespace K37
open PySem L2
section
variable {P:Program} {w:World} {K:PySem.W.Frag} {mg:Str->Option Value} {base:Heap}
abbrev sCell:Stmt:=top 27
def spCell (K:PySem.W.Frag):Sp:=fun vs H Q _=>match vs with
 | [.ref a,.int k]=>∃ ns:List Int,SqL K H a (ns.map V.int)/\0<=k/\k<=1000/\∀ c,Q (.int c) H
 | _=>False
theorem scCell:FnScope ["script","k"] ["script","k"] (defScope sCell):=⟨rfl,rfl,rfl,by decide +kernel,rfl,by decide +kernel,by decide +kernel⟩
local macro_rules | `(tactic| walk_at "T.b")=>`(tactic| ((with_reducible refine' fn_lenS ?a0 ?a9 ?a1);(case a0=>with_reducible assumption);(case a9=>rfl);(case a1=>walk_at "T.a")))
local macro_rules | `(tactic| walk_at "T.ty")=>`(tactic| ((with_reducible refine' ix_atS ?a1 ?a2);(case a1=>walk_at "T.e");(case a2=>walk_at "T.e")))
theorem ok_cell (D:FnX K mg "_law_cell" sCell ["script","k"]) (g1:mg "len" = none):Can P w K mg base "_law_cell" 1 ["script","k"] (spCell K):=by
 refine can_fn (k:=0) D scCell (fun vs H Q E h=>?_) (fun f cdv A outer s H vs Q E hr h=>?_)
 all_goals
  unfold spCell at h
  split at h
 ·rfl
 ·exact h.elim
 ·rename_i a k
  obtain ⟨ns,hS,h0,h1,q⟩:=h
  have nd:=scCell.nd
  refine ⟨_,(by walk_at "T.top"),?_⟩
  refine ⟨_,hS,ite2 (fun h2=>?_) (fun h2=>?_)⟩
  ·have h2':k < ((ns.map V.int).length:Int):=of_decide_eq_true h2
   rw [List.length_map] at h2'
   have h3:k.toNat < ns.length:=by omega
   exact ⟨_,.int ns[k.toNat],hS,atI_int h0 (by rw [List.getElem?_map,List.getElem?_eq_getElem h3];rfl),q _⟩
  ·exact ⟨.inl ⟨by decide,by decide⟩,.inr ⟨by omega,by omega⟩,.inl ⟨by decide,by decide⟩,q _⟩
 ·exact h.elim
end
end K37
end
section
namespace K37
open PySem L2
section
variable {P:Program} {w:World} {K:PySem.W.Frag} {mg:Str->Option Value} {base:Heap}
abbrev sStore:Stmt:=top 28
def spStore:Sp:=fun vs H Q _=>match vs with
 | [.int _]=>∀ p g b,H p=none->Q (.ref p) (upd H p (.lst [.int g,.int b,.int 1]))
 | _=>False
theorem scStore:FnScope ["cell","great"] ["cell"] (defScope sStore):=⟨rfl,rfl,rfl,by decide +kernel,rfl,by decide +kernel,by decide +kernel⟩
theorem ok_store (D:FnX K mg "_law_store" sStore ["cell"]):Can P w K mg base "_law_store" 1 ["cell"] spStore:=by
 refine can_fn (k:=0) D scStore (fun vs H Q E h=>?_) (fun f cdv A outer s H vs Q E hr h=>?_)
 all_goals
  unfold spStore at h
  split at h
 ·rfl
 ·exact h.elim
 ·rename_i c
  have nd:=scStore.nd
  refine ⟨_,(by walk_at "T.top"),?_⟩
  refine ⟨⟨by decide,by decide,by decide⟩,ite2 (fun h2=>?_) (fun h2=>?_)⟩
  ·exact ⟨(by decide:(0:Int) < 2147483629),le_line (Nat.le_of_ble_eq_true rfl),fun p hp=>h p _ _ hp⟩
  ·exact ⟨(by decide:(0:Int) < 2147483629),le_line (Nat.le_of_ble_eq_true rfl),fun p hp=>h p _ _ hp⟩
 ·exact h.elim
abbrev sTake:Stmt:=top 29
theorem scTake:FnScope ["store","many","told","one"] ["store","many"] (defScope sTake):=⟨rfl,rfl,rfl,by decide +kernel,rfl,by decide +kernel,by decide +kernel⟩
theorem ok_take (D:FnX K mg "_law_take" sTake ["store","many"]):Can P w K mg base "_law_take" 1 ["store","many"] spTake:=by
 refine can_fn (k:=0) D scTake (fun vs H Q E h=>?_) (fun f cdv A outer s H vs Q E hr h=>?_)
 all_goals
  unfold spTake at h
  split at h
 ·rfl
 ·exact h.elim
 ·rename_i a many
  obtain ⟨⟨g,b,c,ha⟩,h0,h1,k⟩:=h
  have nd:=scTake.nd
  refine ⟨_,(by walk_at "T.top"),?_⟩
  have fin:∀ (H1:Hp) (r g' c':Int),H1=upd H a (.lst [.int g',.int b,.int c'])->0<=r->r < many->Q (.int r) H1:=fun H1 r g' c' e r0 r1=>by
   subst e
   exact k r _ r0 r1 ⟨_,_,_,upd_same⟩ fun y o e n=>by rw [upd_ne n];exact e
  refine ⟨.int g,gl ha (by decide) rfl,ite2 (fun h2=>?_) (fun h2=>?_)⟩
  ·refine ⟨.int g,gl ha (by decide) rfl,h0,?_⟩
   refine ⟨.int g,gl ha (by decide) rfl,⟨h0,h1⟩,_,0,ha,rfl,?_⟩
   exact fin _ _ _ _ rfl (Int.emod_nonneg _ (by omega)) (Int.emod_lt_of_pos _ h0)
  ·refine ⟨.int c,gl ha (by decide) rfl,_,2,ha,rfl,?_⟩
   have h1a:upd H a (.lst ([V.int g,V.int b,V.int c].set 2 (V.int (c+1)))) a=some (.lst [.int g,.int b,.int (c+1)]):=upd_same
   refine ⟨.int b,gl h1a (by decide) rfl,.int (c+1),gl h1a (by decide) rfl,.inl ⟨by decide,by decide⟩,.inr ⟨by decide,by decide⟩,(by decide:(0:Int) < 2147483647),?_⟩
   have b1:=Int.emod_nonneg ((b+7919 * (c+1)) * 48271) (show (2147483647:Int)≠0 by decide)
   have b2:=Int.emod_lt_of_pos ((b+7919 * (c+1)) * 48271) (show (0:Int) < 2147483647 by decide)
   generalize ((b+7919 * (c+1)) * 48271) % 2147483647=x1 at b1 b2 ⊢
   refine ⟨.inl ⟨by omega,by omega⟩,(by decide:(0:Int) < 2147483629),?_⟩
   refine ⟨.int (c+1),gl h1a (by decide) rfl,.inl ⟨by decide,by decide⟩,.inr ⟨by decide,by decide⟩,(by decide:(0:Int) < 2147483587),?_⟩
   refine ⟨⟨by decide,by decide⟩,h0,?_⟩
   exact fin _ _ _ _ rfl (Int.emod_nonneg _ (by omega)) (Int.emod_lt_of_pos _ h0)
 ·exact h.elim
abbrev sWordN:Stmt:=top 30
theorem scWordN:FnScope ["number","n","word","k"] ["number","n"] (defScope sWordN):=⟨rfl,rfl,rfl,by decide +kernel,rfl,by decide +kernel,by decide +kernel⟩
theorem ok_wordN (D:FnX K mg "_law_word" sWordN ["number","n"]) (g1:mg "range" = none):Can P w K mg base "_law_word" 1 ["number","n"] spWordN:=by
 refine can_fn (k:=0) D scWordN (fun vs H Q E h=>?_) (fun f cdv A outer s H vs Q E hr h=>?_)
 all_goals
  unfold spWordN at h
  split at h
 ·rfl
 ·exact h.elim
 ·rename_i x n
  obtain ⟨h0,h1,q⟩:=h
  have nd:=scWordN.nd
  refine ⟨_,(by walk_at "T.top"),?_⟩
  refine ⟨by omega,by omega,for_by (it_range 0 _) (fun i σ H2=>H2=H/\∃ (y:Int) (w':List Bool) (v:Option V),σ=[some (.int y),some (.int n),some (.str (bs w')),v]/\w'.length=i) ⟨rfl,x,[],none,by rw [bs_nil];rfl,rfl⟩ (fun _ _ _ _ _=>trivial) ?_ ?_⟩
  ·rintro i z σ H2 hi hx ⟨rfl,y,w',v,rfl,hl⟩
   rw [List.length_map,List.length_range] at hi
   have m0:=Int.emod_nonneg y (show (2:Int)≠0 by decide)
   have m1:=Int.emod_lt_of_pos y (show (0:Int) < 2 by decide)
   refine ⟨(by decide:(0:Int) < 2),_,g01 m0 m1,⟨?_,?_⟩⟩
   ·rw [bs_len,bs_len];exact le_line (by simp;omega)
   ·refine ⟨⟨by decide,by decide⟩,rfl,y / 2,decide (y % 2=1) :: w',some z,?_,by simp [hl]⟩
    rw [bs_app]
    rfl
  ·rintro σ H2 ⟨rfl,y,w',v,rfl,hl⟩
   refine q w' ?_
   rw [List.length_map,List.length_range] at hl
   omega
 ·exact h.elim
end
end K37
end
section
namespace K37
open PySem L2
section
variable {P:Program} {w:World} {K:PySem.W.Frag} {mg:Str->Option Value} {base:Heap}
abbrev sBranch:Stmt:=top 31
def spBranch:Sp:=fun vs H Q _=>match vs with
 | [.ref a,.int _,.ref pool,.int place,.int letter,.ref sz]=>∃ (ws:List (List Bool)) (k n many:Nat),Sto H a/\H pool=some (WS ws)/\1<=ws.length/\ws.length<=10/\(∀ w∈ws,w.length=n)/\H sz=some (.tup [.int k,.int n,.int many]) ∧
   1<=n/\n<=6/\1<=many/\many<=8/\0<=place/\place<=8/\0<=letter/\letter<=8 ∧
   ∀ p (w:List Bool) (t:Nat) H',w.length=n->t < many->Sto H' a->Off (At a) H H'->H p=none->H' p=some (.tup [.str (bs w),.int (t:Nat)])->Q (.ref p) H'
 | _=>False
theorem scBranch:FnScope ["store","kind","pool","place","letter","sizes","k","n","many","behind","word"] ["store","kind","pool","place","letter","sizes"] (defScope sBranch):=⟨rfl,rfl,rfl,by decide +kernel,rfl,by decide +kernel,by decide +kernel⟩
theorem ws_ne_sto {g b c:Int} (ws:List (List Bool)):HO.lst [.int g,.int b,.int c]≠WS ws:=by
 intro z
 unfold WS at z
 injection z with z
 match ws,z with
 | [],z=>cases z
 | _ :: _,z=>injection z with z1 z2;cases z1
theorem top_get {H:Hp} {p:Addr} {n:Nat} (n1:1<=n) (n6:n<=6) (h:H p=some (.lst [.int 2,.int 4,.int 8,.int 16,.int 32,.int 64])):∃ m:Int,0 < m/\m<=64/\getV H (.ref p) ((n:Int) - 1)=some (.int m):=by
 have:n=1\/n=2\/n=3\/n=4\/n=5\/n=6:=by omega
 rcases this with rfl | rfl | rfl | rfl | rfl | rfl
 ·exact ⟨2,by decide,by decide,gl h (by decide) rfl⟩
 ·exact ⟨4,by decide,by decide,gl h (by decide) rfl⟩
 ·exact ⟨8,by decide,by decide,gl h (by decide) rfl⟩
 ·exact ⟨16,by decide,by decide,gl h (by decide) rfl⟩
 ·exact ⟨32,by decide,by decide,gl h (by decide) rfl⟩
 ·exact ⟨64,by decide,by decide,gl h (by decide) rfl⟩
theorem ok_branch (D:FnX K mg "_law_branch" sBranch ["store","kind","pool","place","letter","sizes"]) (g1:mg "len" = none) (c1:Can P w K mg base "_law_take" 1 ["store","many"] spTake) (c2:Can P w K mg base "_law_word" 1 ["number","n"] spWordN) :
  Can P w K mg base "_law_branch" 2 ["store","kind","pool","place","letter","sizes"] spBranch:=by
 refine can_fn (k:=1) D scBranch (fun vs H Q E h=>?_) (fun f cdv A outer s H vs Q E hr h=>?_)
 all_goals
  unfold spBranch at h
  split at h
 ·rfl
 ·exact h.elim
 ·rename_i a kind pool place letter sz
  obtain ⟨ws,k,n,many,hS,hpool,ws1,ws10,wsl,hsz,n1,n6,m1,m8,p0,p8,l0,l8,q⟩:=h
  have nd:=scBranch.nd
  have pa:pool≠a:=by
   obtain ⟨g,b,c,ha⟩:=hS
   exact (ne_of ha hpool (ws_ne_sto ws)).symm
  refine ⟨_,(by walk_at "T.top"),?_⟩
  refine ⟨_,.inl hsz,rfl,?_⟩
  refine ⟨rfl,hS,by omega,by omega,fun t H1 t0 t1 s1 o1=>?_⟩
  have hp1:=o1 _ _ hpool pa
  refine ⟨_,lenL hp1,s1,by rw [ws_len];omega,by rw [ws_len];omega,fun r H2 r0 r1 s2 o2=>?_⟩
  rw [ws_len] at r1
  obtain ⟨w0,hw0⟩ : ∃ w0,ws[r.toNat]? = some w0:=⟨_,List.getElem?_eq_getElem (by omega)⟩
  refine ⟨_,gl (o2 _ _ hp1 pa) r0 (ws_get hw0),?_⟩
  have o12:=o1.trans o2
  try dsimp only [gName,tNext]
  refine seq_by (fun σ H3=>∃ (t:Int) (w0:List Bool),σ=[some (.ref a),some (.int kind),some (.ref pool),some (.int place),some (.int letter),some (.ref sz),some (.int k),some (.int n),some (.int many),some (.int t),some (.str (bs w0))]/\0<=t/\t < many/\w0.length=n/\Sto H3 a/\Off (At a) H H3) ?_ (fun fin=>?_)
  ·rintro σ H3 ⟨t,w0,rfl,t0,t1,hw0,s3,o3⟩
   try dsimp only [gName,tNext]
   refine seq_by (fun σ H3=>∃ (w0:List Bool),σ=[some (.ref a),some (.int kind),some (.ref pool),some (.int place),some (.int letter),some (.ref sz),some (.int k),some (.int n),some (.int many),some (.int t),some (.str (bs w0))]/\w0.length=n/\Sto H3 a/\Off (At a) H H3) ?_ (fun fin=>?_)
   ·rintro σ H4 ⟨w0,rfl,hw0,s4,o4⟩
    try dsimp only [gName,tNext]
    refine seq_by (fun σ H3=>∃ (w0:List Bool),σ=[some (.ref a),some (.int kind),some (.ref pool),some (.int place),some (.int letter),some (.ref sz),some (.int k),some (.int n),some (.int many),some (.int t),some (.str (bs w0))]/\w0.length=n/\Sto H3 a/\Off (At a) H H3) ?_ (fun fin=>?_)
    ·rintro σ H5 ⟨w0,rfl,hw0,s5,o5⟩
     try dsimp only [gName,tNext]
     refine seq_by (fun σ H3=>∃ (w0:List Bool),σ=[some (.ref a),some (.int kind),some (.ref pool),some (.int place),some (.int letter),some (.ref sz),some (.int k),some (.int n),some (.int many),some (.int t),some (.str (bs w0))]/\w0.length=n/\Sto H3 a/\Off (At a) H H3) ?_ (fun fin=>?_)
     ·rintro σ H6 ⟨w0,rfl,hw0,s6,o6⟩
      refine ⟨le_line (Nat.le_of_ble_eq_true rfl),fun p hp=>?_⟩
      have e:t=((t.toNat:Nat):Int):=by omega
      refine q p w0 t.toNat _ hw0 (by omega) (s6.new hp) (o6.upd_new hp) (o6.freeS s6 hp) ?_
      rw [upd_same,<-e]
     ·-- kind == 4 and k <= n
      dsimp only [tIfS,tNext,tAnd]
      refine ite2 (fun h3=>?_) (fun h3=>iteF (fin _ _ ⟨w0,rfl,hw0,s5,o5⟩))
      refine ite2 (fun h4=>?_) (fun h4=>fin _ _ ⟨w0,rfl,hw0,s5,o5⟩)
      refine ⟨.inl ⟨by decide,by decide⟩,(by decide:(0:Int) < 3),.inl ⟨by decide,by decide⟩,.inl ⟨by omega,by omega⟩,le_line (Nat.le_of_ble_eq_true rfl),fun p hp=>?_⟩
      obtain ⟨m,m0,m64,hm⟩:=top_get n1 n6 (upd_same (H:=H5) (a:=p))
      refine ⟨_,hm,m0,by omega,by omega,fun w1 hw1=>?_⟩
      exact fin _ _ ⟨w1,rfl,by omega,s5.new hp,o5.upd_new hp⟩
    ·-- kind == 5
     refine ite2 (fun h3=>?_) (fun h3=>fin _ _ ⟨w0,rfl,hw0,s4,o4⟩)
     refine ⟨s4,by decide,by decide,fun r H5 r0 r1 s5 o5=>⟨by omega,by omega,fun w1 hw1=>?_⟩⟩
     exact fin _ _ ⟨w1,rfl,by omega,s5,o4.trans o5⟩
   ·-- kind == 3 and k <= n
    dsimp only [tIfS,tNext,tAnd]
    refine ite2 (fun h3=>?_) (fun h3=>iteF (fin _ _ ⟨w0,rfl,hw0,s3,o3⟩))
    refine ite2 (fun h4=>?_) (fun h4=>fin _ _ ⟨w0,rfl,hw0,s3,o3⟩)
    have hp3:=o3 _ _ hpool pa
    obtain ⟨wf,hwf⟩ : ∃ wf,ws[0]? = some wf:=⟨_,List.getElem?_eq_getElem (by omega)⟩
    refine ⟨_,gl hp3 (by decide) (ws_get hwf),rfl,_,lenL hp3,.inl ⟨by decide,by decide⟩,.inl ⟨by omega,by omega⟩,le_line (Nat.le_of_ble_eq_true rfl),fun p hp=>?_⟩
    obtain ⟨m,m0,m64,hm⟩:=top_get n1 n6 (upd_same (H:=H3) (a:=p))
    refine ⟨_,hm,m0,by omega,by omega,fun w1 hw1=>?_⟩
    exact fin _ _ ⟨w1,rfl,by omega,s3.new hp,o3.upd_new hp⟩
  ·-- kind == 2
   refine ite2 (fun h3=>?_) (fun h3=>fin _ _ ⟨t,w0,rfl,t0,t1,wsl _ (List.mem_of_getElem? hw0),s2,o12⟩)
   refine ⟨.inl ⟨by decide,by decide⟩,(by omega:(0:Int) < (many:Int)),?_⟩
   exact fin _ _ ⟨_,w0,rfl,Int.emod_nonneg _ (by omega),Int.emod_lt_of_pos _ (by omega),wsl _ (List.mem_of_getElem? hw0),s2,o12⟩
 ·exact h.elim
end
end K37
end
section
namespace K37
open PySem L2
section
variable {P:Program} {w:World} {K:PySem.W.Frag} {mg:Str->Option Value} {base:Heap}
abbrev sCodeS:Stmt:=top 32
def spCodeS:Sp:=fun vs H Q _=>match vs with
 | [.ref a,.int most]=>Sto H a/\1<=most/\most<=8/\∀ v k n rows G H',Om.CodeOk k n rows->(rows.length:Int)<=most->DV G v (codeD k n rows)->Gh G H H' a->Q v H'
 | _=>False
theorem scCodeS:FnScope ["store","most","k","n","many","kind","top","pool","states","place","state","letter"] ["store","most"] (defScope sCodeS):=⟨rfl,rfl,rfl,by decide +kernel,rfl,by decide +kernel,by decide +kernel⟩
theorem six_get {H:Hp} {p:Addr} {r:Int} (h0:0<=r) (h1:r < 6) (h:H p=some (.lst [.int 1,.int 1,.int 1,.int 2,.int 2,.int 3])):∃ k:Nat,1<=k/\k<=3/\getV H (.ref p) r=some (.int k):=by
 have:r=0\/r=1\/r=2\/r=3\/r=4\/r=5:=by omega
 rcases this with rfl | rfl | rfl | rfl | rfl | rfl
 ·exact ⟨1,by decide,by decide,gl h (by decide) rfl⟩
 ·exact ⟨1,by decide,by decide,gl h (by decide) rfl⟩
 ·exact ⟨1,by decide,by decide,gl h (by decide) rfl⟩
 ·exact ⟨2,by decide,by decide,gl h (by decide) rfl⟩
 ·exact ⟨2,by decide,by decide,gl h (by decide) rfl⟩
 ·exact ⟨3,by decide,by decide,gl h (by decide) rfl⟩
theorem three_get {H:Hp} {p:Addr} {k:Nat} (k1:1<=k) (k3:k<=3) (h:H p=some (.lst [.int 2,.int 4,.int 8])):getV H (.ref p) ((k:Int) - 1)=some (.int ((2 ^ k:Nat):Int)):=by
 have:k=1\/k=2\/k=3:=by omega
 rcases this with rfl | rfl | rfl
 ·exact gl h (by decide) rfl
 ·exact gl h (by decide) rfl
 ·exact gl h (by decide) rfl
theorem pow_le8 {k:Nat} (k3:k<=3):2 ^ k<=8:=by
 have:k=0\/k=1\/k=2\/k=3:=by omega
 rcases this with rfl | rfl | rfl | rfl<;>decide
local macro_rules | `(tactic| walk_at "T.sc")=>`(tactic| (have ndc:(["j","store","top","n"]:List Str).Nodup:=(by decide +kernel));((with_reducible refine' s_comp "pool" 7 ["j","store","top","n"] [0,6,3] ?b1 ?b0 ?b2 (fun cl C s H fp=>?b3) (fun cl C s H fp=>?b4) (fun cl C s H fp=>?b5));(case b1=>exact ndc);(case b0=>assumption);(case b2=>walk_at "T.i");(case b3=>walk_at "T.g");(case b4=>walk_at "T.pf");(case b5=>walk_at "T.e")))
theorem ok_codeS (D:FnX K mg "_law_code" sCodeS ["store","most"]) (g1:mg "range" = none) (c1:Can P w K mg base "_law_take" 1 ["store","many"] spTake) (c2:Can P w K mg base "_law_word" 1 ["number","n"] spWordN)
  (c3:Can P w K mg base "_law_branch" 2 ["store","kind","pool","place","letter","sizes"] spBranch):Can P w K mg base "_law_code" 3 ["store","most"] spCodeS:=by
 refine can_fn (k:=2) D scCodeS (fun vs H Q E h=>?_) (fun f cdv A outer s H vs Q E hr h=>?_)
 all_goals
  unfold spCodeS at h
  split at h
 ·rfl
 ·exact h.elim
 ·rename_i a most
  obtain ⟨hS,m1,m8,q⟩:=h
  have nd:=scCodeS.nd
  refine ⟨_,(by walk_at "T.top"),?_⟩
  have M0:=Gh.start hS
  refine ⟨le_line (Nat.le_of_ble_eq_true rfl),fun p hp=>?_⟩
  have M1:=M0.new (o:=.lst [.int 1,.int 1,.int 1,.int 2,.int 2,.int 3]) hp
  refine ⟨M1.st,by decide,by decide,fun r H1 r0 r1 s1 o1=>?_⟩
  have M2:=M1.take s1 o1
  obtain ⟨k,k1,k3,hk⟩:=six_get r0 r1 (o1 _ _ upd_same (M0.ne hp))
  refine ⟨_,hk,?_⟩
  refine ⟨M2.st,by decide,by decide,fun n0 H2 n00 n01 s2 o2=>?_⟩
  have M3:=M2.take s2 o2
  obtain ⟨n,rfl⟩ : ∃ n:Nat,n0=((n:Nat):Int) - 1:=⟨(n0+1).toNat,by omega⟩
  refine ⟨M3.st,by omega,by omega,fun m0 H3 m00 m01 s3 o3=>?_⟩
  have M4:=M3.take s3 o3
  obtain ⟨many,rfl⟩ : ∃ n:Nat,m0=((n:Nat):Int) - 1:=⟨(m0+1).toNat,by omega⟩
  refine ⟨M4.st,by decide,by decide,fun kind H4 k00 k01 s4 o4=>?_⟩
  have M5:=M4.take s4 o4
  have en:(1:Int)+((n:Int) - 1)=(n:Int):=by omega
  have em:(1:Int)+((many:Int) - 1)=(many:Int):=by omega
  try dsimp only [gName,tNext]
  rw [en,em]
  refine ⟨le_line (Nat.le_of_ble_eq_true rfl),fun p2 hp2=>?_⟩
  have M6:=M5.new (o:=.lst [.int 2,.int 4,.int 8,.int 16,.int 32,.int 64]) hp2
  obtain ⟨tp,tp0,tp64,htp⟩:=top_get (n:=n) (by omega) (by omega) (upd_same (H:=H4) (a:=p2))
  refine ⟨_,htp,?_⟩
  refine ⟨M6.st,by decide,by decide,fun c0 H6 c00 c01 s6 o6=>?_⟩
  have M7:=M6.take s6 o6
  refine ⟨by omega,by omega,fun pl hpl=>?_⟩
  have npl:=M7.ne hpl
  refine comp_by (it_range 0 _) (fun i τ H7 ys=>(∃ v,τ=[v,some (.ref a),some (.int tp),some (.int n)])/\Gh (fun _=>none) H H7 a/\H7 pl=some (.lst ys)/\∃ ws:List (List Bool),ys=ws.map (fun w=>V.str (bs w))/\ws.length=i/\∀ w∈ws,w.length=n) ?_ ⟨⟨none,rfl⟩,M7.new hpl,upd_same,[],rfl,rfl,by simp⟩ ?_ ?_ ?_
  ·rw [List.length_map,List.length_range];exact le_line (by omega)
  ·rintro i τ H7 ys hi ⟨_,_,h7,ws,rfl,hl,_⟩
   exact ⟨trivial,h7,by simp [hl]⟩
  ·rintro i x τ H7 ys hi hx ⟨⟨v,rfl⟩,M8,h7,ws,rfl,hl,hw⟩
   refine ⟨M8.st,tp0,by omega,fun r H8 r0 r1 s8 o8=>⟨by omega,by omega,fun w1 hw1=>?_⟩⟩
   have h8:=o8 _ _ h7 npl
   refine ⟨h8,⟨_,rfl⟩,(M8.take s8 o8).own rfl (M7.free0 hpl) npl,upd_same,ws++[w1],by rw [List.map_append];rfl,by simp [hl],fun y hy=>?_⟩
   rcases List.mem_append.mp hy with hy | hy
   ·exact hw y hy
   ·have:y=w1:=by simpa using hy
    rw [this];omega
  ·rintro τ H7 ys ⟨_,M8,h7,ws,rfl,hl,hw⟩
   rw [List.length_map,List.length_range] at hl
   refine ⟨Nat.zero_le _,fun S hS=>?_⟩
   have M9:Gh (upd (fun _=>none) pl (WS ws)) H (upd H7 S (.lst [])) a:=(M8.grow h7 npl).new hS
   have nSa:=M8.ne hS
   have S0:H S=none:=M8.free0 hS
   have plS:pl≠S:=ne_of_none h7 hS
   refine ⟨by omega,by omega,for_by (it_range 0 _) (fun i σ H9=>∃ (v9 v10 v11:Option V) (G:Hp) (rows:Om.Rows) (ss:List V),σ=[some (.ref a),some (.int most),some (.int k),some (.int n),some (.int many),some (.int kind),some (.int tp),some (.ref pl),some (.ref S),v9,v10,v11]/\Gh G H H9 a/\G pl=some (WS ws)/\G S=none/\H9 S=some (.lst ss)/\DVs G ss (rows.map stateD)/\rows.length=i/\(∀ st∈rows,st.length=2 ^ k)/\∀ st∈rows,∀ r∈st,r.1.length=n/\r.2 < many)
    ⟨none,none,none,_,[],[],rfl,M9,upd_same,upd_none rfl plS.symm,upd_same,.nil,rfl,by simp,by simp⟩ (fun _ _ _ _ _=>trivial) ?_ ?_⟩
   ·rintro i x σ H9 hi hx ⟨v9,v10,v11,G,rows,ss,rfl,M10,gpl,gS,h9,hd,rl,r1,r2⟩
    have hi':i < many:=by simpa using hi
    have ex:x = .int (i:Nat):=by
     rw [List.length_map,List.length_range] at hi
     rw [List.getElem?_map,List.getElem?_range hi] at hx
     have:=(Option.some.inj hx).symm
     rw [this];simp
    subst ex
    refine ⟨Nat.zero_le _,fun T hT=>?_⟩
    have ST:S≠T:=ne_of_none h9 hT
    have nTa:=M10.ne hT
    have T0:=M10.free0 hT
    have gT:=M10.freeG hT
    have M11:=M10.new (o:=.lst []) hT
    refine ⟨le_line (Nat.le_of_ble_eq_true rfl),fun p3 hp3=>?_⟩
    have M12:=M11.new (o:=.lst [.int 2,.int 4,.int 8]) hp3
    have Tp3:T≠p3:=fun z=>by rw [<-z,upd_same] at hp3;cases hp3
    refine ⟨_,three_get k1 k3 upd_same,?_⟩
    have p8:=pow_le8 k3
    refine ⟨Int.le_trans (by decide) (Int.natCast_nonneg _),Int.lt_of_le_of_lt (Int.ofNat_le.mpr p8) (by decide),for_by (it_range 0 _) (fun j σ H10=>∃ (v11:Option V) (G:Hp) (st:List (List Bool×Nat)) (rs:List V),σ=[some (.ref a),some (.int most),some (.int k),some (.int n),some (.int many),some (.int kind),some (.int tp),some (.ref pl),some (.ref S),some (.int (i:Nat)),some (.ref T),v11]/\Gh G H H10 a/\G pl=some (WS ws)/\G S=none/\G T=none/\H10 S=some (.lst ss)/\H10 T=some (.lst rs)/\DVs G ss (rows.map stateD)/\DVs G rs (st.map rowD)/\st.length=j/\∀ r∈st,r.1.length=n/\r.2 < many)
     ⟨v11,G,[],[],rfl,M12,gpl,gS,gT,upd_some (upd_some h9 ST) (ne_of_none (upd_some h9 ST) hp3),upd_some upd_same Tp3,hd,.nil,rfl,by simp⟩ (fun _ _ _ _ _=>trivial) ?_ ?_⟩
    ·rintro j y σ H10 hj hy ⟨w11,G1,st,rs,rfl,M13,gpl1,gS1,gT1,hS1,hT1,hd1,hr1,sl,sr⟩
     have hj':j < 2 ^ k:=by rw [List.length_map,List.length_range,Int.toNat_natCast] at hj;exact hj
     have ey:y = .int (j:Nat):=by
      rw [List.length_map,List.length_range] at hj
      rw [List.getElem?_map,List.getElem?_range hj] at hy
      have:=(Option.some.inj hy).symm
      rw [this];simp
     subst ey
     refine ⟨⟨_,rfl,hT1⟩,?_⟩
     refine ⟨le_line (Nat.le_of_ble_eq_true rfl),fun z hz=>?_⟩
     have M14:=M13.new (o:=.tup [.int k,.int n,.int many]) hz
     refine ⟨ws,k,n,many,M14.st,M14.s _ _ gpl1,by omega,by omega,hw,upd_same,by omega,by omega,by omega,by omega,by omega,by omega,by omega,by omega,fun pp w1 t1 H11 hw1 ht1 s11 o11 np1 hp1=>?_⟩
     have M15:=M14.take s11 o11
     have Tz:T≠z:=ne_of_none hT1 hz
     have Sz:S≠z:=ne_of_none hS1 hz
     have hT2:H11 T=some (.lst rs):=o11 _ _ (upd_some hT1 Tz) nTa
     have hS2:H11 S=some (.lst ss):=o11 _ _ (upd_some hS1 Sz) nSa
     have ppT:T≠pp:=ne_of_none (upd_some hT1 Tz) np1
     have ppS:S≠pp:=ne_of_none (upd_some hS1 Sz) np1
     have rl1:rs.length=st.length:=by rw [hr1.length,List.length_map]
     refine ⟨_,hT2,by rw [rl1,sl];exact lt_line (by omega),?_⟩
     have M16:=(M15.grow hp1 (s11.tup hp1)).own (p:=T) (o:=.lst (rs++[.ref pp])) (upd_none gT1 ppT) T0 nTa
     have ppl:pl≠pp:=by
      have h1:=M14.s _ _ gpl1
      exact ne_of_none h1 np1
     have Gs:Same G1 (upd G1 pp (.tup [.str (bs w1),.int (t1:Nat)])):=Same.upd (M14.s.free np1)
     refine ⟨some (.int (j:Nat)),_,st++[(w1,t1)],rs++[.ref pp],rfl,M16,upd_some gpl1 ppl,upd_none gS1 ppS,upd_none gT1 ppT,upd_some hS2 ST,upd_same,hd1.mono Gs,?_,by simp [sl],fun r hr=>?_⟩
     ·rw [List.map_append]
      exact (hr1.mono Gs).app (.cons (.tup upd_same (.cons (.str _) (.cons (.int _) .nil))) .nil)
     ·rcases List.mem_append.mp hr with hr | hr
      ·exact sr r hr
      ·have:r=(w1,t1):=by simpa using hr
       rw [this];exact ⟨hw1,ht1⟩
    ·rintro σ H10 ⟨w11,G1,st,rs,rfl,M13,gpl1,gS1,gT1,hS1,hT1,hd1,hr1,sl,sr⟩
     have sl':st.length=2 ^ k:=by rw [sl,List.length_map,List.length_range,Int.toNat_natCast]
     have ssl:ss.length=rows.length:=by rw [hd1.length,List.length_map]
     refine ⟨⟨_,rfl,hS1⟩,_,hS1,by rw [ssl,rl];exact lt_line (by omega),?_⟩
     have Gs:Same G1 (upd G1 T (.lst rs)):=Same.upd gT1
     have plT:pl≠T:=ne_of_none gpl1 gT1
     refine ⟨some _,some _,w11,upd G1 T (.lst rs),rows++[st],ss++[.ref T],rfl,(M13.grow hT1 nTa).own (upd_none gS1 ST) S0 nSa,upd_some gpl1 plT,upd_none gS1 ST,upd_same,?_,by simp [rl],fun y hy=>?_,fun y hy=>?_⟩
     ·rw [List.map_append]
      exact (hd1.mono Gs).app (.cons (.lst upd_same (hr1.mono Gs)) .nil)
     ·rcases List.mem_append.mp hy with hy | hy
      ·exact r1 y hy
      ·have:y=st:=by simpa using hy
       rw [this];exact sl'
     ·rcases List.mem_append.mp hy with hy | hy
      ·exact r2 y hy
      ·have:y=st:=by simpa using hy
       rw [this];exact sr
   ·rintro σ H9 ⟨v9,v10,v11,G,rows,ss,rfl,M10,gpl,gS,h9,hd,rl,r1,r2⟩
    have rl':rows.length=many:=by rw [rl,List.length_map,List.length_range];omega
    refine ⟨le_line (Nat.le_of_ble_eq_true rfl),fun c hc=>?_⟩
    have M11:=(M10.grow h9 nSa).new (o:=.tup [.int k,.int n,.ref S]) hc
    have M12:=M11.grow upd_same (M10.ne hc)
    have Sc:S≠c:=ne_of_none h9 hc
    have G1:Same G (upd G S (.lst ss)):=Same.upd gS
    have gc:upd G S (.lst ss) c=none:=upd_none (M10.freeG hc) Sc.symm
    have G2:Same (upd G S (.lst ss)) (upd (upd G S (.lst ss)) c (.tup [.int k,.int n,.ref S])):=Same.upd gc
    refine q _ k n rows _ _ ⟨k1,k3,by omega,by omega,by omega,by omega,r1,fun st hst r hr=>?_⟩ (by omega) ?_ M12
    ·obtain ⟨x1,x2⟩:=r2 st hst r hr
     exact ⟨x1,by omega⟩
    ·exact .tup upd_same (.cons (.int _) (.cons (.int _) (.cons (.lst (G2 _ _ upd_same) (hd.mono (G1.trans G2))) .nil)))
 ·exact h.elim
end
end K37
end
section
namespace K37
open PySem L2
section
theorem lay_walk {g:Nat×Nat->List Om.Stp} {ks:List (Nat×Nat)}:∀ {m:Nat} {p:Nat×Nat},p∈Om.layK g ks m->∃ nd:Nat->Nat×Nat,nd m=p/\(∀ i,i<=m->nd i∈Om.layK g ks i)/\∀ i,i < m->∃ s∈g (nd i),s.2=nd (i+1)
 | 0,p,h=>⟨fun _=>p,rfl,fun i hi=>by rw [show i=0 by omega];exact h,fun i hi=>absurd hi (Nat.not_lt_zero _)⟩
 | m+1,p,h=>by
  obtain ⟨q,h1,s,h2,h3⟩:=Om.layK_succ.mp h
  obtain ⟨nd,e,a,b⟩:=lay_walk h1
  refine ⟨fun i=>if i<=m then nd i else p,if_neg (by omega),fun i hi=>?_,fun i hi=>?_⟩
  ·dsimp only
   by_cases z:i<=m
   ·rw [if_pos z];exact a i z
   ·rw [if_neg z,show i=m+1 by omega];exact h
  ·dsimp only
   rw [if_pos (by omega)]
   by_cases z:i+1<=m
   ·rw [if_pos z];exact b i z
   ·rw [if_neg z]
    have:i=m:=by omega
    subst this
    rw [e]
    exact ⟨s,h2,h3⟩
theorem lay_on {g:Nat×Nat->List Om.Stp} {ks:List (Nat×Nat)} {nd:Nat->Nat×Nat} {i m q:Nat} (st:∀ i,i < m->∃ s∈g (nd i),s.2=nd (i+1)) (h:nd i∈Om.layK g ks q):∀ c,i+c<=m->nd (i+c)∈Om.layK g ks (q+c)
 | 0,_=>h
 | c+1,hc=>by
  obtain ⟨s,h1,h2⟩:=st (i+c) (by omega)
  exact Om.layK_succ.mpr ⟨_,lay_on st h c (by omega),s,h1,h2⟩
theorem back_all {k n:Nat} {rows:Om.Rows} (ok:Om.CodeOk k n rows) {qs:List Nat} (rc:RchL rows qs) (go:GOn rows qs) (b:BackL rows qs) (a:Nat):lyN rows qs a≠[]:=by
 obtain ⟨cl,sub⟩:=graph_on ok rc go.1 go.2
 obtain ⟨p,hp⟩:=List.exists_mem_of_ne_nil _ b
 obtain ⟨nd,_,h1,h2⟩:=lay_walk hp
 have inK:∀ i,i<=(gK qs).length->nd i∈gK qs:=fun i hi=>Om.layK_in sub cl i _ (h1 i hi)
 have rep:∃ i j,i < j/\j<=(gK qs).length/\nd i=nd j:=Classical.byContradiction fun d=>by
  have nod:((List.range ((gK qs).length+1)).map nd).Nodup:=by
   unfold List.Nodup
   rw [List.pairwise_map]
   refine List.Pairwise.imp_of_mem ?_ (List.pairwise_lt_range (n:=(gK qs).length+1))
   intro a b ha hb hab z
   exact d ⟨a,b,hab,by have:=List.mem_range.mp hb;omega,z⟩
  have le:=List.Nodup.length_le_of_subset nod (fun q hq=>by
   obtain ⟨i,hi,rfl⟩:=List.mem_map.mp hq
   exact inK i (by have:=List.mem_range.mp hi;omega):_ ⊆ gK qs)
  rw [List.length_map,List.length_range] at le
  omega
 obtain ⟨i,j,ij,jl,e⟩:=rep
 have far:∀ c:Nat,nd i∈Om.layK (gS rows) ((fpF rows qs).map (·.1)) (i+c * (j - i)):=by
  intro c
  induction c with
  | zero=>rw [Nat.zero_mul];exact h1 i (by omega)
  | succ c ih=>
   have:=lay_on h2 ih (j - i) (by omega)
   rw [show i+(j - i)=j by omega,<-e] at this
   rw [show i+(c+1) * (j - i)=i+c * (j - i)+(j - i) by rw [Nat.add_mul,Nat.one_mul];omega]
   exact this
 intro z
 have h3:=far a
 have le:a<=i+a * (j - i):=by
  have:=Nat.mul_le_mul_left a (show 1<=j - i by omega)
  omega
 have nil:=lyN_nil z (i+a * (j - i) - a)
 rw [show a+(i+a * (j - i) - a)=i+a * (j - i) by omega] at nil
 have h3:nd i∈lyN rows qs (i+a * (j - i)):=h3
 rw [nil] at h3
 cases h3
theorem ly_clash {k n:Nat} {rows:Om.Rows} (ok:Om.CodeOk k n rows) {qs:List Nat} (rc:RchL rows qs) (go:GOn rows qs) {a:Nat} (h:lyN rows qs a≠[]):¬ Om.Win rows 0 a:=fun w=>by
 obtain ⟨cl,sub⟩:=graph_on ok rc go.1 go.2
 obtain ⟨p,hp⟩:=List.exists_mem_of_ne_nil _ h
 have all:∀ i p,p∈Om.layK (gS rows) ((fpF rows qs).map (·.1)) i->Om.iterR (Om.St rows) (Om.nextR (Om.StU rows) (Om.iterR (Om.St rows) (Om.AllR rows) 0)) i p.1 p.2:=by
  intro i
  induction i with
  | zero=>
   intro p hp
   rw [Om.layK_zero] at hp
   obtain ⟨e,he,rfl⟩:=List.mem_map.mp hp
   obtain ⟨s,hs,t,ht,rfl,ne⟩:=fp_mem he
   have lt:=Om.rch_ok ok s ((rc.2.1 s).mp hs)
   exact ⟨s,s,t,⟨lt,lt⟩,⟨(go.2 (s,s) ((go.1 _).mpr ⟨hs,hs⟩) t).mp ht,ne⟩,rfl⟩
  | succ i ih=>
   intro p hp
   obtain ⟨q,h1,s,h2,rfl⟩:=Om.layK_succ.mp hp
   exact ⟨q.1,q.2,s,ih q h1,(go.2 q (Om.layK_in sub cl i _ h1) s).mp h2,rfl⟩
 exact w p.1 p.2 ((Om.clash_iff ok 0 a p.1 p.2).mp (all a p hp))
theorem win_late {k n:Nat} {rows:Om.Rows} (ok:Om.CodeOk k n rows) {qs:List Nat} (rc:RchL rows qs) (go:GOn rows qs) {a d:Nat} (w:Om.Win rows 0 a) (dl:DL rows qs d):d<=a:=Classical.byContradiction fun z=>ly_clash ok rc go (dl.1 a (by omega)) w
theorem win_back {k n:Nat} {rows:Om.Rows} (ok:Om.CodeOk k n rows) {qs:List Nat} (rc:RchL rows qs) (go:GOn rows qs) {a:Nat} (w:Om.Win rows 0 a):¬ BackL rows qs:=fun b=>ly_clash ok rc go (back_all ok rc go b a) w
theorem win_ahead {k n:Nat} {rows:Om.Rows} (ok:Om.CodeOk k n rows) {b a:Nat} (w:Om.Win rows b a):Om.Win rows b (a+1):=fun x y ⟨t,t',z,h,h',ne⟩=>by
 obtain ⟨t1,t1',w1,x1,y1,s,p1,p2,st,es,rfl,rfl⟩:=Om.two_inv ok (m:=b+1+a) h h'
 rw [Om.getD_early (by rw [p1.len];omega),Om.getD_early (by rw [p2.len];omega)] at ne
 exact w x1 y1 ⟨t1,t1',w1,p1,p2,ne⟩
theorem Pth_tail {k n:Nat} {rows:Om.Rows} (ok:Om.CodeOk k n rows):∀ {m:Nat} {t:List Nat} {w:List Bool} {x:Nat},Om.Pth rows (m+1) t w x->Om.Pth rows m (t.drop 1) (w.drop n) x
 | 0,t,w,x,h=>by
  obtain ⟨t1,w1,p1,i,h1,h2,rfl,rfl,rfl⟩:=h.inv
  cases h1
  have:=ok.stp h2
  rw [List.nil_append,List.nil_append,List.drop_of_length_le (Nat.le_of_eq this.2.1)]
  exact .nil this.2.2
 | m+1,t,w,x,h=>by
  obtain ⟨t1,w1,p1,i,h1,h2,rfl,rfl,rfl⟩:=h.inv
  have ih:=Pth_tail ok h1
  have l1:=h1.len
  have wl:n<=w1.length:=by
   have:∀ {m:Nat} {t:List Nat} {w:List Bool} {x:Nat},Om.Pth rows m t w x->w.length=m * n:=by
    intro m t w x h
    induction h with
    | nil=>simp
    | snoc h hi ih=>rw [List.length_append,ih,(ok.stp hi).2.1,Nat.add_mul,Nat.one_mul]
   rw [this h1,Nat.add_mul,Nat.one_mul]
   omega
  rw [List.drop_append_of_le_length (by omega),List.drop_append_of_le_length wl]
  exact .snoc ih h2
theorem win_more {k n:Nat} {rows:Om.Rows} (ok:Om.CodeOk k n rows) {b a:Nat} (w:Om.Win rows b a):Om.Win rows (b+1) a:=fun x y ⟨t,t',z,h,h',ne⟩=>by
 rw [show b+1+1+a=(b+1+a)+1 by omega] at h h'
 refine w x y ⟨t.drop 1,t'.drop 1,z.drop n,Pth_tail ok h,Pth_tail ok h',fun e=>ne ?_⟩
 rw [List.getD_eq_getElem?_getD,List.getD_eq_getElem?_getD,List.getElem?_drop,List.getElem?_drop,Nat.add_comm 1 b,<-List.getD_eq_getElem?_getD,<-List.getD_eq_getElem?_getD] at e
 exact e
def UnlW (rows:Om.Rows):Prop:=∀ st∈rows,(st.map (·.1)).Nodup
theorem unl_step {k n:Nat} {rows:Om.Rows} (ok:Om.CodeOk k n rows) (u:UnlW rows) {x i j:Nat} (hi:i < (rows.getD x []).length) (hj:j < (rows.getD x []).length) (e:(Om.step rows x i).1=(Om.step rows x j).1):i=j:=by
 have hx:=(ok.stp hi).1
 have eg:rows.getD x []=rows[x]:=by simp [List.getD_eq_getElem?_getD,hx]
 unfold Om.step at e
 rw [eg] at e hi hj
 rw [List.getD_eq_getElem?_getD,List.getD_eq_getElem?_getD,List.getElem?_eq_getElem hi,List.getElem?_eq_getElem hj] at e
 have nd:=u _ (List.getElem_mem hx)
 have h1:i < (rows[x].map (·.1)).length:=by rw [List.length_map];exact hi
 have h2:j < (rows[x].map (·.1)).length:=by rw [List.length_map];exact hj
 refine (List.getElem_inj (h₀:=h1) (h₁:=h2) nd).mp ?_
 rw [List.getElem_map,List.getElem_map]
 exact e
theorem set_win {k n:Nat} {rows:Om.Rows} (ok:Om.CodeOk k n rows) (u:UnlW rows) {d:Nat} (s:¬ Om.Uns rows d):Om.Win rows d 0:=fun x y ⟨t,t',z,h,h',ne⟩=>by
 obtain ⟨t1,t1',w1,x1,y1,st,p1,p2,⟨g1,g2,g3,g4⟩,es,rfl,rfl⟩:=Om.two_inv ok (m:=d) h h'
 have e:x1=y1:=Classical.byContradiction fun n=>s ⟨x1,y1,(Om.iter_iff ok d x1 y1).mpr ⟨_,_,_,p1,p2⟩,⟨p1.lt ok,p2.lt ok⟩,n⟩
 subst e
 rw [Om.getD_snoc p1.len,Om.getD_snoc p2.len] at ne
 exact ne (unl_step ok u g1 g2 g3)
theorem allW_ord:∀ i < 28,∀ j < 28,i < j->(Om.allW.getD i (0,0)).1+(Om.allW.getD i (0,0)).2 < (Om.allW.getD j (0,0)).1+(Om.allW.getD j (0,0)).2\/((Om.allW.getD i (0,0)).1+(Om.allW.getD i (0,0)).2=(Om.allW.getD j (0,0)).1+(Om.allW.getD j (0,0)).2/\(Om.allW.getD i (0,0)).1 < (Om.allW.getD j (0,0)).1):=by decide +kernel
theorem allW_len:Om.allW.length=28:=by decide +kernel
def LeW (p q:Nat×Nat):Prop:=p.1+p.2 < q.1+q.2\/(p.1+p.2=q.1+q.2/\p.1<=q.1)
theorem wins_first {rows:Om.Rows} {p:Nat×Nat} {r:List (Nat×Nat)} (h:Om.wins rows=p :: r):Om.Win rows p.1 p.2/\p∈Om.allW/\∀ q∈Om.allW,Om.Win rows q.1 q.2->LeW p q:=by
 have pm:p∈Om.wins rows:=by rw [h];exact List.mem_cons_self ..
 obtain ⟨pa,pw⟩:=List.mem_filter.mp pm
 refine ⟨Om.wf_iff.mp pw,pa,fun q hq hw=>?_⟩
 have qm:q∈Om.wins rows:=List.mem_filter.mpr ⟨hq,Om.wf_iff.mpr hw⟩
 have srt:(Om.wins rows).Pairwise LeW:=by
  refine List.Pairwise.filter _ ?_
  rw [List.pairwise_iff_getElem]
  intro i j hi hj ij
  rw [allW_len] at hi hj
  have:=allW_ord i hi j hj ij
  rw [List.getD_eq_getElem?_getD,List.getD_eq_getElem?_getD,List.getElem?_eq_getElem (by rw [allW_len];exact hi),List.getElem?_eq_getElem (by rw [allW_len];exact hj)] at this
  unfold LeW
  simp only [Option.getD_some] at this
  omega
 rw [h] at srt qm
 rcases List.mem_cons.mp qm with rfl | z
 ·exact .inr ⟨rfl,Nat.le_refl _⟩
 ·exact (List.pairwise_cons.mp srt).1 q z
end
end K37
end
section
namespace K37
open PySem L2
section
variable {P:Program} {w:World} {K:PySem.W.Frag} {mg:Str->Option Value} {base:Heap}
abbrev sUnlC:Stmt:=top 36
def spUnlC:Sp:=fun vs H Q _=>match vs with
 | [cv]=>∃ (k n:Nat) (rows:Om.Rows),DV H cv (codeD k n rows)/\Om.CodeOk k n rows/\∀ (b:Bool) H',Same H H'->(b=true->UnlW rows)->Q (.bl b) H'
 | _=>False
theorem scUnlC:FnScope ["code","state"] ["code"] (defScope sUnlC):=⟨rfl,rfl,rfl,by decide +kernel,rfl,by decide +kernel,by decide +kernel⟩
local macro_rules | `(tactic| walk_at "T.c")=>`(tactic| (have ndc:(["word","behind"]:List Str).Nodup:=(by decide +kernel));((with_reducible refine' c_comp ["word","behind"] [] ?b1 ?b2 (fun cl C s H fp=>?b3) (fun cl C s H fp=>?b4) (fun cl C s H fp=>?b5));(case b1=>exact ndc);(case b2=>walk_at "T.i");(case b3=>walk_at "T.g");(case b4=>walk_at "T.pf");(case b5=>walk_at "T.e")))
local macro_rules | `(tactic| walk_at "T.b")=>`(tactic| first | ((with_reducible refine' fn_lenZ ?a0 ?a9 ?a1);(case a0=>with_reducible assumption);(case a9=>rfl);(case a1=>walk_at "T.a")) | ((with_reducible refine' fn_setS ?a0 ?a9 ?a1);(case a0=>with_reducible assumption);(case a9=>rfl);(case a1=>walk_at "T.a")))
theorem ok_unlC (D:FnX K mg "_law_unlike" sUnlC ["code"]) (g1:mg "len" = none) (g2:mg "set" = none):Can P w K mg base "_law_unlike" 1 ["code"] spUnlC:=by
 refine can_fn (k:=0) D scUnlC (fun vs H Q E h=>?_) (fun f cdv A outer s H vs Q E hr h=>?_)
 all_goals
  unfold spUnlC at h
  split at h
 ·rfl
 ·exact h.elim
 ·rename_i cv
  obtain ⟨k,n,rows,hc,ok,q⟩:=h
  have nd:=scUnlC.nd
  obtain ⟨a,b,ss,rfl,ha,hb,hss⟩:=code_inv hc
  have sl:ss.length=rows.length:=by rw [hss.length,List.length_map]
  have r8:=ok.s8
  refine ⟨_,(by walk_at "T.top"),?_⟩
  refine ⟨_,gt ha (by decide) rfl,⟨_,SqL.of hb⟩,?_⟩
  refine for_by (it_list _ b ss) (fun i σ H2=>(∃ v,σ=[some (.ref a),v])/\Same H H2/\∀ (j:Nat) st,j < i->rows[j]? = some st->(st.map (·.1)).Nodup)
   ⟨⟨none,rfl⟩,Same.refl _,fun j st hj=>absurd hj (Nat.not_lt_zero _)⟩ (fun i σ H2 _ ⟨_,s2,_⟩=>SqL.of (s2 _ _ hb)) ?_ ?_
  ·rintro i x σ H2 hi hx ⟨⟨v,rfl⟩,s2,al⟩
   have hi':i < rows.length:=by omega
   obtain ⟨qa,rs,e1,e2,e3⟩:=state_at hss (s:=i) (st:=rows[i]) (List.getElem?_eq_getElem hi')
   rw [hx] at e1
   cases e1
   have l8:rows[i].length<=8:=by
    rw [ok.len _ (List.getElem_mem hi')]
    have:=ok.k3
    have:k=0\/k=1\/k=2\/k=3:=by omega
    rcases this with rfl | rfl | rfl | rfl<;>decide
   have hst:rows[i]? = some rows[i]:=List.getElem?_eq_getElem hi'
   generalize rows[i]=st at e3 l8 hst
   have rl:rs.length=st.length:=by rw [e3.length,List.length_map]
   refine ⟨⟨_,SqL.of (s2 _ _ e2)⟩,fun L hL=>?_⟩
   refine comp_by (it_list _ qa rs) (fun j τ H3 ys=>(∃ v v',τ=[v,v'])/\Same H2 H3/\H3 L=some (.lst ys)/\ys=(st.take j).map fun r=>V.str (bs r.1)) (le_line (by omega)) ⟨⟨none,none,rfl⟩,Same.upd hL,upd_same,rfl⟩ ?_ ?_ ?_
   ·rintro j τ H3 ys hj ⟨_,s3,h3,rfl⟩
    exact ⟨SqL.of (s3 _ _ (s2 _ _ e2)),h3,by rw [List.length_map,List.length_take];exact Nat.min_le_left _ _⟩
   ·rintro j y τ H3 ys hj hy ⟨⟨v,v',rfl⟩,s3,h3,rfl⟩
    have hj':j < st.length:=by omega
    obtain ⟨r,r1,r2⟩:=row_at e3 (l:=j) (r:=st[j]) (List.getElem?_eq_getElem hj')
    rw [hy] at r1
    cases r1
    refine ⟨_,.inl (s3 _ _ (s2 _ _ r2)),rfl,rfl,?_⟩
    refine ⟨h3,⟨_,_,rfl⟩,s3.own hL,upd_same,?_⟩
    rw [List.take_add_one,List.getElem?_eq_getElem hj',List.map_append]
    rfl
   ·rintro τ H3 ys ⟨_,s3,h3,rfl⟩
    rw [List.take_of_length_le (by omega)] at h3
    refine ⟨L,st.map fun r=>bs r.1,rfl,by rw [List.map_map];exact h3,by rw [List.length_map];omega,fun z hz=>?_⟩
    refine .inl ⟨z,_,rfl,upd_same,?_⟩
    have s4:=s3.trans (Same.upd (o:=SetS P w z (Om.once (st.map fun r=>bs r.1)).length) hz)
    refine .inr ⟨_,lenL (s4 _ _ (s2 _ _ e2)),?_⟩
    refine ite2 (fun _=>?_) (fun c=>?_)
    ·exact q false _ (s2.trans s4) (fun z=>nomatch z)
    ·have c:((Om.once (st.map fun r=>bs r.1)).length:Int)=(rs.length:Int):=Classical.byContradiction fun n=>c (by rw [decide_eq_false n];rfl)
     have ndp:(st.map (·.1)).Nodup:=by
      rw [<-Om.bs_nodup,<-Om.once_len,List.length_map]
      omega
     refine ⟨⟨_,rfl⟩,s2.trans s4,fun j' st' hj' hs'=>?_⟩
     by_cases z:j'=i
     ·subst z
      rw [hst] at hs'
      cases hs'
      exact ndp
     ·exact al j' st' (by omega) hs'
  ·rintro σ H2 ⟨⟨v,rfl⟩,s2,al⟩
   refine q true _ s2 fun _ st hst=>?_
   obtain ⟨j,hj⟩:=List.mem_iff_getElem?.mp hst
   exact al j st (by have:=(List.getElem?_eq_some_iff.mp hj).1;omega) hj
 ·exact h.elim
end
end K37
end
section
namespace L2
open PySem PySem.Spec PyProof.Rows
section
variable {X:Cx} {p pos:Pos} {e:Expr} {es:List Expr} {t:TA}
end
end L2
end
section
namespace L2
open PySem PySem.Spec PyProof.Rows
section
variable {X:Cx}
variable {elt target iter:Expr} {ifs:List Expr} {scope:Scope} {pos spos:Pos} {wi:TI} {g:TG} {tt:TT} {te:TE}
end
end L2
end
section
namespace L2
open PySem PySem.Spec PyProof.Rows
section
variable {X:Cx} {tg:Expr}
end
end L2
end
section
namespace L2
open PySem PySem.Spec PyProof.Rows
section
variable {prog:Program} {w:World} {A:Around} {E:Value->Shared->Prop} {s:Shared}
end
section
variable {X:Cx} {p pos:Pos}
end
end L2
end
section
namespace Om
def stp (b:Bool):Int:=if b then 1 else -1
section
variable {rows:Rows} {turn:Int} {ks ks':List Nat} {E E':Nat->Int} {ed ed':Nat->Nat->Prop} {s l:Nat} {r:List Bool×Nat}
end
end Om
namespace L2
open PySem PySem.Spec PyProof.Rows
section
variable {H H':Hp} {kvs:List (Key×V)} {ks:List Nat} {E:Nat->Int} {c:Nat}
end
end L2
end
section
namespace L2
open PySem PySem.Spec PyProof.Rows
section
variable {X:Cx} {p pos apos:Pos} {a b e o:Expr} {es:List Expr} {t:TA} {to:TE}
end
end L2
end
section
namespace L2
open PySem PySem.Spec PyProof.Rows
section
variable {prog:Program} {w:World} {A:Around} {E:Value->Shared->Prop} {s:Shared}
end
section
variable {X:Cx} {pos apos:Pos} {o e:Expr} {to:TE} {t:TA} {es:List Expr}
end
end L2
end
section
namespace L2
open PySem PySem.Spec PyProof.Rows
section
variable {prog:Program} {w:World} {A:Around}
end
section
variable {X:Cx} {p pos:Pos}
end
end L2
end
section
namespace L2
open PySem PySem.Spec PyProof.Rows
section
variable {X:Cx}
end
end L2
namespace L2
end L2
end
section
namespace L2
open PySem PySem.Spec PyProof.Rows
section
variable {X:Cx} {a b:Expr} {p pos:Pos} {ta:TA}
end
end L2
end
section
namespace L2
open PySem PySem.Spec PyProof.Rows PySem.W PySem.Calls
section
variable {n:Nat} {cmp:Nat->Nat->(Bool->Shared->Prop)->Shared->Prop} {s:Shared}
variable (hc:∀ i j C,i < n->j < n->(∀ b,C b s)->cmp i j C s) (h0:0 < n)
include hc h0
end
section
variable {prog:Program} {w:World} {A:Around} {E:Value->Shared->Prop} {s:Shared}
end
section
variable {X:Cx} {p pos:Pos}
end
end L2
end
section
namespace L2
open PySem PySem.Spec PyProof.Rows PySem.W PySem.Calls
section
variable {prog:Program} {w:World} {A:Around} {E:Value->Shared->Prop} {s:Shared}
def TupO (h:Heap) (v:Value) (xs:List Value):Prop:=∃ (t:Addr) (o:Obj) (n:Nat),v = .ref t/\h.get? t=some o/\o.cls = .type "tuple"/\o.data = .seq xs.toArray n
theorem TupO.ty {v:Value} {xs:List Value} (h:TupO s.heap v xs):s.TypeIs v "tuple" := by
 obtain ⟨t,o,n,rfl,h1,h2,h3⟩:=h
 exact ⟨o,h1,h2⟩
end
end L2
end
section
namespace L2
open PySem PySem.Spec PyProof.Rows PySem.W PySem.Calls
section
variable {prog:Program} {w:World} {A:Around} {E:Value->Shared->Prop} {s:Shared}
end
end L2
end
section
namespace L2
open PySem PySem.Spec PyProof.Rows PySem.W PySem.Calls
section
variable {prog:Program} {w:World} {A:Around} {E:Value->Shared->Prop} {s:Shared}
end
end L2
end
section
namespace L2
open PySem PySem.Spec PyProof.Rows PySem.W PySem.Calls
section
variable {prog:Program} {w:World} {A:Around} {E:Value->Shared->Prop} {s:Shared} {R:Result->Shared->Prop}
end
end L2
end
section
namespace L2
open PySem PySem.Spec PyProof.Rows PySem.W PySem.Calls
section
variable {prog:Program} {w:World} {A:Around}
theorem TupO.mono {h h':Heap} {a:Addr} {v:Value} {xs:List Value} (x:TupO h v xs) (k:∀ b o,b≠a->h.get? b=some o->h'.get? b=some o) (n:∀ o,h.get? a=some o->o.cls = .type "list"):TupO h' v xs:=by
 obtain ⟨t,o,m,x1,x2,x3,x4⟩:=x
 refine ⟨t,o,m,x1,k t o (fun z=>?_) x2,x3,x4⟩
 subst z
 have:=n o x2
 rw [x3] at this
 exact absurd (Value.type.inj this) (by decide)
theorem TupO.ext {h h':Heap} {v:Value} {xs:List Value} (x:TupO h v xs) (k:∀ b o,h.get? b=some o->h'.get? b=some o):TupO h' v xs:=by
 obtain ⟨t,o,m,x1,x2,x3,x4⟩:=x
 exact ⟨t,o,m,x1,k t o x2,x3,x4⟩
end
section
variable {X:Cx} {p pos:Pos}
theorem tup_O {P:Program} {w:World} {H:Hp} {h:Heap} {t:Addr} {xs:List V} (ok:HOk P w H h) (e:H t=some (.tup xs)):∃ us,TupO h (.ref t) us/\Vals xs us:=by
 obtain ⟨_,its,rv,o,o1,o2,n,o3⟩:=ok t _ e
 exact ⟨its,⟨t,o,n,rfl,o1,o2,o3⟩,rv⟩
end
end L2
end
section
namespace L2
open PySem PySem.Spec PyProof.Rows PySem.W PySem.Calls
section
variable {prog:Program} {w:World} {A:Around} {E:Value->Shared->Prop} {s:Shared}
theorem tup2_lt {u v:Value} {a b c d:Int} {t1 t2 t3 t4:Tok} {P:PySem.Fin->Shared->Prop} (hu:TupO s.heap u [.int a t1,.int b t2]) (hv:TupO s.heap v [.int c t3,.int d t4]) (h:P (.done (.ret (.bool (decide (a < c\/a=c/\b < d))))) s) :
  wpAny (model prog w) A (Builtin.«tuple.__lt__» ⟨[u,v],[]⟩) P E s:=by
 have tv:=hv.ty
 obtain ⟨x,o,n,rfl,a1,a2,a3⟩:=hu
 obtain ⟨y,o',n',rfl,b1,b2,b3⟩:=hv
 show wpAny _ _ (isInstance (.ref y) (.type "tuple") >>= _) _ _ s
 refine wpAny_bind (wpAny_isInstance tv isSubtype_tuple_tuple ?_)
 simp only [Bool.not_true,Bool.false_eq_true,if_false]
 refine wpAny_bind (wpAny_tupleItemsOf a1 a3 (wpAny_bind (wpAny_tupleItemsOf b1 b3 (wpAny_bind ?_))))
 refine wpAny_forIn_list _ (fun rest r s'=>r.1=none/\s'=s/\(rest=[(Value.int a t1,Value.int c t3),(.int b t2,.int d t4)]\/(a=c/\rest=[(Value.int b t2,Value.int d t4)])\/(a=c/\b=d/\rest=[]))) _ ?_ ?_ _ _ ⟨rfl,rfl,.inl (by simp)⟩
 ·rintro ⟨x,y⟩ rest r s' ⟨hr,rfl,al⟩
  rcases al with e | ⟨e0,e⟩ | ⟨_,_,e⟩
  ·cases e
   refine wpAny_bind (wpAny_eqBool_int ?_)
   by_cases z:a=c
   ·rw [show (a == c)=true by simp [z]]
    simp only [Bool.not_true,Bool.false_eq_true,if_false]
    exact wpAny_pure ⟨rfl,rfl,.inr (.inl ⟨z,by first | rfl | trivial⟩)⟩
   ·rw [show (a == c)=false by simp [z]]
    simp only [Bool.not_false,if_true]
    refine wpAny_bind (wpAny_rule ?_)
    refine wpAny_bind ?_
    refine wpAny_mono (show wpAny (model prog w) A (compareOp .Lt (.int a t1) (.int c t3)) (fun r' s2=>r' = .bool (decide (a < c))/\s2=s') E s' from PyProof.Rows.lt_int ⟨rfl,rfl⟩) ?_ fun _ _ x=>x
    rintro r' s2 ⟨rfl,rfl⟩
    have ee:decide (a < c\/a=c/\b < d)=decide (a < c):=by simp [z]
    rw [ee] at h
    exact wpAny_bind (wpAny_pure (wpAny_pure (wpAny_pure h)))
  ·cases e
   refine wpAny_bind (wpAny_eqBool_int ?_)
   by_cases z:b=d
   ·rw [show (b == d)=true by simp [z]]
    simp only [Bool.not_true,Bool.false_eq_true,if_false]
    exact wpAny_pure ⟨rfl,rfl,.inr (.inr ⟨e0,z,by first | rfl | trivial⟩)⟩
   ·rw [show (b == d)=false by simp [z]]
    simp only [Bool.not_false,if_true]
    refine wpAny_bind (wpAny_rule ?_)
    refine wpAny_bind ?_
    refine wpAny_mono (show wpAny (model prog w) A (compareOp .Lt (.int b t2) (.int d t4)) (fun r' s2=>r' = .bool (decide (b < d))/\s2=s') E s' from PyProof.Rows.lt_int ⟨rfl,rfl⟩) ?_ fun _ _ x=>x
    rintro r' s2 ⟨rfl,rfl⟩
    have ee:decide (a < c\/a=c/\b < d)=decide (b < d):=by simp [e0]
    rw [ee] at h
    exact wpAny_bind (wpAny_pure (wpAny_pure (wpAny_pure h)))
  ·cases e
 ·rintro ⟨r1,r2⟩ s' ⟨hr,rfl,al⟩
  simp only at hr
  subst hr
  rcases al with e | ⟨_,e⟩ | ⟨e1,e2,_⟩
  ·cases e
  ·cases e
  ·have ee:decide (a < c\/a=c/\b < d)=decide ((2:Nat) < 2):=by simp [e1,e2]
   rw [ee] at h
   exact wpAny_pure h
theorem tup2_ltC {u v:Value} {a b c d:Int} {t1 t2 t3 t4:Tok} {Q:Value->Shared->Prop} (hl:A.units < cLine) (hu:TupO s.heap u [.int a t1,.int b t2]) (hv:TupO s.heap v [.int c t3,.int d t4]) (h:Q (.bool (decide (a < c\/a=c/\b < d))) s):wpAny (model prog w) A (compareOp .Lt u v) Q E s:=
 show wpAny (model prog w) A (richCompare .Lt u v) Q E s from
 wpAny_richCompare_same_room (op:=.Lt) hu.ty hv.ty F.slot_tuple_lt (wpAny_call_entry F.slot_tuple_lt hu.ty F.entry_tuple_lt (tup2_lt hu hv ⟨_,rfl,(fun e=>nomatch e),h⟩) (F.args_tuple_lt_2 _ _)) hl
end
section
variable {X:Cx}
def rLt2:R2:=fun x y H Q=>∃ (p q:Addr) (a b c d:Int),x = .ref p/\y = .ref q/\H p=some (.tup [.int a,.int b])/\H q=some (.tup [.int c,.int d])/\Q (.bl (decide (a < c\/a=c/\b < d))) H
theorem op_lt2 (hu:X.A.units+64 < cLine):OpR X (compareOp .Lt) rLt2:=by
 intro pins s σ H x y v u Q I rx ry h
 obtain ⟨p,q,a,b,c,d,rfl,rfl,hp,hq,k⟩:=h
 cases rx
 cases ry
 obtain ⟨us,O1,V1⟩:=tup_O I.hok hp
 obtain ⟨vs,O2,V2⟩:=tup_O I.hok hq
 cases V1 with
 | cons r1 V1=>
  cases V1 with
  | cons r2 V1=>
   cases V1
   cases V2 with
   | cons r3 V2=>
    cases V2 with
    | cons r4 V2=>
     cases V2
     obtain ⟨t1,rfl⟩:=r1
     obtain ⟨t2,rfl⟩:=r2
     obtain ⟨t3,rfl⟩:=r3
     obtain ⟨t4,rfl⟩:=r4
     exact tup2_ltC (by omega) O1 O2 ⟨.bl _,H,I,rfl,k⟩
end
end L2
end
section
namespace K37
open PySem L2
section
variable {P:Program} {w:World} {K:PySem.W.Frag} {mg:Str->Option Value} {base:Heap}
theorem seq_nx {t u:TS} {D:Ends} {σ:St} {H:Hp} (M:St->Hp->Prop) (h1:∀ σ' H',M σ' H'->u D σ' H') (h2:∀ nx:St->Hp->Prop,(∀ σ' H',M σ' H'->nx σ' H')->t { D with nx:=nx } σ H):tSeq t u D σ H:=h2 (u D) h1
structure GdW (rows:Om.Rows) (ks:List (Nat×Nat)) (kvs:List (List Key×V)):Prop where
 kd:KD ks kvs
 vl:∀ p∈ks,∃ c:Bool,valV kvs (kk p)=some (.bl c)/\(c=true↔Om.Win rows p.1 p.2)
theorem firstW_data {rows:Om.Rows} {v:V} {H:Hp} (h:FirstW rows v H):(v = .non/\Om.wins rows=[])\/∃ (f:Addr) (p:Nat×Nat) (r:List (Nat×Nat)),v = .ref f/\H f=some (.tup [.int (p.1:Nat),.int (p.2:Nat)])/\Om.wins rows=p :: r:=by
 unfold FirstW at h
 split at h
 ·exact .inl ⟨h,by assumption⟩
 ·obtain ⟨a,e,h⟩:=h
  exact .inr ⟨a,_,_,e,h,by assumption⟩
theorem pairD_DV {H:Hp} {a:Addr} {p:Nat×Nat} (h:H a=some (.tup [.int (p.1:Nat),.int (p.2:Nat)])):DV H (.ref a) (pairD p):=.tup h (.cons (.int _) (.cons (.int _) .nil))
abbrev sOrd:Stmt:=top 37
def spOrd:Sp:=fun vs H Q _=>match vs with
 | [.ref g,fv]=>∃ (k n:Nat) (rows:Om.Rows) (ks:List (Nat×Nat)) (kvs:List (List Key×V)),Om.CodeOk k n rows/\H g=some (.dT kvs)/\GdW rows ks kvs/\(∀ b a,(b,a)∈ks↔b+a<=6)/\FirstW rows fv H ∧
   ∀ (o:Obj) H',SameT g H H'->H' g=some (.frz o (.dT kvs))->Q (.bl true) H'
 | _=>False
theorem scOrd:FnScope ["good","found","back","beside"] ["good","found"] (defScope sOrd):=⟨rfl,rfl,rfl,by decide +kernel,rfl,by decide +kernel,by decide +kernel⟩
local macro_rules | `(tactic| walk_at "T.e")=>`(tactic| ((with_reducible refine' ix_atD ?a0 ?a1 ?a2);(case a0=>exact Room.units (by assumption));(case a1=>with_reducible exact vn "good" 0);(case a2=>walk_at "T.e")))
local macro_rules | `(tactic| walk_at "T.i")=>`(tactic| ((with_reducible refine' pi_lstF ?a1);(case a1=>with_reducible exact vn "good" 0)))
local macro_rules | `(tactic| walk_at "T.cmp")=>`(tactic| ((with_reducible refine' op_eqD ?a1);(case a1=>exact Room.units (by assumption))))
local macro_rules | `(tactic| walk_at "T.t")=>`(tactic| ((with_reducible refine' t_cmp ?a1 ?a2 ?a3);(case a1=>((with_reducible refine' op_lt2 ?b1);(case b1=>exact Room.units (by assumption))));(case a2=>((with_reducible refine' pe_tup ?c1);(case c1=>walk_at "T.a")));(case a3=>((with_reducible refine' pe_tup ?c1);(case c1=>walk_at "T.a")))))
theorem ok_ord (D:FnX K mg "_law_in_order" sOrd ["good","found"]):Can P w K mg base "_law_in_order" 1 ["good","found"] spOrd:=by
 refine can_fn (k:=0) D scOrd (fun vs H Q E h=>?_) (fun f0 cdv A outer s H vs Q E hr h=>?_)
 all_goals
  unfold spOrd at h
  split at h
 ·rfl
 ·exact h.elim
 ·rename_i g fv
  obtain ⟨k,n,rows,ks,kvs,ok,hg,gd,km,fw,q⟩:=h
  have nd:=scOrd.nd
  refine ⟨_,(by walk_at "T.top"),?_⟩
  refine .inl ⟨kvs,hg,fun o bz kz=>?_⟩
  have bl:=gd.kd.blen kz
  have s0:SameT g H (upd H g (.frz o (.dT kvs))):=fun b u nb e=>by rw [upd_ne nb];exact e
  have hg0:upd H g (.frz o (.dT kvs)) g=some (.frz o (.dT kvs)):=upd_same
  generalize upd H g (.frz o (.dT kvs))=H0 at s0 hg0
  have fd:=firstW_data fw
  refine for_by (it_keys g o (bz.map V.ref)) (fun i σ H2=>∃ (v2 v3:Option V),σ=[some (.ref g),some fv,v2,v3]/\Same H0 H2)
   ⟨none,none,rfl,Same.refl _⟩ (fun i σ H2 _ ⟨_,_,_,s2⟩=>⟨_,s2 _ _ hg0⟩) ?_ ?_
  ·rintro i v σ H2 hi hv ⟨v2,v3,rfl,s2⟩
   rw [bl] at hi
   obtain ⟨b0,rfl,hb0⟩:=gd.kd.key kz hi hv
   have pm:ks[i]∈ks:=List.getElem_mem hi
   generalize ks[i]=p at hb0 pm
   obtain ⟨b,a⟩:=p
   have le:=(km b a).mp pm
   have hb2:=s2 _ _ (s0 _ _ (ne_of hb0 hg (fun z=>nomatch z)) hb0)
   have pw:(b,a)∈Om.allW:=Om.allW_mem b (by omega) a (by omega)
   have get:∀ {H3:Hp} {t:Addr} {b' a':Nat} {Q':V->Hp->Prop},Same H0 H3->H3 t=some (.tup [.int (b':Nat),.int (a':Nat)])->b'+a'<=6->(∀ c:Bool,(c=true↔Om.Win rows b' a')->Q' (.bl c) H3)->rIxD (.ref g) (.ref t) H3 Q':=fun {H3 t b' a' Q'} s3 ht le' q'=>by
    obtain ⟨c,e1,e2⟩:=gd.vl (b',a') ((km b' a').mpr le')
    exact .inr ⟨g,.bl c,rfl,.inr ⟨kvs,kk (b',a'),t,.inr ⟨o,s3 _ _ hg0⟩,rfl,ht,e1.symm⟩,q' c e2⟩
   refine ⟨_,.inl hb2,rfl,rfl,?_⟩
   refine ⟨le_line (Nat.le_of_ble_eq_true rfl),fun t1 ht1=>?_⟩
   have s3:=s2.trans (Same.upd (o:=.tup [.int (b:Nat),.int (a:Nat)]) ht1)
   refine get s3 upd_same le fun c hc=>?_
   refine ite2 (fun ct=>?_) (fun cf=>?_)
   ·have wn:=hc.mp ct
    refine seq_nx (fun σ Hx=>σ=[some (.ref g),some fv,some (.int (b:Nat)),some (.int (a:Nat))]/\Same H0 Hx) ?_ (fun nx fin=>?_)
    rotate_left
    ·refine ite2 (fun lt=>?_) (fun nl=>?_)
     ·have lt:(b:Int)+(a:Int) < 6:=of_decide_eq_true lt
      refine ⟨le_line (Nat.le_of_ble_eq_true rfl),fun t2 ht2=>?_⟩
      have s4:=s3.trans (Same.upd (o:=.tup [.int ((b+1:Nat):Int),.int (a:Nat)]) ht2)
      refine get (b':=b+1) (a':=a) s4 upd_same (by omega) fun c2 hc2=>?_
      have e2:c2=true:=hc2.mpr (win_more ok wn)
      subst e2
      refine iteP rfl ?_
      refine ⟨le_line (Nat.le_of_ble_eq_true rfl),fun t3 ht3=>?_⟩
      have s5:=s4.trans (Same.upd (o:=.tup [.int (b:Nat),.int ((a+1:Nat):Int)]) ht3)
      refine get (b':=b) (a':=a+1) s5 upd_same (by omega) fun c3 hc3=>?_
      have e3:c3=true:=hc3.mpr (win_ahead ok wn)
      subst e3
      exact fin _ _ ⟨rfl,s5⟩
     ·exact fin _ _ ⟨rfl,s3⟩
    rintro σ Hx ⟨rfl,sx⟩
    rcases fd with ⟨rfl,e⟩ | ⟨f,p,r,rfl,hf,e⟩
    ·have:(b,a)∈Om.wins rows:=List.mem_filter.mpr ⟨pw,Om.wf_iff.mpr wn⟩
     rw [e] at this
     cases this
    ·have hfx:=sx _ _ (s0 _ _ (ne_of hf hg (fun z=>nomatch z)) hf)
     obtain ⟨w1,w2,w3⟩:=wins_first e
     have lw:=w3 (b,a) pw wn
     dsimp only [tIfS,tAnd,tOr,tBU,tOp,tV,tC,rIsU]
     refine iteQ (c:=decide (V.ref f=V.non)=true) (by simp) ?_
     refine ⟨le_line (Nat.le_of_ble_eq_true rfl),fun t4 ht4=>?_⟩
     have s6:=Same.upd (o:=.tup [.int ((b:Int)+(a:Int)),.int (b:Nat)]) ht4
     refine ⟨_,gt (s6 _ _ hfx) (by decide) rfl,_,gt (s6 _ _ hfx) (by decide) rfl,_,gt (s6 _ _ hfx) (by decide) rfl,?_⟩
     refine ⟨le_line (Nat.le_of_ble_eq_true rfl),fun t5 ht5=>?_⟩
     have s7:=Same.upd (o:=.tup [.int ((p.1:Int)+(p.2:Int)),.int (p.1:Nat)]) ht5
     refine ⟨t4,t5,_,_,_,_,rfl,rfl,s7 _ _ upd_same,upd_same,?_⟩
     refine iteQ (fun z=>?_) ⟨_,_,rfl,(sx.trans s6).trans s7⟩
     have z:=of_decide_eq_true z
     unfold LeW at lw
     dsimp only at lw
     omega
   ·have nw:¬ Om.Win rows b a:=fun z=>cf (hc.mpr z)
    refine ⟨le_line (Nat.le_of_ble_eq_true rfl),fun t4 ht4=>?_⟩
    have s6:=Same.upd (o:=.tup [.int (b:Nat),.int (a:Nat)]) ht4
    rcases fd with ⟨rfl,e⟩ | ⟨f,p,r,rfl,hf,e⟩
    ·refine ⟨.none,pairD (b,a),.non,pairD_DV upd_same,by decide +kernel,pairD_shaped _,?_⟩
     exact ⟨_,_,rfl,s3.trans s6⟩
    ·have hfx:=s6 _ _ (s3 _ _ (s0 _ _ (ne_of hf hg (fun z=>nomatch z)) hf))
     obtain ⟨w1,w2,w3⟩:=wins_first e
     refine ⟨pairD p,pairD (b,a),pairD_DV hfx,pairD_DV upd_same,pairD_shaped _,pairD_shaped _,?_⟩
     rw [eqv_pairD,decide_eq_false (fun z=>nw (by rw [z] at w1;exact w1))]
     exact ⟨_,_,rfl,s3.trans s6⟩
  ·rintro σ H2 ⟨v2,v3,rfl,s2⟩
   exact q o H2 (fun b u nb e=>s2 _ _ (s0 _ _ nb e)) (s2 _ _ hg0)
 ·exact h.elim
end
end K37
end
section
namespace K37
open PySem L2
section
variable {P:Program} {w:World} {K:PySem.W.Frag} {mg:Str->Option Value} {base:Heap}
theorem GdW.nil {rows:Om.Rows}:GdW rows [] []:=⟨KD.nil,fun p hp=>nomatch hp⟩
theorem GdW.put {rows:Om.Rows} {ks:List (Nat×Nat)} {kvs:List (List Key×V)} {p:Nat×Nat} {c:Bool} (h:GdW rows ks kvs) (n:p ∉ ks) (l1:p.1 < 8) (l2:p.2 < 8) (hc:c=true↔Om.Win rows p.1 p.2):GdW rows (ks++[p]) (putK kvs (kk p) (.bl c)):=by
 refine ⟨h.kd.put n l1 l2,fun q hq=>?_⟩
 by_cases z:q=p
 ·subst z
  exact ⟨c,valV_put_eq,hc⟩
 ·rw [valV_put_ne z]
  exact h.vl q ((List.mem_append.mp hq).resolve_right fun y=>z (List.mem_singleton.mp y))
abbrev sLaw:Stmt:=top 38
def spLaw (P0:Addr) (K:PySem.W.Frag):Sp:=fun vs H Q _=>match vs with
 | [.ref a]=>∃ ns:List Int,SqL K H a (ns.map V.int)/\ns.length<=63/\Tab P0 (lamPos lamSt) qSt H/\∀ H',Q (.bl true) H'
 | _=>False
theorem scLaw:FnScope ["script","at","store","code","good","back","beside","d","many"] ["script"] (defScope sLaw):=⟨rfl,rfl,rfl,by decide +kernel,rfl,by decide +kernel,by decide +kernel⟩
local macro_rules | `(tactic| walk_at "T.b")=>`(tactic| ((with_reducible refine' fn_lenS ?a0 ?a9 ?a1);(case a0=>with_reducible assumption);(case a9=>rfl);(case a1=>walk_at "T.a")))
local macro_rules | `(tactic| walk_at "T.e")=>`(tactic| first | (with_reducible exact pe_dnewT) | ((with_reducible refine' ix_atD ?a0 ?a1 ?a2);(case a0=>exact Room.units (by assumption));(case a1=>with_reducible exact vn "good" 4);(case a2=>walk_at "T.e")))
local macro_rules | `(tactic| walk_at "T.g")=>`(tactic| ((with_reducible refine' g_subD ?a0 ?a1 ?a2);(case a0=>exact Room.units (by assumption));(case a1=>walk_at "T.e");(case a2=>walk_at "T.e")))
theorem ok_law {f:Addr} {fd:FuncData} {P0:Addr} (D:Fun K "law" "law" sLaw f fd) (g1:mg "range" = none) (g2:mg "len" = none) (g3:mg "min" = none) (g4:mg "max" = none)
  (c1:Can P w K mg base "_law_cell" 1 ["script","k"] (spCell K)) (c2:Can P w K mg base "_law_store" 1 ["cell"] spStore) (c3:Can P w K mg base "_law_code" 3 ["store","most"] spCodeS) (c4:Can P w K mg base "tells" 4 ["code","back","ahead"] spTells) (c5:Can P w K mg base "least_window" 4 ["code"] spLeast)
  (c6:Can P w K mg base "_law_in_order" 1 ["good","found"] spOrd) (c7:Can P w K mg base "late" 6 ["code"] (spLate P0)) (c8:Can P w K mg base "settles" 4 ["code"] spSettles) (c9:Can P w K mg base "_law_unlike" 1 ["code"] spUnlC):FnOk P w K mg base CX0 7 f fd ["script"] (spLaw P0 K):=by
 refine D.ok (k:=6) scLaw (fun vs H Q E h=>?_) (fun cdv A outer s H vs Q E hr h=>?_)
 all_goals
  unfold spLaw at h
  split at h
 ·rfl
 ·exact h.elim
 ·rename_i sc
  obtain ⟨ns,hS,hl,tb,q⟩:=h
  have nd:=scLaw.nd
  refine ⟨_,(by walk_at "T.top"),?_⟩
  obtain ⟨ps0,hP⟩:=tb.tbl
  have G0:Same (wo1 P0 H) H:=wo1.same (SameT.refl _ _)
  have GP:wo1 P0 H P0=none:=by unfold wo1;rw [if_pos rfl]
  have hSG:=hS.wo1 hP
  generalize wo1 P0 H=G at G0 GP hSG
  have keep:∀ {X Y:Hp},Same G X->SameT P0 X Y->Same G Y:=fun {X Y} s1 s2 b o e=>s2 _ _ (fun z=>by rw [z,GP] at e;cases e) (s1 _ _ e)
  refine ⟨_,hS,?_⟩
  have b6:∀ m:Int,(if (6:Int) < m then (6:Int) else m)<=6:=fun m=>by split<;>omega
  refine ⟨by split<;>split<;>omega,by split<;>split<;>omega,for_by (it_range 0 _) (fun i σ H2=>∃ (v1 v2 v3 v4 v5 v6 v7 v8:Option V),σ=[some (.ref sc),v1,v2,v3,v4,v5,v6,v7,v8]/\Same G H2/\Tab P0 (lamPos lamSt) qSt H2)
   ⟨none,none,none,none,none,none,none,none,rfl,G0,tb⟩ (fun _ _ _ _ _=>trivial) ?_ ?_⟩
  ·rintro i z σ H0 hi hz ⟨v1,v2,v3,v4,v5,v6,v7,v8,rfl,GH0,t0⟩
   rw [List.length_map,List.length_range] at hi
   have ez:z = .int (i:Nat):=by
    rw [List.getElem?_map,List.getElem?_range hi] at hz
    have:=(Option.some.inj hz).symm
    rw [this];simp
   subst ez
   have hi6:i < 6:=by
    have:=b6 (if (3:Int) > (((ns.map V.int).length:Nat):Int) then 3 else (((ns.map V.int).length:Nat):Int))
    omega
   refine ⟨ns,GH0.seq hSG,by omega,by omega,fun c=>?_⟩
   intro a g b ha
   refine ⟨⟨_,_,_,upd_same⟩,by decide,by decide,fun cv k n rows G' H1 ok _ dv M1=>?_⟩
   have S0:Same H0 H1:=fun b u e=>M1.o b u (Same.upd ha _ _ e) (ne_of_none e ha)
   have s8:=ok.s8
   have dv1:=dv.mono M1.s
   have GH1:=GH0.trans S0
   have t1:=t0.mono S0
   clear M1 dv S0 t0 GH0
   dsimp only [gName]
   intro Dg hD
   dsimp only [gName]
   have ownD:∀ {X:Hp} {o:HO},Same H1 X->Same H1 (upd X Dg o):=fun s b o e=>by rw [upd_ne (ne_of_none e hD)];exact s _ _ e
   refine seq_nx (fun σ H2=>∃ (v5 v6:Option V) (ks:List (Nat×Nat)) (kvs:List (List Key×V)),σ=[some (.ref sc),some (.int (i:Nat)),some (.ref a),some cv,some (.ref Dg),v5,v6,v7,v8]/\Same H1 H2/\H2 Dg=some (.dT kvs)/\GdW rows ks kvs/\∀ b' a',(b',a')∈ks↔b'+a'<=6) ?_ (fun nx fin=>?_)
   rotate_left
   ·refine ⟨by decide,by decide,for_by (it_range 0 _) (fun bi σ H2=>∃ (v5 v6:Option V) (ks:List (Nat×Nat)) (kvs:List (List Key×V)),σ=[some (.ref sc),some (.int (i:Nat)),some (.ref a),some cv,some (.ref Dg),v5,v6,v7,v8]/\Same H1 H2/\H2 Dg=some (.dT kvs)/\GdW rows ks kvs/\∀ b' a',(b',a')∈ks↔b' < bi/\b'+a'<=6)
     ⟨v5,v6,[],[],rfl,Same.upd hD,upd_same,GdW.nil,fun b' a'=>⟨(fun z=>nomatch z),fun z=>absurd z.1 (Nat.not_lt_zero _)⟩⟩ (fun _ _ _ _ _=>trivial) ?_ ?_⟩
    ·rintro bi z σ H2 hbi hz ⟨v5,v6,ks,kvs,rfl,S2,hD2,gd,km⟩
     have hb7:bi < 7:=by simpa using hbi
     rw [List.length_map,List.length_range] at hbi
     have ez:z = .int (bi:Nat):=by
      rw [List.getElem?_map,List.getElem?_range hbi] at hz
      have:=(Option.some.inj hz).symm
      rw [this];simp
     subst ez
     dsimp only [gName]
     refine ⟨by omega,by omega,for_by (it_range 0 _) (fun ai σ H3=>∃ (v6:Option V) (ks:List (Nat×Nat)) (kvs:List (List Key×V)),σ=[some (.ref sc),some (.int (i:Nat)),some (.ref a),some cv,some (.ref Dg),some (.int (bi:Nat)),v6,v7,v8]/\Same H1 H3/\H3 Dg=some (.dT kvs)/\GdW rows ks kvs/\∀ b' a',(b',a')∈ks↔(b' < bi/\b'+a'<=6)\/(b'=bi/\a' < ai))
      ⟨v6,ks,kvs,rfl,S2,hD2,gd,fun b' a'=>by rw [km];exact ⟨.inl,fun z=>z.resolve_right fun y=>absurd y.2 (Nat.not_lt_zero _)⟩⟩ (fun _ _ _ _ _=>trivial) ?_ ?_⟩
     ·clear S2 hD2 gd km
      rintro ai z σ H3 hai hz ⟨v6,ks,kvs,rfl,S3,hD3,gd,km⟩
      rw [List.length_map,List.length_range] at hai
      have ez:z = .int (ai:Nat):=by
       rw [List.getElem?_map,List.getElem?_range hai] at hz
       have:=(Option.some.inj hz).symm
       rw [this];simp
      subst ez
      have ha7:bi+ai < 7:=by omega
      dsimp only [gName]
      refine ⟨bi,ai,rows,k,n,rfl,rfl,by omega,by omega,ok,dv1.mono S3,fun cc H4 s4 hcc=>?_⟩
      refine ⟨le_line (Nat.le_of_ble_eq_true rfl),fun tt htt=>?_⟩
      have s5:=s4.trans (Same.upd (o:=.tup [.int (bi:Nat),.int (ai:Nat)]) htt)
      have hD5:=s5 _ _ hD3
      refine .inr ⟨Dg,_,rfl,DPut.t (k:=kk (bi,ai)) hD5 upd_same gd.kd.lt_line,?_⟩
      have nin:(bi,ai) ∉ ks:=fun z=>by
       rcases (km bi ai).mp z with ⟨y,_⟩ | ⟨_,y⟩
       ·omega
       ·omega
      refine ⟨_,ks++[(bi,ai)],_,rfl,ownD (S3.trans s5),upd_same,gd.put nin (by show bi < 8;omega) (by show ai < 8;omega) hcc,fun b' a'=>?_⟩
      rw [List.mem_append,List.mem_singleton,km]
      constructor
      ·rintro ((h | h) | h)
       ·exact .inl h
       ·exact .inr ⟨h.1,by omega⟩
       ·cases h
        exact .inr ⟨rfl,by omega⟩
      ·rintro (h | ⟨h1,h2⟩)
       ·exact .inl (.inl h)
       ·by_cases z:a'=ai
        ·exact .inr (by rw [h1,z])
        ·exact .inl (.inr ⟨h1,by omega⟩)
     ·rintro σ H3 ⟨v6,ks,kvs,rfl,S3,hD3,gd,km⟩
      refine ⟨_,_,ks,kvs,rfl,S3,hD3,gd,fun b' a'=>?_⟩
      rw [km,List.length_map,List.length_range]
      constructor
      ·rintro (h | ⟨h1,h2⟩)
       ·exact ⟨by omega,h.2⟩
       ·exact ⟨by omega,by omega⟩
      ·rintro ⟨h1,h2⟩
       by_cases z:b' < bi
       ·exact .inl ⟨z,h2⟩
       ·exact .inr ⟨by omega,by omega⟩
    ·rintro σ H3 ⟨v5,v6,ks,kvs,rfl,S3,hD3,gd,km⟩
     refine fin _ _ ⟨v5,v6,ks,kvs,rfl,S3,hD3,gd,fun b' a'=>?_⟩
     rw [km,List.length_map,List.length_range]
     exact ⟨fun h=>h.2,fun h=>⟨by omega,h⟩⟩
   rintro σ H2 ⟨v5,v6,ks,kvs,rfl,S2,hD2,gd,km⟩
   refine seq_nx (fun σ H3=>∃ o:Obj,σ=[some (.ref sc),some (.int (i:Nat)),some (.ref a),some cv,some (.ref Dg),v5,v6,v7,v8]/\Same H1 H3/\Tab P0 (lamPos lamSt) qSt H3/\H3 Dg=some (.frz o (.dT kvs))) ?_ (fun nx fin=>?_)
   rotate_left
   ·refine ⟨rows,k,n,ok,dv1.mono S2,fun v H3 s3 fw=>?_⟩
    have t3:=t1.mono (S2.trans s3)
    have nP:P0≠Dg:=fun z=>by
     obtain ⟨ps,e⟩:=t1.tbl
     rw [z,hD] at e
     cases e
    refine ⟨k,n,rows,ks,kvs,ok,s3 _ _ hD2,gd,km,fw,fun o H4 s4 h4=>?_⟩
    exact fin _ _ ⟨o,rfl,fun b u e=>s4 _ _ (ne_of_none e hD) ((S2.trans s3) _ _ e),Tab.offD t3 nP (s3 _ _ hD2) s4,h4⟩
   rintro σ H3 ⟨o,rfl,S3,t3,hD3⟩
   have GH3:=GH1.trans S3
   have dv3:=dv1.mono S3
   clear S2 hD2 t1 GH1 dv1 ownD hD S3
   obtain ⟨ps1,hP1⟩:=t3.tbl
   have dvG:=dv3.wo1 hP1
   have hDG:wo1 P0 H3 Dg=some (.frz o (.dT kvs)):=wo1.at hD3 (ne_of hD3 hP1 (fun z=>nomatch z))
   have G1s:Same (wo1 P0 H3) H3:=wo1.same (SameT.refl _ _)
   have G1P:wo1 P0 H3 P0=none:=by unfold wo1;rw [if_pos rfl]
   have GG1:Same G (wo1 P0 H3):=fun b o e=>wo1.at (GH3 _ _ e) (fun z=>by rw [z,GP] at e;cases e)
   generalize wo1 P0 H3=G1 at dvG hDG G1s G1P GG1
   have keep1:∀ {X Y:Hp},Same G1 X->SameT P0 X Y->Same G1 Y:=fun {X Y} s1 s2 b o e=>s2 _ _ (fun z=>by rw [z,G1P] at e;cases e) (s1 _ _ e)
   have get:∀ {Hx:Hp} {tt:Addr} {b' a':Nat} {Q':V->Hp->Prop},Same G1 Hx->Hx tt=some (.tup [.int (b':Nat),.int (a':Nat)])->b'+a'<=6->(∀ cc:Bool,(cc=true↔Om.Win rows b' a')->Q' (.bl cc) Hx)->rIxD (.ref Dg) (.ref tt) Hx Q':=fun {Hx tt b' a' Q'} sx ht le' q'=>by
    obtain ⟨cc,e1,e2⟩:=gd.vl (b',a') ((km b' a').mpr le')
    exact .inr ⟨Dg,.bl cc,rfl,.inr ⟨kvs,kk (b',a'),tt,.inr ⟨o,sx _ _ hDG⟩,rfl,ht,e1.symm⟩,q' cc e2⟩
   refine seq_nx (fun σ Hx=>∃ dV:V,σ=[some (.ref sc),some (.int (i:Nat)),some (.ref a),some cv,some (.ref Dg),v5,v6,some dV,v8]/\Same G1 Hx/\Tab P0 (lamPos lamSt) qSt Hx/\((dV = .non/\∀ a',¬ Om.Win rows 0 a')\/∃ d:Nat,dV = .int (d:Nat)/\∀ a',Om.Win rows 0 a'->d<=a')) ?_ (fun nx fin=>?_)
   rotate_left
   ·refine ⟨k,n,rows,dvG.mono G1s,ok,t3,fun qs H4 s4 t4 rc go bk=>?_,fun d qs H4 s4 t4 rc go nb dl _=>?_⟩
    ·exact fin _ _ ⟨.non,rfl,keep1 G1s s4,t4,.inl ⟨rfl,fun a' wn=>win_back ok rc go wn bk⟩⟩
    ·exact fin _ _ ⟨_,rfl,keep1 G1s s4,t4,.inr ⟨d,rfl,fun a' wn=>win_late ok rc go wn dl⟩⟩
   clear t3 G1s hD3 dv3 hP1 GH3
   rintro σ H4 ⟨dV,rfl,G1s,t4,hd⟩
   refine seq_nx (fun σ Hx=>∃ v6,σ=[some (.ref sc),some (.int (i:Nat)),some (.ref a),some cv,some (.ref Dg),v5,v6,some dV,v8]/\Same H4 Hx) ?_ (fun nx fin=>?_)
   rotate_left
   ·refine ⟨by decide,by decide,for_by (it_range 0 _) (fun j σ Hx=>∃ v6,σ=[some (.ref sc),some (.int (i:Nat)),some (.ref a),some cv,some (.ref Dg),v5,v6,some dV,v8]/\Same H4 Hx)
     ⟨v6,rfl,Same.refl _⟩ (fun _ _ _ _ _=>trivial) ?_ ?_⟩
    ·rintro j z σ Hx hj hz ⟨v6,rfl,sx⟩
     have hj7:j < 7:=by simpa using hj
     rw [List.length_map,List.length_range] at hj
     have ez:z = .int (j:Nat):=by
      rw [List.getElem?_map,List.getElem?_range hj] at hz
      have:=(Option.some.inj hz).symm
      rw [this];simp
     subst ez
     dsimp only [gName]
     refine ⟨le_line (Nat.le_of_ble_eq_true rfl),fun tt htt=>?_⟩
     have s5:=sx.trans (Same.upd (o:=.tup [.int ((0:Nat):Int),.int (j:Nat)]) htt)
     refine get (b':=0) (a':=j) (G1s.trans s5) upd_same (by omega) fun cc hcc=>?_
     refine ite2 (fun ct=>?_) (fun cf=>?_)
     ·have wn:=hcc.mp ct
      rcases hd with ⟨rfl,no⟩ | ⟨d,rfl,le⟩
      ·exact absurd wn (no j)
      ·have:=le j wn
       dsimp only [tIfS,tAnd,tOr,tBU,tOp,tV,tC,rIsU]
       refine iteQ (c:=decide (V.int (d:Nat)=V.non)=true) (by simp) ?_
       refine iteQ (fun z=>?_) ⟨_,rfl,s5⟩
       have z:=of_decide_eq_true z
       omega
     ·exact ⟨_,rfl,s5⟩
    ·rintro σ Hx ⟨v6,rfl,sx⟩
     exact fin _ _ ⟨v6,rfl,sx⟩
   rintro σ H5 ⟨v6',rfl,s5⟩
   have G5:=G1s.trans s5
   have t5:=t4.mono s5
   clear s5 t4 G1s
   refine ⟨k,n,rows,dvG.mono G5,ok,fun r H6 s6 sb=>?_⟩
   dsimp only [gName]
   have G6:=G5.trans s6
   have t6:=t5.mono s6
   refine ⟨k,n,rows,dvG.mono G6,ok,fun ub H7 s7 hu=>?_⟩
   have G7:=G6.trans s7
   have t7:=t6.mono s7
   have out:∀ Hx,Same H7 Hx->Same G Hx/\Tab P0 (lamPos lamSt) qSt Hx:=fun Hx sx=>⟨GG1.trans (G7.trans sx),t7.mono sx⟩
   refine ite2 (fun ut=>?_) (fun uf=>?_)
   ·have un:=hu ut
    cases r with
    | none=>
     dsimp only [tIfS,tAnd,tOr,tBU,tOp,tV,tC,rIsU,rIsNotU,optV]
     refine iteQ (c:=(!decide (V.non=V.non))=true) (by simp) ?_
     exact ⟨_,_,_,_,_,_,_,_,rfl,out _ (Same.refl _)⟩
    | some d=>
     dsimp only [tIfS,tAnd,tOr,tBU,tOp,tV,tC,rIsU,rIsNotU,optV]
     refine iteP (c:=(!decide (V.int (d:Nat)=V.non))=true) (by simp) ?_
     refine ite2 (fun lt=>?_) (fun nl=>?_)
     ·have lt:(d:Int) < 7:=of_decide_eq_true lt
      refine ⟨le_line (Nat.le_of_ble_eq_true rfl),fun tt htt=>?_⟩
      have s8:=Same.upd (o:=.tup [.int (d:Nat),.int ((0:Nat):Int)]) htt
      refine get (b':=d) (a':=0) (G7.trans s8) upd_same (by omega) fun cc hcc=>?_
      have e:cc=true:=hcc.mpr (set_win ok un sb.2.2)
      subst e
      exact ⟨_,_,_,_,_,_,_,_,rfl,out _ s8⟩
     ·exact ⟨_,_,_,_,_,_,_,_,rfl,out _ (Same.refl _)⟩
   ·exact ⟨_,_,_,_,_,_,_,_,rfl,out _ (Same.refl _)⟩
  ·rintro σ H2 ⟨v1,v2,v3,v4,v5,v6,v7,v8,rfl,_⟩
   exact q _
 ·exact h.elim
end
end K37
end
section
namespace K37
open PySem L2
theorem fnX_1 {K:PySem.W.Frag} {h:Heap} {mg:Str->Option Value} {x:Str} {st:Stmt} {p0:Str} (D:DefIn K x st) (X:K.In h) (G:h.Ns mainGlobals mg)
  (hb:∀ (kV doc pm:Value) (an:Option Addr) (cdv ct:Value) (a0:Value),bindArgs (PySem.W.fnOf x x (defArgs st) (defBody st) (defScope st) .none kV doc pm an cdv ct) ⟨[a0],[]⟩=pure ([p0].zip [a0])):FnX K mg x st [p0]:=
 D.fnX X G fun kV doc pm an cdv ct us hl=>match us,hl with
  | [a0],_=>hb kV doc pm an cdv ct a0
theorem fnX_2 {K:PySem.W.Frag} {h:Heap} {mg:Str->Option Value} {x:Str} {st:Stmt} {p0 p1:Str} (D:DefIn K x st) (X:K.In h) (G:h.Ns mainGlobals mg)
  (hb:∀ (kV doc pm:Value) (an:Option Addr) (cdv ct:Value) (a0 a1:Value),bindArgs (PySem.W.fnOf x x (defArgs st) (defBody st) (defScope st) .none kV doc pm an cdv ct) ⟨[a0,a1],[]⟩=pure ([p0,p1].zip [a0,a1])):FnX K mg x st [p0,p1]:=
 D.fnX X G fun kV doc pm an cdv ct us hl=>match us,hl with
  | [a0,a1],_=>hb kV doc pm an cdv ct a0 a1
theorem fnX_3 {K:PySem.W.Frag} {h:Heap} {mg:Str->Option Value} {x:Str} {st:Stmt} {p0 p1 p2:Str} (D:DefIn K x st) (X:K.In h) (G:h.Ns mainGlobals mg)
  (hb:∀ (kV doc pm:Value) (an:Option Addr) (cdv ct:Value) (a0 a1 a2:Value),bindArgs (PySem.W.fnOf x x (defArgs st) (defBody st) (defScope st) .none kV doc pm an cdv ct) ⟨[a0,a1,a2],[]⟩=pure ([p0,p1,p2].zip [a0,a1,a2])):FnX K mg x st [p0,p1,p2]:=
 D.fnX X G fun kV doc pm an cdv ct us hl=>match us,hl with
  | [a0,a1,a2],_=>hb kV doc pm an cdv ct a0 a1 a2
theorem fnX_6 {K:PySem.W.Frag} {h:Heap} {mg:Str->Option Value} {x:Str} {st:Stmt} {p0 p1 p2 p3 p4 p5:Str} (D:DefIn K x st) (X:K.In h) (G:h.Ns mainGlobals mg)
  (hb:∀ (kV doc pm:Value) (an:Option Addr) (cdv ct:Value) (a0 a1 a2 a3 a4 a5:Value),bindArgs (PySem.W.fnOf x x (defArgs st) (defBody st) (defScope st) .none kV doc pm an cdv ct) ⟨[a0,a1,a2,a3,a4,a5],[]⟩=pure ([p0,p1,p2,p3,p4,p5].zip [a0,a1,a2,a3,a4,a5])):FnX K mg x st [p0,p1,p2,p3,p4,p5]:=
 D.fnX X G fun kV doc pm an cdv ct us hl=>match us,hl with
  | [a0,a1,a2,a3,a4,a5],_=>hb kV doc pm an cdv ct a0 a1 a2 a3 a4 a5
theorem all_mk {l:PySem.W.OpenLaw} {w:World} {K:PySem.W.Frag} {h:Heap} {mg:Str->Option Value} {fa:Addr} (X:K.In h) (G:h.Ns mainGlobals mg) (hfa:mg "law" = some (.ref fa))
  (d1:DefIn K "texts_from" sTexts) (d2:DefIn K "state_texts" sStT) (d3:DefIn K "reached" sReached) (d4:DefIn K "pair_steps" sPSteps) (d5:DefIn K "pair_graph" sGraph) (d6:DefIn K "first_pairs" sFP) (d7:DefIn K "layer_behind" sLayer) (d8:DefIn K "layers_of" sLayers) (d9:DefIn K "comes_back" sComes) (d10:DefIn K "late" sLate) (d11:DefIn K "every_state" sEvery) (d12:DefIn K "pair_graph" sGraphB) (d13:DefIn K "backward_graph" sBack) (d14:DefIn K "unlike_pairs" sUnlP) (d15:DefIn K "layers_of" sLayersB) (d16:DefIn K "comes_back" sComesB) (d17:DefIn K "settles" sSettles) (d18:DefIn K "pair_steps" sPStepsC) (d19:DefIn K "layer_behind" sLayerC) (d20:DefIn K "pair_graph" sGraphC) (d21:DefIn K "unlike_steps" sUnlike) (d22:DefIn K "is_whole" sWhole) (d23:DefIn K "is_window" sWin) (d24:DefIn K "pairs_behind" sBehind) (d25:DefIn K "graph_tells" sGTells) (d26:DefIn K "tells" sTells) (d27:DefIn K "least_window" sLeast) (d28:DefIn K "_law_cell" sCell) (d29:DefIn K "_law_store" sStore) (d30:DefIn K "_law_take" sTake) (d31:DefIn K "_law_word" sWordN) (d32:DefIn K "_law_branch" sBranch) (d33:DefIn K "_law_code" sCodeS) (d34:DefIn K "_law_unlike" sUnlC) (d35:DefIn K "_law_in_order" sOrd) (dl:DefIn K "law" sLaw) {c0 P0:Addr} (ht:PySem.W.tabIn K "state_texts" = some (c0,P0))
  (z1:PySem.W.nsIn K mainGlobals "len" = some none) (z2:PySem.W.nsIn K mainGlobals "range" = some none) (z3:PySem.W.nsIn K mainGlobals "isinstance" = some none) (z4:PySem.W.nsIn K mainGlobals "int" = some none) (z5:PySem.W.nsIn K mainGlobals "bool" = some none) (z6:PySem.W.nsIn K mainGlobals "list" = some none) (z7:PySem.W.nsIn K mainGlobals "max" = some none) (z8:PySem.W.nsIn K mainGlobals "min" = some none) (z9:PySem.W.nsIn K mainGlobals "enumerate" = some none) (z10:PySem.W.nsIn K mainGlobals "sorted" = some none) (z11:PySem.W.nsIn K mainGlobals "set" = some none) (tx1:∃ tk,PySem.W.nsIn K mainGlobals "WIDEST" = some (some (.int 6 tk))) :
  ∃ fd:FuncData,(∀ (s:Shared) (v:Value),BindsTo s fd ⟨[v],[]⟩ [("script",v)])/\∀ base:Heap,K.In base->base.Ns mainGlobals mg->Maker mg base c0 P0->FnOk l.prog w K mg base CX0 7 fa fd ["script"] (spLaw P0 K):=by
 obtain ⟨f,oc,od,an,osl,kV,dc,pm,cd,ct,h1,h2,h3,h4⟩:=dl
 have e:=hfa.symm.trans (PySem.W.mg_of X G h1)
 cases e
 have F:=fun_mk (st:=sLaw) h2 h3 h4
 refine ⟨PySem.W.fnOf "law" "law" (defArgs sLaw) (defBody sLaw) (defScope sLaw) .none kV dc pm an cd ct,fun s v=>.of_eq rfl,fun base _ _ M=>?_⟩
 have z_len:=PySem.W.mg_none_of X G z1
 have z_range:=PySem.W.mg_none_of X G z2
 have z_isinstance:=PySem.W.mg_none_of X G z3
 have z_int:=PySem.W.mg_none_of X G z4
 have z_bool:=PySem.W.mg_none_of X G z5
 have z_list:=PySem.W.mg_none_of X G z6
 have z_max:=PySem.W.mg_none_of X G z7
 have z_min:=PySem.W.mg_none_of X G z8
 have z_enumerate:=PySem.W.mg_none_of X G z9
 have z_sorted:=PySem.W.mg_none_of X G z10
 have z_set:=PySem.W.mg_none_of X G z11
 have t_WIDEST:∃ tk,mg "WIDEST" = some (.int 6 tk):=let ⟨tk,h⟩:=tx1;⟨tk,PySem.W.mg_of X G h⟩
 have x_tf:=fnX_2 d1 X G (fun _ _ _ _ _ _ _ _=>rfl)
 have c_stT:=ok_stT (P:=l.prog) (w:=w) (base:=base) (FnC.of d2 ht X G (fun kV doc pm an cdv ct us hl=>match us,hl with | [_],_=>rfl)) x_tf z_len z_enumerate M
 have c_reached:=ok_reached (P:=l.prog) (w:=w) (base:=base) (fnX_1 d3 X G (fun _ _ _ _ _ _ _=>rfl)) z_sorted c_stT
 have c_psteps:=ok_psteps (P:=l.prog) (w:=w) (base:=base) (fnX_3 d4 X G (fun _ _ _ _ _ _ _ _ _=>rfl)) z_enumerate
 have c_graph:=ok_graph (P:=l.prog) (w:=w) (base:=base) (fnX_2 d5 X G (fun _ _ _ _ _ _ _ _=>rfl)) c_psteps
 have c_fp:=ok_fp (P:=l.prog) (w:=w) (base:=base) (fnX_1 d6 X G (fun _ _ _ _ _ _ _=>rfl)) c_reached c_psteps
 have c_layer:=ok_layer (P:=l.prog) (w:=w) (base:=base) (fnX_2 d7 X G (fun _ _ _ _ _ _ _ _=>rfl))
 have c_layers:=ok_layers (P:=l.prog) (w:=w) (base:=base) (fnX_2 d8 X G (fun _ _ _ _ _ _ _ _=>rfl)) z_len c_layer
 have c_comes:=ok_comes (P:=l.prog) (w:=w) (base:=base) (fnX_2 d9 X G (fun _ _ _ _ _ _ _ _=>rfl)) z_len
 have c_late:=ok_late (P:=l.prog) (w:=w) (base:=base) (fnX_1 d10 X G (fun _ _ _ _ _ _ _=>rfl)) z_len c_graph c_reached c_layers c_fp c_comes
 have c_every:=ok_every (P:=l.prog) (w:=w) (base:=base) (fnX_1 d11 X G (fun _ _ _ _ _ _ _=>rfl)) z_list z_range z_len
 have c_graphB:=ok_graphB (P:=l.prog) (w:=w) (base:=base) (fnX_2 d12 X G (fun _ _ _ _ _ _ _ _=>rfl)) c_psteps
 have c_back:=ok_back (P:=l.prog) (w:=w) (base:=base) (fnX_1 d13 X G (fun _ _ _ _ _ _ _=>rfl)) c_graphB c_every
 have c_unlP:=ok_unlP (P:=l.prog) (w:=w) (base:=base) (fnX_1 d14 X G (fun _ _ _ _ _ _ _=>rfl))
 have c_layersB:=ok_layersB (P:=l.prog) (w:=w) (base:=base) (fnX_2 d15 X G (fun _ _ _ _ _ _ _ _=>rfl)) z_len c_layer
 have c_comesB:=ok_comesB (P:=l.prog) (w:=w) (base:=base) (fnX_2 d16 X G (fun _ _ _ _ _ _ _ _=>rfl)) z_len
 have c_settles:=ok_settles (P:=l.prog) (w:=w) (base:=base) (fnX_1 d17 X G (fun _ _ _ _ _ _ _=>rfl)) z_len c_back c_layersB c_unlP c_comesB
 have c_pstepsC:=ok_pstepsC (P:=l.prog) (w:=w) (base:=base) (fnX_3 d18 X G (fun _ _ _ _ _ _ _ _ _=>rfl)) z_enumerate
 have c_layerC:=ok_layerC (P:=l.prog) (w:=w) (base:=base) (fnX_2 d19 X G (fun _ _ _ _ _ _ _ _=>rfl))
 have c_graphC:=ok_graphC (P:=l.prog) (w:=w) (base:=base) (fnX_2 d20 X G (fun _ _ _ _ _ _ _ _=>rfl)) c_pstepsC
 have c_unlike:=ok_unlike (P:=l.prog) (w:=w) (base:=base) (fnX_1 d21 X G (fun _ _ _ _ _ _ _=>rfl))
 have c_whole:=ok_whole (P:=l.prog) (w:=w) (base:=base) (fnX_1 d22 X G (fun _ _ _ _ _ _ _=>rfl)) z_isinstance z_int z_bool
 have c_win:=ok_win (P:=l.prog) (w:=w) (base:=base) (fnX_2 d23 X G (fun _ _ _ _ _ _ _ _=>rfl)) c_whole
 have c_behind:=ok_behind (P:=l.prog) (w:=w) (base:=base) (fnX_3 d24 X G (fun _ _ _ _ _ _ _ _ _=>rfl)) z_range c_layerC
 have c_gtells:=ok_gtells (P:=l.prog) (w:=w) (base:=base) (fnX_3 d25 X G (fun _ _ _ _ _ _ _ _ _=>rfl)) c_behind c_layerC c_unlike
 have c_tells:=ok_tells (P:=l.prog) (w:=w) (base:=base) (fnX_3 d26 X G (fun _ _ _ _ _ _ _ _ _=>rfl)) c_win c_gtells c_graphC c_every
 have c_least:=ok_least (P:=l.prog) (w:=w) (base:=base) (fnX_1 d27 X G (fun _ _ _ _ _ _ _=>rfl)) z_range t_WIDEST c_gtells c_graphC c_every
 have c_cell:=ok_cell (P:=l.prog) (w:=w) (base:=base) (fnX_2 d28 X G (fun _ _ _ _ _ _ _ _=>rfl)) z_len
 have c_store:=ok_store (P:=l.prog) (w:=w) (base:=base) (fnX_1 d29 X G (fun _ _ _ _ _ _ _=>rfl))
 have c_take:=ok_take (P:=l.prog) (w:=w) (base:=base) (fnX_2 d30 X G (fun _ _ _ _ _ _ _ _=>rfl))
 have c_wordN:=ok_wordN (P:=l.prog) (w:=w) (base:=base) (fnX_2 d31 X G (fun _ _ _ _ _ _ _ _=>rfl)) z_range
 have c_branch:=ok_branch (P:=l.prog) (w:=w) (base:=base) (fnX_6 d32 X G (fun _ _ _ _ _ _ _ _ _ _ _ _=>rfl)) z_len c_take c_wordN
 have c_codeS:=ok_codeS (P:=l.prog) (w:=w) (base:=base) (fnX_2 d33 X G (fun _ _ _ _ _ _ _ _=>rfl)) z_range c_take c_wordN c_branch
 have c_unlC:=ok_unlC (P:=l.prog) (w:=w) (base:=base) (fnX_1 d34 X G (fun _ _ _ _ _ _ _=>rfl)) z_len z_set
 have c_ord:=ok_ord (P:=l.prog) (w:=w) (base:=base) (fnX_2 d35 X G (fun _ _ _ _ _ _ _ _=>rfl))
 exact ok_law F z_range z_len z_min z_max c_cell c_store c_codeS c_tells c_least c_ord c_late c_settles c_unlC
theorem walk {l:PySem.W.OpenLaw} {q:Program} {loose:List Str} {XP:(Str->Option Value)->Heap->Prop} {YP:World->Heap->Prop} {d:DefRec} {K:Params->PySem.W.Frag} {c0 P0:Addr} (hn:l.most=some 63) (hdf:d.params.defaults=[])
  (hY:∀ (w:World) (h:Heap),YP w h->(K w.params).In h) (hnt:∀ w:World,PySem.W.noTabs (K w.params)=true) (htb:∀ (w:World) (h:Heap),YP w h->h.get? P0=some (PySem.W.tabObj #[])) (hcd:∀ w:World,PySem.W.codeHdIn (K w.params) c0 P0=true) (ht0:∀ w:World,PySem.W.tabIn (K w.params) "state_texts" = some (c0,P0))
  (F:∀ (w:World) (mg:Str->Option Value) (fa:Addr) (h:Heap),(K w.params).In h->h.Ns mainGlobals mg->mg d.name=some (.ref fa) →
   ∃ fd:FuncData,(∀ (s:Shared) (u:Value),BindsTo s fd ⟨[u],[]⟩ [("script",u)])/\∀ base:Heap,(K w.params).In base->base.Ns mainGlobals mg->Maker mg base c0 P0->FnOk l.prog w (K w.params) mg base CX0 7 fa fd ["script"] (spLaw P0 (K w.params))) :
  PySem.W.WalkO q loose XP YP l.row.toRowW d [] (fun f vs=>PySem.call f vs):=
 L2.walk_ofT (n:=63) (k:=7) (x:= "script") (CX:=fun _=>CX0) (sp:=fun w=>spLaw P0 (K w.params)) hn (by decide) hdf ⟨rfl,by decide,by decide⟩ hY hnt htb hcd F (fun _ _ a ns hl hT hS=>⟨ns,hS,hl,.inl hT,fun _=>rfl⟩) fun _ _ _ _ _ z=>z
end K37
open PySem PySem.W PyProof.Rows
local macro_rules | `(tactic| walk_at "k_def")=>`(tactic| ((refine' L2.DefIn.mk ?a ?l ?c ?k);(case a=>k_is);(case l=>k_is);(case c=>k_is);(case k=>k_is)))
set_option maxRecDepth 100000 in
set_option maxHeartbeats 0 in
theorem PySem.Challenge.cw_ownbeat_k37_whole_windows_in_order_holds : PySem.Challenge.rw_ownbeat_k37_whole_windows_in_order.Holds := by
 w_on;o_law
 refine PySem.W.holds_open (q:=KH.V) (loose:=[]) (Xt:=(fun s=>xlAt KH.V [] s && recOk (RowW.records (OpenRow.toRowW KH.Rw.row)) s)) (N:=2296) (XP:=PySem.W.XL KH.V []) (Yf:=PySem.W.Hook.obs KH.hk) (Ya:=PySem.W.Hook.val KH.hk) (YP:=PySem.W.Hook.says KH.hk) ?hl (PySem.W.Hook.of KH.hk) (PySem.W.Hook.keeps KH.hk) (fun s e=>PySem.W.xl_of s (Bool.and_eq_true_iff.mp e).1) PySem.W.XL.keeps (by rfl) (by rfl) (by rfl) (fun s e=>PySem.W.recFacts_of (Bool.and_eq_true_iff.mp e).2) (by rfl) (by first | assumption | decide +kernel) (by decide +kernel) ⟨rfl,rfl,rfl,rfl,rfl,by decide +kernel⟩ ?hw ?hc
 (case hl=>exact KH.HL)
 (case hw=>w_witness2)
 delta KH.hk
 k_fill
 refine' K37.walk (l:=PySem.Challenge.rw_ownbeat_k37_whole_windows_in_order) rfl rfl (fun w h Y=>PySem.W.km_in_of Y) ?nt ?tb ?cd ?t0 ?F
 (case t0=>intro w;exact rfl)
 (case nt=>intro w;exact rfl)
 (case tb=>intro w h Y;exact PySem.W.km_tabs_of Y _ (by decide))
 (case cd=>intro w;exact rfl)
 case F=>
  intro w mg fa h KX G hmg
  refine' K37.all_mk KX G hmg ?d1 ?d2 ?d3 ?d4 ?d5 ?d6 ?d7 ?d8 ?d9 ?d10 ?d11 ?d12 ?d13 ?d14 ?d15 ?d16 ?d17 ?d18 ?d19 ?d20 ?d21 ?d22 ?d23 ?d24 ?d25 ?d26 ?d27 ?d28 ?d29 ?d30 ?d31 ?d32 ?d33 ?d34 ?d35 ?dl (by exact rfl) ?z1 ?z2 ?z3 ?z4 ?z5 ?z6 ?z7 ?z8 ?z9 ?z10 ?z11 ?tx1
  (case d1=>walk_at "k_def")
  (case d2=>walk_at "k_def")
  (case d3=>walk_at "k_def")
  (case d4=>walk_at "k_def")
  (case d5=>walk_at "k_def")
  (case d6=>walk_at "k_def")
  (case d7=>walk_at "k_def")
  (case d8=>walk_at "k_def")
  (case d9=>walk_at "k_def")
  (case d10=>walk_at "k_def")
  (case d11=>walk_at "k_def")
  (case d12=>walk_at "k_def")
  (case d13=>walk_at "k_def")
  (case d14=>walk_at "k_def")
  (case d15=>walk_at "k_def")
  (case d16=>walk_at "k_def")
  (case d17=>walk_at "k_def")
  (case d18=>walk_at "k_def")
  (case d19=>walk_at "k_def")
  (case d20=>walk_at "k_def")
  (case d21=>walk_at "k_def")
  (case d22=>walk_at "k_def")
  (case d23=>walk_at "k_def")
  (case d24=>walk_at "k_def")
  (case d25=>walk_at "k_def")
  (case d26=>walk_at "k_def")
  (case d27=>walk_at "k_def")
  (case d28=>walk_at "k_def")
  (case d29=>walk_at "k_def")
  (case d30=>walk_at "k_def")
  (case d31=>walk_at "k_def")
  (case d32=>walk_at "k_def")
  (case d33=>walk_at "k_def")
  (case d34=>walk_at "k_def")
  (case d35=>walk_at "k_def")
  (case dl=>walk_at "k_def")
  (case z1=>k_is)
  (case z2=>k_is)
  (case z3=>k_is)
  (case z4=>k_is)
  (case z5=>k_is)
  (case z6=>k_is)
  (case z7=>k_is)
  (case z8=>k_is)
  (case z9=>k_is)
  (case z10=>k_is)
  (case z11=>k_is)
  (case tx1=>((refine' L2.nx_mk ?hx ?ex);(case hx=>k_is);(case ex=>rfl)))
end
end
