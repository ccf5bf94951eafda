import PyProof.Rows.All
import Wide.All
import OpenK.AllK
import Wide.FinOn
import PyProof.EqAt
import PyProof.EqKinds
import PyProof.TupleCall
import Lean
import PyProof.CompFree
import PyProof.IsInstanceH
import PyProof.IsiPairs
import PyProof.ConsumeWalk
import PyProof.IsiNone
import KE.KIntText
import PyProof.Rows.EqDataRows
import PyProof.RangeIter
import PyProof.ZipIter
import PyProof.EnumMake
import PyProof.WalksEnum
import PyProof.Rows.ZipGen
import PyProof.Rows.SortWalk
import KE.KEqDict
import KE.KDictLaws
import PyProof.Rows.SumAny
import PyProof.Rows.FStr
import PyProof.ListRange
import PyProof.DictWalks
import PyProof.DictCopy
import KE.KDictOf
import PyProof.Rows.StrRev
import PyProof.ListStr
import KE.KRevSl
import KE.KLam
import PyProof.Rows.SetFrom
import PyProof.SetRoads
import KE.KNestM
import PyProof.StrLawsIdx
import PyProof.TupleKey
import PyProof.StrLoop
import PyProof.StrWalks
import PyProof.StrLawsChain
import PyProof.FitsReplace
import PyProof.MeetsStr2
import KE.KRevIter
import PyProof.DictUpdate
import PyProof.AttrMissHeap
import PyProof.StrLawsIn
import PyProof.StrLawsTight
import KE.KTryMore
import PyProof.ExcClass2
import PyProof.ExcInit
import PyProof.InstStoreFacts
import PyProof.ExcBaseAll.ValueError
import PyProof.RulesAs
import PyProof.NsDelKeeps
import OpenK.KRaise
import PyProof.ExcArgs
import PyProof.Rows.SeqMore2
import PyProof.StrBlock2
import PyProof.TupleIter
import PyProof.FactsAll.set
import PyProof.FactsAll.dict_keyiterator
import PyProof.Rows.SortStr
import PyProof.Rows.StrSplitMax
import PySem.Challenge.RW_ownbeat_k64_sent_and_read_at_a_desk
import Open.Pieces
set_option Elab.async false
set_option linter.all false
set_option maxRecDepth 100000
set_option maxHeartbeats 4000000
abbrev aaa:=@List.length_map
abbrev aab:=@List.getElem?_eq_getElem
abbrev aac:=@PySem.wpAny_bind
abbrev aad:=@PySem.Heap.get?_push_of_some
abbrev aae:=@Nat.le_refl
abbrev aaf:=@List.mem_cons_of_mem
abbrev aag:=@List.getD_eq_getElem?_getD
abbrev aah:=@List.mem_cons_self
abbrev aai:=@Nat.le_of_ble_eq_true
abbrev aaj:=@PySem.wpAny_pure
abbrev aak:=@List.getElem?_map
abbrev aal:=@List.length_append
abbrev aam:=@PySem.Heap.lt_size
abbrev aan:=@List.mem_map
abbrev aao:=@List.map_append
abbrev aap:=@PySem.Heap.get?_push_size
abbrev aaq:=@List.take_of_length_le
abbrev aar:=@if_neg
abbrev aas:=@List.length_take
abbrev aat:=@List.getElem_mem
abbrev aau:=@List.mem_cons
abbrev aav:=@Bool.false_ne_true
abbrev aaw:=@Option.some.inj
abbrev aax:=@List.length_cons
abbrev aay:=@List.mem_append
abbrev aaz:=@if_pos
abbrev aaA:=@List.mem_singleton
abbrev aaB:=@List.getElem?_eq_some_iff
abbrev aaC:=@List.map_map
abbrev aaD:=@Nat.ne_of_lt
abbrev aaE:=@List.size_toArray
abbrev aaF:=@of_decide_eq_true
abbrev aaG:=@Nat.lt_of_lt_of_le
abbrev aaH:=@decide_eq_true_eq
abbrev aaI:=@decide_eq_true
abbrev aaJ:=@Bool.and_eq_true
abbrev aaK:=@List.length_range
abbrev aaL:=@List.take_add_one
abbrev aaM:=@Nat.le_trans
abbrev aaN:=@Option.map_eq_some_iff
abbrev aaO:=@Nat.zero_le
abbrev aaP:=@List.mem_of_getElem?
abbrev aaQ:=@List.mem_append_right
abbrev aaR:=@List.map_cons
abbrev aaS:=@List.getElem?_append_right
abbrev aaT:=@decide_eq_false
abbrev aaU:=@PySem.Heap.get?_update_other
abbrev aaV:=@List.getElem?_append_left
abbrev aaW:=@List.map_congr_left
abbrev aaX:=@congrArg
abbrev aaY:=@List.take_length
abbrev aaZ:=@List.all_eq_true
abbrev aa0:=@PySem.wpAny_holding
abbrev aa1:=@List.append_nil
abbrev aa2:=@PySem.call_isinstance
abbrev aa3:=@PySem.Str.length_append
abbrev aa4:=@Bool.true_and
abbrev aa5:=@Ne.symm
abbrev aa6:=@Classical.byContradiction
abbrev aa7:=@List.mem_append_left
abbrev aa8:=@List.flatten_cons
abbrev aa9:=@Bool.false_eq_true
abbrev aba:=@PySem.Heap.get?_update_self
abbrev abb:=@PySem.mem_of_lookup
abbrev abc:=@List.mem_map_of_mem
abbrev abd:=@PySem.wpAny_mono
abbrev abe:=@List.getElem?_cons_succ
abbrev abf:=@PySem.W.KIN.call_text
abbrev abg:=@Array.length_toList
abbrev abh:=@Int.toNat_natCast
abbrev abi:=@List.append_assoc
abbrev abj:=@PySem.W.mg_none_of
abbrev abk:=@Bool.false_and
abbrev abl:=@List.mem_of_mem_take
abbrev abm:=@Nat.lt_irrefl
abbrev abn:=@List.lookup_cons
abbrev abo:=@PySem.F.plainAttrs_str
abbrev abp:=@List.exists_mem_of_ne_nil
abbrev abq:=@Bool.eq_false_iff
abbrev abr:=@List.nodup_cons
abbrev abt:=@List.dropLast_concat_getLast
abbrev abu:=@PySem.wpAny_Call_Name_kw
abbrev abv:=@PySem.sizeLine_eq
abbrev abw:=@List.filter_cons
abbrev abx:=@List.mem_range
abbrev aby:=@Nat.succ_mul
abbrev abz:=@Array.getElem?_eq_some_iff
abbrev abA:=@PySem.wpAny_loadPart_at
abbrev abB:=@Bool.eq_iff_iff
abbrev abC:=@List.length_drop
abbrev abD:=@List.pairwise_cons
abbrev abE:=@PySem.wpAny_typeNameOfWhole_keyiter
abbrev abF:=@PySem.wpAny_truthy_bool
abbrev abG:=@PySem.wpAny_dictEntries
abbrev abH:=@List.length_eq_zero_iff
abbrev abI:=@PySem.F.slot_dict_keyiterator_next
abbrev abJ:=@Nat.min_le_left
abbrev abK:=@beq_eq_false_iff_ne
abbrev abL:=@List.getElem?_range
abbrev abM:=@PySem.W.Fast.te14364793385576792824
abbrev abN:=@PySem.codeAny_mono
abbrev abO:=@PyProof.Rows.callWith_type1
abbrev abP:=@PySem.wpAny_call
abbrev abQ:=@Int.emod_lt_of_pos
abbrev abR:=@PySem.isinstance_false_dict
abbrev abS:=@List.mem_iff_getElem?
abbrev abT:=@PySem.wpAny_passesOwn
abbrev abU:=@PySem.codeAny_builtin
abbrev abV:=@Nat.le_of_lt
abbrev abW:=@Nat.le_succ
abbrev abX:=@if_false
abbrev abY:=@PySem.codeAny_call_builtin
abbrev abZ:=@PySem.F.entry_str_split
abbrev ab0:=@PySem.Paired.length
abbrev ab1:=@Option.isSome_iff_exists
abbrev ab2:=@List.getElem?_take_of_lt
abbrev ab3:=@PySem.call_meets
abbrev ab4:=@PySem.wpAny_typeNameOf_keyiter
abbrev ab5:=@List.filterMap_cons
abbrev ab6:=@List.replicate_succ
abbrev ab7:=@PySem.W.mg_of
abbrev ab8:=@Prod.ext
abbrev ab9:=@Nat.le_of_not_lt
abbrev aca:=@PySem.wpAny_getItem_str_slice
abbrev acb:=@List.drop_zero
abbrev acd:=@PySem.wpAny_call_entry
abbrev ace:=@PySem.wpAny_callSpecial?_slot
abbrev acn:=@PySem.F.slot_str_split
abbrev aco:=@List.getElem?_cons_zero
abbrev acp:=@beq_iff_eq
abbrev acq:=@List.map_nil
abbrev acr:=@PySem.isinstance_false_tuple
abbrev acs:=@PySem.SeqAt.canLay_of_shaped
abbrev acu:=@List.drop_of_length_le
abbrev acv:=@PySem.Obj.data_mapFields
abbrev acw:=@PySem.Code.quiet_builtin
abbrev acx:=@List.filter_append
abbrev acy:=@List.mem_filter
abbrev acz:=@PySem.wpAny_execs_nil
abbrev acA:=@Bool.or_eq_true
abbrev acB:=@Nat.min_eq_left
abbrev acC:=@List.find?_cons
abbrev acD:=@Option.map_some
abbrev acE:=@Int.emod_nonneg
abbrev acF:=@List.map_take
abbrev acG:=@List.length_replicate
abbrev acH:=@PySem.isinstance_false_list
abbrev acI:=@PySem.StrLaws.occ_length_le
abbrev acJ:=@PySem.wpAny_newObj_type
abbrev acK:=@PySem.wpAny_pyIter_list
abbrev acL:=@Nat.lt_succ_of_lt
abbrev acM:=@PySem.Heap.get?_none_of_le
abbrev acN:=@PySem.wpAny_setField
abbrev acO:=@PySem.Around.under_plainId
abbrev acP:=@List.range'_append_1
abbrev acQ:=@Nat.ne_of_gt
abbrev acR:=@Nat.lt_succ_self
abbrev acS:=@PySem.Calls.call_function_entry
abbrev acT:=@Option.isNone_iff_eq_none
abbrev acU:=@List.length_flatten
abbrev acV:=@PySem.wpAny_standAt
abbrev acW:=@List.map_drop
abbrev acX:=@List.nil_append
abbrev acY:=@Int.ediv_nonneg
abbrev acZ:=@PySem.wpAny_specialOf
abbrev ac0:=@PySem.F.plainAttrs_list
abbrev ac2:=@PySem.StrLaws.sliceText_plain
abbrev ac3:=@List.getElem?_set_self
abbrev ac4:=@Nat.le_of_eq
abbrev ac5:=@Bool.and_false
abbrev ac6:=@List.nodup_append
abbrev ac7:=@Nat.mul_le_mul
abbrev ac9:=@PySem.Obj.isFreed_of_fields
abbrev ada:=@PySem.StrLaws.glued_eq_join
abbrev adb:=@List.take_append_drop
abbrev adf:=@List.cons_append
abbrev adg:=@List.take_prefix
abbrev adh:=@List.map_flatten
abbrev adi:=@List.any_cons
abbrev adj:=@List.getElem?_set_ne
abbrev adl:=@List.length_dropLast
abbrev adn:=@List.of_mem_zip
abbrev ado:=@List.forIn_cons
abbrev adp:=@PySem.post_val_or_str
abbrev adq:=@PySem.wpAny_dictEpoch
abbrev ads:=@PySem.F.slot_dict_len
abbrev adt:=@Nat.not_lt_zero
abbrev adu:=@List.take_succ_cons
abbrev adx:=@List.length_pos_iff
abbrev ady:=@PySem.W.callWith_K
abbrev adz:=@Nat.mul_comm
abbrev adB:=@List.all_map
abbrev adC:=@Nat.sub_self
abbrev adD:=@List.mem_filterMap
abbrev adF:=@List.take_left
abbrev adG:=@List.prefix_append
abbrev adH:=@List.map_replicate
abbrev adI:=@Bool.false_or
abbrev adK:=@List.cons.inj
abbrev adM:=@Eq.trans
local macro_rules|`(tactic|walk_at"F")=>`(tactic|with_reducible assumption)
theorem az{p:Prop}(h:¬¬p):p:=aa6 h
namespace KH
open PySem PySem.W
abbrev Pw:Program:=PySem.Challenge.pw_ownbeat_k64_sent_and_read_at_a_desk
abbrev Rw:OpenLaw:=PySem.Challenge.rw_ownbeat_k64_sent_and_read_at_a_desk
abbrev tp(i:Nat):Stmt:=Pw.main.body.getD i (.Pass ⟨0,0,0,0⟩)
abbrev cm:Stmt->Nat->Stmt
 | .ClassDef _ _ _ body _ _ _ _ _ _ _,i=>body.getD i (.Pass ⟨0,0,0,0⟩)
 | s,_=>s
abbrev dA(s:Stmt):Arguments:=match s with
 | .FunctionDef _ a _ _ _ _ _ _ _ _=>a
 | _=>{ posonlyargs:=[],args:=[],vararg:=none,kwonlyargs:=[],kw_defaults:=[],kwarg:=none,defaults:=[] }
abbrev dB(s:Stmt):List Stmt:=match s with
 | .FunctionDef _ _ b _ _ _ _ _ _ _=>b
 | _=>[]
abbrev dS(s:Stmt):Scope:=match s with
 | .FunctionDef _ _ _ _ _ _ sc _ _ _=>sc
 | _=>{ kind:=.function,names:=[],isGenerator:=false,isCoroutine:=false }
abbrev en(P:Params)(k:Str)(t:Nat)(v:Value):DictEntry:=⟨PyData.keyHash P k,.str k t,v⟩
abbrev tu(l:List Value):Obj:=⟨.type "tuple",none,.seq l.toArray 0,#[]⟩
abbrev di(l:List DictEntry):Obj:=⟨.type "dict",none,.dict l.toArray 0,#[]⟩
abbrev co(n:Str)(t1:Nat)(q:Str)(t2 t3:Nat)(l c:Int)(a b:Nat)(x y:Value)(z:Nat)(d:Int)(t4:Nat):Obj:=⟨.type "code",none,.fields #[.str n t1,.str q t2,.str "/claim/cut.py" t3,.int l 0,.int c 0,.int 0 0,.int 0 0,.int 3 0,.ref a,.bool true,.int 181 0,.ref b,.none,x,y,.ref z,.int d 0,.int l 0,.str "/claim/cut.py" t4],#[]⟩
abbrev fu(n q:Str)(st:Stmt)(m:Str)(t c:Nat):Obj:=⟨.type "function",none,.func ⟨n,q,dA st,.stmts (dB st),dS st,3,[],.none,.none,.none,.str m t,none,.ref c,.none,0⟩,#[]⟩
abbrev nm:Nat->List Str->List Value
 | _,[]=>[]
 | i,x::r=>.str x i::nm (i+1) r
abbrev ff(n:Str)(s:Stmt)(m:Str)(mt T:Nat)(l k:Int)(a c:Nat)(x y:Value)(j:Nat):List Obj:=[⟨.none,none,.func ⟨n,n,dA s,.stmts (dB s),dS s,0,[],.none,.none,.none,.none,none,.none,.none,0⟩,#[]⟩,co n T n (T+1) (T+2) l k a (a+1) x y (a+c) (Int.ofNat (T+3+j)) (T+4+j),fu n n s m mt (a+c+1)]
abbrev f5(n:Str)(s:Stmt)(m:Str)(mt T:Nat)(l k:Int)(a:Nat):List Obj:=tu [] :: ⟨.none,none,.fields #[],#[]⟩::ff n s m mt T l k a 2 .none .none 0
abbrev f7(n:Str)(s:Stmt)(m:Str)(mt T:Nat)(l k:Int)(a:Nat)(ns:List Str):List Obj:=tu [] :: ⟨.none,none,.fields #[],#[]⟩::tu (nm (T+3) ns)::tu []::ff n s m mt T l k a 4 (.ref (a+2)) (.ref (a+3)) ns.length
abbrev cl(n:Str)(self ns a t1 t2:Nat):Obj:=⟨.type "type",none,.cls ⟨n,[.ref 24],[.ref self,.ref 24,.type "ValueError",.type "Exception",.type "BaseException",.type "object"],ns,n,true,[],[],false,none,false⟩,#[some (.ref a),none,some (.str n t1),some (.str n t2),some (.builtin "ValueError.__new__"),some (.bool true)]⟩
abbrev pe:Obj:=⟨.type "builtin_function_or_method",none,.fields #[.builtin "type.__prepare__",.type "type"],#[]⟩
noncomputable abbrev xd(P:Params)(n:Str)(a T:Nat)(l:Int):Obj:=⟨.type "dict",none,.dict #[en P "__module__" (T+7) (.str "ownbeat.errors" 187),en P "__qualname__" (T+9) (.str n (T+8)),en P "__firstlineno__" (T+11) (.int l (T+10)),en P "__static_attributes__" (T+12) (.ref (a+7))] 4,#[]⟩
abbrev xk(n:Str)(a T:Nat)(l:Int):Obj:=⟨.type "code",none,.fields #[.str n (T+2),.str n (T+3),.str "/claim/cut.py" (T+4),.int l 0,.int 0 0,.int 0 0,.int 0 0,.int 0 0,.ref (a+3),.bool false,.int 181 0,.ref (a+4),.none,.none,.none,.none,.int (Int.ofNat (T+5)) 0,.int l 0,.str "/claim/cut.py" (T+6)],#[]⟩
abbrev xf(a:Nat)(m:Str)(t:Nat):Obj:=⟨.type "frame",none,.plain,#[some (.ref (a+5)),some (.ref 3),some (.ref (a+2)),none,some (.str m t),none,some (.ref 0)]⟩
abbrev su(a:Nat):Obj:=⟨.type "super",none,.fields #[.ref a,.ref a,.ref a],#[]⟩
abbrev is(a:Nat):Obj:=⟨.type "builtin_function_or_method",none,.fields #[.builtin "object.__init_subclass__",.ref a],#[]⟩
abbrev be(l:List Nat):Obj:=⟨.type "type",none,.cls ⟨"BeatError",[.type "ValueError"],[.ref 24,.type "ValueError",.type "Exception",.type "BaseException",.type "object"],23,"BeatError",true,[],l.map .ref,false,none,false⟩,#[some (.ref 15),none,some (.str "BeatError" 189),some (.str "BeatError" 197),some (.builtin "ValueError.__new__"),some (.bool true)]⟩
abbrev fo(n q:Str)(s:Stmt):Obj:=⟨.none,none,.func ⟨n,q,dA s,.stmts (dB s),dS s,0,[],.none,.none,.none,.none,none,.none,.none,0⟩,#[]⟩
noncomputable abbrev xc(P:Params)(n:Str)(a T:Nat)(l:Int):List Obj:=[tu [.ref 24],pe,xd P n a T l,tu [],⟨.none,none,.fields #[],#[]⟩,xk n a T l,xf a "ownbeat.errors" 187,tu [],
⟨.type "dict",none,.dict #[en P "__module__" (T+7) (.str "ownbeat.errors" 187),en P "__firstlineno__" (T+11) (.int l (T+10)),en P "__static_attributes__" (T+12) (.ref (a+7)),en P "__doc__" (T+13) (.none)] 2,#[]⟩,
cl n (a+9) (a+8) a T (T+8),su (a+9),is (a+9)]
abbrev dN:Stmt->Str
 | .FunctionDef n _ _ _ _ _ _ _ _ _=>n
 | _=>""
abbrev dL:Stmt->Int
 | .FunctionDef _ _ _ _ _ _ _ _ _ p=>p.line
 | _=>0
abbrev lo(s:Stmt):List Str:=(dS s).names.filterMap λx=>match x.2 with
 | .local=>some x.1
 | _=>none
abbrev gx(i:Nat):Stmt:=tp (bif i.blt 200 then i else i-200)
abbrev gn(i:Nat):List Str:=bif i.blt 200 then lo (gx i)else[]
abbrev ga(i:Nat):Nat:=bif i.blt 200 then 7 else 5
abbrev fy(m:Str)(mt T a i:Nat)(s:Stmt):List Obj:=bif i.blt 200 then f7 (dN s) s m mt T (dL s) (dA s).args.length a (lo s)else f5 (dN s) s m mt T (dL s) (dA s).args.length a
def fz(m:Str)(mt:Nat):Nat->Nat->List Nat->List Obj
 | _,_,[]=>[]
 | T,a,i::r=>fy m mt T a i (gx i)++fz m mt (T+6+(gn i).length) (a+ga i) r
noncomputable def gz(P:Params):List (Nat×Nat×Nat)->List DictEntry
 | []=>[]
 | (i,T,a)::r=>en P (dN (tp i)) T (.ref a)::gz P r
def lz:Nat->List Nat->List Value
 | _,[]=>[]
 | a,i::r=>.int (dL (gx i)) 0 :: .int 0 0 :: .ref (a+ga i-2)::lz (a+ga i) r
abbrev ob(l:List Obj)(i:Nat):Obj:=l.getD i ⟨.none,none,.plain,#[]⟩
def yd:Nat->Nat->List Stmt
 | _,0=>[]
 | i,n+1=>tp i::yd (i+1) n
abbrev r0:List Nat:=[11,12,213,214,215,16]
abbrev r1:List Nat:=[18,19,20,21,22,23,24,25,26]
abbrev r2:List Nat:=[228,29,230,31,32,33,234,35,236]
abbrev r3:List Nat:=[38,39,240,41,42,43]
abbrev r4:List Nat:=[246,47]
abbrev r5:List Nat:=[49]
abbrev r6:List Nat:=[51,52,53,254,55,256]
abbrev r7:List Nat:=[58,59,60]
abbrev r8:List Nat:=[63,64,65,66,67,68,69,270,271]
abbrev r9:List Nat:=[74,275,276,77,78]
abbrev TL:List Nat:=[81,82,283,84]
abbrev YS:List Nat:=[92,93,94,95,96,97,98,299,300]
abbrev YR:List Nat:=[102,103,104,105,106,307,308,309,110,311,112,113,314,115,116,117,118,119]
def cu:BT->Nat->List Obj->BT
 | t,_,[]=>t
 | t,n,x::xs=>cu (t.ins n x) (n+1) xs
def cG:BT->List (Nat×Obj)->BT
 | t,[]=>t
 | t,(i,x)::r=>cG (t.set i λ_=>x) r
def lf:Life:={ registered:=[],finalised:=[],alive:=[],known:=0,ids:=[],orphanDicts:=[],counting:=false,cnt:=#[],zero:=[],soft:=0,below:=false,collecting:=false,loading:=false,debug:=0,thresholds:=[2000,10,10],woke:=false,asked:=0,gcEnabled:=true,old:=[],middle:=[],young:=0,intoMiddle:=false }
noncomputable def T0(P:Params):BT:=cu .nil 0 [boot_o_0 P,boot_o_1 P,boot_o_2 P,boot_o_3 P,boot_o_4 P,boot_o_5 P,boot_o_6 P,boot_o_7 P,boot_o_8 P,boot_o_9 P,boot_o_10 P]
def ev:Env:={ scope:=Pw.main.scope,locals:=mainNs,globals:=mainNs,cells:=[],code:=.ref 13,frame:=some 14 }
abbrev cd:Code:=.body (behindTheImports Pw) ev
abbrev fr:List Frame:=[topFrame ⟨0,0,0,0⟩]
abbrev an:Option Value:=some (.ref 6)
noncomputable def gl(P:Params):List DictEntry:=[en P "__doc__" 166 (.none),en P "__package__" 167 (.none),en P "__loader__" 168 (.builtin "__main__.__loader__#opaque"),en P "__spec__" 169 (.none),en P "__annotations__" 170 (.ref 6),en P "__builtins__" 171 (.ref 4),en P "__file__" 173 (.str "/claim/cut.py" 172),en P "__cached__" 174 (.none),en P "BeatError" 206 (.ref 24),en P "NoLetter" 222 (.ref 37),en P "NoCode" 238 (.ref 49),en P "NoWire" 263 (.ref 68),en P "NoWindow" 279 (.ref 80),en P "NoMark" 295 (.ref 92),en P "NoText" 311 (.ref 104),en P "NoName" 327 (.ref 116),en P "NoRow" 343 (.ref 128)]++(gz P [(11,352,137),(12,360,144),(13,366,149),(14,372,154),(15,378,159),(16,392,166)]++([en P "state_texts" 400 (.ref 173)]++(gz P [(18,407,180),(19,414,187),(20,425,194),(21,439,201),(22,449,208),(23,461,215),(24,469,222),(25,480,229),(26,490,236)]++(gz P [(28,498,241),(29,507,248),(30,513,253),(31,522,260),(32,530,267),(33,542,274),(34,548,279),(35,557,286),(36,563,291)]++(gz P [(38,572,298),(39,582,305),(40,588,310),(41,599,317),(42,613,324),(43,623,331)]++([en P "LONGEST" 627 (.int 8 626)]++(gz P [(46,633,336),(47,647,343)]++([en P "tails_behind" 658 (.ref 350)]++(gz P [(49,671,357)]++(gz P [(51,681,364),(52,690,371),(53,701,378),(54,707,383),(55,721,390),(56,727,395)]++(gz P [(58,738,402),(59,750,409),(60,759,416)]++([en P "SIGNS" 764 (.ref 417)]++(gz P [(63,771,424),(64,782,431),(65,792,438),(66,804,445),(67,818,452),(68,828,459),(69,841,466),(70,847,471),(71,853,476)]++([en P "FIGURES" 857 (.str "0123456789" 856)]++(gz P [(74,865,483),(75,871,488),(76,877,493),(77,885,500),(78,892,507)]++([en P "WIDEST" 896 (.int 6 895)]++(gz P [(81,906,514),(82,916,521),(83,922,526),(84,932,533)]++([en P "SMALL_LETTERS" 936 (.str "abcdefghijklmnopqrstuvwxyz" 935),en P "LONGEST_NAME" 938 (.int 8 937),en P "LENGTHS" 947 (.ref 534),en P "NOTHING" 949 (.str "-" 948),en P "NONE" 951 (.str "none" 950),en P "Desk" 996 (.ref 565)]++(gz P [(92,1004,576),(93,1011,583),(94,1018,590),(95,1026,597),(96,1033,604),(97,1041,611),(98,1048,618),(99,1054,623),(100,1060,628)]++(gz P [(102,1070,635),(103,1078,642),(104,1088,649),(105,1098,656),(106,1115,663),(107,1121,668),(108,1127,673),(109,1133,678),(110,1145,685),(111,1151,690),(112,1158,697),(113,1168,704),(114,1174,709),(115,1184,716),(116,1192,723),(117,1199,730),(118,1216,737),(119,1229,744)]))))))))))))))))))))
def fl:List Value:=[.int 2 0,.int 0 0,.ref 20,.int 4 0,.int 0 0,.ref 33,.int 6 0,.int 0 0,.ref 45,.int 8 0,.int 0 0,.ref 57,.int 13 0,.int 0 0,.ref 76,.int 15 0,.int 0 0,.ref 88,.int 17 0,.int 0 0,.ref 100,.int 19 0,.int 0 0,.ref 112,.int 21 0,.int 0 0,.ref 124]++(lz 131 r0++([.int 49 0,.int 0 0,.ref 172]++(lz 174 r1++(lz 237 r2++(lz 292 r3++(lz 332 r4++([.int 210 0,.int 0 0,.ref 349]++(lz 351 r5++(lz 358 r6++(lz 396 r7++(lz 418 r8++(lz 477 r9++(lz 508 TL++([.int 387 0,.int 0 0,.ref 540]++(lz 570 YS++(lz 629 YR))))))))))))))))
noncomputable abbrev gd(P:Params)(nm:Str)(t m n:Nat):Obj:=⟨.type "dict",none,.dict (en P "__name__" 165 (.str nm t)::(gl P).take m).toArray n,#[]⟩
abbrev fd(n:Nat):Obj:=⟨.none,none,.fields (fl.take n).toArray,#[]⟩
abbrev Sx(T:Params->BT)(n k:Nat)(w:World)(os:OsState):SharedT:=⟨T w.params,n,lf,#[],⟨0,0,0,0⟩,k,os⟩
abbrev GO(S:List Stmt)(m:Nat)(a:World->OsState->SharedT)(p:Pos)(b:World->OsState->SharedT)(q:Pos):Prop:=∀(w:World)(os:OsState),segRunT treeTable Pw w (nat_lit 11) an 1 m (a w os) (piecesOf S ev cd p fr)=some (.next,b w os,cd,q)
local macro_rules|`(tactic|walk_at"g")=>`(tactic|(intro w os;rw[abM];kernel_rfl))
noncomputable def B0(P:Params):List Obj:=[tu [],
fd 0,
xk "<module>" 8 180 1,
⟨.type "frame",none,.plain,#[some (.ref 13),some (.ref 3),some (.ref 3),none,some (.str "__main__" 164),none,some (.ref 0)]⟩]
noncomputable def T1(P:Params):BT:=cu (cG (T0 P) []) 11 (B0 P)
noncomputable def B1(P:Params):List Obj:=[]
noncomputable def T2(P:Params):BT:=cu (cG (T1 P) []) 15 (B1 P)
theorem zero(w:World):boot_heap w.params=absHeap (T0 w.params) (nat_lit 11) lf:=by kernel_rfl
theorem pre:∀(w:World)(os:OsState),topGo treeTable Pw w (nat_lit 11) an (nat_lit 12) ⟨boot_heap w.params,#[],boot_drawn,boot_toks,os⟩ (topStub Pw)=some (SharedT.abs ⟨T1 w.params,nat_lit 15,lf,#[],⟨0,0,0,0⟩,nat_lit 187,os⟩,⟨denote treeTable cd,cd,⟨0,0,0,0⟩,fr⟩):=by intro w os;rw[abM];kernel_rfl
theorem Ge:∀(w:World)(os:OsState),segRun treeTable Pw w (nat_lit 11) an 1 (nat_lit 1) (SharedT.abs ⟨T1 w.params,nat_lit 15,lf,#[],⟨0,0,0,0⟩,nat_lit 187,os⟩) (blockOf (behindTheImports Pw) ev cd ⟨0,0,0,0⟩ fr)=some (.next,SharedT.abs ⟨T2 w.params,nat_lit 15,lf,#[],⟨0,0,0,0⟩,nat_lit 187,os⟩,cd,⟨0,0,0,0⟩):=by intro w os;rw[abM];kernel_rfl
noncomputable def B2(P:Params):List Obj:=[tu [.type "ValueError"],
pe,
⟨.type "dict",none,.dict #[en P "__module__" 196 (.str "ownbeat.errors" 187),en P "__qualname__" 198 (.str "BeatError" 197),en P "__firstlineno__" 200 (.int 2 199),en P "__static_attributes__" 201 (.ref 22)] 4,#[]⟩,
tu [],
⟨.none,none,.fields #[],#[]⟩,
xk "BeatError" 15 189 2,
xf 15 "ownbeat.errors" 187,
tu [],
⟨.type "dict",none,.dict #[en P "__module__" 196 (.str "ownbeat.errors" 187),en P "__firstlineno__" 200 (.int 2 199),en P "__static_attributes__" 201 (.ref 22),en P "__weakref__" 203 (.ref 25),en P "__doc__" 204 (.none)] 3,#[]⟩,
be [],
⟨.type "getset_descriptor",none,.fields #[.str "__weakref__" 202,.ref 24,.builtin "ExceptionGroup.__weakref__",.none],#[]⟩,
su 24,
is 24]
noncomputable def T3(P:Params):BT:=cu (cG (T2 P) [(3,gd P "ownbeat.errors" 187 9 10),
(12,fd 3)]) 15 (B2 P)
def S2:List Stmt:=yd 0 2
theorem g2:GO S2 (nat_lit 196) (Sx T2 (nat_lit 15) (nat_lit 187)) ⟨0,0,0,0⟩ (Sx T3 (nat_lit 28) (nat_lit 207)) ⟨2,0,3,8⟩:=by walk_at"g"
noncomputable def B3(P:Params):List Obj:=xc P "NoLetter" 28 207 4
noncomputable def T4(P:Params):BT:=cu (cG (T3 P) [(3,gd P "ownbeat.errors" 187 10 11),
(12,fd 6),
(24,be [37])]) 28 (B3 P)
def S3:List Stmt:=[tp 2]
theorem g3:GO S3 (nat_lit 214) (Sx T3 (nat_lit 28) (nat_lit 207)) ⟨2,0,3,8⟩ (Sx T4 (nat_lit 40) (nat_lit 223)) ⟨4,0,5,8⟩:=by walk_at"g"
noncomputable def B4(P:Params):List Obj:=xc P "NoCode" 40 223 6
noncomputable def T5(P:Params):BT:=cu (cG (T4 P) [(3,gd P "ownbeat.errors" 187 11 12),
(12,fd 9),
(24,be [37,49])]) 40 (B4 P)
def S4:List Stmt:=[tp 3]
theorem g4:GO S4 (nat_lit 214) (Sx T4 (nat_lit 40) (nat_lit 223)) ⟨4,0,5,8⟩ (Sx T5 (nat_lit 52) (nat_lit 239)) ⟨6,0,7,8⟩:=by walk_at"g"
noncomputable def B5(P:Params):List Obj:=[tu [.ref 24],
pe,
⟨.type "dict",none,.dict #[en P "__module__" 246 (.str "ownbeat.errors" 187),en P "__qualname__" 248 (.str "NoWire" 247),en P "__firstlineno__" 250 (.int 8 249),en P "__init__" 258 (.ref 65),en P "__static_attributes__" 260 (.ref 66)] 5,#[]⟩,
tu [],
⟨.none,none,.fields #[.int 10 0,.int 4 0,.ref 64],#[]⟩,
xk "NoWire" 52 239 8,
xf 52 "ownbeat.errors" 187,
tu [],
⟨.none,none,.fields #[],#[]⟩,
tu [.str "self" 254,.str "at" 255],
tu [],
fo "__init__" "NoWire.__init__" (cm (tp 4) 0),
co "__init__" 251 "NoWire.__init__" 252 253 10 2 59 60 (.ref 61) (.ref 62) 63 256 257,
fu "__init__" "NoWire.__init__" (cm (tp 4) 0) "ownbeat.errors" 187 64,
tu [.str "at" 259],
⟨.type "dict",none,.dict #[en P "__module__" 246 (.str "ownbeat.errors" 187),en P "__firstlineno__" 250 (.int 8 249),en P "__init__" 258 (.ref 65),en P "__static_attributes__" 260 (.ref 66),en P "__doc__" 261 (.none)] 2,#[]⟩,
cl "NoWire" 68 67 52 239 247,
su 68,
is 68]
noncomputable def T6(P:Params):BT:=cu (cG (T5 P) [(3,gd P "ownbeat.errors" 187 12 13),
(12,fd 12),
(24,be [37,49,68])]) 52 (B5 P)
def S5:List Stmt:=[tp 4]
theorem g5:GO S5 (nat_lit 246) (Sx T5 (nat_lit 52) (nat_lit 239)) ⟨6,0,7,8⟩ (Sx T6 (nat_lit 71) (nat_lit 264)) ⟨8,0,12,20⟩:=by walk_at"g"
noncomputable def B6(P:Params):List Obj:=xc P "NoWindow" 71 264 13
noncomputable def T7(P:Params):BT:=cu (cG (T6 P) [(3,gd P "ownbeat.errors" 187 13 14),
(12,fd 15),
(24,be [37,49,68,80])]) 71 (B6 P)
def S6:List Stmt:=[tp 5]
theorem g6:GO S6 (nat_lit 214) (Sx T6 (nat_lit 71) (nat_lit 264)) ⟨8,0,12,20⟩ (Sx T7 (nat_lit 83) (nat_lit 280)) ⟨13,0,14,8⟩:=by walk_at"g"
noncomputable def B7(P:Params):List Obj:=xc P "NoMark" 83 280 15
noncomputable def T8(P:Params):BT:=cu (cG (T7 P) [(3,gd P "ownbeat.errors" 187 14 15),
(12,fd 18),
(24,be [37,49,68,80,92])]) 83 (B7 P)
def S7:List Stmt:=[tp 6]
theorem g7:GO S7 (nat_lit 214) (Sx T7 (nat_lit 83) (nat_lit 280)) ⟨13,0,14,8⟩ (Sx T8 (nat_lit 95) (nat_lit 296)) ⟨15,0,16,8⟩:=by walk_at"g"
noncomputable def B8(P:Params):List Obj:=xc P "NoText" 95 296 17
noncomputable def T9(P:Params):BT:=cu (cG (T8 P) [(3,gd P "ownbeat.errors" 187 15 16),
(12,fd 21),
(24,be [37,49,68,80,92,104])]) 95 (B8 P)
def S8:List Stmt:=[tp 7]
theorem g8:GO S8 (nat_lit 214) (Sx T8 (nat_lit 95) (nat_lit 296)) ⟨15,0,16,8⟩ (Sx T9 (nat_lit 107) (nat_lit 312)) ⟨17,0,18,8⟩:=by walk_at"g"
noncomputable def B9(P:Params):List Obj:=xc P "NoName" 107 312 19
noncomputable def Vp(P:Params):BT:=cu (cG (T9 P) [(3,gd P "ownbeat.errors" 187 16 17),
(12,fd 24),
(24,be [37,49,68,80,92,104,116])]) 107 (B9 P)
def S9:List Stmt:=[tp 8]
theorem g9:GO S9 (nat_lit 214) (Sx T9 (nat_lit 107) (nat_lit 312)) ⟨17,0,18,8⟩ (Sx Vp (nat_lit 119) (nat_lit 328)) ⟨19,0,20,8⟩:=by walk_at"g"
noncomputable def Gz(P:Params):List Obj:=xc P "NoRow" 119 328 21++(fz "ownbeat.walks" 344 346 131 [11,12])
noncomputable def Vo(P:Params):BT:=cu (cG (Vp P) [(3,gd P "ownbeat.walks" 344 19 20),
(12,fd 33),
(24,be [37,49,68,80,92,104,116,128])]) 119 (Gz P)
def Vs:List Stmt:=yd 9 4
theorem g10:GO Vs (nat_lit 282) (Sx Vp (nat_lit 119) (nat_lit 328)) ⟨19,0,20,8⟩ (Sx Vo (nat_lit 145) (nat_lit 361)) ⟨26,0,27,71⟩:=by walk_at"g"
noncomputable def km(P:Params):List Obj:=fz "ownbeat.walks" 344 361 145 [213,214,215,16]++([tu [],
⟨.none,none,.fields #[],#[]⟩,
tu [.str "code" 396],
tu [.str "code" 397],
fo "state_texts" "state_texts" (tp 17),
co "state_texts" 393 "state_texts" 394 395 49 1 167 168 (.ref 169) (.ref 170) 171 398 399,
fu "state_texts" "state_texts" (tp 17) "ownbeat.walks" 344 172]++(fz "ownbeat.walks" 344 401 174 [18,19,20,21]))
noncomputable def Vn(P:Params):BT:=cu (cG (Vo P) [(3,gd P "ownbeat.walks" 344 28 29),
(12,fd 60)]) 145 (km P)
def Vr:List Stmt:=yd 13 9
theorem g11:GO Vr (nat_lit 272) (Sx Vo (nat_lit 145) (nat_lit 361)) ⟨26,0,27,71⟩ (Sx Vn (nat_lit 202) (nat_lit 440)) ⟨61,0,67,16⟩:=by walk_at"g"
noncomputable def kj(P:Params):List Obj:=fz "ownbeat.walks" 344 440 202 [22,23,24,25,26]++(fz "ownbeat.codes" 491 493 237 [228,29,230,31])
noncomputable def Vm(P:Params):BT:=cu (cG (Vn P) [(3,gd P "ownbeat.codes" 491 37 38),
(12,fd 87)]) 202 (kj P)
def S12:List Stmt:=yd 22 10
theorem g12:GO S12 (nat_lit 285) (Sx Vn (nat_lit 202) (nat_lit 440)) ⟨61,0,67,16⟩ (Sx Vm (nat_lit 261) (nat_lit 523)) ⟨117,0,120,65⟩:=by walk_at"g"
noncomputable def kM(P:Params):List Obj:=fz "ownbeat.codes" 491 523 261 [32,33,234,35,236]++(fz "ownbeat.leaning" 564 566 292 [38,39,240,41])
noncomputable def Vl(P:Params):BT:=cu (cG (Vm P) [(3,gd P "ownbeat.leaning" 564 46 47),
(12,fd 114)]) 261 (kM P)
def S13:List Stmt:=yd 32 10
theorem g13:GO S13 (nat_lit 277) (Sx Vm (nat_lit 261) (nat_lit 523)) ⟨117,0,120,65⟩ (Sx Vl (nat_lit 318) (nat_lit 600)) ⟨175,0,179,15⟩:=by walk_at"g"
noncomputable def kK(P:Params):List Obj:=fz "ownbeat.leaning" 564 600 318 [42,43]++(fz "ownbeat.marks" 624 628 332 [246,47]++([tu [],
⟨.none,none,.fields #[],#[]⟩,
tu [.str "code" 651,.str "start" 652,.str "keep" 653],
tu [.str "code" 654,.str "keep" 655],
fo "tails_behind" "tails_behind" (tp 48),
co "tails_behind" 648 "tails_behind" 649 650 210 3 344 345 (.ref 346) (.ref 347) 348 656 657,
fu "tails_behind" "tails_behind" (tp 48) "ownbeat.marks" 624 349]++(fz "ownbeat.marks" 624 659 351 [49]++(fz "ownbeat.reading" 672 674 358 [51,52]))))
noncomputable def Vk(P:Params):BT:=cu (cG (Vl P) [(3,gd P "ownbeat.reading" 672 55 56),
(12,fd 138)]) 318 (kK P)
def S14:List Stmt:=yd 42 11
theorem g14:GO S14 (nat_lit 287) (Sx Vl (nat_lit 318) (nat_lit 600)) ⟨175,0,179,15⟩ (Sx Vk (nat_lit 372) (nat_lit 691)) ⟨223,0,226,61⟩:=by walk_at"g"
noncomputable def kS(P:Params):List Obj:=fz "ownbeat.reading" 672 691 372 [53,254,55,256]++(fz "ownbeat.settling" 728 730 396 [58,59,60]++([tu [.str "0" 762,.str "1" 763]]++(fz "ownbeat.stillness" 760 765 418 [63])))
noncomputable def Vj(P:Params):BT:=cu (cG (Vk P) [(3,gd P "ownbeat.stillness" 760 64 65),
(12,fd 162)]) 372 (kS P)
def S15:List Stmt:=yd 53 11
theorem g15:GO S15 (nat_lit 277) (Sx Vk (nat_lit 372) (nat_lit 691)) ⟨223,0,226,61⟩ (Sx Vj (nat_lit 425) (nat_lit 772)) ⟨281,0,284,51⟩:=by walk_at"g"
noncomputable def lK(P:Params):List Obj:=fz "ownbeat.stillness" 760 772 425 [64,65,66,67,68,69,270,271]
noncomputable def Vi(P:Params):BT:=cu (cG (Vj P) [(3,gd P "ownbeat.texts" 854 73 74),
(12,fd 186)]) 425 (lK P)
def S16:List Stmt:=yd 64 10
theorem g16:GO S16 (nat_lit 273) (Sx Vj (nat_lit 425) (nat_lit 772)) ⟨281,0,284,51⟩ (Sx Vi (nat_lit 477) (nat_lit 858)) ⟨341,0,341,7⟩:=by walk_at"g"
noncomputable def kJ(P:Params):List Obj:=fz "ownbeat.texts" 854 858 477 [74,275,276,77,78]++(fz "ownbeat.windows" 893 897 508 [81,82,283,84])
noncomputable def Vh(P:Params):BT:=cu (cG (Vi P) [(3,gd P "ownbeat.desk" 933 84 85),
(12,fd 213)]) 477 (kJ P)
def S17:List Stmt:=yd 74 13
theorem g17:GO S17 (nat_lit 300) (Sx Vi (nat_lit 477) (nat_lit 858)) ⟨341,0,341,7⟩ (Sx Vh (nat_lit 534) (nat_lit 937)) ⟨382,0,382,13⟩:=by walk_at"g"
noncomputable def X9(P:Params):List Obj:=[tu [.str "1" 939,.str "2" 940,.str "3" 941,.str "4" 942,.str "5" 943,.str "6" 944,.str "7" 945,.str "8" 946]]
noncomputable def Vg(P:Params):BT:=cu (cG (Vh P) [(3,gd P "ownbeat.desk" 933 88 89)]) 534 (X9 P)
def S18:List Stmt:=yd 87 4
theorem g18:GO S18 (nat_lit 46) (Sx Vh (nat_lit 534) (nat_lit 937)) ⟨382,0,382,13⟩ (Sx Vg (nat_lit 535) (nat_lit 952)) ⟨386,0,386,4⟩:=by walk_at"g"
noncomputable def vI(P:Params):List Obj:=[tu [],
pe,
⟨.type "dict",none,.dict #[en P "__module__" 959 (.str "ownbeat.desk" 933),en P "__qualname__" 961 (.str "Desk" 960),en P "__firstlineno__" 963 (.int 387 962),en P "__init__" 970 (.ref 548),en P "say" 980 (.ref 555),en P "names" 987 (.ref 562),en P "__static_attributes__" 989 (.ref 563)] 7,#[]⟩,
tu [],
⟨.none,none,.fields #[.int 389 0,.int 4 0,.ref 547,.int 392 0,.int 4 0,.ref 554,.int 404 0,.int 4 0,.ref 561],#[]⟩,
xk "Desk" 535 952 387,
xf 535 "ownbeat.desk" 933,
tu [],
⟨.none,none,.fields #[],#[]⟩,
tu [.str "self" 967],
tu [],
fo "__init__" "Desk.__init__" (cm (tp 91) 0),
co "__init__" 964 "Desk.__init__" 965 966 389 1 542 543 (.ref 544) (.ref 545) 546 968 969,
fu "__init__" "Desk.__init__" (cm (tp 91) 0) "ownbeat.desk" 933 547,
tu [],
⟨.none,none,.fields #[],#[]⟩,
tu [.str "self" 974,.str "row" 975,.str "words" 976,.str "name" 977],
tu [],
fo "say" "Desk.say" (cm (tp 91) 1),
co "say" 971 "Desk.say" 972 973 392 2 549 550 (.ref 551) (.ref 552) 553 978 979,
fu "say" "Desk.say" (cm (tp 91) 1) "ownbeat.desk" 933 554,
tu [],
⟨.none,none,.fields #[],#[]⟩,
tu [.str "self" 984],
tu [],
fo "names" "Desk.names" (cm (tp 91) 2),
co "names" 981 "Desk.names" 982 983 404 1 556 557 (.ref 558) (.ref 559) 560 985 986,
fu "names" "Desk.names" (cm (tp 91) 2) "ownbeat.desk" 933 561,
tu [.str "codes" 988],
⟨.type "dict",none,.dict #[en P "__module__" 959 (.str "ownbeat.desk" 933),en P "__firstlineno__" 963 (.int 387 962),en P "__init__" 970 (.ref 548),en P "say" 980 (.ref 555),en P "names" 987 (.ref 562),en P "__static_attributes__" 989 (.ref 563),en P "__dict__" 991 (.ref 566),en P "__weakref__" 993 (.ref 567),en P "__doc__" 994 (.none)] 4,#[]⟩,
⟨.type "type",none,.cls ⟨"Desk",[.type "object"],[.ref 565,.type "object"],564,"Desk",true,[],[],false,none,false⟩,#[none,none,some (.str "Desk" 952),some (.str "Desk" 960),some (.builtin "object.__new__"),some (.bool true)]⟩,
⟨.type "getset_descriptor",none,.fields #[.str "__dict__" 990,.ref 565,.builtin "function.__dict__",.builtin "function.__dict__#set"],#[]⟩,
⟨.type "getset_descriptor",none,.fields #[.str "__weakref__" 992,.ref 565,.builtin "ExceptionGroup.__weakref__",.none],#[]⟩,
su 565,
is 565]
noncomputable def Vf(P:Params):BT:=cu (cG (Vg P) [(3,gd P "ownbeat.desk" 933 89 90),
(12,fd 216)]) 535 (vI P)
def S19:List Stmt:=[tp 91]
theorem g19:GO S19 (nat_lit 287) (Sx Vg (nat_lit 535) (nat_lit 952)) ⟨386,0,386,4⟩ (Sx Vf (nat_lit 570) (nat_lit 997)) ⟨387,0,405,33⟩:=by walk_at"g"
noncomputable def iB(P:Params):List Obj:=fz "ownbeat.desk" 933 997 570 [92,93,94,95,96,97,98,299,300]++(fz "law_ownbeat_k64_sent_and_read_at_a_desk" 1061 1063 629 [102])
noncomputable def Ve(P:Params):BT:=cu (cG (Vf P) [(3,gd P "law_ownbeat_k64_sent_and_read_at_a_desk" 1061 99 100),
(12,fd 246)]) 570 (iB P)
def S20:List Stmt:=yd 92 11
theorem g20:GO S20 (nat_lit 298) (Sx Vf (nat_lit 570) (nat_lit 997)) ⟨387,0,405,33⟩ (Sx Ve (nat_lit 636) (nat_lit 1071)) ⟨456,0,459,33⟩:=by walk_at"g"
noncomputable def kI(P:Params):List Obj:=fz "law_ownbeat_k64_sent_and_read_at_a_desk" 1061 1071 636 [103,104,105,106,307,308,309,110,311,112]
noncomputable def Vd(P:Params):BT:=cu (cG (Ve P) [(3,gd P "law_ownbeat_k64_sent_and_read_at_a_desk" 1061 109 110),
(12,fd 276)]) 636 (kI P)
def S21:List Stmt:=yd 103 10
theorem g21:GO S21 (nat_lit 301) (Sx Ve (nat_lit 636) (nat_lit 1071)) ⟨456,0,459,33⟩ (Sx Vd (nat_lit 698) (nat_lit 1159)) ⟨525,0,526,93⟩:=by walk_at"g"
noncomputable def nW(P:Params):List Obj:=fz "law_ownbeat_k64_sent_and_read_at_a_desk" 1061 1159 698 [113,314,115,116,117,118,119]
noncomputable def SU(P:Params):BT:=cu (cG (Vd P) [(3,gd P "law_ownbeat_k64_sent_and_read_at_a_desk" 1061 116 117),
(12,fd 297)]) 698 (nW P)
def S22:List Stmt:=yd 113 7
theorem g22:GO S22 (nat_lit 224) (Sx Vd (nat_lit 698) (nat_lit 1159)) ⟨525,0,526,93⟩ (Sx SU (nat_lit 745) (nat_lit 1230)) ⟨578,0,596,15⟩:=by walk_at"g"
noncomputable def B23(P:Params):List Obj:=[]
noncomputable def T24(P:Params):BT:=cu (cG (SU P) []) 745 (B23 P)
noncomputable def K(P:Params):Frag:=
 (nat_lit 2,⟨.none,none,.dict #[],#[]⟩) ::
(nat_lit 3,gd P "law_ownbeat_k64_sent_and_read_at_a_desk" 1061 116 117) ::
(nat_lit 15,ob (B2 P) 0) ::
(nat_lit 22,tu []) ::
(nat_lit 23,ob (B2 P) 8) ::
(nat_lit 24,be [37,49,68,80,92,104,116,128]) ::
(nat_lit 25,ob (B2 P) 10) ::
(nat_lit 28,tu [.ref 24]) ::
(nat_lit 35,tu []) ::
(nat_lit 36,ob (B3 P) 8) ::
(nat_lit 37,ob (B3 P) 9) ::
(nat_lit 40,tu [.ref 24]) ::
(nat_lit 47,tu []) ::
(nat_lit 48,ob (B4 P) 8) ::
(nat_lit 49,ob (B4 P) 9) ::
(nat_lit 52,tu [.ref 24]) ::
(nat_lit 59,tu []) ::
(nat_lit 61,ob (B5 P) 9) ::
(nat_lit 62,tu []) ::
(nat_lit 64,ob (B5 P) 12) ::
(nat_lit 65,ob (B5 P) 13) ::
(nat_lit 66,ob (B5 P) 14) ::
(nat_lit 67,ob (B5 P) 15) ::
(nat_lit 68,ob (B5 P) 16) ::
(nat_lit 71,tu [.ref 24]) ::
(nat_lit 78,tu []) ::
(nat_lit 79,ob (B6 P) 8) ::
(nat_lit 80,ob (B6 P) 9) ::
(nat_lit 83,tu [.ref 24]) ::
(nat_lit 90,tu []) ::
(nat_lit 91,ob (B7 P) 8) ::
(nat_lit 92,ob (B7 P) 9) ::
(nat_lit 95,tu [.ref 24]) ::
(nat_lit 102,tu []) ::
(nat_lit 103,ob (B8 P) 8) ::
(nat_lit 104,ob (B8 P) 9) ::
(nat_lit 107,tu [.ref 24]) ::
(nat_lit 114,tu []) ::
(nat_lit 115,ob (B9 P) 8) ::
(nat_lit 116,ob (B9 P) 9) ::
(nat_lit 119,tu [.ref 24]) ::
(nat_lit 126,tu []) ::
(nat_lit 127,ob (Gz P) 8) ::
(nat_lit 128,ob (Gz P) 9) ::
(nat_lit 131,tu []) ::
(nat_lit 133,ob (Gz P) 14) ::
(nat_lit 134,tu []) ::
(nat_lit 136,ob (Gz P) 17) ::
(nat_lit 137,ob (Gz P) 18) ::
(nat_lit 138,tu []) ::
(nat_lit 140,ob (Gz P) 21) ::
(nat_lit 141,tu []) ::
(nat_lit 143,ob (Gz P) 24) ::
(nat_lit 144,ob (Gz P) 25) ::
(nat_lit 145,tu []) ::
(nat_lit 148,ob (km P) 3) ::
(nat_lit 149,ob (km P) 4) ::
(nat_lit 150,tu []) ::
(nat_lit 153,ob (km P) 8) ::
(nat_lit 154,ob (km P) 9) ::
(nat_lit 155,tu []) ::
(nat_lit 158,ob (km P) 13) ::
(nat_lit 159,ob (km P) 14) ::
(nat_lit 160,tu []) ::
(nat_lit 162,ob (km P) 17) ::
(nat_lit 163,tu []) ::
(nat_lit 165,ob (km P) 20) ::
(nat_lit 166,ob (km P) 21) ::
(nat_lit 167,tu []) ::
(nat_lit 169,ob (km P) 24) ::
(nat_lit 170,ob (km P) 25) ::
(nat_lit 172,ob (km P) 27) ::
(nat_lit 173,ob (km P) 28) ::
(nat_lit 174,tu []) ::
(nat_lit 176,ob (km P) 31) ::
(nat_lit 177,tu []) ::
(nat_lit 179,ob (km P) 34) ::
(nat_lit 180,ob (km P) 35) ::
(nat_lit 181,tu []) ::
(nat_lit 183,ob (km P) 38) ::
(nat_lit 184,tu []) ::
(nat_lit 186,ob (km P) 41) ::
(nat_lit 187,ob (km P) 42) ::
(nat_lit 188,tu []) ::
(nat_lit 190,ob (km P) 45) ::
(nat_lit 191,tu []) ::
(nat_lit 193,ob (km P) 48) ::
(nat_lit 194,ob (km P) 49) ::
(nat_lit 195,tu []) ::
(nat_lit 197,ob (km P) 52) ::
(nat_lit 198,tu []) ::
(nat_lit 200,ob (km P) 55) ::
(nat_lit 201,ob (km P) 56) ::
(nat_lit 202,tu []) ::
(nat_lit 204,ob (kj P) 2) ::
(nat_lit 205,tu []) ::
(nat_lit 207,ob (kj P) 5) ::
(nat_lit 208,ob (kj P) 6) ::
(nat_lit 209,tu []) ::
(nat_lit 211,ob (kj P) 9) ::
(nat_lit 212,tu []) ::
(nat_lit 214,ob (kj P) 12) ::
(nat_lit 215,ob (kj P) 13) ::
(nat_lit 216,tu []) ::
(nat_lit 218,ob (kj P) 16) ::
(nat_lit 219,tu []) ::
(nat_lit 221,ob (kj P) 19) ::
(nat_lit 222,ob (kj P) 20) ::
(nat_lit 223,tu []) ::
(nat_lit 225,ob (kj P) 23) ::
(nat_lit 226,tu []) ::
(nat_lit 228,ob (kj P) 26) ::
(nat_lit 229,ob (kj P) 27) ::
(nat_lit 230,tu []) ::
(nat_lit 232,ob (kj P) 30) ::
(nat_lit 233,tu []) ::
(nat_lit 235,ob (kj P) 33) ::
(nat_lit 236,ob (kj P) 34) ::
(nat_lit 237,tu []) ::
(nat_lit 240,ob (kj P) 38) ::
(nat_lit 241,ob (kj P) 39) ::
(nat_lit 242,tu []) ::
(nat_lit 244,ob (kj P) 42) ::
(nat_lit 245,tu []) ::
(nat_lit 247,ob (kj P) 45) ::
(nat_lit 248,ob (kj P) 46) ::
(nat_lit 249,tu []) ::
(nat_lit 252,ob (kj P) 50) ::
(nat_lit 253,ob (kj P) 51) ::
(nat_lit 254,tu []) ::
(nat_lit 256,ob (kj P) 54) ::
(nat_lit 257,tu []) ::
(nat_lit 259,ob (kj P) 57) ::
(nat_lit 260,ob (kj P) 58) ::
(nat_lit 261,tu []) ::
(nat_lit 263,ob (kM P) 2) ::
(nat_lit 264,tu []) ::
(nat_lit 266,ob (kM P) 5) ::
(nat_lit 267,ob (kM P) 6) ::
(nat_lit 268,tu []) ::
(nat_lit 270,ob (kM P) 9) ::
(nat_lit 271,tu []) ::
(nat_lit 273,ob (kM P) 12) ::
(nat_lit 274,ob (kM P) 13) ::
(nat_lit 275,tu []) ::
(nat_lit 278,ob (kM P) 17) ::
(nat_lit 279,ob (kM P) 18) ::
(nat_lit 280,tu []) ::
(nat_lit 282,ob (kM P) 21) ::
(nat_lit 283,tu []) ::
(nat_lit 285,ob (kM P) 24) ::
(nat_lit 286,ob (kM P) 25) ::
(nat_lit 287,tu []) ::
(nat_lit 290,ob (kM P) 29) ::
(nat_lit 291,ob (kM P) 30) ::
(nat_lit 292,tu []) ::
(nat_lit 294,ob (kM P) 33) ::
(nat_lit 295,tu []) ::
(nat_lit 297,ob (kM P) 36) ::
(nat_lit 298,ob (kM P) 37) ::
(nat_lit 299,tu []) ::
(nat_lit 301,ob (kM P) 40) ::
(nat_lit 302,tu []) ::
(nat_lit 304,ob (kM P) 43) ::
(nat_lit 305,ob (kM P) 44) ::
(nat_lit 306,tu []) ::
(nat_lit 309,ob (kM P) 48) ::
(nat_lit 310,ob (kM P) 49) ::
(nat_lit 311,tu []) ::
(nat_lit 313,ob (kM P) 52) ::
(nat_lit 314,tu []) ::
(nat_lit 316,ob (kM P) 55) ::
(nat_lit 317,ob (kM P) 56) ::
(nat_lit 318,tu []) ::
(nat_lit 320,ob (kK P) 2) ::
(nat_lit 321,tu []) ::
(nat_lit 323,ob (kK P) 5) ::
(nat_lit 324,ob (kK P) 6) ::
(nat_lit 325,tu []) ::
(nat_lit 327,ob (kK P) 9) ::
(nat_lit 328,tu []) ::
(nat_lit 330,ob (kK P) 12) ::
(nat_lit 331,ob (kK P) 13) ::
(nat_lit 332,tu []) ::
(nat_lit 335,ob (kK P) 17) ::
(nat_lit 336,ob (kK P) 18) ::
(nat_lit 337,tu []) ::
(nat_lit 339,ob (kK P) 21) ::
(nat_lit 340,tu []) ::
(nat_lit 342,ob (kK P) 24) ::
(nat_lit 343,ob (kK P) 25) ::
(nat_lit 344,tu []) ::
(nat_lit 346,ob (kK P) 28) ::
(nat_lit 347,ob (kK P) 29) ::
(nat_lit 349,ob (kK P) 31) ::
(nat_lit 350,ob (kK P) 32) ::
(nat_lit 351,tu []) ::
(nat_lit 353,ob (kK P) 35) ::
(nat_lit 354,tu []) ::
(nat_lit 356,ob (kK P) 38) ::
(nat_lit 357,ob (kK P) 39) ::
(nat_lit 358,tu []) ::
(nat_lit 360,ob (kK P) 42) ::
(nat_lit 361,tu []) ::
(nat_lit 363,ob (kK P) 45) ::
(nat_lit 364,ob (kK P) 46) ::
(nat_lit 365,tu []) ::
(nat_lit 367,ob (kK P) 49) ::
(nat_lit 368,tu []) ::
(nat_lit 370,ob (kK P) 52) ::
(nat_lit 371,ob (kK P) 53) ::
(nat_lit 372,tu []) ::
(nat_lit 374,ob (kS P) 2) ::
(nat_lit 375,tu []) ::
(nat_lit 377,ob (kS P) 5) ::
(nat_lit 378,ob (kS P) 6) ::
(nat_lit 379,tu []) ::
(nat_lit 382,ob (kS P) 10) ::
(nat_lit 383,ob (kS P) 11) ::
(nat_lit 384,tu []) ::
(nat_lit 386,ob (kS P) 14) ::
(nat_lit 387,tu []) ::
(nat_lit 389,ob (kS P) 17) ::
(nat_lit 390,ob (kS P) 18) ::
(nat_lit 391,tu []) ::
(nat_lit 394,ob (kS P) 22) ::
(nat_lit 395,ob (kS P) 23) ::
(nat_lit 396,tu []) ::
(nat_lit 398,ob (kS P) 26) ::
(nat_lit 399,tu []) ::
(nat_lit 401,ob (kS P) 29) ::
(nat_lit 402,ob (kS P) 30) ::
(nat_lit 403,tu []) ::
(nat_lit 405,ob (kS P) 33) ::
(nat_lit 406,tu []) ::
(nat_lit 408,ob (kS P) 36) ::
(nat_lit 409,ob (kS P) 37) ::
(nat_lit 410,tu []) ::
(nat_lit 412,ob (kS P) 40) ::
(nat_lit 413,tu []) ::
(nat_lit 415,ob (kS P) 43) ::
(nat_lit 416,ob (kS P) 44) ::
(nat_lit 417,ob (kS P) 45) ::
(nat_lit 418,tu []) ::
(nat_lit 420,ob (kS P) 48) ::
(nat_lit 421,tu []) ::
(nat_lit 423,ob (kS P) 51) ::
(nat_lit 424,ob (kS P) 52) ::
(nat_lit 425,tu []) ::
(nat_lit 427,ob (lK P) 2) ::
(nat_lit 428,tu []) ::
(nat_lit 430,ob (lK P) 5) ::
(nat_lit 431,ob (lK P) 6) ::
(nat_lit 432,tu []) ::
(nat_lit 434,ob (lK P) 9) ::
(nat_lit 435,tu []) ::
(nat_lit 437,ob (lK P) 12) ::
(nat_lit 438,ob (lK P) 13) ::
(nat_lit 439,tu []) ::
(nat_lit 441,ob (lK P) 16) ::
(nat_lit 442,tu []) ::
(nat_lit 444,ob (lK P) 19) ::
(nat_lit 445,ob (lK P) 20) ::
(nat_lit 446,tu []) ::
(nat_lit 448,ob (lK P) 23) ::
(nat_lit 449,tu []) ::
(nat_lit 451,ob (lK P) 26) ::
(nat_lit 452,ob (lK P) 27) ::
(nat_lit 453,tu []) ::
(nat_lit 455,ob (lK P) 30) ::
(nat_lit 456,tu []) ::
(nat_lit 458,ob (lK P) 33) ::
(nat_lit 459,ob (lK P) 34) ::
(nat_lit 460,tu []) ::
(nat_lit 462,ob (lK P) 37) ::
(nat_lit 463,tu []) ::
(nat_lit 465,ob (lK P) 40) ::
(nat_lit 466,ob (lK P) 41) ::
(nat_lit 467,tu []) ::
(nat_lit 470,ob (lK P) 45) ::
(nat_lit 471,ob (lK P) 46) ::
(nat_lit 472,tu []) ::
(nat_lit 475,ob (lK P) 50) ::
(nat_lit 476,ob (lK P) 51) ::
(nat_lit 477,tu []) ::
(nat_lit 479,ob (kJ P) 2) ::
(nat_lit 480,tu []) ::
(nat_lit 482,ob (kJ P) 5) ::
(nat_lit 483,ob (kJ P) 6) ::
(nat_lit 484,tu []) ::
(nat_lit 487,ob (kJ P) 10) ::
(nat_lit 488,ob (kJ P) 11) ::
(nat_lit 489,tu []) ::
(nat_lit 492,ob (kJ P) 15) ::
(nat_lit 493,ob (kJ P) 16) ::
(nat_lit 494,tu []) ::
(nat_lit 496,ob (kJ P) 19) ::
(nat_lit 497,tu []) ::
(nat_lit 499,ob (kJ P) 22) ::
(nat_lit 500,ob (kJ P) 23) ::
(nat_lit 501,tu []) ::
(nat_lit 503,ob (kJ P) 26) ::
(nat_lit 504,tu []) ::
(nat_lit 506,ob (kJ P) 29) ::
(nat_lit 507,ob (kJ P) 30) ::
(nat_lit 508,tu []) ::
(nat_lit 510,ob (kJ P) 33) ::
(nat_lit 511,tu []) ::
(nat_lit 513,ob (kJ P) 36) ::
(nat_lit 514,ob (kJ P) 37) ::
(nat_lit 515,tu []) ::
(nat_lit 517,ob (kJ P) 40) ::
(nat_lit 518,tu []) ::
(nat_lit 520,ob (kJ P) 43) ::
(nat_lit 521,ob (kJ P) 44) ::
(nat_lit 522,tu []) ::
(nat_lit 525,ob (kJ P) 48) ::
(nat_lit 526,ob (kJ P) 49) ::
(nat_lit 527,tu []) ::
(nat_lit 529,ob (kJ P) 52) ::
(nat_lit 530,tu []) ::
(nat_lit 532,ob (kJ P) 55) ::
(nat_lit 533,ob (kJ P) 56) ::
(nat_lit 534,ob (X9 P) 0) ::
(nat_lit 542,tu []) ::
(nat_lit 544,ob (vI P) 9) ::
(nat_lit 545,tu []) ::
(nat_lit 547,ob (vI P) 12) ::
(nat_lit 548,ob (vI P) 13) ::
(nat_lit 549,tu []) ::
(nat_lit 551,ob (vI P) 16) ::
(nat_lit 552,tu []) ::
(nat_lit 554,ob (vI P) 19) ::
(nat_lit 555,ob (vI P) 20) ::
(nat_lit 556,tu []) ::
(nat_lit 558,ob (vI P) 23) ::
(nat_lit 559,tu []) ::
(nat_lit 561,ob (vI P) 26) ::
(nat_lit 562,ob (vI P) 27) ::
(nat_lit 563,ob (vI P) 28) ::
(nat_lit 564,ob (vI P) 29) ::
(nat_lit 565,ob (vI P) 30) ::
(nat_lit 566,ob (vI P) 31) ::
(nat_lit 567,ob (vI P) 32) ::
(nat_lit 570,tu []) ::
(nat_lit 572,ob (iB P) 2) ::
(nat_lit 573,tu []) ::
(nat_lit 575,ob (iB P) 5) ::
(nat_lit 576,ob (iB P) 6) ::
(nat_lit 577,tu []) ::
(nat_lit 579,ob (iB P) 9) ::
(nat_lit 580,tu []) ::
(nat_lit 582,ob (iB P) 12) ::
(nat_lit 583,ob (iB P) 13) ::
(nat_lit 584,tu []) ::
(nat_lit 586,ob (iB P) 16) ::
(nat_lit 587,tu []) ::
(nat_lit 589,ob (iB P) 19) ::
(nat_lit 590,ob (iB P) 20) ::
(nat_lit 591,tu []) ::
(nat_lit 593,ob (iB P) 23) ::
(nat_lit 594,tu []) ::
(nat_lit 596,ob (iB P) 26) ::
(nat_lit 597,ob (iB P) 27) ::
(nat_lit 598,tu []) ::
(nat_lit 600,ob (iB P) 30) ::
(nat_lit 601,tu []) ::
(nat_lit 603,ob (iB P) 33) ::
(nat_lit 604,ob (iB P) 34) ::
(nat_lit 605,tu []) ::
(nat_lit 607,ob (iB P) 37) ::
(nat_lit 608,tu []) ::
(nat_lit 610,ob (iB P) 40) ::
(nat_lit 611,ob (iB P) 41) ::
(nat_lit 612,tu []) ::
(nat_lit 614,ob (iB P) 44) ::
(nat_lit 615,tu []) ::
(nat_lit 617,ob (iB P) 47) ::
(nat_lit 618,ob (iB P) 48) ::
(nat_lit 619,tu []) ::
(nat_lit 622,ob (iB P) 52) ::
(nat_lit 623,ob (iB P) 53) ::
(nat_lit 624,tu []) ::
(nat_lit 627,ob (iB P) 57) ::
(nat_lit 628,ob (iB P) 58) ::
(nat_lit 629,tu []) ::
(nat_lit 631,ob (iB P) 61) ::
(nat_lit 632,tu []) ::
(nat_lit 634,ob (iB P) 64) ::
(nat_lit 635,ob (iB P) 65) ::
(nat_lit 636,tu []) ::
(nat_lit 638,ob (kI P) 2) ::
(nat_lit 639,tu []) ::
(nat_lit 641,ob (kI P) 5) ::
(nat_lit 642,ob (kI P) 6) ::
(nat_lit 643,tu []) ::
(nat_lit 645,ob (kI P) 9) ::
(nat_lit 646,tu []) ::
(nat_lit 648,ob (kI P) 12) ::
(nat_lit 649,ob (kI P) 13) ::
(nat_lit 650,tu []) ::
(nat_lit 652,ob (kI P) 16) ::
(nat_lit 653,tu []) ::
(nat_lit 655,ob (kI P) 19) ::
(nat_lit 656,ob (kI P) 20) ::
(nat_lit 657,tu []) ::
(nat_lit 659,ob (kI P) 23) ::
(nat_lit 660,tu []) ::
(nat_lit 662,ob (kI P) 26) ::
(nat_lit 663,ob (kI P) 27) ::
(nat_lit 664,tu []) ::
(nat_lit 667,ob (kI P) 31) ::
(nat_lit 668,ob (kI P) 32) ::
(nat_lit 674,tu []) ::
(nat_lit 677,ob (kI P) 41) ::
(nat_lit 678,ob (kI P) 42) ::
(nat_lit 679,tu []) ::
(nat_lit 681,ob (kI P) 45) ::
(nat_lit 682,tu []) ::
(nat_lit 684,ob (kI P) 48) ::
(nat_lit 685,ob (kI P) 49) ::
(nat_lit 686,tu []) ::
(nat_lit 689,ob (kI P) 53) ::
(nat_lit 690,ob (kI P) 54) ::
(nat_lit 691,tu []) ::
(nat_lit 693,ob (kI P) 57) ::
(nat_lit 694,tu []) ::
(nat_lit 696,ob (kI P) 60) ::
(nat_lit 697,ob (kI P) 61) ::
(nat_lit 698,tu []) ::
(nat_lit 700,ob (nW P) 2) ::
(nat_lit 701,tu []) ::
(nat_lit 703,ob (nW P) 5) ::
(nat_lit 704,ob (nW P) 6) ::
(nat_lit 705,tu []) ::
(nat_lit 708,ob (nW P) 10) ::
(nat_lit 709,ob (nW P) 11) ::
(nat_lit 710,tu []) ::
(nat_lit 712,ob (nW P) 14) ::
(nat_lit 713,tu []) ::
(nat_lit 715,ob (nW P) 17) ::
(nat_lit 716,ob (nW P) 18) ::
(nat_lit 717,tu []) ::
(nat_lit 719,ob (nW P) 21) ::
(nat_lit 720,tu []) ::
(nat_lit 722,ob (nW P) 24) ::
(nat_lit 723,ob (nW P) 25) ::
(nat_lit 724,tu []) ::
(nat_lit 726,ob (nW P) 28) ::
(nat_lit 727,tu []) ::
(nat_lit 729,ob (nW P) 31) ::
(nat_lit 730,ob (nW P) 32) ::
(nat_lit 731,tu []) ::
(nat_lit 733,ob (nW P) 35) ::
(nat_lit 734,tu []) ::
(nat_lit 736,ob (nW P) 38) ::
(nat_lit 737,ob (nW P) 39) ::
(nat_lit 738,tu []) ::
(nat_lit 740,ob (nW P) 42) ::
(nat_lit 741,tu []) ::
(nat_lit 743,ob (nW P) 45) ::
(nat_lit 744,ob (nW P) 46)::[]
def V:Program:=view Pw [1,2,3,4,5,6,7,8,9,11,12,13,14,15,16,17,18,19,20,21,22,23,24,25,26,28,29,30,31,32,33,34,35,36,38,39,40,41,42,43,45,46,47,48,49,51,52,53,54,55,56,58,59,60,62,63,64,65,66,67,68,69,70,71,73,74,75,76,77,78,80,81,82,83,84,86,87,88,89,90,91,92,93,94,95,96,97,98,99,100,102,103,104,105,106,107,108,109,110,111,112,113,114,115,116,117,118,119]
noncomputable abbrev hk:Hook:=kmHook K [2,3,15,22,23,24,25,28,35,36,37,40,47,48,49,52,59,61,62,64,65,66,67,68,71,78,79,80,83,90,91,92,95,102,103,104,107,114,115,116,119,126,127,128,131,133,134,136,137,138,140,141,143,144,145,148,149,150,153,154,155,158,159,160,162,163,165,166,167,169,170,172,173,174,176,177,179,180,181,183,184,186,187,188,190,191,193,194,195,197,198,200,201,202,204,205,207,208,209,211,212,214,215,216,218,219,221,222,223,225,226,228,229,230,232,233,235,236,237,240,241,242,244,245,247,248,249,252,253,254,256,257,259,260,261,263,264,266,267,268,270,271,273,274,275,278,279,280,282,283,285,286,287,290,291,292,294,295,297,298,299,301,302,304,305,306,309,310,311,313,314,316,317,318,320,321,323,324,325,327,328,330,331,332,335,336,337,339,340,342,343,344,346,347,349,350,351,353,354,356,357,358,360,361,363,364,365,367,368,370,371,372,374,375,377,378,379,382,383,384,386,387,389,390,391,394,395,396,398,399,401,402,403,405,406,408,409,410,412,413,415,416,417,418,420,421,423,424,425,427,428,430,431,432,434,435,437,438,439,441,442,444,445,446,448,449,451,452,453,455,456,458,459,460,462,463,465,466,467,470,471,472,475,476,477,479,480,482,483,484,487,488,489,492,493,494,496,497,499,500,501,503,504,506,507,508,510,511,513,514,515,517,518,520,521,522,525,526,527,529,530,532,533,534,542,544,545,547,548,549,551,552,554,555,556,558,559,561,562,563,564,565,566,567,570,572,573,575,576,577,579,580,582,583,584,586,587,589,590,591,593,594,596,597,598,600,601,603,604,605,607,608,610,611,612,614,615,617,618,619,622,623,624,627,628,629,631,632,634,635,636,638,639,641,642,643,645,646,648,649,650,652,653,655,656,657,659,660,662,663,664,667,668,674,677,678,679,681,682,684,685,686,689,690,691,693,694,696,697,698,700,701,703,704,705,708,709,710,712,713,715,716,717,719,720,722,723,724,726,727,729,730,731,733,734,736,737,738,740,741,743,744] (λ_=>by kernel_rfl) [345,168]
noncomputable def Hf(P:Params):Heap:=absHeap (T24 P) (nat_lit 745) lf
theorem fin:∀(w:World)(os:OsState),topRun treeTable Pw w (nat_lit 11) an (nat_lit 2) (SharedT.abs ⟨SU w.params,nat_lit 745,lf,#[],⟨0,0,0,0⟩,nat_lit 1230,os⟩) ⟨doneF .next,cd,⟨578,0,596,15⟩,fr⟩=some ⟨Hf w.params,#[],⟨0,0,0,0⟩,nat_lit 1230,os⟩:=by intro w os;rw[abM];kernel_rfl
abbrev RN(R:List Stmt)(M:Nat)(a:World->OsState->SharedT)(p:Pos):Prop:=∀(w:World)(os:OsState),topRun treeTable Pw w (nat_lit 11) an M (a w os).abs (restOf R ev cd p fr)=some ⟨Hf w.params,#[],⟨0,0,0,0⟩,nat_lit 1230,os⟩
theorem GO.cons{S R:List Stmt}{m M:Nat}{a b:World->OsState->SharedT}{p q:Pos}(g:GO S m a p b q)(r:RN R M b q):RN (S++R) (m+M) a p:=λw os=>piece_app (segRun_of (g w os)) (r w os)
theorem rn:RN [] (nat_lit 2) (Sx SU (nat_lit 745) (nat_lit 1230)) ⟨578,0,596,15⟩:=λw os=>piece_nil (fin w os)
theorem run:∀(w:World)(os:OsState),topRun treeTable Pw w (nat_lit 11) an (Nat.add (nat_lit 12) (Nat.add (nat_lit 1) (Nat.add (nat_lit 196) (Nat.add (nat_lit 214) (Nat.add (nat_lit 214) (Nat.add (nat_lit 246) (Nat.add (nat_lit 214) (Nat.add (nat_lit 214) (Nat.add (nat_lit 214) (Nat.add (nat_lit 214) (Nat.add (nat_lit 282) (Nat.add (nat_lit 272) (Nat.add (nat_lit 285) (Nat.add (nat_lit 277) (Nat.add (nat_lit 287) (Nat.add (nat_lit 277) (Nat.add (nat_lit 273) (Nat.add (nat_lit 300) (Nat.add (nat_lit 46) (Nat.add (nat_lit 287) (Nat.add (nat_lit 298) (Nat.add (nat_lit 301) (Nat.add (nat_lit 224) (nat_lit 2)))))))))))))))))))))))) ⟨boot_heap w.params,#[],boot_drawn,boot_toks,os⟩ (topStub Pw)=some ⟨Hf w.params,#[],⟨0,0,0,0⟩,nat_lit 1230,os⟩:=λw os=>(go_top (pre w os) (piece_block (Ge w os) ((GO.cons g2 (GO.cons g3 (GO.cons g4 (GO.cons g5 (GO.cons g6 (GO.cons g7 (GO.cons g8 (GO.cons g9 (GO.cons g10 (GO.cons g11 (GO.cons g12 (GO.cons g13 (GO.cons g14 (GO.cons g15 (GO.cons g16 (GO.cons g17 (GO.cons g18 (GO.cons g19 (GO.cons g20 (GO.cons g21 (GO.cons g22 rn))))))))))))))))))))) w os)))
noncomputable abbrev OS(w:World)(os:OsState):=openSeen V [] (importedModules Pw.main.body) (λs=>xlAt V [] s&&recOk (RowW.records (OpenRow.toRowW Rw.row)) s) true ⟨Hf w.params,#[],⟨0,0,0,0⟩,nat_lit 1230,os⟩
local macro_rules|`(tactic|walk_at"o")=>`(tactic|(intro w os;delta OS;rw[Fast.te4187177175401517315,Fast.te5923862056798008813];kernel_rfl))
theorem Zm:∀(w:World)(os:OsState),(OS w os).1=PyProof.Rows.expectedOf V:=by walk_at"o"
theorem Zl:∀(w:World)(os:OsState),(OS w os).2.1=bltViewBooted:=by walk_at"o"
theorem Zk:∀(w:World)(os:OsState),(OS w os).2.2.1=true:=by walk_at"o"
theorem Ou:∀(w:World)(os:OsState),(OS w os).2.2.2.1=true:=by walk_at"o"
theorem Zj:∀(w:World)(os:OsState),(OS w os).2.2.2.2.1=pinGoodD (PyProof.Rows.drecsOf V):=by walk_at"o"
theorem Zi:∀(w:World)(os:OsState),(OS w os).2.2.2.2.2.1=PyProof.Rows.plainGoodE V (looseW V []):=by walk_at"o"
theorem Zh:∀(w:World)(os:OsState),(OS w os).2.2.2.2.2.2.1=PyProof.Rows.plainGoodD V []:=by walk_at"o"
theorem Zg:∀(w:World)(os:OsState),(OS w os).2.2.2.2.2.2.2.1=wideGood V:=by walk_at"o"
theorem Zf:∀(w:World)(os:OsState),(OS w os).2.2.2.2.2.2.2.2=clsGoodW V []:=by walk_at"o"
theorem Zn:∀(w:World)(os:OsState),(staticsOk (importedModules Pw.main.body) (boot_heap w.params) (Hf w.params)&&namesBound Pw (Hf w.params)&&gensDone ⟨Hf w.params,#[],⟨0,0,0,0⟩,nat_lit 1230,os⟩ && laidKept (boot_heap w.params) (Hf w.params))=true:=by intro w os;rw[Fast.te5923862056798008813];kernel_rfl
theorem Ze:∀(w:World)(os:OsState),Hook.obs hk ⟨Hf w.params,#[],⟨0,0,0,0⟩,nat_lit 1230,os⟩=Hook.val hk w:=by intro w os;kernel_rfl
theorem HL:LeftO (Rw.row).prog V [] (λs=>xlAt V [] s&&recOk (RowW.records (OpenRow.toRowW Rw.row)) s) (Hook.obs hk) (Hook.val hk) 10354:=LeftO.of_pieces (p:=Pw) (H₀:=boot_heap) (H₁:=Hf) (boot_open (p:=Pw) (by kernel_rfl) (by decide) (λ_=>rfl)) (by intro w;kernel_rfl) run (by decide) (λw=>funext λos=>ab8 (Zn w os) (ab8 (ab8 (Zm w os) (ab8 (Zl w os) (ab8 (Zk w os) (ab8 (Ou w os) (ab8 (Zj w os) (ab8 (Zi w os) (ab8 (Zh w os) (ab8 (Zg w os) (Zf w os))))))))) (Ze w os)))
end KH
noncomputable def PySem.W.Fast.tw7716088480045697800:PySem.Program:=PySem.Challenge.pw_ownbeat_k64_sent_and_read_at_a_desk
theorem PySem.W.Fast.te7716088480045697800:PySem.Challenge.pw_ownbeat_k64_sent_and_read_at_a_desk=PySem.W.Fast.tw7716088480045697800:=rfl
noncomputable def PySem.W.Fast.tw6773727612035509792:PySem.W.OpenLaw:=PySem.Challenge.rw_ownbeat_k64_sent_and_read_at_a_desk
theorem PySem.W.Fast.te6773727612035509792:PySem.Challenge.rw_ownbeat_k64_sent_and_read_at_a_desk=PySem.W.Fast.tw6773727612035509792:=rfl
noncomputable def PySem.W.Fast.tw5761066807429076752:PySem.Program:=KH.V
theorem PySem.W.Fast.te5761066807429076752:KH.V=PySem.W.Fast.tw5761066807429076752:=rfl
noncomputable def PySem.W.Fast.tw13718576055750932966:PySem.Params->PySem.W.Frag:=KH.K
theorem PySem.W.Fast.te13718576055750932966:KH.K=PySem.W.Fast.tw13718576055750932966:=rfl
noncomputable def PySem.W.Fast.tw770474345414848920:PySem.Program:=KH.Pw
theorem PySem.W.Fast.te770474345414848920:KH.Pw=PySem.W.Fast.tw770474345414848920:=rfl
noncomputable def PySem.W.Fast.tw14237125333626191895:PySem.W.OpenLaw:=KH.Rw
theorem PySem.W.Fast.te14237125333626191895:KH.Rw=PySem.W.Fast.tw14237125333626191895:=rfl
set_option compiler.extract_closed false
namespace L2
open PySem PySem.Spec PyProof.Rows
abbrev Key:=Sum Int Str
def ou:Key->Value->Bool
 | .inl k,v=>Value.isInt k v
 | .inr x,v=>Value.isStrOf x v
def V5(w:World):Key->Int
 | .inl k=>hashInt k
 | .inr x=>hashStr w x
theorem aZ:∀{k:Key}{v:Value},ou k v=true->(∃i t,k=Sum.inl i/\v=Value.int i t)\/(∃x t,k=Sum.inr x/\v=Value.str x t)
 | .inl i,v,h=>by obtain⟨t,e⟩:=Value.isInt_shape (k:=i) (v:=v) h;exact .inl ⟨i,t,rfl,e⟩
 | .inr x,v,h=>by obtain⟨t,e⟩:=Value.isStrOf_shape (x:=x) (v:=v) h;exact .inr ⟨x,t,rfl,e⟩
theorem A9(i:Int)(t:Tok):ou (.inl i) (.int i t)=true:=by simp[ou,Value.isInt]
theorem A8(x:Str)(t:Tok):ou (.inr x) (.str x t)=true:=by simp[ou,Value.isStrOf]
theorem Nr(a b:Int):decide ((Sum.inl a:Key)=Sum.inl b)=(a == b):=by
 by_cases e:a=b
 ·subst e;simp
 ·have h:¬(Sum.inl a:Key)=Sum.inl b:=λq=>e (Sum.inl.inj q);rw[aaT h];exact(abK.mpr e).symm
theorem Nl(a b:Str):decide ((Sum.inr a:Key)=Sum.inr b)=decide (a=b):=by
 by_cases e:a=b
 ·subst e;simp
 ·have h:¬(Sum.inr a:Key)=Sum.inr b:=λq=>e (Sum.inr.inj q);rw[aaT h,aaT e]
theorem Nq(a:Int)(b:Str):decide ((Sum.inl a:Key)=Sum.inr b)=false:=aaT (λq=>nomatch q)
theorem Np(a:Str)(b:Int):decide ((Sum.inr a:Key)=Sum.inl b)=false:=aaT (λq=>nomatch q)
def bh(prog:Program)(w:World):PySem.KeyKind prog w Key where
 is:=ou
 hash:=V5 w
 inj:=λv a b ha hb=>by
  rcases aZ ha with⟨i,t,rfl,rfl⟩|⟨x,t,rfl,rfl⟩
  ·rcases aZ hb with⟨j,u,rfl,e⟩|⟨y,u,rfl,e⟩
   ·injection e with e1 _;rw[e1]
   ·exact nomatch e
  ·rcases aZ hb with⟨j,u,rfl,e⟩|⟨y,u,rfl,e⟩
   ·exact nomatch e
   ·injection e with e1 _;rw[e1]
 byValue:=λk v h=>by rcases aZ h with⟨i,t,rfl,rfl⟩|⟨x,t,rfl,rfl⟩<;>rfl
 pyHash:=λhv h=>by
  rcases aZ hv with⟨i,t,rfl,rfl⟩|⟨x,t,rfl,rfl⟩
  ·exact wpAny_pyHash_int h
  ·exact wpAny_pyHash_str h
 eqBool:=λhu hv h=>by
  rcases aZ hu with⟨i,t,rfl,rfl⟩|⟨x,t,rfl,rfl⟩
  ·rcases aZ hv with⟨j,u,rfl,rfl⟩|⟨y,u,rfl,rfl⟩
   ·rw[Nr]at h;exact wpAny_eqBool_int h
   ·rw[Nq]at h;exact SeqAt.EqAt.int_str i t y u _ _ _ _ h
  ·rcases aZ hv with⟨j,u,rfl,rfl⟩|⟨y,u,rfl,rfl⟩
   ·rw[Np]at h;exact SeqAt.EqAt.str_int x t j u _ _ _ _ h
   ·rw[Nl]at h;exact wpAny_eqBool_str h
 «strs» := λk x t v h=>by
  rcases aZ h with⟨i,u,rfl,e⟩|⟨y,u,rfl,e⟩
  ·exact nomatch e
  ·injection e with e1 _;subst e1;cases v<;>rfl
theorem u0(prog:Program)(w:World)(i:Int)(t:Tok):(bh prog w).is (.inl i) (.int i t)=true:=A9 i t
theorem uZ(prog:Program)(w:World)(x:Str)(t:Tok):(bh prog w).is (.inr x) (.str x t)=true:=A8 x t
inductive V where
 | bj|bl (b:Bool)|int (i:Int)|str (x:Str)|yi (b:Array UInt8)|SO (b:UInt64)|ref (a:Addr)|ty (n:String)
 deriving DecidableEq
def RelV:V->Value->Prop
 | .bj,u=>u=Value.none
 | .bl b,u=>u=Value.bool b
 | .int i,u=>∃t,u=Value.int i t
 | .str x,u=>∃t,u=Value.str x t
 | .yi b,u=>∃t,u=Value.bytes b t
 | .SO b,u=>∃t,u=Value.float b t
 | .ref a,u=>u=Value.ref a
 | .ty n,u=>u=Value.type n
abbrev Vals:List V->List Value->Prop:=Paired RelV
theorem Vals.length{xs:List V}{us:List Value}(r:Vals xs us):xs.length=us.length:=ab0 r
theorem Vals.get:∀{xs:List V}{us:List Value}{i:Nat}{x:V},Vals xs us->xs[i]? = some x->∃u,us[i]? = some u/\RelV x u
 | _,_,_,_,.nil,e=>by simp at e
 | _,_,0,_,.cons r _,e=>by simp at e;subst e;exact⟨_,rfl,r⟩
 | _,_,i+1,x,.cons _ t,e=>by obtain⟨u,h1,h2⟩:=Vals.get (i:=i) (x:=x) t (by simpa using e);exact⟨u,by simpa using h1,h2⟩
theorem Vals.set{x:V}{u:Value}(r:RelV x u):∀{xs:List V}{us:List Value}(i:Nat),Vals xs us->Vals (xs.set i x) (us.set i u)
 | _,_,_,.nil=>.nil
 | _,_,0,.cons _ t=>.cons r t
 | _,_,i+1,.cons q t=>.cons q (Vals.set r i t)
theorem Vals.append:∀{xs ys:List V}{us ws:List Value},Vals xs us->Vals ys ws->Vals (xs++ys) (us++ws)
 | _,_,_,_,.nil,s=>s
 | _,_,_,_,.cons r t,s=>.cons r (Vals.append t s)
theorem Vals.take:∀{xs:List V}{us:List Value}(n:Nat),Vals xs us->Vals (xs.take n) (us.take n)
 | _,_,0,_=>.nil
 | _,_,_+1,.nil=>.nil
 | _,_,n+1,.cons r t=>.cons r (Vals.take n t)
theorem Vals.drop:∀{xs:List V}{us:List Value}(n:Nat),Vals xs us->Vals (xs.drop n) (us.drop n)
 | _,_,0,r=>r
 | _,_,_+1,.nil=>.nil
 | _,_,n+1,.cons _ t=>Vals.drop n t
def fq:Option V->Option Value->Prop
 | some v,some u=>RelV v u
 | none,none=>True
 | _,_=>False
def KV{κ:Type}:List (κ×V)->List (κ×Value)->Prop:=Paired λ(p:κ×V)(q:κ×Value)=>p.1=q.1/\RelV p.2 q.2
def kV:Key->V
 | .inl i=>.int i
 | .inr x=>.str x
inductive HO where
  | lst (xs:List V)
  | tup (xs:List V)
  | dK (ag:List (Key×V))|dT (ag:List (List Key×V))
  | set (S:Int->Bool) (n:Nat)
  | ins (C dx:Addr) (fs:List (Str×V))
  | own (x:Addr)
  | xd (fs:List (Str×V))
  | met (f x:Addr)
  | Oo (lo hi:Int)
  | eA (o:Obj) (u:HO)
  | eL (ps:Array Value)
  | ext (φ:Heap->Prop)
abbrev Hp:=Addr->Option HO
def upd(H:Hp)(a:Addr)(o:HO):Hp:=λb=>if b=a then some o else H b
theorem aa{H:Hp}{a:Addr}{o:HO}:upd H a o a=some o:=by unfold upd;rw[aaz rfl]
theorem af{H:Hp}{a b:Addr}{o:HO}(h:b≠a):upd H a o b=H b:=by unfold upd;rw[aar h]
theorem dI{H:Hp}{a:Addr}{o u:HO}:upd (upd H a o) a u=upd H a u:=by funext b;unfold upd;split<;>rfl
theorem cc{H:Hp}{a b:Addr}{o u:HO}(h:H a=some o)(h':H b=some u)(d:o≠u):a≠b:=by intro e;subst e;rw[h]at h';exact d (aaw h')
theorem aj{H:Hp}{a b:Addr}{o:HO}(h:H a=some o)(h':H b=none):a≠b:=by intro e;subst e;rw[h]at h';cases h'
section
variable(P:Program)(w:World)
def aS(H:Hp)(h:Heap)(a:Addr):HO->Prop
 | .lst xs=>xs.length<=sizeLine/\∃(its:List Value)(n:Nat),Vals xs its/\h.get? a=some { cls:=.type "list",data:=.seq its.toArray n }
 | .tup xs=>xs.length<=sizeLine/\∃its:List Value,Vals xs its/\IsTup h a its.toArray
 | .dK ag=>ag.length<=sizeLine/\(a == sysModules)=false/\∃vs,KV ag vs/\h.DictOf (bh P w) a vs
 | .dT ag=>ag.length<=sizeLine/\(a == sysModules)=false/\∃xs:List (List Key×Addr×Value),
   Paired (λ(p:List Key×V)(q:List Key×Addr×Value)=>p.1=q.1/\H q.2.1=some (.tup (p.1.map kV))/\RelV p.2 q.2.2) ag xs ∧
   ∃o es ep,h.get? a=some o/\o.ExactDict/\o.data = .dict es ep/\es.toList=xs.map (entryOfKey (tupleKind (bh P w)))/\(xs.map (·.1)).Nodup
 | .set S n=>h.SetOf (intKind P w) a S n
 | .ins C dx fs=>H dx=some (.own a)/\fs.length<=1000/\dx≠a/\h.get? a=some (W.instObj C dx) ∧
   ∃mA,h.Ns1 dx mA/\(∀f,fq (fs.lookup f) (mA f))/\PySem.Within mA (fs.map (·.1))
 | .own _=>∃o,h.get? a=some o
 | .xd fs=>∃mA,h.Ns1 a mA/\∀f,fq (fs.lookup f) (mA f)
 | .Oo lo hi=>∃t u v,h.get? a=some { cls:=.type "range",data:=.fields #[.int lo t,.int hi u,.int 1 v] }
 | .eA o u=>h.get? a=some o/\aS H h a u
 | .eL ps=>h.get? a=some { cls:=.none,data:=.fields ps }
 | .met f x=>h.get? a=some (W.methodObj (.ref f) (.ref x))
 | .ext φ=>φ h/\(∃o,h.get? a=some o)/\∀h1 h2:Heap,φ h1->(∀o,h1.get? a=some o->h2.get? a=some o)->φ h2
def eM(H:Hp)(h:Heap):Prop:=∀a o,H a=some o->aS P w H h a o
end
section
variable{P:Program}{w:World}{H H':Hp}{h h':Heap}{a:Addr}{o:HO}
theorem aS.lt(x:aS P w H h a o):a<h.objs.size:=by
 cases o with
 | lst xs=>obtain⟨_,_,_,_,e⟩:=x;exact aam e
 | tup xs=>obtain⟨_,_,_,p⟩:=x;exact p.lt
 | dK ag=>obtain⟨_,_,_,_,o,_,_,e,_⟩:=x;exact aam e
 | dT ag=>obtain⟨_,_,_,_,o,_,_,e,_⟩:=x;exact aam e
 | set S n=>obtain⟨o,_,_,_,e,_⟩:=x;exact aam e
 | ins C dx fs=>obtain⟨_,_,_,e,_⟩:=x;exact aam e
 | own y=>obtain⟨_,e⟩:=x;exact aam e
 | xd fs=>obtain⟨_,⟨_,_,_,e,_⟩,_⟩:=x;exact aam e
 | Oo lo hi=>obtain⟨_,_,_,e⟩:=x;exact aam e
 | eA ob u=>obtain⟨e,_⟩:=x;exact aam e
 | eL ps=>exact aam (show h.get? a=some _ from x)
 | met f y=>exact aam (show h.get? a=some _ from x)
 | ext φ=>obtain⟨_,⟨_,e⟩,_⟩:=x;exact aam e
theorem Paired.zT{α β:Type}{F G:α->β->Prop}:∀{Ce:List α}{l₂:List β},Paired F Ce l₂->(∀a b,F a b->G a b)->Paired G Ce l₂
 | _,_,.nil,_=>.nil
 | _,_,.cons r t,f=>.cons (f _ _ r) (Paired.zT t f)
theorem aS.dR(x:aS P w H h a o)(k:∀b u,(b=a\/H b=some (.own a))->h.get? b=some u->h'.get? b=some u)(ho:∀b,H b=some (.own a)->H' b=some (.own a))(ht:∀b xs,H b=some (.tup xs)->H' b=some (.tup xs)):aS P w H' h' a o:=by
 induction o with
 | lst xs=>obtain⟨z,its,n,r,e⟩:=x;exact⟨z,its,n,r,k _ _ (.inl rfl) e⟩
 | tup xs=>obtain⟨z,its,r,ob,e,c⟩:=x;exact⟨z,its,r,ob,k _ _ (.inl rfl) e,c⟩
 | dK ag=>obtain⟨z,y,vs,r,ob,es,ep,e,c⟩:=x;exact⟨z,y,vs,r,ob,es,ep,k _ _ (.inl rfl) e,c⟩
 | dT ag=>
  refine az λak=>?_;obtain⟨z,y,xs,r,ob,es,ep,e,c⟩:=x;refine ak ?_;clear ak;exact⟨z,y,xs,Paired.zT r λp q z=>⟨z.1,ht _ _ z.2.1,z.2.2⟩,ob,es,ep,k _ _ (.inl rfl) e,c⟩
 | set S n=>obtain⟨ob,es,ep,t,e,c⟩:=x;exact⟨ob,es,ep,t,k _ _ (.inl rfl) e,c⟩
 | ins C dx fs=>
  refine az λak=>?_;obtain⟨d,z,ne,e,mA,⟨od,es,ep,e2,c⟩,r⟩:=x;refine ak ?_;clear ak;exact⟨ho _ d,z,ne,k _ _ (.inl rfl) e,mA,⟨od,es,ep,k _ _ (.inr d) e2,c⟩,r⟩
 | own y=>obtain⟨ob,e⟩:=x;exact⟨ob,k _ _ (.inl rfl) e⟩
 | xd fs=>obtain⟨mA,⟨od,es,ep,e,c⟩,r⟩:=x;exact⟨mA,⟨od,es,ep,k _ _ (.inl rfl) e,c⟩,r⟩
 | Oo lo hi=>obtain⟨t,u,v,e⟩:=x;exact⟨t,u,v,k _ _ (.inl rfl) e⟩
 | eA ob u ih=>obtain⟨e,q⟩:=x;exact⟨k _ _ (.inl rfl) e,ih q⟩
 | eL ps=>
  have e:h.get? a=some { cls:=.none,data:=.fields ps }:=x;show h'.get? a=some { cls:=.none,data:=.fields ps };exact k a _ (.inl rfl) e
 | met f y=>
  have e:h.get? a=some (W.methodObj (.ref f) (.ref y)):=x;show h'.get? a=some (W.methodObj (.ref f) (.ref y));exact k a _ (.inl rfl) e
 | ext φ=>obtain⟨p,⟨o,e⟩,st⟩:=x;exact⟨st _ _ p λo q=>k _ _ (.inl rfl) q,⟨o,k _ _ (.inl rfl) e⟩,st⟩
theorem eM.lt(x:eM P w H h)(e:H a=some o):a<h.objs.size:=(x a o e).lt
theorem eM.fresh(x:eM P w H h)(e:h.objs.size<=a):H a=none:=by
 cases q:H a with
 | none=>rfl
 | some u=>exact absurd (aaG (x.lt q) e) (abm _)
theorem eM.kept(x:eM P w H h)(k:∀b u,h.get? b=some u->h'.get? b=some u):eM P w H h':=λa o e=>
 (x a o e).dR (λb u _ q=>k b u q) (λ_ q=>q) λ_ _ q=>q
theorem eM.laid(x:eM P w H h)(k:∀b u,h.get? b=some u->h'.get? b=some u)(hp:h.objs.size<=a)(new:aS P w (upd H a o) h' a o):eM P w (upd H a o) h':=λb u e=>by
 have hn:=x.fresh hp;by_cases hb:b=a
 ·subst hb;rw[aa]at e;cases e;exact new
 ·rw[af hb]at e;exact(x b u e).dR (λc v _ q=>k c v q) (λc q=>by rw[af (aj q hn)];exact q) λc xs q=>by rw[af (aj q hn)];exact q
end
def Rd(H:Hp)(a:Addr)(u:HO):Prop:=H a=some u\/∃o,H a=some (.eA o u)
theorem Rd.ok{P:Program}{w:World}{H:Hp}{h:Heap}{a:Addr}{u:HO}(r:Rd H a u)(x:eM P w H h):aS P w H h a u:=by
 rcases r with r|⟨o,r⟩
 ·exact x a u r
 ·obtain⟨_,q⟩:=x a _ r;exact q
def Lb:Option HO->Prop
 | some (.lst _)=>True
 | some (.dK _)=>True
 | some (.dT _)=>True
 | some (.set _ _)=>True
 | some (.ins _ _ _)=>True
 | some (.ext _)=>True
 | _=>False
section
variable{P:Program}{w:World}{H:Hp}{h h':Heap}{x e:Addr}{o':HO}
theorem eM.write(ok:eM P w H h)(mu:Lb (H x))(he:e=x\/H e=some (.own x))(k:∀b u,b≠e->h.get? b=some u->h'.get? b=some u)(OD:∃u,h'.get? e=some u)(new:aS P w (upd H x o') h' x o'):eM P w (upd H x o') h':=λb u q=>by
 have GK:∀c y,H c=some (.own y)->c≠x:=λc y r z=>by subst z;rw[r]at mu;exact mu
 have Lv:∀c xs,H c=some (.tup xs)->c≠x:=λc xs r z=>by subst z;rw[r]at mu;exact mu
 by_cases hb:b=x
 ·subst hb;rw[aa]at q;cases q;exact new
 ·rw[af hb]at q;by_cases K6:b=e
  ·have q':H b=some (.own x):=by
    rcases he with z|z
    ·exact absurd (K6.trans z) hb
    ·rw[K6];exact z
   rw[q]at q';cases q';obtain⟨v,hv⟩:=OD;exact⟨v,by rw[K6];exact hv⟩
  ·refine(ok b u q).dR (λc v hc r=>k c v ?_ r) (λc r=>by rw[af (GK c b r)];exact r) λc xs r=>by rw[af (Lv c xs r)];exact r
   rcases hc with rfl|hc
   ·exact K6
   ·rintro rfl;rcases he with z|z
    ·exact GK c b hc z
    ·rw[hc]at z;cases z;exact hb rfl
end
structure Un(fs ex:List Addr)(H H':Hp)(h h':Heap):Prop where
 keep:∀b o,h.get? b=some o->H b=none->b ∉ fs->b ∉ ex->h'.get? b=some o
 slot:∀b o,h.get? b=some o->H b=none->b∈fs->b ∉ ex->∃sl,h'.get? b=some { o with slots:=sl }
 free:∀b o,h.get? b=some o->H b=none->b ∉ ex->H' b=none
 there:∀b o,h.get? b=some o->b ∉ ex->∃o',h'.get? b=some o'
 jk:∀b xs,H b=some (.tup xs)->H' b=some (.tup xs)
 iE:∀b o u,H b=some (.eA o u)->H' b=some (.eA o u)
 iC:∀b ps,H b=some (.eL ps)->∃more,H' b=some (.eL (ps++more))
section
variable{fs fs' ex ex':List Addr}{H H1 H2:Hp}{h h1 h2 h':Heap}{a x e:Addr}{o:HO}
theorem Un.any(u:Un fs ex H H1 h h1){b:Addr}{ob:Obj}(q:h.get? b=some ob)(n:H b=none)(hx:b ∉ ex):∃sl,h1.get? b=some { ob with slots:=sl }:=by
 by_cases hb:b∈fs
 ·exact u.slot b ob q n hb hx
 ·exact⟨ob.slots,u.keep b ob q n hb hx⟩
theorem Un.kept(k:∀b u,h.get? b=some u->h'.get? b=some u):Un fs ex H H h h':=
 ⟨λb ob q _ _ _=>k b ob q,λb ob q _ _ _=>⟨ob.slots,k b ob q⟩,λ_ _ _ n _=>n,λb ob q _=>⟨ob,k b ob q⟩,λ_ _ q=>q,λ_ _ _ q=>q,λ_ ps q=>⟨#[],by rw[q];simp⟩⟩
theorem Un.refl:Un fs ex H H h h:=Un.kept λ_ _ q=>q
theorem Un.laid(k:∀b u,h.get? b=some u->h'.get? b=some u)(hp:h.objs.size<=a)(hn:H a=none):Un fs ex H (upd H a o) h h' where
 keep:=λb u q _ _ _=>k b u q
 slot:=λb u q _ _ _=>⟨u.slots,k b u q⟩
 free:=λb u q n _=>by rw[af (aaD (aaG (aam q) hp))];exact n
 there:=λb u q _=>⟨u,k b u q⟩
 jk:=λb xs q=>by rw[af (aj q hn)];exact q
 iE:=λb u xs q=>by rw[af (aj q hn)];exact q
 iC:=λb ps q=>⟨#[],by rw[af (aj q hn),q];simp⟩
theorem Un.write(mu:Lb (H x))(he:e=x\/H e=some (.own x))(k:∀b u,b≠e->h.get? b=some u->h'.get? b=some u)(OD:∃u,h'.get? e=some u):Un fs ex H (upd H x o) h h':=by
 have hx:∀b,H b=none->b≠x:=λb n z=>by subst z;rw[n]at mu;exact mu
 have hb:∀b,H b=none->b≠e:=λb n z=>by
  subst z;rcases he with r|r
  ·exact hx b n r
  ·rw[n]at r;cases r
 have hm:∀b u,H b=some u->¬Lb (some u)->b≠x:=λb u q nm z=>by subst z;rw[q]at mu;exact nm mu
 refine⟨λb u q n _ _=>k b u (hb b n) q,λb u q n _ _=>⟨u.slots,k b u (hb b n) q⟩,λb u q n _=>by rw[af (hx b n)];exact n,λb u q _=>?_,
  λb xs q=>by rw[af (hm b _ q λz=>z)];exact q,λb u xs q=>by rw[af (hm b _ q λz=>z)];exact q,λb ps q=>⟨#[],by rw[af (hm b _ q λz=>z),q];simp⟩⟩
 by_cases K6:b=e
 ·subst K6;exact OD
 ·exact⟨u,k b u K6 q⟩
end
def vB(h:Heap)(H:Hp):List Addr:=(List.range h.objs.size).filter λa=>(H a).isSome
def pU(h:Heap)(H:Hp):Heap:=W.hideAll h (vB h H)
theorem Bc(h:Heap)(H:Hp):(pU h H).objs.size=h.objs.size:=W.hideAll_size _ _
theorem i6{h:Heap}{H:Hp}{b:Addr}{o:Obj}(e:h.get? b=some o)(n:H b=none):(pU h H).get? b=some o:=
 W.hideAll_get _ e λhm=>by have q:(H b).isSome=true:=(acy.mp hm).2;rw[n]at q;simp at q
theorem Iu{h:Heap}{H:Hp}{b:Addr}{o:Obj}(e:(pU h H).get? b=some o):h.get? b=some o/\H b=none:=by
 have e':h.get? b=some o:=W.of_hideAll (vB h H) e;refine⟨e',?_⟩;cases q:H b with
 | none=>rfl
 | some x=>
  have hm:b∈vB h H:=acy.mpr ⟨abx.mpr (aam e'),by simp[q]⟩;have z:(pU h H).get? b=none:=W.hideAll_none (vB h H) hm;rw[z]at e;cases e
structure Mod(K:W.Frag)(mg:Str->Option Value)(base:Heap):Prop where
 zG:K.In base
 glob:base.Ns mainGlobals mg
 blt:∃mb,base.Ns builtinsNs mb/\∀x:Str,x≠"__name__"->mb x=bootBuiltins x
 nolimit:base.NoLimit
structure Cx where
 prog:Program
 w:World
 K:W.Frag
 mg:Str->Option Value
 base:Heap
 A:Around
 N:List Str
 cq:Shared
 H₀:Hp
 env:Env
 outer:List Env
 stack:List Env
 ex:List Addr
 fn:Str->Bool
 calm:Bool
 pn:List (Addr×Obj)
 xe:Value->Shared->Prop
def cj(l:List Env):List Addr:=l.filterMap (·.frame)
abbrev Cx.fs(X:Cx):List Addr:=cj X.outer
def PX(sc:Scope)(x:Str):Prop:=sc.names.lookup x=some .local\/sc.names.lookup x=some .cell\/sc.names.lookup x=some .free
def Loc(sc:Scope)(x:Str):Prop:=sc.names.lookup x=some .local\/sc.names.lookup x=some .cell
def Look(env:Env)(h:Heap)(m:Str->Option Value)(x:Str)(u:Value):Prop:=
 (env.kindOf x=some .local/\m x=some u)\/((env.kindOf x=some .cell\/env.kindOf x=some .free)/\∃c,env.cells.lookup x=some c/\h.IsCell c (some u))
structure Cx.Ok(X:Cx):Prop where
 mod:Mod X.K X.mg X.base
 kind:X.env.scope.kind = .function
 glob:X.env.globals=mainGlobals
 blt:X.env.builtins=builtinsNs
 above:X.cq.heap.objs.size<=X.env.locals
 inj:∀x y c,X.env.cells.lookup x=some c->X.env.cells.lookup y=some c->x=y
 has:∀x,(X.env.kindOf x=some .cell\/X.env.kindOf x=some .free)->∃c,X.env.cells.lookup x=some c
 La:∀x c,X.fn x=true->X.env.cells.lookup x=some c->X.cq.heap.objs.size<=c
 hd:X.calm=true->X.A.handled=none
 frames:X.A.frames=some X.stack
 O7:X.stack=X.outer\/(X.stack=X.env::X.outer/\X.env.frame=some X.env.locals)
 PR:∀b∈X.ex,b≠X.env.locals/\∀x c,X.env.cells.lookup x=some c->c≠b
 bs:∀b o,X.base.get? b=some o->X.cq.heap.get? b=some o/\X.H₀ b=none
 BI:X.base.objs.size<=X.cq.heap.objs.size
 zS:∀b o,X.base.get? b=some o->b ∉ X.ex
 Aa:∀b∈X.ex,b ∉ X.fs
 gG:X.cq.heap.FunFrames X.base X.outer
 Gb:∀b∈X.fs,X.H₀ b=none
structure Inv(X:Cx)(pins:List (Addr×Obj))(σ:List (Option V))(H:Hp)(s:Shared):Prop where
 ok:X.Ok
 os:s.os=X.cq.os
 bare:AllBare s.gens
 base:Un X.fs X.ex X.H₀ H X.cq.heap s.heap
 loc:∃m,s.heap.Ns X.env.locals m/\∀(i:Nat)(x:Str)(v:V),X.N[i]? = some x->σ[i]? = some (some v)->PX X.env.scope x->∃u,RelV v u/\Look X.env s.heap m x u
 cell:∀x c,X.env.cells.lookup x=some c->∃v,s.heap.IsCell c v
 free:H X.env.locals=none
 dE:∀x c,X.env.cells.lookup x=some c->H c=none
 pin:∀p∈X.pn++pins,s.heap.get? p.1=some p.2/\H p.1=none/\p.1≠X.env.locals/\p.1 ∉ X.fs/\∀v,p.2.data≠.cell v
 au:eM X.prog X.w H s.heap
 len:σ.length=X.N.length
section
variable{X:Cx}{pins:List (Addr×Obj)}{σ:List (Option V)}{H H':Hp}{s:Shared}{h':Heap}
theorem Cx.Ok.GL(ok:X.Ok){b:Addr}{o:Obj}(e:X.base.get? b=some o):b ∉ X.fs:=λhb=>by have:=(ok.gG.mem hb).1;rw[e]at this;cases this
theorem Inv.bs(I:Inv X pins σ H s):∀b o,X.base.get? b=some o->s.heap.get? b=some o/\H b=none:=λb o e=>
 ⟨I.base.keep b o (I.ok.bs b o e).1 (I.ok.bs b o e).2 (I.ok.GL e) (I.ok.zS b o e),I.base.free b o (I.ok.bs b o e).1 (I.ok.bs b o e).2 (I.ok.zS b o e)⟩
theorem Inv.bk(I:Inv X pins σ H s):∀b o,X.base.get? b=some o->s.heap.get? b=some o:=λb o e=>(I.bs b o e).1
theorem Inv.mod(I:Inv X pins σ H s):Mod X.K X.mg X.base:=I.ok.mod
theorem Inv.fj(I:Inv X pins σ H s):X.K.In s.heap:=I.ok.mod.zG.keeps I.bk
theorem Inv.lt(I:Inv X pins σ H s):X.env.locals<s.heap.objs.size:=let⟨_,hn,_⟩:=I.loc;hn.lt
theorem Inv.sz(I:Inv X pins σ H s):X.cq.heap.objs.size<=s.heap.objs.size:=aaM I.ok.above (abV I.lt)
theorem Inv.V3(I:Inv X pins σ H s){a:Addr}(h:s.heap.objs.size<=a):a ∉ X.fs:=λhb=>by obtain⟨_,o,ho,_⟩:=I.ok.gG.mem hb;exact absurd (aaG (aam ho) (aaM I.sz h)) (abm _)
theorem Inv.BH(I:Inv X pins σ H s):∀x c,X.env.cells.lookup x=some c->c≠X.env.locals:=λx c e z=>by obtain⟨v,o,ho,hd⟩:=I.cell x c e;refine az λak=>?_;obtain⟨m,⟨o',es,ep,nJ,JW,_⟩,_⟩:=I.loc;refine ak ?_;clear ak;rw[z,nJ]at ho;cases ho;rw[JW]at hd;cases hd
theorem Inv.gG(I:Inv X pins σ H s):s.heap.FunFrames X.base X.outer:=by
 have all:∀(l:List Env),(∀b∈cj l,b∈X.fs)->X.cq.heap.FunFrames X.base l->s.heap.FunFrames X.base l:=by
  intro l
  induction l with
  | nil=>intro _ _;trivial
  | cons env r ih=>
   intro hs hl;refine az λak=>?_;obtain⟨hk,⟨L,o,hf,hn,ho,hd⟩,hr⟩:=hl;refine ak ?_;clear ak;have hL:L∈X.fs:=hs L (by unfold cj;rw[ab5,hf];exact aah);obtain⟨sl,e⟩:=I.base.slot L o ho (I.ok.Gb L hL) hL λz=>I.ok.Aa L z hL;exact⟨hk,⟨L,_,hf,hn,e,hd⟩,ih (λb hb=>hs b (by unfold cj;rw[ab5,hf];exact aaf _ hb)) hr⟩
 exact all X.outer (λ_ hb=>hb) I.ok.gG
theorem Inv.stack(I:Inv X pins σ H s):s.heap.FunFrames X.base X.stack:=by
 rcases I.ok.O7 with e|⟨e,hf⟩
 ·rw[e];exact I.gG
 ·rw[e];obtain⟨m,hn,_⟩:=I.loc;refine .cons (by rw[I.ok.kind];decide) hf hn ?_ I.gG;exact acM (aaM I.ok.BI I.ok.above)
theorem Inv.pY(I:Inv X pins σ H s):∀b∈cj X.stack,b∈X.env.locals::X.fs:=λb hb=>by
 rcases I.ok.O7 with e|⟨e,hf⟩
 ·rw[e]at hb;exact aaf _ hb
 ·rw[e]at hb;unfold cj at hb;rw[ab5,hf]at hb;exact hb
theorem Inv.iM(I:Inv X pins σ H s):∀b∈cj X.stack,H b=none:=λb hb=>by
 rcases aau.mp (I.pY b hb)with e|hb
 ·rw[e];exact I.free
 ·obtain⟨_,o,ho,_⟩:=I.ok.gG.mem hb;exact I.base.free b o ho (I.ok.Gb b hb) λz=>I.ok.Aa b z hb
theorem Inv.step{g':Array GenState}{t':Nat}{d':Drawn}{ch:List Addr}(I:Inv X pins σ H s)(sQ:∀b∈ch,(b∈X.ex\/X.cq.heap.objs.size<=b)/\b≠X.env.locals/\(∀x c,X.env.cells.lookup x=some c->c≠b)/\∀p∈X.pn++pins,p.1≠b)(keep:∀b o,b≠X.env.locals->b ∉ X.fs->b ∉ ch->s.heap.get? b=some o->H b=none->h'.get? b=some o)(slot:∀b o,b≠X.env.locals->b∈X.fs->b ∉ ch->s.heap.get? b=some o->H b=none->∃sl,h'.get? b=some { o with slots:=sl })(free:∀b o,b ∉ ch->s.heap.get? b=some o->H b=none->H' b=none)(there:∀b o,b ∉ ch->s.heap.get? b=some o->∃o',h'.get? b=some o')(jk:∀b xs,H b=some (.tup xs)->H' b=some (.tup xs))(iE:∀b o u,H b=some (.eA o u)->H' b=some (.eA o u))(iC:∀b ps,H b=some (.eL ps)->∃more,H' b=some (.eL (ps++more)))(ns:∀m,s.heap.Ns X.env.locals m->h'.Ns X.env.locals m)(au:eM X.prog X.w H' h')(hg:AllBare g'):Inv X pins σ H' { s with heap:=h',gens:=g',drawn:=d',toks:=t' }:=by
 have Xd:∀b o,X.cq.heap.get? b=some o->b≠X.env.locals:=λb o e=>aaD (aaG (aam e) I.ok.above);have Si:∀b o,X.cq.heap.get? b=some o->b ∉ X.ex->b ∉ ch:=λb o e hx hb=>by
  rcases(sQ b hb).1 with z|z
  ·exact hx z
  ·exact absurd (aaG (aam e) z) (abm _)
 have cellK:∀x c,X.env.cells.lookup x=some c->∀v,s.heap.IsCell c v->h'.IsCell c v:=λx c e v ⟨o,ho,hd⟩=>by
  have Pb:c ∉ ch:=λz=>(sQ c z).2.2.1 x c e rfl;by_cases hc:c∈X.fs
  ·obtain⟨sl,q⟩:=slot c o (I.BH x c e) hc Pb ho (I.dE x c e);exact⟨_,q,hd⟩
  ·exact⟨o,keep c o (I.BH x c e) hc Pb ho (I.dE x c e),hd⟩
 refine⟨I.ok,I.os,hg,⟨λb o e n hb hx=>?_,λb o e n hb hx=>?_,λb o e n hx=>?_,λb o e hx=>?_,λb xs e=>jk b xs (I.base.jk b xs e),λb o xs e=>iE b o xs (I.base.iE b o xs e),λb ps e=>?_⟩,?_,λx c e=>?_,?_,λx c e=>?_,λp hp=>?_,au,I.len⟩
 ·exact keep b o (Xd b o e) hb (Si b o e hx) (I.base.keep b o e n hb hx) (I.base.free b o e n hx)
 ·obtain⟨sl,e1⟩:=I.base.slot b o e n hb hx;obtain⟨TH,e2⟩:=slot b _ (Xd b o e) hb (Si b o e hx) e1 (I.base.free b o e n hx);exact⟨TH,e2⟩
 ·obtain⟨o',e1⟩:=I.base.there b o e hx;exact free b o' (Si b o e hx) e1 (I.base.free b o e n hx)
 ·obtain⟨o',e1⟩:=I.base.there b o e hx;exact there b o' (Si b o e hx) e1
 ·obtain⟨m1,e1⟩:=I.base.iC b ps e;obtain⟨m2,e2⟩:=iC b _ e1;exact⟨m1++m2,by rw[e2,Array.append_assoc]⟩
 ·obtain⟨m,hn,hl⟩:=I.loc;refine⟨m,ns m hn,λi x v e1 e2 e3=>?_⟩;obtain⟨u,r,l⟩:=hl i x v e1 e2 e3;refine⟨u,r,?_⟩;rcases l with l|⟨k,c,e,z⟩
  ·exact .inl l
  ·exact .inr ⟨k,c,e,cellK x c e _ z⟩
 ·obtain⟨v,z⟩:=I.cell x c e;exact⟨v,cellK x c e v z⟩
 ·obtain⟨m,⟨o,_,_,ho,_⟩,_⟩:=I.loc;exact free _ o (λz=>(sQ _ z).2.1 rfl) ho I.free
 ·obtain⟨v,o,ho,hd⟩:=I.cell x c e;exact free c o (λz=>(sQ c z).2.2.1 x c e rfl) ho (I.dE x c e)
 ·obtain⟨e,n,ne,nf,d⟩:=I.pin p hp;have Pb:p.1 ∉ ch:=λz=>(sQ p.1 z).2.2.2 p hp rfl;exact⟨keep p.1 p.2 ne nf Pb e n,free p.1 p.2 Pb e n,ne,nf,d⟩
theorem Inv.un{t':Nat}(I:Inv X pins σ H s)(u:Un X.fs [] H H' s.heap h')(au:eM X.prog X.w H' h'):Inv X pins σ H' { s with heap:=h',toks:=t' }:=by
 obtain⟨m,⟨o,es,ep,ho,r⟩,_⟩:=id I.loc;obtain⟨sl,hL⟩:=u.any ho I.free (by simp);exact I.step (g':=s.gens) (d':=s.drawn) (ch:=[]) (λ_ z=>nomatch z) (λb o _ hb _ e n=>u.keep b o e n hb (by simp)) (λb o _ hb _ e n=>u.slot b o e n hb (by simp)) (λb o _ e n=>u.free b o e n (by simp)) (λb o _ e=>u.there b o e (by simp)) u.jk u.iE u.iC (λm' hm=>by obtain⟨o',OP,SQ,nJ,r'⟩:=hm;rw[ho]at nJ;cases nJ;exact⟨_,OP,SQ,hL,r'⟩) au I.bare
theorem Inv.call{g':Array GenState}{t':Nat}{d':Drawn}{ch:List Addr}(I:Inv X pins σ H s)(u:Un (cj X.stack) ch H H' s.heap h')(au:eM X.prog X.w H' h')(hg:AllBare g')(sQ:∀b∈ch,(b∈X.ex\/X.cq.heap.objs.size<=b)/\b≠X.env.locals/\(∀x c,X.env.cells.lookup x=some c->c≠b)/\∀p∈X.pn++pins,p.1≠b):Inv X pins σ H' { s with heap:=h',gens:=g',drawn:=d',toks:=t' }:=by
 obtain⟨m,⟨o,es,ep,ho,r⟩,_⟩:=id I.loc;obtain⟨sl,hL⟩:=u.any ho I.free λz=>(sQ _ z).2.1 rfl;exact I.step (ch:=ch) sQ (λb o hL hb hc e n=>u.keep b o e n (λz=>(aau.mp (I.pY b z)).elim hL hb) hc) (λb o _ _ hc e n=>u.any e n hc) (λb o hc e n=>u.free b o e n hc) (λb o hc e=>u.there b o e hc) u.jk u.iE u.iC (λm' hm=>by obtain⟨o',OP,SQ,nJ,r'⟩:=hm;rw[ho]at nJ;cases nJ;exact⟨_,OP,SQ,hL,r'⟩) au hg
theorem Inv.turned{t':Nat}{it:Addr}(I:Inv X pins σ H s)(k:∀b o,b≠it->s.heap.get? b=some o->h'.get? b=some o)(hn:H it=none)(hL:it≠X.env.locals)(h1:it∈X.ex\/X.cq.heap.objs.size<=it)(h2:∀x c,X.env.cells.lookup x=some c->c≠it)(h3:∀p∈X.pn++pins,p.1≠it):Inv X pins σ H { s with heap:=h',toks:=t' }:=by
 have JR:∀b u,H b=some u->b≠it:=λb u e z=>by rw[z,hn]at e;cases e
 refine I.step (g':=s.gens) (d':=s.drawn) (ch:=[it]) (λb hb=>?_) (λb o _ _ hc e _=>k b o (λz=>hc (by simp[z])) e) (λb o _ _ hc e _=>⟨o.slots,k b o (λz=>hc (by simp[z])) e⟩) (λ_ _ _ _ n=>n)
  (λb o hc e=>⟨o,k b o (λz=>hc (by simp[z])) e⟩) (λ_ _ e=>e) (λ_ _ _ e=>e) (λb ps e=>⟨#[],by rw[e];simp⟩) (λm hm=>?_) (λb u e=>?_) I.bare
 ·have e:b=it:=by simpa using hb
  subst e;exact⟨h1,hL,h2,h3⟩
 ·obtain⟨o,es,ep,ho,r⟩:=hm;exact⟨o,es,ep,k _ o (aa5 hL) ho,r⟩
 ·refine(I.au b u e).dR (λc v hc q=>k c v ?_ q) (λ_ q=>q) λ_ _ q=>q;rcases hc with z|z
  ·rw[z];exact JR b u e
  ·exact JR c _ z
theorem Inv.tok(I:Inv X pins σ H s)(t:Nat):Inv X pins σ H { s with toks:=t }:=I.un (h':=s.heap) (t':=t) Un.refl I.au
theorem Inv.kept{t':Nat}(I:Inv X pins σ H s)(k:∀b u,s.heap.get? b=some u->h'.get? b=some u):Inv X pins σ H { s with heap:=h',toks:=t' }:=I.un (Un.kept k) (I.au.kept k)
theorem Inv.laid{a:Addr}{o:HO}{t':Nat}(I:Inv X pins σ H s)(k:∀b u,s.heap.get? b=some u->h'.get? b=some u)(hp:s.heap.objs.size<=a)(new:aS X.prog X.w (upd H a o) h' a o):Inv X pins σ (upd H a o) { s with heap:=h',toks:=t' }:=I.un (Un.laid k hp (I.au.fresh hp)) (I.au.laid k hp new)
theorem Inv.write{x e:Addr}{o:HO}{t':Nat}(I:Inv X pins σ H s)(mu:Lb (H x))(he:e=x\/H e=some (.own x))(k:∀b u,b≠e->s.heap.get? b=some u->h'.get? b=some u)(OD:∃u,h'.get? e=some u)(new:aS X.prog X.w (upd H x o) h' x o):Inv X pins σ (upd H x o) { s with heap:=h',toks:=t' }:=I.un (Un.write mu he k OD) (I.au.write mu he k OD new)
theorem Inv.rC{Kt:List (Addr×Obj)}(I:Inv X pins σ H s)(h:∀p∈Kt,s.heap.get? p.1=some p.2/\H p.1=none/\p.1≠X.env.locals/\p.1 ∉ X.fs/\∀v,p.2.data≠.cell v):Inv X Kt σ H s:=
 ⟨I.ok,I.os,I.bare,I.base,I.loc,I.cell,I.free,I.dE,λp hp=>(aay.mp hp).elim (λz=>I.pin p (aa7 _ z)) (h p),I.au,I.len⟩
theorem mL{N:List Str}(hN:N.Nodup){i j:Nat}{x:Str}(a:N[i]? = some x)(b:N[j]? = some x):i=j:=by obtain⟨h1,e1⟩:=aaB.mp a;obtain⟨h2,e2⟩:=aaB.mp b;exact(List.getElem_inj hN).mp (e1.trans e2.symm)
theorem An{M:Model}{A:Around}{E:Value->Shared->Prop}{i:Nat}{x:Str}{v:V}{u:Value}{Q:Unit->Shared->Prop}(I:Inv X pins σ H s)(hN:X.N.Nodup)(hi:X.N[i]? = some x)(hx:Loc X.env.scope x)(r:RelV v u)(h:∀s',Inv X pins (σ.set i (some v)) H s'->(∃a,Heap.SameBut a s.heap s'.heap/\(a=X.env.locals\/X.env.cells.lookup x=some a))->Q () s')(hf:X.fn x=true\/X.env.scope.names.lookup x=some .local:=by first|exact .inl rfl|exact .inr rfl|assumption):wpAny M A (storeName X.env x u) Q E s:=by
 obtain⟨m,hn,hl⟩:=id I.loc;have LF:(X.env.scope.kind == .class || (X.env.scope.kind == .module&&X.env.locals != X.env.globals))=false:=by rw[I.ok.kind];rfl
 have GX:i<σ.length:=by rw[I.len];exact(aaB.mp hi).1
 have BH:=I.BH;have tracked:∀{a:Addr}{h':Heap},(∃o,s.heap.get? a=some o/\H a=none)->Heap.SameBut a s.heap h'->eM X.prog X.w H h':=λ{a h'} ha hs b ob e=>by
  obtain⟨_,_,oy⟩:=ha;refine(I.au b ob e).dR (λc w' hc q=>(hs.2 c ?_).trans q) (λ_ q=>q) λ_ _ q=>q;rintro rfl;rcases hc with rfl|hc
  ·rw[oy]at e;cases e
  ·rw[oy]at hc;cases hc
 rcases hx with hk|hk
 ·refine wpAny_storeName_local hk hn (λh' Gq hs=>?_) LF;obtain⟨oL,_,_,Ga,_⟩:=id hn;refine h _ ⟨I.ok,I.os,I.bare,⟨λb o e n hb hx=>?_,λb o e n hb hx=>?_,I.base.free,λb o e hx=>?_,I.base.jk,I.base.iE,I.base.iC⟩,⟨_,Gq,λj y v' e1 e2 e3=>?_⟩,λy c e=>?_,I.free,I.dE,λp hp=>?_,tracked ⟨oL,Ga,I.free⟩ hs,by simpa using I.len⟩ ⟨_,hs,.inl rfl⟩
  ·exact(hs.2 b (aaD (aaG (aam e) I.ok.above))).trans (I.base.keep b o e n hb hx)
  ·obtain⟨sl,e1⟩:=I.base.slot b o e n hb hx;exact⟨sl,(hs.2 b (aaD (aaG (aam e) I.ok.above))).trans e1⟩
  ·obtain⟨o',e1⟩:=I.base.there b o e hx;exact⟨o',(hs.2 b (aaD (aaG (aam e) I.ok.above))).trans e1⟩
  ·by_cases hj:j=i
   ·subst hj;rw[hi]at e1;cases e1;rw[ac3 GX]at e2;cases e2;exact⟨u,r,.inl ⟨hk,by simp⟩⟩
   ·rw[adj (aa5 hj)]at e2;obtain⟨u',r',q⟩:=hl j y v' e1 e2 e3;refine⟨u',r',?_⟩;rcases q with⟨k,e⟩|⟨k,c,e,z⟩
    ·refine .inl ⟨k,?_⟩;have:y≠x:=λe=>hj (mL hN e1 (e▸hi));simp[this,e]
    ·exact .inr ⟨k,c,e,z.sameBut hs (BH y c e)⟩
  ·obtain⟨w',z⟩:=I.cell y c e;exact⟨w',z.sameBut hs (BH y c e)⟩
  ·obtain⟨e,n,ne,nf,d⟩:=I.pin p hp;exact⟨(hs.2 p.1 ne).trans e,n,ne,nf,d⟩
 ·have Pz:X.fn x=true:=by
   rcases hf with z|z
   ·exact z
   ·rw[z]at hk;cases hk
  obtain⟨c,hc⟩:=I.ok.has x (.inl hk);obtain⟨w',z⟩:=I.cell x c hc;refine wpAny_storeName_cell I.ok.kind hk hc z (λh' sR hs=>?_);obtain⟨oc,Xx,Wh⟩:=id z;refine h { s with heap:=h' } ⟨I.ok,I.os,I.bare,⟨λb o e n hb hx=>?_,λb o e n hb hx=>?_,I.base.free,λb o e hx=>?_,I.base.jk,I.base.iE,I.base.iC⟩,⟨m,hn.sameBut hs (aa5 (BH x c hc)),λj y v' e1 e2 e3=>?_⟩,λy c' e=>?_,I.free,I.dE,λp hp=>?_,tracked ⟨oc,Xx,I.dE x c hc⟩ hs,by simpa using I.len⟩ ⟨c,hs,.inr hc⟩
  ·exact(hs.2 b (aaD (aaG (aam e) (I.ok.La x c Pz hc)))).trans (I.base.keep b o e n hb hx)
  ·obtain⟨sl,e1⟩:=I.base.slot b o e n hb hx;exact⟨sl,(hs.2 b (aaD (aaG (aam e) (I.ok.La x c Pz hc)))).trans e1⟩
  ·obtain⟨o',e1⟩:=I.base.there b o e hx;exact⟨o',(hs.2 b (aaD (aaG (aam e) (I.ok.La x c Pz hc)))).trans e1⟩
  ·by_cases hj:j=i
   ·subst hj;rw[hi]at e1;cases e1;rw[ac3 GX]at e2;cases e2;exact⟨u,r,.inr ⟨.inl hk,c,hc,sR⟩⟩
   ·rw[adj (aa5 hj)]at e2;obtain⟨u',r',q⟩:=hl j y v' e1 e2 e3;refine⟨u',r',?_⟩;rcases q with q|⟨k,c',e,z'⟩
    ·exact .inl q
    ·refine .inr ⟨k,c',e,z'.sameBut hs ?_⟩;rintro rfl;exact hj (mL hN e1 (I.ok.inj _ _ _ e hc▸hi))
  ·by_cases SD:c'=c
   ·subst SD;exact⟨_,sR⟩
   ·obtain⟨w2,z2⟩:=I.cell y c' e;exact⟨w2,z2.sameBut hs SD⟩
  ·obtain⟨e,n,ne,nf,d⟩:=I.pin p hp;refine⟨(hs.2 p.1 ?_).trans e,n,ne,nf,d⟩;intro q;rw[q,Xx]at e;have q':oc=p.2:=aaw e;exact d w' (by rw[<-q'];exact Wh)
theorem iX{M:Model}{A:Around}{E:Value->Shared->Prop}{i:Nat}{x:Str}{v:V}{u:Value}{Q:Unit->Shared->Prop}(I:Inv X pins σ H s)(hN:X.N.Nodup)(hi:X.N[i]? = some x)(hx:Loc X.env.scope x)(r:RelV v u)(h:∀s',Inv X pins (σ.set i (some v)) H s'->Q () s')(hf:X.fn x=true\/X.env.scope.names.lookup x=some .local:=by first|exact .inl rfl|exact .inr rfl|assumption):wpAny M A (storeName X.env x u) Q E s:=
 An I hN hi hx r (λs' I' _=>h s' I') hf
theorem Inv.yB{s':Shared}{ch:List Addr}(I:Inv X pins σ H s)(ho:s'.os=s.os)(u:Un (cj X.stack) ch H H' s.heap s'.heap)(au:eM X.prog X.w H' s'.heap)(hg:AllBare s'.gens)(sQ:∀b∈ch,(b∈X.ex\/X.cq.heap.objs.size<=b)/\b≠X.env.locals/\(∀x c,X.env.cells.lookup x=some c->c≠b)/\∀p∈X.pn++pins,p.1≠b):Inv X pins σ H' s':=by obtain⟨h',g',d',t',o'⟩:=s';have e:o'=s.os:=ho;subst e;exact I.call (g':=g') (t':=t') (d':=d') u au hg sQ
end
abbrev XK:=Value->Option Addr->Hp->Prop
abbrev St:=List (Option V)
abbrev VK:=V->Hp->Prop
abbrev TE:=St->Hp->VK->Prop
abbrev TT:=St->Hp->(Bool->Hp->Prop)->Prop
abbrev TA:=St->Hp->(List V->Hp->Prop)->Prop
structure Ends where
 nx:St->Hp->Prop
 rt:VK
 bk:St->Hp->Prop:=λ_ _=>False
 ct:St->Hp->Prop:=λ_ _=>False
abbrev TS:=Ends->St->Hp->Prop
def EP(X:Cx)(pins:List (Addr×Obj))(σ:St)(Q:VK)(u:Value)(s':Shared):Prop:=∃v H',Inv X pins σ H' s'/\RelV v u/\Q v H'
def TP(X:Cx)(pins:List (Addr×Obj))(σ:St)(Q:Bool->Hp->Prop)(b:Bool)(s':Shared):Prop:=∃H',Inv X pins σ H' s'/\Q b H'
def AP(X:Cx)(pins:List (Addr×Obj))(σ:St)(Q:List V->Hp->Prop)(us:List Value)(s':Shared):Prop:=∃vs H',Inv X pins σ H' s'/\Vals vs us/\Q vs H'
def SP(X:Cx)(pins:List (Addr×Obj))(D:Ends)(f:Flow)(s':Shared):Prop:=
 match f with
 | .next=>∃aX H',Inv X pins aX H' s'/\D.nx aX H'
 | .brk=>∃aX H',Inv X pins aX H' s'/\D.bk aX H'
 | .cont=>∃aX H',Inv X pins aX H' s'/\D.ct aX H'
 | .ret u=>∃v aX H',Inv X pins aX H' s'/\RelV v u/\D.rt v H'
def PE(X:Cx)(e:Expr)(t:TE):Prop:=
 ∀(pins:List (Addr×Obj))(s:Shared)(σ:St)(H:Hp)(Q:VK),Inv X pins σ H s->t σ H Q->wpAny (model X.prog X.w) X.A (eval e X.env) (EP X pins σ Q) X.xe s
def PT(X:Cx)(e:Expr)(t:TT):Prop:=
 ∀(pins:List (Addr×Obj))(s:Shared)(σ:St)(H:Hp)(Q:Bool->Hp->Prop),Inv X pins σ H s->t σ H Q->wpAny (model X.prog X.w) X.A (isTrue e X.env (eval e X.env)) (TP X pins σ Q) X.xe s
def PW(X:Cx)(e:Expr)(t:TT):Prop:=
 ∀(whole:Sem Value)(pins:List (Addr×Obj))(s:Shared)(σ:St)(H:Hp)(Q:Bool->Hp->Prop),Inv X pins σ H s->t σ H Q->wpAny (model X.prog X.w) X.A (isTrue e X.env whole) (TP X pins σ Q) X.xe s
theorem PW.pt{X:Cx}{e:Expr}{t:TT}(h:PW X e t):PT X e t:=h _
def PA(X:Cx)(es:List Expr)(t:TA):Prop:=
 ∀(pos:Pos)(pins:List (Addr×Obj))(s:Shared)(σ:St)(H:Hp)(Q:List V->Hp->Prop),Inv X pins σ H s->t σ H Q->wpAny (model X.prog X.w) X.A (spliced (backTo pos (starEach es X.env))) (AP X pins σ Q) X.xe s
def PS(X:Cx)(st:Stmt)(t:TS):Prop:=
 ∀(pins:List (Addr×Obj))(s:Shared)(σ:St)(H:Hp)(D:Ends),Inv X pins σ H s->t D σ H->wpAny (model X.prog X.w) X.A (exec st X.env) (SP X pins D) X.xe s
def nL(X:Cx)(st:List Stmt)(t:TS):Prop:=
 ∀(pins:List (Addr×Obj))(s:Shared)(σ:St)(H:Hp)(D:Ends),Inv X pins σ H s->t D σ H->wpAny (model X.prog X.w) X.A (execs st X.env) (SP X pins D) X.xe s
theorem ba{α:Type}{t:Sem α}{Q Q':α->Shared->Prop}{M:Model}{A:Around}{E:Value->Shared->Prop}{s:Shared}(h:wpAny M A t Q E s)(hQ:∀a s,Q a s->Q' a s):wpAny M A t Q' E s:=abd h hQ λ_ _ x=>x
section
variable{X:Cx}
def VF(i:Nat):TE:=λσ H Q=>∃v,σ[i]? = some (some v)/\Q v H
def tC(v:V):TE:=λ_ H Q=>Q v H
theorem Mo{i:Nat}{x:Str}{pos:Pos}(hN:X.N[i]? = some x)(hv:PX X.env.scope x)(hd:(x == ("__debug__" : Str))=false:=by decide)(gW:(x == ("__classdict__" : Str))=false:=by decide):PE X (.Name x pos) (VF i):=by
 intro pins s σ H Q I h;obtain⟨v,e,h⟩:=h;obtain⟨m,hn,hl⟩:=I.loc;obtain⟨u,r,l⟩:=hl i x v hN e hv;have fin:EP X pins σ Q u s:=⟨v,H,I,r,h⟩
 rcases l with⟨hk,hm⟩|⟨hk,c,hc,ko⟩
 ·exact wpAny_Name (wpAny_loadName_local I.ok.kind hk hn hm fin) hd
 ·rcases hk with hk|hk
  ·exact wpAny_Name (wpAny_loadName_cell I.ok.kind hk hc ko fin) hd
  ·exact wpAny_Name (wpAny_loadName_free I.ok.kind hk hc ko fin gW) hd
theorem DE{i j pos}:PE X (.Constant (.int i) j pos) (tC (.int i)):=λ_ _ _ H _ I h=>wpAny_Constant_int ⟨.int i,H,I.tok _,⟨_,rfl⟩,h⟩
theorem Q7{b j pos}:PE X (.Constant (.bool b) j pos) (tC (.bl b)):=λ_ _ _ H _ I h=>Constant_bool ⟨.bl b,H,I,rfl,h⟩
theorem Mt{j pos}:PE X (.Constant .none j pos) (tC .bj):=λ_ _ _ H _ I h=>Constant_none ⟨.bj,H,I,rfl,h⟩
theorem Mq{x j pos}:PE X (.Constant (.str x) j pos) (tC (.str x)):=λ_ _ _ H _ I h=>Calls.Constant_str ⟨.str x,H,I.tok _,⟨_,rfl⟩,h⟩
def Gl(X:Cx)(x:Str):Prop:=X.env.kindOf x=some .globalImplicit
theorem cM{E:Value->Shared->Prop}{pins:List (Addr×Obj)}{s:Shared}{σ:St}{H:Hp}{x:Str}{u:Value}{pos:Pos}{Q:Value->Shared->Prop}(I:Inv X pins σ H s)(hg:Gl X x)(hm:X.mg x=some u)(h:Q u s)(hd:(x == ("__debug__" : Str))=false:=by decide):wpAny (model X.prog X.w) X.A (eval (.Name x pos) X.env) Q E s:=
 Calls.Name_function_global I.ok.kind hg (Calls.loadGlobal_global (by rw[I.ok.glob];exact I.mod.glob.keeps I.bk) hm h) hd
theorem jv{E:Value->Shared->Prop}{pins:List (Addr×Obj)}{s:Shared}{σ:St}{H:Hp}{x:Str}{u:Value}{pos:Pos}{Q:Value->Shared->Prop}(I:Inv X pins σ H s)(hg:Gl X x)(hm:X.mg x=none)(hv:bootBuiltins x=some u)(h:Q u s)(hn:x≠"__name__" := by decide)(hd:(x == ("__debug__" : Str))=false:=by decide):wpAny (model X.prog X.w) X.A (eval (.Name x pos) X.env) Q E s:=by obtain⟨mb,h1,h2⟩:=I.mod.blt;exact Calls.Name_function_global I.ok.kind hg (Calls.loadGlobal_builtin (by rw[I.ok.glob];exact I.mod.glob.keeps I.bk) hm (by rw[I.ok.blt];exact h1.keeps I.bk) ((h2 x hn).trans hv) h) hd
theorem lr{x:Str}{v:V}{u:Value}{pos:Pos}(hg:Gl X x)(hm:X.mg x=some u)(r:RelV v u)(hd:(x == ("__debug__" : Str))=false:=by decide):PE X (.Name x pos) (tC v):=
 λ_ _ _ H _ I h=>cM I hg hm ⟨v,H,I,r,h⟩ hd
theorem zb{x:Str}{v:V}{u:Value}{pos:Pos}(hg:Gl X x)(hm:X.mg x=none)(hv:bootBuiltins x=some u)(r:RelV v u)(hn:x≠"__name__" := by decide)(hd:(x == ("__debug__" : Str))=false:=by decide):PE X (.Name x pos) (tC v):=
 λ_ _ _ H _ I h=>jv I hg hm hv ⟨v,H,I,r,h⟩ hn hd
variable{a b:Expr}{ta tb:TE}{pos:Pos}
variable{tA Sa:TT}{rest:List Expr}
def Lf(t u:TT):TT:=λσ H Q=>t σ H λc H1=>if c=true then u σ H1 Q else Q false H1
def R9(t u:TT):TT:=λσ H Q=>t σ H λc H1=>if c=true then Q true H1 else u σ H1 Q
def P4(t:TT):TT:=λσ H Q=>t σ H λc H1=>Q (!c) H1
theorem pw_and1(ha:PT X a tA):PW X (.BoolOp .And [a] pos) tA:=by
 intro wh pins s σ H Q I h;refine isTrue_and (ba (ha pins s σ H Q I h) λc s1 e=>?_);cases c with
 | true=>exact isTrue_and_nil e
 | false=>exact e
theorem pw_or1(ha:PT X a tA):PW X (.BoolOp .Or [a] pos) tA:=by
 intro wh pins s σ H Q I h;refine isTrue_or (ba (ha pins s σ H Q I h) λc s1 e=>?_);cases c with
 | false=>exact isTrue_or_nil e
 | true=>exact e
theorem pw_and(ha:PT X a tA)(hb:PW X (.BoolOp .And (b::rest) pos) Sa):PW X (.BoolOp .And (a::b::rest) pos) (Lf tA Sa):=by
 intro wh pins s σ H Q I h;refine isTrue_and (ba (ha pins s σ H _ I h) λc s1 ⟨H1,I1,q1⟩=>?_);cases c with
 | true=>exact hb wh pins s1 σ H1 Q I1 q1
 | false=>exact⟨H1,I1,q1⟩
theorem pw_or(ha:PT X a tA)(hb:PW X (.BoolOp .Or (b::rest) pos) Sa):PW X (.BoolOp .Or (a::b::rest) pos) (R9 tA Sa):=by
 intro wh pins s σ H Q I h;refine isTrue_or (ba (ha pins s σ H _ I h) λc s1 ⟨H1,I1,q1⟩=>?_);cases c with
 | true=>exact⟨H1,I1,q1⟩
 | false=>exact hb wh pins s1 σ H1 Q I1 q1
theorem Md(ha:PT X a tA):PT X (.UnaryOp .Not a pos) (P4 tA):=by intro pins s σ H Q I h;exact isTrue_not (ha pins s σ H (λc H1=>Q (!c) H1) I h)
theorem Ms{op}{t:TE}(h:PE X a t):PE X (.BoolOp op [a] pos) t:=λpins s σ H Q I hw=>BoolOp_one (h pins s σ H Q I hw)
def Yu(t:TT)(ta tb:TE):TE:=λσ H Q=>t σ H λc H1=>if c=true then ta σ H1 Q else tb σ H1 Q
theorem mH{c:Expr}(hc:PT X c tA)(ha:PE X a ta)(hb:PE X b tb):PE X (.IfExp c a b pos) (Yu tA ta tb):=by
 intro pins s σ H Q I h;refine wpAny_IfExp (ba (hc pins s σ H _ I h) λd s1 ⟨H1,I1,q1⟩=>?_);cases d with
 | true=>exact ha pins s1 σ H1 Q I1 q1
 | false=>exact hb pins s1 σ H1 Q I1 q1
end
def aN(K:W.Frag)(H:Hp)(a:Addr)(xs:List V):Prop:=
 Rd H a (.lst xs) ∨
  ∃(o:Obj)(its:Array Value)(n:Nat),K.lookup a=some o/\o.cls = .type "list"/\o.dict=none/\o.data = .seq its n/\its.size<=sizeLine/\Vals xs its.toList
def pQ(K:W.Frag)(H:Hp)(a:Addr)(xs:List V):Prop:=
 Rd H a (.tup xs) ∨
  ∃(o:Obj)(its:Array Value)(n:Nat),K.lookup a=some o/\o.cls = .type "tuple"/\o.data = .seq its n/\its.size<=sizeLine/\Vals xs its.toList
def WG:Value->Option V
 | .none=>some .bj
 | .bool b=>some (.bl b)
 | .int i _=>some (.int i)
 | .str x _=>some (.str x)
 | .bytes b _=>some (.yi b)
 | .float b _=>some (.SO b)
 | .ref a=>some (.ref a)
 | .type n=>some (.ty n)
 | _=>none
theorem RelV.abs{x:V}{u:Value}(r:RelV x u):WG u=some x:=by
 cases x with
 | bj=>cases r;rfl
 | bl _=>cases r;rfl
 | int _=>obtain⟨t,rfl⟩:=r;rfl
 | str _=>obtain⟨t,rfl⟩:=r;rfl
 | yi _=>obtain⟨t,rfl⟩:=r;rfl
 | SO _=>obtain⟨t,rfl⟩:=r;rfl
 | ref _=>cases r;rfl
 | ty _=>cases r;rfl
theorem RelV.inj{x y:V}{u:Value}(r:RelV x u)(q:RelV y u):x=y:=aaw (r.abs.symm.trans q.abs)
theorem Vals.inj:∀{xs ys:List V}{us:List Value},Vals xs us->Vals ys us->xs=ys
 | _,_,_,.nil,.nil=>rfl
 | _,_,_,.cons r t,.cons r' t'=>by rw[r.inj r',Vals.inj t t']
section
variable{X:Cx}{pins:List (Addr×Obj)}{σ:St}{H:Hp}{s:Shared}{a:Addr}{xs ys:List V}
theorem aN.of{K:W.Frag}(h:H a=some (.lst xs)):aN K H a xs:=.inl (.inl h)
theorem pQ.of{K:W.Frag}(h:H a=some (.tup xs)):pQ K H a xs:=.inl (.inl h)
theorem Inv.list(I:Inv X pins σ H s)(h:aN X.K H a xs):∃its:List Value,Vals xs its/\PlainL s.heap a its.toArray/\xs.length<=sizeLine:=by
 rcases h with h|⟨o,its,n,hk,hc,hd,hs,hz,r⟩
 ·obtain⟨z,its,n,r,e⟩:=h.ok I.au;exact⟨its,r,⟨_,n,e,rfl,rfl,rfl⟩,z⟩
 ·refine⟨its.toList,r,⟨o,n,I.fj a o hk,hc,hd,by simpa using hs⟩,?_⟩;have e:=r.length;simp only[abg]at e;omega
theorem Inv.tuple(I:Inv X pins σ H s)(h:pQ X.K H a xs):∃its:List Value,Vals xs its/\IsTup s.heap a its.toArray/\xs.length<=sizeLine:=by
 rcases h with h|⟨o,its,n,hk,hc,hs,hz,r⟩
 ·obtain⟨z,its,r,p⟩:=h.ok I.au;exact⟨its,r,p,z⟩
 ·refine⟨its.toList,r,⟨o,I.fj a o hk,hc,n,by simpa using hs⟩,?_⟩;have e:=r.length;simp only[abg]at e;omega
theorem Inv.uC(I:Inv X pins σ H s)(h:aN X.K H a xs)(h':aN X.K H a ys):xs=ys:=by
 refine az λak=>?_;obtain⟨its,r,⟨o,n,e,_,_,d⟩,_⟩:=I.list h;obtain⟨its',r',⟨o',n',e',_,_,d'⟩,_⟩:=I.list h';refine ak ?_;clear ak;rw[e]at e';cases e';rw[d]at d';injection d' with d1 _;have:its=its':=by simpa using aaX Array.toList d1
 subst this;exact r.inj r'
end
abbrev Cx.jj(X:Cx)(E:Value->Shared->Prop):Cx:={ X with xe:=E }
abbrev Cx.vp(X:Cx):Cx:=X.jj λ_ _=>False
theorem Cx.Ok.jj{X:Cx}(ok:X.Ok)(E:Value->Shared->Prop):(X.jj E).Ok:=
 ⟨ok.mod,ok.kind,ok.glob,ok.blt,ok.above,ok.inj,ok.has,ok.La,ok.hd,ok.frames,ok.O7,ok.PR,ok.bs,ok.BI,ok.zS,ok.Aa,ok.gG,ok.Gb⟩
theorem Cx.Ok.cW{X:Cx}{E:Value->Shared->Prop}(ok:(X.jj E).Ok):X.Ok:=
 ⟨ok.mod,ok.kind,ok.glob,ok.blt,ok.above,ok.inj,ok.has,ok.La,ok.hd,ok.frames,ok.O7,ok.PR,ok.bs,ok.BI,ok.zS,ok.Aa,ok.gG,ok.Gb⟩
section
variable{X:Cx}{pins:List (Addr×Obj)}{σ:St}{H:Hp}{s:Shared}{E:Value->Shared->Prop}
theorem Inv.jj(I:Inv X pins σ H s)(E:Value->Shared->Prop):Inv (X.jj E) pins σ H s:=⟨I.ok.jj E,I.os,I.bare,I.base,I.loc,I.cell,I.free,I.dE,I.pin,I.au,I.len⟩
theorem Inv.cW(I:Inv (X.jj E) pins σ H s):Inv X pins σ H s:=⟨I.ok.cW,I.os,I.bare,I.base,I.loc,I.cell,I.free,I.dE,I.pin,I.au,I.len⟩
theorem SP.cW{D:Ends}{f:Flow}{s':Shared}(h:SP (X.jj E) pins D f s'):SP X pins D f s':=by
 cases f with
 | next=>obtain⟨aX,H',I,q⟩:=h;exact⟨aX,H',I.cW,q⟩
 | brk=>obtain⟨aX,H',I,q⟩:=h;exact⟨aX,H',I.cW,q⟩
 | cont=>obtain⟨aX,H',I,q⟩:=h;exact⟨aX,H',I.cW,q⟩
 | ret u=>obtain⟨v,aX,H',I,r,q⟩:=h;exact⟨v,aX,H',I.cW,r,q⟩
theorem PE.vp{e:Expr}{t:TE}(h:PE X.vp e t):PE X e t:=λpins s σ H Q I hw=>
 abd (h pins s σ H Q (I.jj _) hw) (λ_ _ ⟨v,H',I',r,q⟩=>⟨v,H',I'.cW,r,q⟩) λ_ _ z=>False.elim z
theorem nL.vp{st:List Stmt}{t:TS}(h:nL X.vp st t):nL X st t:=λpins s σ H D I hw=>
 abd (h pins s σ H D (I.jj _) hw) (λ_ _ q=>q.cW) λ_ _ z=>False.elim z
end
section
variable{X:Cx}{st:Stmt}{rest:List Stmt}{t u:TS}{e:Expr}{te:TE}{pos:Pos}
def bu:TS:=λD σ H=>D.nx σ H
def gX(t u:TS):TS:=λD σ H=>t { D with nx:=u D } σ H
theorem HD:nL X [] bu:=λ_ _ σ H _ I h=>acz ⟨σ,H,I,h⟩
theorem mG(h1:PS X st t)(h2:nL X rest u):nL X (st::rest) (gX t u):=by
 intro pins s σ H D I h;refine wpAny_execs_cons (ba (h1 pins s σ H { D with nx:=u D } I h) λf s1 q=>?_);cases f with
 | next=>
  obtain⟨aX,H',I',q⟩:=q;exact h2 pins s1 aX H' D I' q
 | ret v=>exact q
 | brk=>exact q
 | cont=>exact q
theorem lq(h1:PS X st t):nL X [st] t:=by
 intro pins s σ H D I h;refine wpAny_execs_cons (ba (h1 pins s σ H D I h) λf s1 q=>?_);cases f with
 | next=>exact acz q
 | ret v=>exact q
 | brk=>exact q
 | cont=>exact q
theorem Inv.quiet{pins:List (Addr×Obj)}{σ:St}{H:Hp}{s:Shared}(I:Inv X pins σ H s):interactive X.env=false:=by simp[interactive,I.ok.kind]
def J9(te:TE):TS:=λD σ H=>te σ H λ_ H1=>D.nx σ H1
theorem HE(he:PE X e te)(hs:swapsWith e none pos.line X.env=pure false:=by rfl):PS X (.Expr e pos) (J9 te):=by intro pins s σ H D I h;exact wpAny_Expr_any (ba (he pins s σ H _ I h) λv s1 ⟨x,H1,I1,r1,q1⟩=>⟨σ,H1,I1,q1⟩) I.quiet hs
def zM(te:TE):TS:=λD σ H=>te σ H D.rt
theorem DB(he:PE X e te):PS X (.Return (some e) pos) (zM te):=by intro pins s σ H D I h;exact wpAny_Return_some (ba (he pins s σ H _ I h) λv s1 ⟨x,H1,I1,r1,q1⟩=>⟨x,σ,H1,I1,r1,q1⟩)
def fk(c:TT)(t u:TS):TS:=λD σ H=>c σ H λb H1=>if b=true then t D σ H1 else u D σ H1
theorem Q2{c:Expr}{a b:List Stmt}{tc:TT}(hc:PT X c tc)(ha:nL X a t)(hb:nL X b u):PS X (.If c a b pos) (fk tc t u):=by
 intro pins s σ H D I h;refine wpAny_If (ba (hc pins s σ H _ I h) λd s1 ⟨H1,I1,q1⟩=>?_);cases d with
 | true=>exact ha pins s1 σ H1 D I1 q1
 | false=>exact hb pins s1 σ H1 D I1 q1
def Dg:TS:=λ_ _ _=>False
theorem Ez:PS X st Dg:=λ_ _ _ _ _ _ h=>h.elim
end
abbrev TG:=V->St->Hp->(St->Hp->Prop)->Prop
abbrev vF:=List V->St->Hp->(St->Hp->Prop)->Prop
def PG(X:Cx)(target:Expr)(t:TG):Prop:=
 ∀(pins:List (Addr×Obj))(s:Shared)(σ:St)(H:Hp)(v:V)(u:Value)(Q:St->Hp->Prop),Inv X pins σ H s->RelV v u->t v σ H Q →
  wpAny (model X.prog X.w) X.A (assign target X.env u) (λ_ s'=>∃aX H',Inv X pins aX H' s'/\Q aX H') X.xe s
def Gf(X:Cx)(ts:List Expr)(t:vF):Prop:=
 ∀(pins:List (Addr×Obj))(s:Shared)(σ:St)(H:Hp)(vs:List V)(us:List Value)(Q:St->Hp->Prop),Inv X pins σ H s->Vals vs us->t vs σ H Q →
  wpAny (model X.prog X.w) X.A (assignInOrder ((assignEach ts X.env).map (·.2)) us) (λ_ s'=>∃aX H',Inv X pins aX H' s'/\Q aX H') X.xe s
abbrev LO:=V->V->V->Hp->(Hp->Prop)->Prop
def G9(X:Cx)(t:LO):Prop:=
 ∀(pins:List (Addr×Obj))(s:Shared)(σ:St)(H:Hp)(o i v:V)(ov iv u:Value)(Q:Hp->Prop),Inv X pins σ H s->RelV o ov->RelV i iv->RelV v u->t o i v H Q →
  wpAny (model X.prog X.w) X.A (setItem ov iv u) (λ_ s'=>∃H',Inv X pins σ H' s'/\Q H') X.xe s
abbrev SS:=V->V->Hp->VK->Prop
def X4(X:Cx)(op:Operator)(t:SS):Prop:=
 ∀(pins:List (Addr×Obj))(s:Shared)(σ:St)(H:Hp)(x y:V)(v u:Value)(Q:VK),Inv X pins σ H s->RelV x v->RelV y u->t x y H Q →
  wpAny (model X.prog X.w) X.A (inplaceOp op v u) (EP X pins σ Q) X.xe s
section
variable{X:Cx}{pos:Pos}
def aQ(i:Nat):TG:=λv σ H Q=>Q (σ.set i (some v)) H
theorem HM{i:Nat}{x:Str}(hN:X.N.Nodup)(hi:X.N[i]? = some x)(hx:Loc X.env.scope x)(hf:X.fn x=true\/X.env.scope.names.lookup x=some .local:=by first|exact .inl rfl|exact .inr rfl|assumption):PG X (.Name x pos) (aQ i):=by intro pins s σ H v u Q I r h;exact wpAny_assign_Name (iX I hN hi hx r (λs' I'=>⟨_,H,I',h⟩) hf)
def WA:vF:=λvs σ H Q=>vs=[]/\Q σ H
def RJ(t:TG)(u:vF):vF:=λvs σ H Q=>∃v r,vs=v::r/\t v σ H λaX H'=>u r aX H' Q
theorem HK:Gf X [] WA:=by intro pins s σ H vs us Q I r h;obtain⟨e,h⟩:=h;subst e;cases r;exact assignInOrder_nil ⟨σ,H,I,h⟩
theorem EC{e:Expr}{es:List Expr}{t:TG}{u:vF}(h1:PG X e t)(h2:Gf X es u)(hs:(assignEach (e::es) X.env).map (·.2)=assign e X.env::(assignEach es X.env).map (·.2):=by rfl):Gf X (e::es) (RJ t u):=by
 intro pins s σ H vs us Q I r h;obtain⟨v,vr,e1,h⟩:=h;subst e1;cases r with
 | cons r rr=>
  rw[hs];refine assignInOrder_cons (ba (h1 pins s σ H _ _ _ I r h) λ_ s1 ⟨Oh,H1,I1,q1⟩=>?_);exact h2 pins s1 Oh H1 _ _ Q I1 rr q1
def Wz(K:W.Frag)(n:Nat)(t:vF):TG:=λv σ H Q=>∃a xs,v = .ref a/\pQ K H a xs/\xs.length=n/\t xs σ H Q
theorem Mm{es:List Expr}{k:Nat}{t:vF}{n:Nat}(hc:X.calm=true)(h:Gf X es t)(hn:(assignEach es X.env).length=n:=by rfl)(cF:(assignEach es X.env).findIdx? (·.1)=none:=by rfl):PG X (.Tuple es k pos) (Wz X.K n t):=by intro pins s σ H v u Q I r hw;obtain⟨a,xs,e1,hq,hl,hw⟩:=hw;subst e1;cases r;obtain⟨its,rv,ht,hz⟩:=I.tuple hq;refine assign_Tuple_tuple (I.ok.hd hc) ht (by simp[hn,<-hl,rv.length]) cF λh' hx=>?_;have I1:Inv X pins σ H { s with heap:=h' }:=I.kept (t':=s.toks) λb o e=>hx b o (aaD (aam e)) e;exact h pins _ σ H xs _ Q I1 (by simpa using rv) hw
def LJ(to ti:TE)(t:LO):TG:=λv σ H Q=>to σ H λo H1=>ti σ H1 λi H2=>t o i v H2 λH3=>Q σ H3
theorem DC{o i:Expr}{to ti:TE}{t:LO}(ho:PE X o to)(hi:PE X i ti)(hs:G9 X t)(ha:∀v,assign (.Subscript o i pos) X.env v=(do
   let ov <-holding [v] (eval o X.env);let iv <-holding [v,ov] (eval i X.env)
   standAt pos
   holding [v,ov,iv] (setItem ov iv v)
   release [v,ov,iv] []):=by intro _;rfl):PG X (.Subscript o i pos) (LJ to ti t):=by intro pins s σ H v u Q I r h;rw[ha];refine aac (aa0 (ba (ho pins s σ H _ I h) λov s1 ⟨x,H1,I1,r1,q1⟩=>?_));refine aac (aa0 (ba (hi pins s1 σ H1 _ I1 q1) λiv s2 ⟨y,H2,I2,r2,q2⟩=>?_));refine aac (acV (aac (aa0 (ba (hs pins s2 σ H2 x y v ov iv u _ I2 r1 r2 r q2) λ_ s3 ⟨H3,I3,q3⟩=>?_))));exact wpAny_release ⟨σ,H3,I3,q3⟩
def BZ(te:TE)(g:TG):TS:=λD σ H=>te σ H λx H1=>g x σ H1 D.nx
theorem Mh{tg e:Expr}{te:TE}{g:TG}(he:PE X e te)(hg:PG X tg g)(hs:swapsWithSole [tg] e pos.line X.env=pure false:=by rfl)(hw:swappedStores [tg] e X.env=pure none:=by rfl)(h1:(assignEach [tg] X.env).map (·.2)=[assign tg X.env]:=by rfl):PS X (.Assign [tg] e pos) (BZ te g):=by intro pins s σ H D I h;refine wpAny_Assign_stores (ba (he pins s σ H _ I h) λv s1 ⟨x,H1,I1,r1,q1⟩=>?_) hs hw;rw[h1];exact ba (hg pins s1 σ H1 x v _ I1 r1 q1) λ_ s2 q=>q
def VO(i:Nat)(te:TE)(ti:SS):TS:=λD σ H=>∃x,σ[i]? = some (some x)/\te σ H λy H1=>ti x y H1 λz H2=>D.nx (σ.set i (some z)) H2
theorem Mg{i:Nat}{x:Str}{e:Expr}{te:TE}{op:Operator}{ti:SS}{pos':Pos}(hN:X.N.Nodup)(hi:X.N[i]? = some x)(hx:Loc X.env.scope x)(he:PE X e te)(ho:X4 X op ti)(hf:X.fn x=true\/X.env.scope.names.lookup x=some .local:=by first|exact .inl rfl|exact .inr rfl|assumption):PS X (.AugAssign (.Name x pos') op e pos) (VO i te ti):=by
 intro pins s σ H D I h;obtain⟨v,e1,h⟩:=h;obtain⟨m,hn,hl⟩:=I.loc;have Yl:PX X.env.scope x:=by rcases hx with k|k;exact .inl k;exact .inr (.inl k)
 obtain⟨u,r,l⟩:=hl i x v hi e1 Yl;refine wpAny_AugAssign_Name ?_;have go:wpAny (model X.prog X.w) X.A (eval e X.env) (λw zO=>wpAny (model X.prog X.w) X.A (inplaceOp op u w) (λr pS=>wpAny (model X.prog X.w) X.A (storeName X.env x r) (λ_=>SP X pins D .next) X.xe pS) X.xe zO) X.xe s:=by refine ba (he pins s σ H _ I h) λw s1 ⟨y,H1,I1,r1,q1⟩=>?_;refine ba (ho pins s1 σ H1 v y u w _ I1 r r1 q1) λz s2 ⟨zv,H2,I2,r2,q2⟩=>?_;exact iX I2 hN hi hx r2 (λs3 I3=>⟨_,H2,I3,q2⟩) hf
 rcases l with⟨hk,hm⟩|⟨hk,c,hc,ko⟩
 ·exact wpAny_loadName_local I.ok.kind hk hn hm go
 ·rcases hk with hk|hk
  ·exact wpAny_loadName_cell I.ok.kind hk hc ko go
  ·rcases hx with k|k
   ·have:X.env.scope.names.lookup x=some .free:=hk;rw[k]at this;cases this
   ·have:X.env.scope.names.lookup x=some .free:=hk;rw[k]at this;cases this
def Sk(f:Int->Int->Int):SS:=λx y H Q=>∃i j,x = .int i/\y = .int j/\Q (.int (f i j)) H
theorem Nz:X4 X .Add (Sk λi j=>i+j):=by intro pins s σ H x y v u Q I r1 r2 h;obtain⟨i,j,e1,e2,q⟩:=h;subst e1;subst e2;obtain⟨t,rfl⟩:=r1;obtain⟨t',rfl⟩:=r2;exact iadd_int ⟨.int _,H,I.tok _,⟨_,rfl⟩,q⟩
def De(c:TT)(tb:TS):TS:=λD σ H=>∃W:Nat->St->Hp->Prop,(∃m,W m σ H)/\∀m σ H,W m σ H →
 c σ H λb H1=>if b=true then ∃N:St->Hp->Prop,(∀aX H',N aX H'->∃m',m'<m/\W m' aX H')/\tb { D with nx:=N,ct:=N,bk:=D.nx } σ H1 else D.nx σ H1
theorem Ey{c:Expr}{body:List Stmt}{tc:TT}{tb:TS}(hp:PassesOwn (model X.prog X.w) X.A X.env X.xe)(hc:PT X c tc)(hb:nL X body tb):PS X (.While c body [] pos) (De tc tb):=by
 intro pins s σ H D I h;obtain⟨W,⟨m0,w0⟩,turn⟩:=h;refine wpAny_While (codeAny_whileLoop (λn s'=>∃aX H',Inv X pins aX H' s'/\W n aX H') ?_ m0 ⟨σ,H,I,w0⟩);rintro n s1 ⟨Oh,H1,I1,w1⟩;refine abT hp (ba (hc pins s1 Oh H1 _ I1 (turn n Oh H1 w1)) λb s2 ⟨H2,I2,q2⟩=>?_);cases b with
 | true=>
  obtain⟨N,hN,q2⟩:=q2;rw[aaz rfl];refine abT hp (ba (hb pins s2 Oh H2 _ I2 q2) λf s3 q3=>?_);cases f with
  | next=>
   obtain⟨BL,H3,I3,n3⟩:=q3;obtain⟨m',hm,w3⟩:=hN BL H3 n3;exact⟨m',hm,BL,H3,I3,w3⟩
  | cont=>
   obtain⟨BL,H3,I3,n3⟩:=q3;obtain⟨m',hm,w3⟩:=hN BL H3 n3;exact⟨m',hm,BL,H3,I3,w3⟩
  | brk=>exact q3
  | ret v=>exact q3
 | false=>
  rw[aar aav];exact acz ⟨Oh,H2,I2,q2⟩
end
structure It where
 go:Nat->Hp->Prop
 sS:Nat->Hp->V->Hp->Prop
 stop:Nat->Hp->Prop
def lN(X:Cx)(pins:List (Addr×Obj))(H:Hp)(b:Addr):Prop:=
 H b=none/\b≠X.env.locals/\b ∉ X.fs/\(b∈X.ex\/X.cq.heap.objs.size<=b)/\(∀x c,X.env.cells.lookup x=some c->c≠b)/\∀p∈X.pn++pins,p.1≠b
theorem Inv.pV{X:Cx}{pins:List (Addr×Obj)}{σ:St}{H H':Hp}{s:Shared}{b:Addr}(I:Inv X pins σ H s)(hb:s.heap.objs.size<=b)(hn:H' b=none):lN X pins H' b:=by
 refine⟨hn,acQ (aaG I.lt hb),I.V3 hb,.inr (aaM I.sz hb),λx c e z=>?_,λp hp z=>?_⟩
 ·obtain⟨v,q⟩:=I.cell x c e;exact absurd (aaG q.lt (by rw[z];exact hb)) (abm _)
 ·exact absurd (aaG (aam (I.pin p hp).1) (by rw[z];exact hb)) (abm _)
structure Turn(P:Program)(w:World)(K:W.Frag)(tg:Expr)(J:It)(fp:List Addr)(it:Addr)(tn:Nat->Heap->Prop):Prop where
 mem:it∈fp
 obj:∀i h,tn i h->∀b∈fp,∃o,h.get? b=some o/\∀v,o.data≠.cell v
 keep:∀i h h',tn i h->(∀b∈fp,∀o,h.get? b=some o->h'.get? b=some o)->tn i h'
 item:∀(X:Cx),X.prog=P->X.w=w->X.K=K->X.calm=true->∀(i:Nat)(pins:List (Addr×Obj))(s:Shared)(σ:St)(H:Hp)(E:Value->Shared->Prop),Inv X pins σ H s->(∀b∈fp,lN X pins H b)->tn i s.heap->J.go i H →
  wpAny (model P w) X.A (pyNext (.ref it)) (λr s1=>∃u,r=some u ∧
   wpAny (model P w) X.A (letOwnedTupleGo tg (.ref it) u) (λ_ s2=>∃x H',Inv X pins σ H' s2/\RelV x u/\J.sS i H x H'/\tn (i+1) s2.heap/\∀b∈fp,H' b=none) E s1) E s
 done:∀(X:Cx),X.prog=P->X.w=w->X.K=K->X.calm=true->∀(i:Nat)(pins:List (Addr×Obj))(s:Shared)(σ:St)(H:Hp)(E:Value->Shared->Prop),Inv X pins σ H s->(∀b∈fp,lN X pins H b)->tn i s.heap->J.stop i H →
  wpAny (model P w) X.A (pyNext (.ref it)) (λr s1=>r=none/\Inv X pins σ H s1) E s
 self:∀(A:Around)(i:Nat)(s:Shared)(Q:Value->Shared->Prop)(E:Value->Shared->Prop),tn i s.heap->Q (.ref it) s->wpAny (model P w) A (pyIter (.ref it)) Q E s
abbrev TI:=St->Hp->(It->Hp->Prop)->Prop
def X5(X:Cx)(pins:List (Addr×Obj))(σ:St)(tg:Expr)(R:It->Hp->Prop)(Sj:Value)(s2:Shared):Prop:=
 ∃(it:Addr)(fp:List Addr)(tn:Nat->Heap->Prop)(J:It)(H':Hp),Sj = .ref it/\Inv X pins σ H' s2/\Turn X.prog X.w X.K tg J fp it tn/\tn 0 s2.heap/\(∀b∈fp,lN X pins H' b)/\R J H'
def PI(X:Cx)(tg iter:Expr)(wi:TI):Prop:=
 ∀(pins:List (Addr×Obj))(s:Shared)(σ:St)(H:Hp)(R:It->Hp->Prop),Inv X pins σ H s->wi σ H R →
  wpAny (model X.prog X.w) X.A (eval iter X.env) (λv s1=>wpAny (model X.prog X.w) X.A (pyIter v) (X5 X pins σ tg R) X.xe s1) X.xe s
theorem yw{M:Model}{A:Around}{E:Value->Shared->Prop}{s:Shared}{tg:Expr}{it:Addr}{u:Value}{o:Obj}{n:String}{vs:Array Value}{Q:Unit->Shared->Prop}(ho:s.heap.get? it=some o)(hc:o.cls = .type n)(hd:o.data = .fields vs)(hn:["enumerate","zip","dict_itemiterator","dict_reverseitemiterator","odict_iterator","itertools.zip_longest","itertools.pairwise"].contains n=false)(hQ:Q () s):wpAny M A (letOwnedTupleGo tg (.ref it) u) Q E s:=by
 unfold letOwnedTupleGo;cases tg<;>first
  | exact aaj hQ
  | (cases u<;>first
    | exact aaj hQ
    | (refine aac (wpAny_load ho ?_)
       rw[hc,hd];show wpAny M A (if(["enumerate","zip","dict_itemiterator","dict_reverseitemiterator","odict_iterator","itertools.zip_longest","itertools.pairwise"].contains n&&vs[0]? == some (rawInt _))=true then _ else _) Q E s;rw[aar (by intro h;rw[hn,abk]at h;cases h)];exact aaj hQ))
def SX(K:W.Frag)(a:Addr):It:=
 ⟨λi H=>∃xs x,aN K H a xs/\xs[i]? = some x,λi H x H'=>H'=H/\∀xs,aN K H a xs->xs[i]? = some x,λi H=>∃xs,aN K H a xs/\xs.length<=i⟩
def SW(lo:Int)(n:Nat):It:=⟨λi _=>i<n,λi H x H'=>H'=H/\x = .int (lo+i),λi _=>n<=i⟩
theorem oJ{P:Program}{w:World}{K:W.Frag}{tg:Expr}(a it:Addr):Turn P w K tg (SX K a) [it] it (λi h=>h.IsListIter it a i) where
 mem:=by simp
 obj:=λi h st b hb=>by
  have e:b=it:=by simpa using hb
  subst e;obtain⟨o,e,c,d⟩:=st;exact⟨o,e,λv z=>by rw[d]at z;cases z⟩
 keep:=λi h h' st k=>st.at λo e=>k it (by simp) o e
 item:=by intro X hP hw hK hc i pins s σ H E I hf st hg;subst hP hw hK;obtain⟨xs,x,hq,hx⟩:=hg;obtain⟨its,rv,p,hz⟩:=I.list hq;obtain⟨u,hu,ru⟩:=rv.get hx;obtain⟨f0,f1,f2,f3,f4,f5⟩:=hf it (by simp);refine wpAny_pyNext_list_item st p.isList (x:=u) (by simpa using hu) λh' pN sb=>?_;have I1:Inv X pins σ H { s with heap:=h' }:=I.turned (t':=s.toks) (λb o hb e=>(sb.2 b hb).trans e) f0 f1 f3 f4 f5;obtain⟨o,e,c,d⟩:=id pN;exact⟨u,rfl,yw (s:={ s with heap:=h' }) e c d (by decide) ⟨x,H,I1,ru,⟨rfl,λys hy=>by rw[I.uC hy hq];exact hx⟩,pN,λb hb=>(hf b hb).1⟩⟩
 done:=by intro X hP hw hK hc i pins s σ H E I hf st hg;subst hP hw hK;obtain⟨xs,hq,hx⟩:=hg;obtain⟨its,rv,p,hz⟩:=I.list hq;obtain⟨f0,f1,f2,f3,f4,f5⟩:=hf it (by simp);have hl:=rv.length;exact wpAny_pyNext_list_end (I.ok.hd hc) st p.isList (by simp;omega) λh' eb=>⟨rfl,I.turned (t':=s.toks) (λb o hb e=>eb b o hb e) f0 f1 f3 f4 f5⟩
 self:=λ_ _ _ _ _ st h=>wpAny_pyIter_listiter st h
theorem xm{P:Program}{w:World}{K:PySem.W.Frag}{tg:Expr}(it:Addr)(lo:Int)(n:Nat):Turn P w K tg (SW lo n) [it] it (λi h=>IsRangeIter h it (lo+(i:Nat)*1) ((n:Int)-(i:Nat)) 1) where
 mem:=by simp
 obj:=λi h st b hb=>by
  have e:b=it:=by simpa using hb
  subst e;exact⟨_,st,λv z=>by have z':Data.fields _=Data.cell v:=z;cases z'⟩
 keep:=λi h h' st k=>k it (by simp) _ st
 item:=by intro X hP hw hK hc i pins s σ H E I hf st hg;subst hP hw hK;obtain⟨f0,f1,f2,f3,f4,f5⟩:=hf it (by simp);have W:=Walks.range (prog:=X.prog) (w:=X.w) (I.ok.hd hc) it lo 1 n;refine W.item i s _ _ hg st λv h' tk hv pN kk=>?_;obtain⟨t,rfl⟩:=hv;have I1:Inv X pins σ H { s with heap:=h',toks:=tk }:=I.turned (λb o hb e=>kk b o (by simpa using hb) e) f0 f1 f3 f4 f5;refine⟨_,rfl,yw (s:={ s with heap:=h',toks:=tk }) (n:= "range_iterator") pN rfl rfl (by decide) ⟨.int (lo+i),H,I1,⟨t,?_⟩,⟨rfl,rfl⟩,pN,λb hb=>(hf b hb).1⟩⟩;rw[Int.mul_one]
 done:=by intro X hP hw hK hc i pins s σ H E I hf st hg;subst hP hw hK;obtain⟨f0,f1,f2,f3,f4,f5⟩:=hf it (by simp);exact wpAny_pyNext_range_end (I.ok.hd hc) st (by have:n<=i:=hg;omega) λh' eb=>⟨rfl,I.turned (t':=s.toks) (λb o hb e=>eb b o hb e) f0 f1 f3 f4 f5⟩
 self:=λ_ _ _ _ _ st h=>wpAny_pyIter_rangeiter st h
section
variable{X:Cx}{tg:Expr}
theorem Ew{pins:List (Addr×Obj)}{σ:St}{H:Hp}{s:Shared}{R:It->Hp->Prop}{E:Value->Shared->Prop}{lo hi:Int}{t u v:Tok}{tk:Nat}(I:Inv X pins σ H s)(h1 : -(2 ^ 62)<=lo)(h2:lo<2 ^ 62)(h3 : -(2 ^ 62)<=hi)(h4:hi<2 ^ 62)(q:R (SW lo (hi-lo).toNat) H):wpAny (model X.prog X.w) X.A (pyIter (.ref s.heap.objs.size)) (X5 X pins σ tg R) E { s with heap:=s.heap.push { cls:=.type "range",data:=.fields #[.int lo t,.int hi u,.int 1 v] },toks:=tk }:=by
 refine wpAny_pyIter_range (IsRange.new ..) (small_one h1 h2 h3 h4) ?_;have I1:Inv X pins σ H { s with heap:=s.heap.push { cls:=.type "range",data:=.fields #[.int lo t,.int hi u,.int 1 v] },toks:=tk }:=I.kept λb o e=>aad _ e;refine⟨(s.heap.push { cls:=.type "range",data:=.fields #[.int lo t,.int hi u,.int 1 v] }).objs.size,[(s.heap.push { cls:=.type "range",data:=.fields #[.int lo t,.int hi u,.int 1 v] }).objs.size],_,_,H,rfl,
  I1.kept (t':=tk) λb o e=>aad _ e,xm _ lo (hi-lo).toNat,?_,λb hb=>?_,q⟩
 ·have e1:lo+((0:Nat):Int)*1=lo:=by simp
  have e2:(((hi-lo).toNat:Nat):Int)-((0:Nat):Int)=Builtin.Range.rangeSize lo hi 1:=by rw[rangeSize_one];split<;>omega
  show IsRangeIter _ _ (lo+((0:Nat):Int)*1) ((((hi-lo).toNat:Nat):Int)-((0:Nat):Int)) 1;rw[e1,e2];exact aap _ rfl
 ·have e:b=(s.heap.push { cls:=.type "range",data:=.fields #[.int lo t,.int hi u,.int 1 v] }).objs.size:=by simpa using hb
  subst e;exact I1.pV (aae _) (I1.au.fresh (aae _))
def P5(wi:TI)(g:TG)(tb:TS):TS:=λD σ H=>wi σ H λJ H1=>∃W:Nat->Nat->St->Hp->Prop,(∃m,W 0 m σ H1)/\∀i m σ H,W i m σ H →
 (J.stop i H/\D.nx σ H)\/(J.go i H/\∃N:St->Hp->Prop,(∀aX H',N aX H'->∃m',m'<m/\W (i+1) m' aX H')/\∀x H',J.sS i H x H'->g x σ H' λBM H2=>tb { D with nx:=N,ct:=N,bk:=D.nx } BM H2)
def l5(fp:List Addr)(h:Heap):List (Addr×Obj):=fp.filterMap λb=>(h.get? b).map λo=>(b,o)
theorem eV{fp:List Addr}{h:Heap}{b:Addr}{o:Obj}(hb:b∈fp)(e:h.get? b=some o):(b,o)∈l5 fp h:=adD.mpr ⟨b,hb,by rw[e];rfl⟩
theorem AX{fp:List Addr}{h:Heap}{p:Addr×Obj}(hp:p∈l5 fp h):p.1∈fp/\h.get? p.1=some p.2:=by
 obtain⟨b,hb,e⟩:=adD.mp hp;cases q:h.get? b with
 | none=>rw[q]at e;cases e
 | some o=>
  rw[q]at e;have e':(b,o)=p:=aaw e;subst e';exact⟨hb,q⟩
theorem Inv.pinned{pins:List (Addr×Obj)}{σ:St}{H:Hp}{s:Shared}{fp:List Addr}(I:Inv X pins σ H s)(hf:∀b∈fp,lN X pins H b)(ho:∀b∈fp,∃o,s.heap.get? b=some o/\∀v,o.data≠.cell v):Inv X (pins++l5 fp s.heap) σ H s:=
 I.rC λp hp=>(aay.mp hp).elim (λz=>I.pin p (aaQ _ z)) λz=>by obtain⟨hb,e⟩:=AX z;obtain⟨f0,f1,f2,_⟩:=hf p.1 hb;obtain⟨o,e',d⟩:=ho p.1 hb;rw[e]at e';cases e';exact⟨e,f0,f1,f2,d⟩
theorem Inv.fE{pins pl:List (Addr×Obj)}{σ:St}{H:Hp}{s:Shared}(I:Inv X (pins++pl) σ H s):Inv X pins σ H s:=I.rC λp hp=>I.pin p (aaQ _ (aa7 _ hp))
theorem Me{iter:Expr}{body:List Stmt}{wi:TI}{g:TG}{tb:TS}{pos:Pos}(hp:PassesOwn (model X.prog X.w) X.A X.env X.xe)(hc:X.calm=true)(hi:PI X tg iter wi)(hg:PG X tg g)(hb:nL X body tb)(hs:∀x,foldedSetIterable iter X.env x=pure x:=by intro _;rfl):PS X (.For tg iter body [] pos) (P5 wi g tb):=by
 intro pins s σ H D I h;refine wpAny_For (ba (hi pins s σ H _ I h) λv s1 h1=>ba h1 λSj s2 h2=>?_) hs;refine az λak=>?_;obtain⟨it,fp,tn,J,H2,e,I2,T,nF,f2,W,⟨m0,w0⟩,turn⟩:=h2;refine ak ?_;clear ak;subst e;have vL:∀{H':Hp},(∀b∈fp,H' b=none)->∀b∈fp,lN X pins H' b:=λhn b hb=>⟨hn b hb,(f2 b hb).2⟩
 refine codeAny_forLoop_any (λn s'=>∃i aX H',Inv X pins aX H' s'/\tn i s'.heap/\(∀b∈fp,H' b=none)/\W i n aX H') ?_ m0 ⟨0,σ,H2,I2,nF,λb hb=>(f2 b hb).1,w0⟩;rintro n s3 ⟨i,BL,H3,I3,BD,XU,w3⟩;rcases turn i n BL H3 w3 with⟨stop,qn⟩|⟨go,N,hN,step⟩
 ·refine abT hp (ba (T.done X rfl rfl rfl hc i pins s3 BL H3 X.xe I3 (vL XU) BD stop) λr s4 ⟨hr,I4⟩=>?_);subst hr;exact acz ⟨BL,H3,I4,qn⟩
 ·refine abT hp (ba (T.item X rfl rfl rfl hc i pins s3 BL H3 X.xe I3 (vL XU) BD go) λr s4 ⟨u,hr,h4⟩=>?_);subst hr;refine abT hp (ba h4 λ_ s5 ⟨x,H5,I5,r5,y5,vj,SN⟩=>?_);have I5':=I5.pinned (vL SN) (T.obj _ _ vj);refine abT hp (ba (hg _ s5 BL H5 x u _ I5' r5 (step x H5 y5)) λ_ s6 ⟨Ye,H6,I6,q6⟩=>?_);refine abT hp (ba (hb _ s6 Ye H6 _ I6 q6) λf s7 q7=>?_);have again:∀{BK:St}{H7:Hp},Inv X (pins++l5 fp s5.heap) BK H7 s7->N BK H7->∃m,m<n/\∃i aX H',Inv X pins aX H' s7/\tn i s7.heap/\(∀b∈fp,H' b=none)/\W i m aX H':=λ{BK H7} I7 n7=>by obtain⟨m',hm,w7⟩:=hN BK H7 n7;refine⟨m',hm,i+1,BK,H7,I7.fE,T.keep _ _ _ vj λb hb o e=>(I7.pin (b,o) (aaQ _ (aaQ _ (eV hb e)))).1,λb hb=>?_,w7⟩;obtain⟨o,e,d⟩:=T.obj _ _ vj b hb;exact(I7.pin (b,o) (aaQ _ (aaQ _ (eV hb e)))).2.1
  cases f with
  | next=>obtain⟨BK,H7,I7,n7⟩:=q7;exact again I7 n7
  | cont=>obtain⟨BK,H7,I7,n7⟩:=q7;exact again I7 n7
  | brk=>obtain⟨BK,H7,I7,q7⟩:=q7;exact⟨BK,H7,I7.fE,q7⟩
  | ret v=>obtain⟨x7,BK,H7,I7,r7,q7⟩:=q7;exact⟨x7,BK,H7,I7.fE,r7,q7⟩
end
abbrev R2:=V->V->Hp->VK->Prop
def ck(X:Cx)(f:Value->Value->Sem Value)(r:R2):Prop:=
 ∀(pins:List (Addr×Obj))(s:Shared)(σ:St)(H:Hp)(x y:V)(v u:Value)(Q:VK),Inv X pins σ H s->RelV x v->RelV y u->r x y H Q →
  wpAny (model X.prog X.w) X.A (f v u) (EP X pins σ Q) X.xe s
def Vc(X:Cx)(f:Value->Sem Value)(r:V->Hp->VK->Prop):Prop:=
 ∀(pins:List (Addr×Obj))(s:Shared)(σ:St)(H:Hp)(x:V)(v:Value)(Q:VK),Inv X pins σ H s->RelV x v->r x H Q →
  wpAny (model X.prog X.w) X.A (f v) (EP X pins σ Q) X.xe s
def aH(X:Cx)(f:Value)(r:List V->Hp->VK->Prop):Prop:=
 ∀(pins:List (Addr×Obj))(s:Shared)(σ:St)(H:Hp)(xs:List V)(us:List Value)(Q:VK),Inv X pins σ H s->Vals xs us->r xs H Q →
  wpAny (model X.prog X.w) X.A (call f us) (EP X pins σ Q) X.xe s
def WI(X:Cx)(r:V->Hp->(Bool->Hp->Prop)->Prop):Prop:=
 ∀(pins:List (Addr×Obj))(s:Shared)(σ:St)(H:Hp)(x:V)(v:Value)(Q:Bool->Hp->Prop),Inv X pins σ H s->RelV x v->r x H Q →
  wpAny (model X.prog X.w) X.A (truthy v) (TP X pins σ Q) X.xe s
def sT(r:R2)(ta tb:TE):TE:=λσ H Q=>ta σ H λx H1=>tb σ H1 λy H2=>r x y H2 Q
def W0(r:V->Hp->VK->Prop)(ta:TE):TE:=λσ H Q=>ta σ H λx H1=>r x H1 Q
def rI(C:Int->Int->Prop)(g:Int->Int->V):R2:=λx y H Q=>∃i j,x = .int i/\y = .int j/\C i j/\Q (g i j) H
def F7(g:Int->Int->V):R2:=λx y H Q=>∃i j,x = .int i/\y = .int j/\Q (g i j) H
def rU(g:Int->V):V->Hp->VK->Prop:=λx H Q=>∃i,x = .int i/\Q (g i) H
section
variable{X:Cx}{a b c:Expr}{ta tb tc:TE}{pos:Pos}
theorem LN(ha:PE X a ta)(hb:PE X b tb){pins:List (Addr×Obj)}{s:Shared}{σ:St}{H:Hp}{R:V->V->Hp->Prop}(I:Inv X pins σ H s)(h:ta σ H λx H1=>tb σ H1 λy H2=>R x y H2){Q:Value->Shared->Prop}{f:Value->Value->Sem Value}(hf:∀v u s2 x y H2,Inv X pins σ H2 s2->RelV x v->RelV y u->R x y H2->wpAny (model X.prog X.w) X.A (f v u) Q X.xe s2):wpAny (model X.prog X.w) X.A (eval a X.env) (λv aD=>wpAny (model X.prog X.w) X.A (eval b X.env) (λu zO=>wpAny (model X.prog X.w) X.A (f v u) Q X.xe zO) X.xe aD) X.xe s:=by refine ba (ha pins s σ H _ I h) λv s1 ⟨x,H1,I1,r1,q1⟩=>?_;refine ba (hb pins s1 σ H1 _ I1 q1) λu s2 ⟨y,H2,I2,r2,q2⟩=>?_;exact hf v u s2 x y H2 I2 r1 r2 q2
theorem Q6{op:Operator}{r:R2}(ho:ck X (binaryOp op) r)(ha:PE X a ta)(hb:PE X b tb):PE X (.BinOp a op b pos) (sT r ta tb):=by intro pins s σ H Q I h;exact wpAny_BinOp (LN ha hb I h λv u s2 x y H2 I2 rx ry q=>ho pins s2 σ H2 x y v u Q I2 rx ry q)
theorem Q5{op:UnaryOp}{r:V->Hp->VK->Prop}(ho:Vc X (unaryOp op) r)(ha:PE X a ta):PE X (.UnaryOp op a pos) (W0 r ta):=by intro pins s σ H Q I h;exact UnaryOp_ (ba (ha pins s σ H _ I h) λv s1 ⟨x,H1,I1,r1,q1⟩=>ho pins s1 σ H1 x v Q I1 r1 q1)
theorem Oq{f:Value->Value->Sem Value}{C:Int->Int->Prop}{g:Int->Int->Int}(rule:∀(i j:Int)(t u:Tok)(s:Shared)(Q:Value->Shared->Prop)(E:Value->Shared->Prop),C i j->Q (.int (g i j) s.toks) { s with toks:=s.toks+1 }->wpAny (model X.prog X.w) X.A (f (.int i t) (.int j u)) Q E s):ck X f (rI C λi j=>.int (g i j)):=by intro pins s σ H x y v u Q I rx ry h;obtain⟨i,j,rfl,rfl,hc,q⟩:=h;obtain⟨t,rfl⟩:=rx;obtain⟨t',rfl⟩:=ry;exact rule i j t t' s _ _ hc ⟨.int (g i j),H,I.tok _,⟨_,rfl⟩,q⟩
theorem Lu{f:Value->Value->Sem Value}{g:Int->Int->Int}(rule:∀(i j:Int)(t u:Tok)(s:Shared)(Q:Value->Shared->Prop)(E:Value->Shared->Prop),Q (.int (g i j) s.toks) { s with toks:=s.toks+1 }->wpAny (model X.prog X.w) X.A (f (.int i t) (.int j u)) Q E s):ck X f (F7 λi j=>.int (g i j)):=by intro pins s σ H x y v u Q I rx ry h;obtain⟨i,j,rfl,rfl,q⟩:=h;obtain⟨t,rfl⟩:=rx;obtain⟨t',rfl⟩:=ry;exact rule i j t t' s _ _ ⟨.int (g i j),H,I.tok _,⟨_,rfl⟩,q⟩
theorem GJ{f:Value->Value->Sem Value}{g:Int->Int->Bool}(rule:∀(i j:Int)(t u:Tok)(s:Shared)(Q:Value->Shared->Prop)(E:Value->Shared->Prop),Q (.bool (g i j)) s->wpAny (model X.prog X.w) X.A (f (.int i t) (.int j u)) Q E s):ck X f (F7 λi j=>.bl (g i j)):=by intro pins s σ H x y v u Q I rx ry h;obtain⟨i,j,rfl,rfl,q⟩:=h;obtain⟨t,rfl⟩:=rx;obtain⟨t',rfl⟩:=ry;exact rule i j t t' s _ _ ⟨.bl (g i j),H,I,rfl,q⟩
def WK(i j:Int):Prop:=0<j/\j<1073741824
def QG(i j:Int):Prop:=0<=j/\j<=1000000/\i.natAbs<2 ^ 64
def He(i j:Int):Prop:=(-(2 ^ 64)<i/\i<2 ^ 64)\/(-(2 ^ 64)<j/\j<2 ^ 64)
theorem He.ok{i j:Int}(h:He i j):IntMulOk i j:=by
 rcases h with⟨h1,h2⟩|⟨h1,h2⟩
 ·exact .of_left (intBits_le_64 h1 h2)
 ·exact .of_right (intBits_le_64 h1 h2)
theorem two_pow_nn(k:Nat):(0:Int)<=2 ^ k:=by rw[two_pow_cast];exact Int.natCast_nonneg _
theorem MS:ck X (binaryOp .Add) (F7 λi j=>.int (i+j)):=Lu λ_ _ _ _ _ _ _ q=>add_int q
theorem MD:ck X (binaryOp .Sub) (F7 λi j=>.int (i-j)):=Lu λ_ _ _ _ _ _ _ q=>sub_int q
theorem MJ:ck X (binaryOp .Mult) (rI He λi j=>.int (i*j)):=Oq λ_ _ _ _ _ _ _ hc q=>mul_int q hc.ok
theorem HZ:ck X (binaryOp .FloorDiv) (rI WK λi j=>.int (i / j)):=Oq λi j _ _ _ _ _ hc q=>by have h1:(0:Int)<j:=hc.1;have h2:j<1073741824:=hc.2;exact floordiv_int (by omega) (by rw[Int.fdiv_eq_ediv_of_nonneg i (by omega)];exact q) (.inl (PyProof.noPylong_small (by omega)))
theorem MK:ck X (binaryOp .Mod) (rI (λ_ j=>0<j) λi j=>.int (i % j)):=Oq λi j _ _ _ _ _ hc q=>by have h1:(0:Int)<j:=hc;exact mod_int' (by omega) (by rw[Int.fmod_eq_emod_of_nonneg i (by omega)];exact q)
theorem MH:ck X (binaryOp .Pow) (rI QG λi j=>.int (i ^ j.toNat)):=Oq λ_ _ _ _ _ _ _ hc q=>pow_int_small hc.1 hc.2.1 hc.2.2 q
theorem MF:ck X (binaryOp .LShift) (rI QG λi j=>.int (i*2 ^ j.toNat)):=Oq λ_ _ _ _ _ _ _ hc q=>lshift_int_small hc.1 hc.2.1 hc.2.2 q
theorem ME:ck X (binaryOp .RShift) (rI (λ_ j=>0<=j) λi j=>.int (i / 2 ^ j.toNat)):=Oq λi j _ _ _ _ _ hc q=>
 rshift_int hc (by rw[Int.fdiv_eq_ediv_of_nonneg i (two_pow_nn _)];exact q)
theorem MR:ck X (binaryOp .BitAnd) (F7 λi j=>.int (Builtin.bitAnd i j)):=Lu λ_ _ _ _ _ _ _ q=>and_int q
theorem Yo{f:Value->Sem Value}{g:Int->Int}(rule:∀(i:Int)(t:Tok)(s:Shared)(Q:Value->Shared->Prop)(E:Value->Shared->Prop),Q (.int (g i) s.toks) { s with toks:=s.toks+1 }->wpAny (model X.prog X.w) X.A (f (.int i t)) Q E s):Vc X f (rU λi=>.int (g i)):=by intro pins s σ H x v Q I rx h;obtain⟨i,rfl,q⟩:=h;obtain⟨t,rfl⟩:=rx;exact rule i t s _ _ ⟨.int (g i),H,I.tok _,⟨_,rfl⟩,q⟩
theorem LV:Vc X (unaryOp .USub) (rU λi=>.int (-i)):=Yo λ_ _ _ _ _ q=>neg_int q
end
def Qb:V->V->Bool
 | .bj,.bj=>true | .bj,.int _=>true | .int _,.bj=>true | .bj,.bl _=>true | .bl _,.bj=>true | .bj,.str _=>true | .str _,.bj=>true
 | .int _,.int _=>true | .bl _,.bl _=>true | .str _,.str _=>true | .yi _,.yi _=>true
 | .int _,.str _=>true | .str _,.int _=>true | .bl _,.str _=>true | .str _,.bl _=>true
 | _,_=>false
def YQ:R2:=λx y H Q=>Qb x y=true/\Q (.bl (decide (x=y))) H
def YM:R2:=λx y H Q=>Qb x y=true/\Q (.bl (!decide (x=y))) H
theorem zx{i j:Int}:decide (V.int i=V.int j)=(i == j):=by rw[abB];simp
theorem Ec{i j:Bool}:decide (V.bl i=V.bl j)=(i == j):=by rw[abB];simp
theorem zu{i j:Str}:decide (V.str i=V.str j)=(i == j):=by rw[abB];simp
theorem zy{i j:Array UInt8}:decide (V.yi i=V.yi j)=(i.toList == j.toList):=by rw[abB];cases i;cases j;simp
section
variable{X:Cx}{a b c:Expr}{ta tb tc:TE}{pos:Pos}
theorem aF{pins:List (Addr×Obj)}{σ:St}{H:Hp}{s:Shared}{Q:VK}{k k':Bool}(I:Inv X pins σ H s)(q:Q (.bl k) H)(e:k=k'):EP X pins σ Q (.bool k') s:=by subst e;exact⟨.bl k,H,I,rfl,q⟩
theorem Rf:ck X (compareOp .Eq) YQ:=by
 intro pins s σ H x y v u Q I rx ry h;obtain⟨hs,q⟩:=h;cases x with
 | bj=>
  cases rx;cases y with
  | bj=>cases ry;exact PySem.EqNone.eq_none_none (aF I q (by simp))
  | bl j=>cases ry;exact PySem.EqNone.eq_none_bool (aF I q (by simp))
  | int j=>obtain⟨t',rfl⟩:=ry;exact PySem.EqNone.eq_none_int (aF I q (by simp))
  | str j=>obtain⟨t',rfl⟩:=ry;exact PySem.EqNone.eq_none_str (aF I q (by simp))
  | _=>exact absurd (show false=true from hs) aav
 | bl i=>
  cases rx;cases y with
  | bj=>cases ry;exact PySem.EqNone.eq_bool_none (aF I q (by simp))
  | bl j=>cases ry;exact eq_bool (aF I q Ec)
  | str j=>obtain⟨t',rfl⟩:=ry;exact PySem.EqMixed.eq_bool_str (aF I q (by simp))
  | _=>exact absurd (show false=true from hs) aav
 | int i=>
  obtain⟨t,rfl⟩:=rx;cases y with
  | bj=>cases ry;exact PySem.EqNone.eq_int_none (aF I q (by simp))
  | int j=>obtain⟨t',rfl⟩:=ry;exact eq_int (aF I q zx)
  | str j=>obtain⟨t',rfl⟩:=ry;exact PySem.EqMixed.eq_int_str (aF I q (by simp))
  | _=>exact absurd (show false=true from hs) aav
 | str i=>
  obtain⟨t,rfl⟩:=rx;cases y with
  | bj=>cases ry;exact PySem.EqNone.eq_str_none (aF I q (by simp))
  | bl j=>cases ry;exact PySem.EqMixed.eq_str_bool (aF I q (by simp))
  | int j=>obtain⟨t',rfl⟩:=ry;exact PySem.EqMixed.eq_str_int (aF I q (by simp))
  | str j=>obtain⟨t',rfl⟩:=ry;exact eq_str (aF I q zu)
  | _=>exact absurd (show false=true from hs) aav
 | yi i=>
  obtain⟨t,rfl⟩:=rx;cases y with
  | yi j=>obtain⟨t',rfl⟩:=ry;exact W.eq_bytes (aF I q zy)
  | _=>exact absurd (show false=true from hs) aav
 | _=>cases y<;>exact absurd (show false=true from hs) aav
theorem Q9:ck X (compareOp .NotEq) YM:=by
 intro pins s σ H x y v u Q I rx ry h;obtain⟨hs,q⟩:=h;cases x with
 | bj=>
  cases rx;cases y with
  | bj=>cases ry;exact PySem.EqNone.ne_none_none (aF I q (by simp))
  | bl j=>cases ry;exact PySem.EqNone.ne_none_bool (aF I q (by simp))
  | int j=>obtain⟨t',rfl⟩:=ry;exact PySem.EqNone.ne_none_int (aF I q (by simp))
  | str j=>obtain⟨t',rfl⟩:=ry;exact PySem.EqNone.ne_none_str (aF I q (by simp))
  | _=>exact absurd (show false=true from hs) aav
 | bl i=>
  cases rx;cases y with
  | bj=>cases ry;exact PySem.EqNone.ne_bool_none (aF I q (by simp))
  | bl j=>cases ry;exact ne_bool (aF I q (aaX not Ec))
  | str j=>obtain⟨t',rfl⟩:=ry;exact PySem.EqMixed.ne_bool_str (aF I q (by simp))
  | _=>exact absurd (show false=true from hs) aav
 | int i=>
  obtain⟨t,rfl⟩:=rx;cases y with
  | bj=>cases ry;exact PySem.EqNone.ne_int_none (aF I q (by simp))
  | int j=>obtain⟨t',rfl⟩:=ry;exact ne_int (aF I q (aaX not zx))
  | str j=>obtain⟨t',rfl⟩:=ry;exact PySem.EqMixed.ne_int_str (aF I q (by simp))
  | _=>exact absurd (show false=true from hs) aav
 | str i=>
  obtain⟨t,rfl⟩:=rx;cases y with
  | bj=>cases ry;exact PySem.EqNone.ne_str_none (aF I q (by simp))
  | bl j=>cases ry;exact PySem.EqMixed.ne_str_bool (aF I q (by simp))
  | int j=>obtain⟨t',rfl⟩:=ry;exact PySem.EqMixed.ne_str_int (aF I q (by simp))
  | str j=>obtain⟨t',rfl⟩:=ry;exact ne_str (aF I q (aaX not zu))
  | _=>exact absurd (show false=true from hs) aav
 | yi i=>
  obtain⟨t,rfl⟩:=rx;cases y with
  | yi j=>obtain⟨t',rfl⟩:=ry;exact W.ne_bytes (aF I q (aaX not zy))
  | _=>exact absurd (show false=true from hs) aav
 | _=>cases y<;>exact absurd (show false=true from hs) aav
theorem Ku:ck X (compareOp .Lt) (F7 λi j=>.bl (decide (i<j))):=GJ λ_ _ _ _ _ _ _ q=>lt_int q
theorem Ra:ck X (compareOp .LtE) (F7 λi j=>.bl (decide (i<=j))):=GJ λ_ _ _ _ _ _ _ q=>le_int q
theorem Rb:ck X (compareOp .Gt) (F7 λi j=>.bl (decide (j<i))):=GJ λ_ _ _ _ _ _ _ q=>gt_int q
theorem Rc:ck X (compareOp .GtE) (F7 λi j=>.bl (decide (j<=i))):=GJ λ_ _ _ _ _ _ _ q=>ge_int q
theorem MM:ck X (compareOp .Is) (λx y H Q=>y = .bj/\Q (.bl (decide (x = .bj))) H):=by
 intro pins s σ H x y v u Q I rx ry h;obtain⟨rfl,q⟩:=h;cases ry;refine is_none_gen (aF I q ?_);cases x<;>first
  | (cases rx;rfl)
  | (obtain⟨t,rfl⟩:=rx;rfl)
theorem ck.or{f:Value->Value->Sem Value}{r r':R2}(h:ck X f r)(h':ck X f r'):ck X f (λx y H Q=>r x y H Q\/r' x y H Q):=by
 intro pins s σ H x y v u Q I rx ry q;rcases q with q|q
 ·exact h pins s σ H x y v u Q I rx ry q
 ·exact h' pins s σ H x y v u Q I rx ry q
theorem DM(b:Expr){op:CmpOp}(h:op≠.In:=by decide)(h2:op≠.NotIn:=by decide):behindInMarks op b=false:=by
 have e1:(op == CmpOp.In)=false:=by cases op<;>first|rfl|exact absurd rfl h
 have e2:(op == CmpOp.NotIn)=false:=by cases op<;>first|rfl|exact absurd rfl h2
 cases b<;>simp[behindInMarks,e1,e2]
theorem HU{op:CmpOp}{r:R2}(ho:ck X (compareOp op) r)(ha:PE X a ta)(hb:PE X b tb)(hm:behindInMarks op b=false):PE X (.Compare a [op] [b] pos) (sT r ta tb):=by intro pins s σ H Q I h;exact wpAny_Compare1 (LN ha hb I h λv u s2 x y H2 I2 rx ry q=>ho pins s2 σ H2 x y v u Q I2 rx ry q) hm
def WH(K:W.Frag)(x:V)(H:Hp)(k:Bool):Prop:=
 match x with
 | .bj=>k=false
 | .bl b=>k=b
 | .int i=>k=(i != 0)
 | .str y=>y.length<=sizeLine/\k=((y.length:Int) != 0)
 | .yi y=>y.size<=sizeLine/\k=((y.size:Int) != 0)
 | .ref p=>(∃xs,aN K H p xs/\k=!xs.isEmpty)\/(∃xs,pQ K H p xs/\k=!xs.isEmpty)\/∃ag,H p=some (.dK ag)/\k=!ag.isEmpty
 | _=>False
theorem xT{κ:Type}{ag:List (κ×V)}{vs:List (κ×Value)}(r:KV ag vs):(!vs.isEmpty)=!ag.isEmpty:=by cases r<;>rfl
theorem nu{xs:List V}{its:List Value}(r:Vals xs its):(!its.toArray.isEmpty)=!xs.isEmpty:=by cases r<;>simp
theorem ib:(sizeLine:Nat)<2 ^ 63:=by rw[abv];decide
theorem v8:WI X (λx H Q=>∃k,WH X.K x H k/\Q k H):=by
 intro pins s σ H x v Q I rx h;obtain⟨k,e,q⟩:=h;have hl:=ib;have hs:sizeLine=16777216:=abv;cases x with
 | bj=>
  cases rx;have e':k=false:=e;subst e';exact truthy_none ⟨H,I,q⟩
 | bl b=>
  cases rx;have e':k=b:=e;subst e';exact abF ⟨H,I,q⟩
 | int i=>
  obtain⟨t,rfl⟩:=rx;have e':k=(i != 0):=e;subst e';exact PySem.P.truthy_int ⟨H,I,q⟩
 | str y=>
  obtain⟨t,rfl⟩:=rx;obtain⟨hy,e'⟩ : y.length<=sizeLine/\k=((y.length:Int) != 0):=e;subst e';exact PySem.P.truthy_str (by omega) ⟨H,I.tok _,q⟩
 | yi y=>
  obtain⟨t,rfl⟩:=rx;obtain⟨hy,e'⟩ : y.size<=sizeLine/\k=((y.size:Int) != 0):=e;subst e';exact W.truthy_bytes (by omega) ⟨H,I.tok _,q⟩
 | ref p=>
  cases rx;have e':(∃xs,aN X.K H p xs/\k=!xs.isEmpty)\/(∃xs,pQ X.K H p xs/\k=!xs.isEmpty)\/∃ag,H p=some (.dK ag)/\k=!ag.isEmpty:=e;rcases e' with⟨xs,hx,e'⟩|⟨xs,hx,e'⟩|⟨ag,hx,e'⟩
  ·subst e';obtain⟨its,r,pl,hz⟩:=I.list hx;have hlen:=r.length;exact wpAny_truthy_list pl.isList (by simp only[aaE];omega) ⟨H,I.tok _,by rw[nu r];exact q⟩
  ·subst e';obtain⟨its,r,pl,hz⟩:=I.tuple hx;have hlen:=r.length;exact truthy_tuple pl (by simp only[aaE];omega) ⟨H,I.tok _,by rw[nu r];exact q⟩
  ·subst e';obtain⟨hz,hS,vs,r,m⟩ : ag.length<=sizeLine/\(p == sysModules)=false/\∃vs,KV ag vs/\s.heap.DictOf (bh X.prog X.w) p vs:=I.au p _ hx;have hlen:ag.length=vs.length:=ab0 r;exact wpAny_truthy_dict hS m (by omega) ⟨H,I.tok _,by rw[xT r];exact q⟩
 | _=>exact(show False from e).elim
theorem xE:ck X (binaryOp .Add) (λx y H Q=>∃i j,x = .str i/\y = .str j/\i.length+j.length<=sizeLine/\Q (.str (i++j)) H):=by intro pins s σ H x y v u Q I rx ry h;obtain⟨i,j,rfl,rfl,hz,q⟩:=h;obtain⟨t,rfl⟩:=rx;obtain⟨t',rfl⟩:=ry;exact add_str (λt' tk=>⟨.str (i++j),H,I.tok _,⟨_,rfl⟩,q⟩) hz
theorem vals1{x:V}{us:List Value}(r:Vals [x] us):∃u,us=[u]/\RelV x u:=by
 cases r with
 | cons r1 r2=>cases r2;exact⟨_,rfl,r1⟩
theorem vals2{x y:V}{us:List Value}(r:Vals [x,y] us):∃u w',us=[u,w']/\RelV x u/\RelV y w':=by
 cases r with
 | cons r1 r2=>
  cases r2 with
  | cons r3 r4=>cases r4;exact⟨_,_,rfl,r1,r3⟩
theorem Bq(hc:X.calm=true):aH X (.builtin "max") (λxs H Q=>∃i j,xs=[.int i,.int j]/\Q (.int (if j>i then j else i)) H):=by
 intro pins s σ H xs us Q I r h;obtain⟨i,j,rfl,q⟩:=h;obtain⟨u,w',rfl,⟨t,rfl⟩,⟨t',rfl⟩⟩:=vals2 r;refine max_two_ints (I.ok.hd hc) λh' tk k=>⟨_,H,I.kept k,?_,q⟩
 by_cases hj:j>i
 ·rw[aaz hj,aaz hj];exact⟨_,rfl⟩
 ·rw[aar hj,aar hj];exact⟨_,rfl⟩
theorem Bo(hc:X.calm=true):aH X (.builtin "min") (λxs H Q=>∃i j,xs=[.int i,.int j]/\Q (.int (if j<i then j else i)) H):=by
 intro pins s σ H xs us Q I r h;obtain⟨i,j,rfl,q⟩:=h;obtain⟨u,w',rfl,⟨t,rfl⟩,⟨t',rfl⟩⟩:=vals2 r;refine min_two_ints (I.ok.hd hc) λh' tk k=>⟨_,H,I.kept k,?_,q⟩
 by_cases hj:j<i
 ·rw[aaz hj,aaz hj];exact⟨_,rfl⟩
 ·rw[aar hj,aar hj];exact⟨_,rfl⟩
theorem Bw:aH X (.type "int") (λxs H Q=>(∃i,xs=[.int i]/\Q (.int i) H)\/∃k,xs=[.bl k]/\Q (.int (if k then 1 else 0)) H):=by
 intro pins s σ H xs us Q I r h;rcases h with⟨i,rfl,q⟩|⟨k,rfl,q⟩
 ·obtain⟨u,rfl,t,rfl⟩:=vals1 r;exact call_int_int ⟨.int i,H,I,⟨_,rfl⟩,q⟩
 ·obtain⟨u,rfl,r1⟩:=vals1 r;cases r1;exact call_int_bool ⟨.int (if k then 1 else 0),H,I.tok _,⟨_,rfl⟩,q⟩
theorem sq:aH X (.type "str") (λxs H Q=>∃i,xs=[.int i]/\i.natAbs.log2<1920/\Q (.str (toString i)) H):=by intro pins s σ H xs us Q I r h;obtain⟨i,rfl,hz,q⟩:=h;obtain⟨u,rfl,t,rfl⟩:=vals1 r;exact PySem.P.str_of_int hz ⟨.str _,H,I.tok _,⟨_,rfl⟩,q⟩
end
structure vV(h:Heap)(x dx C:Addr)(mA:Str->Option Value):Prop where
 obj:h.get? x=some (W.instObj C dx)
 ns:h.Ns1 dx mA
 ne:dx≠x
theorem A5{h:Heap}{dx:Addr}{mA:Str->Option Value}(n:h.Ns1 dx mA):∃od,h.get? dx=some od/\∀name,W.lookIn name od=some (mA name):=by
 refine az λak=>?_;obtain⟨o,es,ep,ho,hd,hk,_,hm⟩:=n;refine ak ?_;clear ak;refine⟨o,ho,λname=>?_⟩;have e:=hm name;unfold nsFind findBy at e;rw[<-Array.find?_toList]at e;unfold W.lookIn;rw[hd];dsimp only;split
 ·rename_i y q;rw[q]at e;exact aaX some e
 ·rename_i q;rw[q]at e;have a:es.toList.any (·.refKey)=false:=by rw[List.any_eq_false];intro y hy;obtain⟨z,t,Wo⟩:=hk y (Array.mem_toList_iff.mp hy);simp[DictEntry.refKey,Wo]
  have a':¬es.toList.any (·.refKey)=true:=by rw[a];exact aav
  rw[aar a'];exact aaX some e
theorem vV.look{h:Heap}{x dx C:Addr}{mA:Str->Option Value}(I:vV h x dx C mA):∃od,W.InstAt h x (W.instObj C dx) C (some od)/\∀name,W.lookIn name od=some (mA name):=
 let⟨od,ho,hl⟩:=A5 I.ns
 ⟨od,⟨I.obj,rfl,rfl,ho⟩,hl⟩
section
variable{prog:Program}{w:World}{A:Around}{E:Value->Shared->Prop}{s:Shared}{K:W.Frag}{x dx C f:Addr}{mA:Str->Option Value}{name:Str}{v:Value}
theorem get_map{expr:Bool}{Q:Value->Shared->Prop}(X:K.In s.heap)(I:vV s.heap x dx C mA)(hg:W.plainGet K C name=true)(hh:W.hasDictIn K C=true)(ha:W.findIn K (.ref C) name=some none)(hv:mA name=some v)(JT:W.handedIn v=true)(h:Q v { s with toks:=s.toks+1 }):wpAny (model prog w) A (getAttr (.ref x) name expr) Q E s:=by obtain⟨od,J,hl⟩:=I.look;exact W.get_value X J (W.plainGet_of hg).1 (W.findObj_own hh ha rfl (by rw[hl,hv])) JT h
theorem Fx{pl:Sem Bool}{Q:Value×List Value->Shared->Prop}(X:K.In s.heap)(I:vV s.heap x dx C mA)(hg:W.plainGet K C name=true)(hf:W.findIn K (.ref C) name=some (some (.ref f)))(ht:W.isFn K (.ref f)=true)(hv:mA name=none)(h:Q (.ref f,[.ref x]) s):wpAny (model prog w) A (getMethod (.ref x) name pl) Q E s:=by obtain⟨od,J,hl⟩:=I.look;exact W.method_fn X J (W.plainGet_of hg).1 (W.plainGet_of hg).2 hf (acp.mp ht) (by show(W.lookIn name od).map (·.isSome)=some false;rw[hl,hv];rfl) h
theorem Hq{ns:List Str}{Q:Unit->Shared->Prop}(X:K.In s.heap)(I:vV s.heap x dx C mA)(hs:W.findIn K (.ref C) "__setattr__" = some (some (.builtin "object.__setattr__")))(hp:W.plainOver K C=true)(ht:W.takerIn K C name=some none)(hh:W.hasDictIn K C=true)(hw:PySem.Within mA ns)(hsz:ns.length<=sizeLine)(h:∀h',vV h' x dx C (λy=>if y=name then some v else mA y)->Heap.SameBut dx s.heap h'->Q () { s with heap:=h',toks:=s.toks+2 }):wpAny (model prog w) A (setAttr (.ref x) name v) Q E s:=by obtain⟨od,J,hl⟩:=I.look;refine W.set_plain X J hs (W.osa_open (s:={ s with toks:=s.toks+1 }) (r:=none) X J hp ht λb=>?_);obtain⟨cd,hc,JW⟩:=W.any_some hh;have hx:s.heap.get? x=some ⟨.ref C,some dx,.plain,#[]⟩:=I.obj;refine aac (aaj (aac (aac (wpAny_loadPart hx (aac (W.Looks.here (s:={ s with toks:=s.toks+1 }) (W.looks_clsIn X hc) ?_))))));rw[JW];refine aaj (a:=some dx) (aac (aaj (aac ?_)));refine wpAny_nsSet1 (s:={ s with toks:=s.toks+1 }) I.ns λh' Pp zH=>?_;obtain⟨oD,esD,epD,Z2,hdD,hcD⟩:=Pp.count (PySem.Within.cons name v hw);refine aac (wpAny_lookBehind Z2 (by rw[hdD];exact pastItsLine_dict (aaM hcD (by rw[aax];omega))) ?_);exact aaj (h _ ⟨(zH.2 _ (aa5 I.ne)).trans I.obj,Pp,I.ne⟩ zH)
theorem Ff{R:Result->Shared->Prop}{vs:List Value}{kw:List (Str×Value)}(X:K.In s.heap)(hm:W.makesIn K C=true)(hi:W.findIn K (.ref C) "__init__" = some (some (.ref f)))(hf:W.typeIn K (.ref f)=some (.type "function"))(h:codeAny (model prog w) (A.under (.builtin "type.__call__" ⟨.ref C::vs,kw⟩)) (.call (.ref f) ⟨.ref (s.heap.objs.size+1)::vs,kw⟩) (W.InitBack (s.heap.objs.size+1) R) { s with heap:=(s.heap.push W.emptyDict).push (W.instObj C s.heap.objs.size) }):codeAny (model prog w) A (.call (.ref C) ⟨vs,kw⟩) R s:=by obtain⟨hh,g,d,t,os⟩:=s;exact W.make_core (W.makes_of X hm) (W.looks_findIn X hi) (λself=>W.bind_fn X self hf) (.inl rfl) h
end
def bW(f:Str)(v:V):List (Str×V)->List (Str×V)
 | []=>[(f,v)]
 | (g,x)::r=>if g=f then(g,v)::r else(g,x)::bW f v r
theorem kA(f g:Str)(v:V):∀fs:List (Str×V),(bW f v fs).lookup g=if g=f then some v else fs.lookup g
 | []=>by
  show List.lookup g [(f,v)]=_;by_cases h:g=f
  ·have hb:(g == f)=true:=acp.mpr h;simp only[List.lookup,hb,aaz h]
  ·have hb:(g == f)=false:=abK.mpr h;simp only[List.lookup,hb,aar h]
 | (k,x)::r=>by
  have ih:=kA f g v r;rw[show bW f v ((k,x)::r)=(if k=f then(k,v)::r else(k,x)::bW f v r)from rfl];by_cases hk:k=f
  ·rw[aaz hk];by_cases h:g=k
   ·have hb:(g == k)=true:=acp.mpr h;simp only[List.lookup,hb,aaz (h.trans hk)]
   ·have hb:(g == k)=false:=abK.mpr h;simp only[List.lookup,hb,aar (λe:g=f=>h (e.trans hk.symm))]
  ·rw[aar hk];by_cases h:g=k
   ·have hb:(g == k)=true:=acp.mpr h;simp only[List.lookup,hb,aar (λe:g=f=>hk (h.symm.trans e))]
   ·have hb:(g == k)=false:=abK.mpr h;simp only[List.lookup,hb];exact ih
theorem j0(f:Str)(v:V):∀fs:List (Str×V),f∈(bW f v fs).map (·.1)/\∀g,g∈fs.map (·.1)->g∈(bW f v fs).map (·.1)
 | []=>⟨by simp[bW],λg h=>by simp at h⟩
 | (k,x)::r=>by
  obtain⟨i1,i2⟩:=j0 f v r;rw[show bW f v ((k,x)::r)=(if k=f then(k,v)::r else(k,x)::bW f v r)from rfl];by_cases hk:k=f
  ·rw[aaz hk];subst hk;exact⟨by simp,λg h=>by simpa using h⟩
  ·rw[aar hk];refine⟨?_,λg h=>?_⟩
   ·rw[aaR];exact aaf _ i1
   ·rw[aaR]at h ⊢;rcases aau.mp h with e|e
    ·exact aau.mpr (.inl e)
    ·exact aaf _ (i2 g e)
theorem kB(f:Str)(v:V):∀fs:List (Str×V),(bW f v fs).length<=fs.length+1
 | []=>by simp[bW]
 | (k,x)::r=>by
  have ih:=kB f v r;rw[show bW f v ((k,x)::r)=(if k=f then(k,v)::r else(k,x)::bW f v r)from rfl];by_cases hk:k=f
  ·rw[aaz hk,aax,aax];omega
  ·rw[aar hk,aax,aax];omega
theorem fq.some_of{v:V}{o:Option Value}(r:fq (some v) o):∃u,o=some u/\RelV v u:=by
 cases o with
 | none=>exact(show False from r).elim
 | some u=>exact⟨u,rfl,r⟩
theorem fq.none_of{o:Option Value}(r:fq none o):o=none:=by
 cases o with
 | none=>rfl
 | some u=>exact(show False from r).elim
theorem Bd{v:V}{u:Value}(r:RelV v u):W.handedIn u=true:=by
 cases v with
 | bj=>cases(show u=Value.none from r);rfl
 | bl b=>cases(show u=Value.bool b from r);rfl
 | int i=>obtain⟨t,e⟩:=(show ∃t,u=Value.int i t from r);cases e;rfl
 | str x=>obtain⟨t,e⟩:=(show ∃t,u=Value.str x t from r);cases e;rfl
 | yi b=>obtain⟨t,e⟩:=(show ∃t,u=Value.bytes b t from r);cases e;rfl
 | SO b=>obtain⟨t,e⟩:=(show ∃t,u=Value.float b t from r);cases e;rfl
 | ref a=>cases(show u=Value.ref a from r);rfl
 | ty n=>cases(show u=Value.type n from r);rfl
section
variable{P:Program}{w:World}{H H':Hp}{h h':Heap}{a C dx:Addr}{fs fs':List (Str×V)}
theorem rL(au:eM P w H h)(e:H a=some (.ins C dx fs)):∃mA,vV h a dx C mA/\(∀f,fq (fs.lookup f) (mA f))/\PySem.Within mA (fs.map (·.1))/\fs.length<=1000/\H dx=some (.own a):=by
 refine az λak=>?_;obtain⟨d,z,ne,ob,mA,n,r,q⟩:=(show aS P w H h a (.ins C dx fs)from au a _ e)
 refine ak ?_;clear ak;exact⟨mA,⟨ob,n,ne⟩,r,q,z,d⟩
end
structure pR(K:W.Frag)(C:Addr):Prop where
 pg:W.plainGet K C Str.empty=true
 hd:W.hasDictIn K C=true
 po:W.plainOver K C=true
 sa:W.findIn K (.ref C) "__setattr__" = some (some (.builtin "object.__setattr__"))
theorem pR.get{K:W.Frag}{C:Addr}(c:pR K C)(f:Str):W.plainGet K C f=true:=c.pg
def ie(K:W.Frag)(C:Addr)(f:Str):Prop:=W.findIn K (.ref C) f=some none
theorem ie.QM{K:W.Frag}{C:Addr}{f:Str}(n:ie K C f):W.takerIn K C f=some none:=by unfold W.takerIn;rw[show W.findIn K (.ref C) f=some none from n];rfl
structure Meth(K:W.Frag)(C:Addr)(m:Str)(f:Addr):Prop where
 at_:W.findIn K (.ref C) m=some (some (.ref f))
 fn:W.isFn K (.ref f)=true
 kp:W.keepIn K (.ref f)=true
section
variable{X:Cx}{pins:List (Addr×Obj)}{σ:St}{H:Hp}{s:Shared}{a C dx:Addr}{fs:List (Str×V)}{f:Str}{v:V}{A:Around}{E:Value->Shared->Prop}
theorem xU{b:Bool}{Q:Value->Shared->Prop}(I:Inv X pins σ H s)(e:H a=some (.ins C dx fs))(c:pR X.K C)(n:ie X.K C f)(l:fs.lookup f=some v)(h:∀u s',Inv X pins σ H s'->RelV v u->Q u s'):wpAny (model X.prog X.w) A (getAttr (.ref a) f b) Q E s:=by obtain⟨mA,O,r,_,_,_⟩:=rL I.au e;obtain⟨u,hu,ru⟩:=fq.some_of (v:=v) (o:=mA f) (by rw[<-l];exact r f);exact get_map I.fj O (c.get f) c.hd n hu (Bd ru) (h u _ (I.tok _) ru)
theorem iu{m:Str}{g:Addr}{pl:Sem Bool}{Q:Value×List Value->Shared->Prop}(I:Inv X pins σ H s)(e:H a=some (.ins C dx fs))(c:pR X.K C)(k:Meth X.K C m g)(l:fs.lookup m=none)(h:Q (.ref g,[.ref a]) s):wpAny (model X.prog X.w) A (getMethod (.ref a) m pl) Q E s:=by obtain⟨mA,O,r,_,_,_⟩:=rL I.au e;have hn:mA m=none:=fq.none_of (by rw[<-l];exact r m);exact Fx I.fj O (c.get m) k.at_ k.fn hn h
theorem xw{y:V}{u:Value}{Q:Unit->Shared->Prop}(I:Inv X pins σ H s)(e:H a=some (.ins C dx fs))(c:pR X.K C)(n:ie X.K C f)(hl:fs.length<1000)(ry:RelV y u)(h:∀s',Inv X pins σ (upd H a (.ins C dx (bW f y fs))) s'->Q () s'):wpAny (model X.prog X.w) A (setAttr (.ref a) f u) Q E s:=by
 obtain⟨mA,O,r,wi,_,ho⟩:=rL I.au e;have hz:(fs.map (·.1)).length<=sizeLine:=by rw[aaa,abv];omega
 refine Hq I.fj O c.sa c.po n.QM c.hd wi hz λh' O' sb=>h _ ?_;have hd:∃o,h'.get? dx=some o:=let⟨o,_,_,e',_⟩:=O'.ns;⟨o,e'⟩;refine I.write (x:=a) (e:=dx) (by rw[e];exact True.intro) (.inr ho) (λb q hb z=>(sb.2 b hb).trans z) hd ?_;refine⟨by rw[af O.ne];exact ho,?_,O.ne,O'.obj,_,O'.ns,λg=>?_,λg hg=>?_⟩
 ·have:=kB f y fs;omega
 ·show fq ((bW f y fs).lookup g) (if g=f then some u else mA g);rw[kA];by_cases q:g=f
  ·rw[aaz q,aaz q];exact ry
  ·rw[aar q,aar q];exact r g
 ·by_cases q:g=f
  ·rw[q];exact(j0 f y fs).1
  ·refine(j0 f y fs).2 g (wi g λz=>hg ?_);show(if g=f then some u else mA g)=none;rw[aar q];exact z
theorem Inv.made(I:Inv X pins σ H s):Inv X pins σ (upd (upd H s.heap.objs.size (.own (s.heap.objs.size+1))) (s.heap.objs.size+1) (.ins C s.heap.objs.size [])) { s with heap:=(s.heap.push W.emptyDict).push (W.instObj C s.heap.objs.size) }:=by
 have e1:(s.heap.push W.emptyDict).get? s.heap.objs.size=some W.emptyDict:=aap s.heap rfl;have e2:((s.heap.push W.emptyDict).push (W.instObj C s.heap.objs.size)).get? (s.heap.objs.size+1)=some (W.instObj C s.heap.objs.size):=by have:=aap (s.heap.push W.emptyDict) (o:=W.instObj C s.heap.objs.size) rfl;rwa [Heap.size_push]at this
 have e3:(s.heap.push W.emptyDict).Ns s.heap.objs.size (λ_=>none):=⟨W.emptyDict,#[],_,e1,rfl,(λe he=>absurd he (by simp)),λ_=>rfl⟩
 have I1:=I.laid (a:=s.heap.objs.size) (o:=.own (s.heap.objs.size+1)) (h':=s.heap.push W.emptyDict) (t':=s.toks) (λb u q=>aad _ q) (aae _) ⟨_,e1⟩;refine I1.laid (a:=s.heap.objs.size+1) (o:=.ins C s.heap.objs.size []) (t':=s.toks) (λb u q=>aad _ q) (ac4 (Heap.size_push _ _)) ?_;have ne:s.heap.objs.size≠s.heap.objs.size+1:=aaD (acR _);refine⟨by rw[af ne,aa],aaO _,ne,e2,λ_=>none,(Heap.Ns1.of_empty e3).at λo q=>aad _ q,λ_=>True.intro,λy hy=>absurd rfl hy⟩
theorem JI{prog:Program}{w:World}{env:Env}{e:Expr}{f:Str}{pos:Pos}{s:Shared}{Q:Value->Shared->Prop}(hb:attributeBase e f env (eval e env)=eval e env)(h:wpAny (model prog w) A (eval e env) (λo aD=>wpAny (model prog w) A (getAttr o f true) Q E aD) E s):wpAny (model prog w) A (eval (.Attribute e f pos) env) Q E s:=
 Attribute_any_ h (by rw[arm_eval_Attribute,hb])
end
def VM(K:W.Frag)(ta:TE)(f:Str):TE:=λσ H Q=>ta σ H λx H1=>∃a C dx fs v,x = .ref a/\H1 a=some (.ins C dx fs)/\pR K C/\ie K C f/\fs.lookup f=some v/\Q v H1
def VR(K:W.Frag)(ta tv:TE)(f:Str):TS:=λD σ H=>tv σ H λy H1=>ta σ H1 λx H2=>∃a C dx fs,x = .ref a/\H2 a=some (.ins C dx fs)/\pR K C/\ie K C f/\fs.length<1000 ∧
 D.nx σ (upd H2 a (.ins C dx (bW f y fs)))
section
variable{X:Cx}{o e value:Expr}{f:Str}{pos pos' P1:Pos}{ta tv:TE}
theorem DF(he:PE X e ta)(hb:attributeBase e f X.env (eval e X.env)=eval e X.env):PE X (.Attribute e f pos) (VM X.K ta f):=by intro pins s σ H Q I h;refine JI hb (ba (he pins s σ H _ I h) λu s1 ⟨x,H1,I1,rx,a,C,dx,fs,v,ex,ea,c,n,l,q⟩=>?_);subst ex;obtain rfl:u=Value.ref a:=rx;exact xU I1 ea c n l λu' s2 I2 ru=>⟨v,H1,I2,ru,q⟩
theorem Mf(ha:PE X o ta)(hv:PE X value tv)(hs:swapsWith value (some (.Attribute o f pos')) pos.line X.env=pure false):PS X (.Assign [.Attribute o f pos'] value pos) (VR X.K ta tv f):=by intro pins s σ H D I h;refine plainObj_wpAny_Assign_Attribute (ba (hv pins s σ H _ I h) λu s1 ⟨y,H1,I1,ry,q⟩=>ba (ha pins s1 σ H1 _ I1 q) λov s2 ⟨x,H2,I2,rx,a,C,dx,fs,ex,ea,c,n,l,q2⟩=>?_) hs;subst ex;obtain rfl:ov=Value.ref a:=rx;exact xw I2 ea c n l ry λs3 I3=>⟨σ,_,I3,q2⟩
end
structure av(k:Nat)(A:Around):Prop where
 hd:A.handled=none
 dp:A.depth+3*k+5<recursionLimit
 un:A.units+16*k+200<cLine
theorem av.mono{j k:Nat}{A:Around}(r:av k A)(h:j<=k):av j A:=⟨r.hd,by have:=r.dp;omega,by have:=r.un;omega⟩
theorem av.deeper{k:Nat}{A:Around}(r:av (k+1) A)(env:Env):av k (A.deeper env):=
 ⟨r.hd,by have:=r.dp;show A.depth+1+3*k+5<_;omega,by have:=r.un;show A.units+3+16*k+200<_;omega⟩
theorem xQ{A:Around}{C:Addr}{us:List Value}{kw:List (Str×Value)}:(A.under (.builtin "type.__call__" ⟨.ref C::us,kw⟩)).depth=A.depth+1:=by
 first|rfl|simp[Around.under,Code.weight,Code.isCreation,Code.isGuard,Code.isCaller,Code.frames,Code.isFrame,guardIds]
theorem xP{A:Around}{C:Addr}{us:List Value}{kw:List (Str×Value)}:(A.under (.builtin "type.__call__" ⟨.ref C::us,kw⟩)).units=A.units+1:=by
 first|rfl|simp[Around.under,Code.cUnits,Code.frames,Code.isFrame]
theorem av.make{k:Nat}{A:Around}(r:av (k+1) A)(C:Addr)(us:List Value)(kw:List (Str×Value)):av k (A.under (.builtin "type.__call__" ⟨.ref C::us,kw⟩)):=
 ⟨r.hd,by have:=r.dp;rw[xQ];omega,by have:=r.un;rw[xP];omega⟩
theorem av.depth{k:Nat}{A:Around}(r:av k A):A.depth<recursionLimit:=by have:=r.dp;omega
theorem av.units{k:Nat}{A:Around}(r:av k A):A.units+64<cLine:=by have:=r.un;omega
def gY:TA:=λ_ H Q=>Q [] H
def gO(ta:TE)(tr:TA):TA:=λσ H Q=>ta σ H λx H1=>tr σ H1 λxs H2=>Q (x::xs) H2
section
variable{X:Cx}{e:Expr}{es:List Expr}{te:TE}{t:TA}{pos:Pos}
theorem MC:PA X [] gY:=λ_ _ _ _ H Q I h=>Calls.spliced_nil ⟨[],H,I,.nil,h⟩
theorem HX(ha:PE X e te)(hr:PA X es t)(hs:starEach (e::es) X.env=(false,eval e X.env)::starEach es X.env:=by rfl):PA X (e::es) (gO te t):=by intro pos pins s σ H Q I h;rw[hs];show wpAny _ _ (spliced ((false,eval e X.env)::backTo pos (starEach es X.env))) _ _ s;refine Calls.spliced_cons (ba (ha pins s σ H _ I h) λu s1 ⟨x,H1,I1,r1,q1⟩=>?_);exact ba (hr pos pins s1 σ H1 _ I1 q1) λus s2 ⟨xs,H2,I2,r2,q2⟩=>⟨x::xs,H2,I2,.cons r1 r2,q2⟩
def VG(t:TA):TE:=λσ H Q=>t σ H λxs H1=>xs.length<=sizeLine/\∀p,H1 p=none->Q (.ref p) (upd H1 p (.tup xs))
def VI(t:TA):TE:=λσ H Q=>t σ H λxs H1=>xs.length<=sizeLine/\∀p,H1 p=none->Q (.ref p) (upd H1 p (.lst xs))
theorem Mp{x1}(h:PA X es t):PE X (.Tuple es x1 pos) (VG t):=by intro pins s σ H Q I hq;refine wpAny_Tuple_spliced (ba (h pos pins s σ H _ I hq) λus s1 ⟨xs,H1,I1,r,z,q⟩=>⟨by rw[<-r.length];exact z,?_⟩);have hf:H1 s1.heap.objs.size=none:=I1.au.fresh (aae _);refine⟨.ref s1.heap.objs.size,upd H1 s1.heap.objs.size (.tup xs),I1.laid (t':=s1.toks) (λb u e=>aad _ e) (aae _) ?_,rfl,q _ hf⟩;exact⟨z,us,r,⟨_,aap _ rfl,rfl,_,rfl⟩⟩
theorem Mw(h:PA X es t):PE X (.List es pos) (VI t):=by intro pins s σ H Q I hq;refine wpAny_List_spliced (ba (h pos pins s σ H _ I hq) λus s1 ⟨xs,H1,I1,r,z,q⟩=>⟨by rw[<-r.length];exact z,?_⟩);have hf:H1 s1.heap.objs.size=none:=I1.au.fresh (aae _);refine⟨.ref s1.heap.objs.size,upd H1 s1.heap.objs.size (.lst xs),I1.laid (t':=s1.toks) (λb u e=>aad _ e) (aae _) ?_,rfl,q _ hf⟩;exact⟨z,us,0,r,aap _ rfl⟩
end
abbrev Sp:=List V->Hp->VK->XK->Prop
abbrev zL:=List Env->Hp->Shared->XK->Value->Shared->Prop
structure lP(P:Program)(w:World)(K:W.Frag)(mg:Str->Option Value)(base:Heap)(A:Around)(outer:List Env)(s:Shared)(H:Hp):Prop where
 frames:A.frames=some outer
 mod:Mod K mg base
 bs:∀b o,base.get? b=some o->s.heap.get? b=some o/\H b=none
 BI:base.objs.size<=s.heap.objs.size
 gG:s.heap.FunFrames base outer
 Gb:∀b∈cj outer,H b=none
 au:eM P w H s.heap
 bare:AllBare s.gens
def CE(outer:List Env)(P:Program)(w:World)(H:Hp)(s:Shared)(Q:VK)(u:Value)(s':Shared):Prop:=
 ∃v H',s'.os=s.os/\AllBare s'.gens/\Un (cj outer) [] H H' s.heap s'.heap/\eM P w H' s'.heap/\RelV v u/\Q v H'
def CR(CX:zL)(outer:List Env)(P:Program)(w:World)(H:Hp)(s:Shared)(Q:VK)(E:XK)(r:Result)(s':Shared):Prop:=
 match r with
 | .ok (.ret u)=>CE outer P w H s Q u s'
 | .ok _=>False
 | .error e=>CX outer H s E e s'
structure cU(P:Program)(w:World)(K:W.Frag)(mg:Str->Option Value)(base:Heap)(CX:zL)(k:Nat)(f:Addr)(fd:FuncData)(ps:List Str)(sp:Sp):Prop where
 len:∀vs H Q E,sp vs H Q E->vs.length=ps.length
 run:∀(A:Around)(outer:List Env)(s:Shared)(H:Hp)(args:Args)(us:List Value)(vs:List V)(Q:VK)(E:XK),av k A->lP P w K mg base A outer s H->BindsTo s fd args (ps.zip us)->Vals vs us->sp vs H Q E →
  codeAny (model P w) A (.call (.ref f) args) (CR CX outer P w H s Q E) s
theorem lP.make{P:Program}{w:World}{K:W.Frag}{mg:Str->Option Value}{base:Heap}{A:Around}{outer:List Env}{s:Shared}{H:Hp}(e:lP P w K mg base A outer s H)(C:Addr)(us:List Value)(kw:List (Str×Value)):lP P w K mg base (A.under (.builtin "type.__call__" ⟨.ref C::us,kw⟩)) outer s H:=⟨by first|exact e.frames|(simpa[Around.under,Code.envs,Code.isFrame,pushEnvs]using e.frames),e.mod,e.bs,e.BI,e.gG,e.Gb,e.au,e.bare⟩
section
variable{X:Cx}{pins:List (Addr×Obj)}{σ:St}{H:Hp}{s s':Shared}
theorem Inv.Cm(I:Inv X pins σ H s):lP X.prog X.w X.K X.mg X.base X.A X.stack s H:=
 ⟨I.ok.frames,I.ok.mod,I.bs,aaM I.ok.BI I.sz,I.stack,I.iM,I.au,I.bare⟩
theorem Inv.after{Q:VK}{u:Value}(I:Inv X pins σ H s)(h:CE X.stack X.prog X.w H s Q u s'):EP X pins σ Q u s':=by refine az λak=>?_;obtain⟨v,H',os,bare,un,au,r,q⟩:=h;obtain⟨hh,g,d,t,TN⟩:=s';refine ak ?_;clear ak;obtain rfl:TN=s.os:=os;exact⟨v,H',I.call (h':=hh) (g':=g) (d':=d) (t':=t) (ch:=[]) un au bare (λb z=>absurd z (by simp)),r,q⟩
end
def oq(sp:Sp)(kH:List V)(E:XK)(t:TA):TE:=λσ H Q=>t σ H λvs H1=>sp (vs++kH) H1 Q E
def yo(C:Addr)(m:Str)(sp:Sp)(kH:List V)(E:XK)(ta:TE)(t:TA):TE:=λσ H Q=>ta σ H λx H1=>∃a dx fs,x = .ref a/\H1 a=some (.ins C dx fs)/\fs.lookup m=none ∧
 t σ H1 λvs H2=>sp (x::(vs++kH)) H2 Q E
def QT(C:Addr)(sp:Sp)(kH:List V)(E:XK)(t:TA):TE:=λσ H Q=>t σ H λvs H1=>∀x dx,H1 x=none->H1 dx=none->dx≠x →
 sp (.ref x::(vs++kH)) (upd (upd H1 dx (.own x)) x (.ins C dx [])) (λv H2=>v = .bj/\Q (.ref x) H2) E
def Binds(K:W.Frag)(fd:FuncData)(ps:List Str)(ds:List Value):Prop:=
 ∀(s:Shared)(us:List Value),K.In s.heap->(us++ds).length=ps.length->BindsTo s fd ⟨us,[]⟩ (ps.zip (us++ds))
theorem Binds.all{K:W.Frag}{fd:FuncData}{ps:List Str}(h:∀us:List Value,us.length=ps.length->bindArgs fd ⟨us,[]⟩=pure (ps.zip us)):Binds K fd ps []:=λs us _ hl=>by rw[aa1]at hl ⊢;exact .of_eq (h us hl)
def Passes(CX:zL)(X:Cx)(E:XK):Prop:=∀(pins:List (Addr×Obj))(σ:St)(H:Hp)(s:Shared)(e:Value)(s':Shared),Inv X pins σ H s->CX X.stack H s E e s'->X.xe e s'
section
variable{X:Cx}{CX:zL}{k:Nat}{f C:Addr}{fd:FuncData}{ps:List Str}{sp:Sp}{kH:List V}{ds:List Value}{E:XK}{x m:Str}{p pos apos:Pos}{e o:Expr}{es:List Expr}{ta:TE}{t:TA}
theorem qi{pins:List (Addr×Obj)}{σ:St}{H:Hp}{s:Shared}{Q:VK}{us:List Value}{vs:List V}(F:cU X.prog X.w X.K X.mg X.base CX k f fd ps sp)(hr:av k X.A)(hb:Binds X.K fd ps ds)(hd:Vals kH ds)(hx:Passes CX X E)(I:Inv X pins σ H s)(r:Vals vs us)(h:sp (vs++kH) H Q E):wpAny (model X.prog X.w) X.A (call (.ref f) us) (EP X pins σ Q) X.xe s:=by
 have r2:Vals (vs++kH) (us++ds):=r.append hd;have hl:(us++ds).length=ps.length:=by rw[<-r2.length];exact F.len _ _ _ _ h
 refine abP (abN (F.run X.A X.stack s H ⟨us,[]⟩ (us++ds) (vs++kH) Q E hr I.Cm (hb s us I.fj hl) r2 h) λr s' hq=>?_);cases r with
 | error e=>exact hx pins σ H s e s' I hq
 | ok fl=>
  cases fl with
  | ret u=>exact I.after hq
  | next=>exact False.elim hq
  | brk=>exact False.elim hq
  | cont=>exact False.elim hq
theorem rD(F:cU X.prog X.w X.K X.mg X.base CX k f fd ps sp)(hr:av k X.A)(hg:Gl X x)(hm:X.mg x=some (.ref f))(hk:W.keepIn X.K (.ref f)=true)(hb:Binds X.K fd ps ds)(hd:Vals kH ds)(hx:Passes CX X E)(ha:PA X (e::es) t)(gE:(x == ("__debug__" : Str))=false:=by decide)(he:starEach (e::es) X.env=(false,eval e X.env)::starEach es X.env:=by rfl)(hpl:(backTo pos (starEach es X.env)).any (·.1)=false:=by rfl):PE X (.Call (.Name x p) (e::es) [] pos) (oq sp kH E t):=by intro pins s σ H Q I h;refine abu (cM I hg hm ?_ gE);refine ady (h₀:=X.base) I.ok.mod.zG hk (ba (ha pos pins s σ H _ I h) λus s1 ⟨vs,H1,I1,r,q⟩=>⟨I1.fj,?_⟩) he hpl;exact qi F hr hb hd hx I1 r q
theorem HP{pl:Sem Bool}(he:PE X o ta)(c:pR X.K C)(hm:Meth X.K C m f)(F:cU X.prog X.w X.K X.mg X.base CX k f fd ps sp)(hr:av k X.A)(hb:Binds X.K fd ps ds)(hd:Vals kH ds)(hx:Passes CX X E)(ha:PA X (e::es) t)(cF:starEach (e::es) X.env=(false,eval e X.env)::starEach es X.env:=by rfl)(hpl:(backTo pos (starEach es X.env)).any (·.1)=false:=by rfl)(ht:eval (.Call (.Attribute o m apos) (e::es) [] pos) X.env=(do
   let ov <-eval o X.env
   standAt apos.atName
   let(f,first) <-holding [ov] (getMethod ov m pl)
   callWith pos f first (backTo pos (starEach (e::es) X.env)) (backToKw pos (keywordEach [] X.env))):=by rfl):PE X (.Call (.Attribute o m apos) (e::es) [] pos) (yo C m sp kH E ta t):=by intro pins s σ H Q I h;refine W.methodCall_KW (pl:=pl) (ba (he pins s σ H _ I h) λu s1 ⟨x,H1,I1,rx,a,dx,fs,ex,ea,l,q⟩=>?_) ht;subst ex;obtain rfl:u=Value.ref a:=rx;refine iu I1 ea c hm l ?_;refine ady (first:=[.ref a]) (h₀:=X.base) I.ok.mod.zG hm.kp (ba (ha pos pins s1 σ H1 _ I1 q) λus s2 ⟨vs,H2,I2,r,q2⟩=>⟨I2.fj,?_⟩) cF hpl;exact qi (us:=.ref a::us) (vs:=.ref a::vs) F hr hb hd hx I2 (.cons rfl r) q2
theorem EE{pl:Sem Bool}(he:PE X o ta)(c:pR X.K C)(hm:Meth X.K C m f)(F:cU X.prog X.w X.K X.mg X.base CX k f fd ps sp)(hr:av k X.A)(hb:Binds X.K fd ps ds)(hd:Vals kH ds)(hx:Passes CX X E)(ht:eval (.Call (.Attribute o m apos) [] [] pos) X.env=(do
   let ov <-eval o X.env
   standAt apos.atName
   let(f,first) <-holding [ov] (getMethod ov m pl)
   callWith pos f first (backTo pos (starEach [] X.env)) (backToKw pos (keywordEach [] X.env))):=by rfl):PE X (.Call (.Attribute o m apos) [] [] pos) (yo C m sp kH E ta gY):=by intro pins s σ H Q I h;refine W.methodCall_KW (pl:=pl) (ba (he pins s σ H _ I h) λu s1 ⟨x,H1,I1,rx,a,dx,fs,ex,ea,l,q⟩=>?_) ht;subst ex;obtain rfl:u=Value.ref a:=rx;refine iu I1 ea c hm l ?_;exact W.callWith_K0 (first:=[.ref a]) I1.fj hm.kp (qi (us:=[.ref a]) (vs:=[.ref a]) F hr hb hd hx I1 (.cons rfl .nil) q)
structure Mk(K:W.Frag)(C f:Addr):Prop where
 makes:W.makesIn K C=true
 init:W.findIn K (.ref C) "__init__" = some (some (.ref f))
 fn:W.isFn K (.ref f)=true
 kp:W.keepIn K (.ref C)=true
theorem Eu{pins:List (Addr×Obj)}{σ:St}{H:Hp}{s:Shared}{Q:VK}{us:List Value}{vs:List V}(M:Mk X.K C f)(F:cU X.prog X.w X.K X.mg X.base CX k f fd ps sp)(hr:av (k+1) X.A)(hb:Binds X.K fd ps ds)(hd:Vals kH ds)(hx:Passes CX X E)(I:Inv X pins σ H s)(r:Vals vs us)(h:∀x dx,H x=none->H dx=none->dx≠x->sp (.ref x::(vs++kH)) (upd (upd H dx (.own x)) x (.ins C dx [])) (λv H2=>v = .bj/\Q (.ref x) H2) E):wpAny (model X.prog X.w) X.A (call (.ref C) us) (EP X pins σ Q) X.xe s:=by
 have hq:=h (s.heap.objs.size+1) s.heap.objs.size (I.au.fresh (abW _)) (I.au.fresh (aae _)) (aaD (acR _));have I2:=Inv.made (C:=C) I;have r2:Vals (V.ref (s.heap.objs.size+1)::(vs++kH)) (Value.ref (s.heap.objs.size+1)::(us++ds)):=.cons rfl (r.append hd);have hl:(Value.ref (s.heap.objs.size+1)::us++ds).length=ps.length:=by have e:=r2.length;rw[F.len _ _ _ _ hq]at e;exact e.symm
 refine abP (Ff (f:=f) I.fj M.makes M.init (acp.mp M.fn) (abN (F.run _ X.stack _ _ ⟨Value.ref (s.heap.objs.size+1)::us,[]⟩ (Value.ref (s.heap.objs.size+1)::(us++ds)) _ _ E (hr.make C us [])
  (I2.Cm.make C us []) (hb _ (Value.ref (s.heap.objs.size+1)::us) I2.fj hl) r2 hq) λr s' BR=>?_))
 cases r with
 | error e=>exact hx pins σ _ _ e s' I2 BR
 | ok fl=>
  cases fl with
  | ret u=>
   obtain⟨v,H',I3,rv,ev,q3⟩:=I2.after BR;subst ev;exact⟨rv,⟨V.ref (s.heap.objs.size+1),H',I3,rfl,q3⟩⟩
  | next=>exact False.elim BR
  | brk=>exact False.elim BR
  | cont=>exact False.elim BR
theorem EF(M:Mk X.K C f)(F:cU X.prog X.w X.K X.mg X.base CX k f fd ps sp)(hr:av (k+1) X.A)(hg:Gl X x)(hm:X.mg x=some (.ref C))(hb:Binds X.K fd ps ds)(hd:Vals kH ds)(hx:Passes CX X E)(gE:(x == ("__debug__" : Str))=false:=by decide):PE X (.Call (.Name x p) [] [] pos) (QT C sp kH E gY):=by intro pins s σ H Q I h;refine abu (cM I hg hm ?_ gE);exact W.callWith_K0 I.fj M.kp (Eu (us:=[]) M F hr hb hd hx I .nil h)
end
structure ao(N P:List Str)(sc:Scope):Prop where
 kind:sc.kind = .function
 co:sc.isCoroutine=false
 gen:sc.isGenerator=false
 nd:N.Nodup
 pre:N.take P.length=P
 par:∀x∈P,sc.names.lookup x=some .local\/sc.names.lookup x=some .cell
 Na:∀y∈sc.names,y.2≠.free
theorem pI{kindOf:Str->Option NameKind}{x:Str}:∀{binds:List (Str×Value)}{m:Str->Option Value},(∀v,(x,v) ∉ binds)->bindL kindOf binds m x=m x
 | [],_,_=>rfl
 | (n,v)::r,m,h=>by
  unfold bindL;rw[pI λw hw=>h w (aaf _ hw)];split
  ·have:x≠n:=by rintro rfl;exact h v aah
   simp[this]
  ·rfl
theorem pK{kindOf:Str->Option NameKind}{x:Str}:∀{binds:List (Str×Value)}{m:Str->Option Value},(∀v,(x,v) ∉ binds)->bindC kindOf binds m x=m x
 | [],_,_=>rfl
 | (n,v)::r,m,h=>by
  unfold bindC;rw[pK λw hw=>h w (aaf _ hw)];split
  ·rfl
  ·have:x≠n:=by rintro rfl;exact h v aah
   simp[this]
theorem pJ{kindOf:Str->Option NameKind}{x:Str}{v:Value}:∀{P:List Str}{vs:List Value}{i:Nat}{m:Str->Option Value},P.Nodup->P[i]? = some x->vs[i]? = some v->kindOf x=some .local → bindL kindOf (P.zip vs) m x=some v
 | [],_,_,_,_,h,_,_=>by simp at h
 | _::_,[],_,_,_,_,h,_=>by simp at h
 | p::P,w::vs,0,m,nd,h1,h2,hk=>by simp at h1 h2;subst h1;subst h2;show bindL kindOf ((p,w)::P.zip vs) m p=_;unfold bindL;rw[pI λv hv=>(abr.mp nd).1 (adn hv).1,aaz hk];simp
 | p::P,w::vs,i+1,m,nd,h1,h2,hk=>by show bindL kindOf ((p,w)::P.zip vs) m x=_;unfold bindL;exact pJ (i:=i) (abr.mp nd).2 (by simpa using h1) (by simpa using h2) hk
theorem pL{kindOf:Str->Option NameKind}{x:Str}{v:Value}:∀{P:List Str}{vs:List Value}{i:Nat}{m:Str->Option Value},P.Nodup->P[i]? = some x->vs[i]? = some v->kindOf x≠some .local → bindC kindOf (P.zip vs) m x=some v
 | [],_,_,_,_,h,_,_=>by simp at h
 | _::_,[],_,_,_,_,h,_=>by simp at h
 | p::P,w::vs,0,m,nd,h1,h2,hk=>by simp at h1 h2;subst h1;subst h2;show bindC kindOf ((p,w)::P.zip vs) m p=_;unfold bindC;rw[pK λv hv=>(abr.mp nd).1 (adn hv).1,aar hk];simp
 | p::P,w::vs,i+1,m,nd,h1,h2,hk=>by show bindC kindOf ((p,w)::P.zip vs) m x=_;unfold bindC;exact pL (i:=i) (abr.mp nd).2 (by simpa using h1) (by simpa using h2) hk
def start(N:List Str)(vs:List V):St:=vs.map some++List.replicate (N.length-vs.length) none
def br(CX:zL)(P:Program)(w:World)(K:W.Frag)(mg:Str->Option Value)(base:Heap)(N:List Str)(qual:Str)(scope:Scope)(f:Addr)(cd:Value)(A:Around)(outer:List Env)(s:Shared)(H:Hp)(E:XK):Cx where
 prog:=P
 w:=w
 K:=K
 mg:=mg
 base:=base
 A:=A.deeper (envOfC qual scope s.heap.objs.size f cd)
 N:=N
 cq:=s
 H₀:=H
 env:=envOfC qual scope s.heap.objs.size f cd
 outer:=outer
 stack:=envOfC qual scope s.heap.objs.size f cd::outer
 ex:=[]
 calm:=true
 fn:=λ_=>true
 pn:=[]
 xe:=λe s'=>wpAny (model P w) (A.deeper (envOfC qual scope s.heap.objs.size f cd)) (leaving (envOfC qual scope s.heap.objs.size f cd) e) (λ_ F6=>CX outer H s E e F6) (λe' F6=>CX outer H s E e' F6) s'
theorem uM{sc:Scope}{n:Nat}{x:Str}(h:sc.names.lookup x=some .cell):∃c,(cellsFrom n sc.names []).lookup x=some c:=by have q:=W.cellsFrom_some sc.names n [] (.inl h);exact ab1.mp q
theorem pj{CX:zL}{P:Program}{w:World}{K:W.Frag}{mg:Str->Option Value}{base:Heap}{N ps:List Str}{qual:Str}{scope:Scope}{f:Addr}{cd:Value}{A:Around}{outer:List Env}{s s1:Shared}{H:Hp}{E:XK}{us:List Value}{vs:List V}(S:ao N ps scope)(hd:A.handled=none)(e0:lP P w K mg base A outer s H)(hl:vs.length=ps.length)(r:Vals vs us)(x:InCallC s s.heap.objs.size (bindL (envOfC qual scope s.heap.objs.size f cd).kindOf (ps.zip us) λ_=>none) (cellsFrom (s.heap.objs.size+1) scope.names []) (bindC (envOfC qual scope s.heap.objs.size f cd).kindOf (ps.zip us) λ_=>none) s1):Inv (br CX P w K mg base N qual scope f cd A outer s H E) [] (start N vs) H s1:=by
 have hpl:ps.length<=N.length:=by have:=aaX List.length S.pre;rw[aas]at this;omega
 obtain⟨h1,tk,rfl,hk⟩:=x.done;have KS:∀b:Addr,b ∉ (br CX P w K mg base N qual scope f cd A outer s H E).ex:=λb z=>absurd (show b∈([]:List Addr)from z) (by simp);refine⟨⟨e0.mod,S.kind,rfl,rfl,aae _,λy z c h1 h2=>?_,λy hy=>?_,λy c _ h=>?_,λ_=>hd,Around.frames_deeper e0.frames,.inr ⟨rfl,rfl⟩,λb z=>absurd z (KS b),e0.bs,e0.BI,λb _ _=>KS b,λb z=>absurd z (KS b),e0.gG,e0.Gb⟩,
  rfl,e0.bare,Un.kept hk,⟨_,x.toInCall.ns,λi y v h1 h2 h3=>?_⟩,λy c h=>⟨_,x.cell y c h⟩,e0.au.fresh (aae _),λy c h=>?_,λp hp=>absurd (show p∈([]:List (Addr×Obj))from hp) (by simp),e0.au.kept hk,?_⟩
 ·exact name_of_addr x.apart (abb h1) (abb h2)
 ·have hy:scope.names.lookup y=some .cell\/scope.names.lookup y=some .free:=hy;rcases hy with hy|hy
  ·exact uM hy
  ·exact absurd rfl (S.Na _ (abb hy))
 ·exact abV (x.above y c (abb h))
 ·have hi:i<vs.length:=by
   unfold start at h2;by_cases hi:i<vs.length
   ·exact hi
   ·rw[aaS (by simpa using hi)]at h2;rw[List.getElem?_replicate]at h2;split at h2<;>cases h2
  have ha:vs[i]? = some v:=by
   unfold start at h2;rw[aaV (by simpa using hi),aak]at h2;cases e:vs[i]? with
   | none=>rw[e]at h2;cases h2
   | some a=>rw[e]at h2;cases h2;rfl
  obtain⟨u,hu,rv⟩:=r.get ha;have hp:ps[i]? = some y:=by rw[<-S.pre,ab2 (by omega)];exact h1
  have Xe:ps.Nodup:=by rw[<-S.pre];exact S.nd.sublist (List.take_sublist _ _)
  refine⟨u,rv,?_⟩;rcases S.par y (aaP hp)with k|k
  ·exact .inl ⟨k,pJ Xe hp hu k⟩
  ·obtain⟨c,e⟩:=uM (n:=s.heap.objs.size+1) k;refine .inr ⟨.inl k,c,e,?_⟩;have q:=x.cell y c e;rw[pL Xe hp hu (by show scope.names.lookup y≠_;rw[k];decide)]at q;exact q
 ·exact e0.au.fresh (abV (x.above y c (abb h)))
 ·unfold start;show _=N.length;rw[aal,aaa,acG];omega
theorem yA{CX:zL}{P:Program}{w:World}{K:W.Frag}{mg:Str->Option Value}{base:Heap}{k:Nat}{f:Addr}{name qual:Str}{params:Arguments}{body:List Stmt}{scope:Scope}{dV kV doc pm aA ct oc:Value}{an od:Option Addr}{fW:Array (Option Value)}{N ps:List Str}{sp:Sp}(lk:K.lookup f=some ⟨oc,od,.func (W.fnOf name qual params body scope dV kV doc pm an aA ct),fW⟩)(gW:W.codeIn K aA qual=true)(S:ao N ps scope)(len:∀vs H Q E,sp vs H Q E->vs.length=ps.length)(cx:∀(A:Around)(outer:List Env)(s:Shared)(H:Hp)(vs:List V)(Q:VK)(E:XK),av k (A.deeper (envOfC qual scope s.heap.objs.size f aA))->sp vs H Q E → ∃t,nL (br CX P w K mg base N qual scope f aA A outer s H E) body t/\t { nx:=λ_ H'=>Q .bj H',rt:=Q } (start N vs) H):cU P w K mg base CX (k+1) f (W.fnOf name qual params body scope dV kV doc pm an aA ct) ps sp:=by
 refine⟨len,λA outer s H args us vs Q E hr e0 hb r oi=>?_⟩;have hl:=len _ _ _ _ oi;have KX:K.In s.heap:=e0.mod.zG.keeps λb o e=>(e0.bs b o e).1;have lim:s.heap.NoLimit:=e0.mod.nolimit.keeps λb o e=>(e0.bs b o e).1;have CY:∀y∈ps.zip us,scope.names.lookup y.1=some .local\/(scope.names.lookup y.1=some .cell/\((cellsFrom (s.heap.objs.size+1) scope.names []).lookup y.1).isSome=true):=λ⟨n,v⟩ hy=>by
  rcases S.par n (adn hy).1 with q|q
  ·exact .inl q
  ·exact .inr ⟨q,W.cellsFrom_some _ _ _ (.inl q)⟩
 refine codeAny_call_function hr.depth (KX _ _ lk) rfl S.co S.gen rfl (W.codeRec_of KX gW) (hb _ _ _ _ ?_);refine wpAny_newFunctionEnv_cells S.kind CY λenv he s1 x=>?_;subst he;refine⟨lim.keeps x.toInCall.keep,codeAny_func ?_⟩;obtain⟨t,ht,hq⟩:=cx A outer s H vs Q E (hr.deeper _) oi;have I:Inv (br CX P w K mg base N qual scope f aA A outer s H E) [] (start N vs) H s1:=pj S hr.hd e0 hl r x;refine abd (ht [] s1 (start N vs) H _ I hq) (λfl s' hs=>?_) λe s' hs=>hs;have fin:∀{aX:St}{H':Hp}{v:V}{u:Value},Inv (br CX P w K mg base N qual scope f aA A outer s H E) [] aX H' s'->RelV v u->Q v H'->CE outer P w H s Q u s':=
  λ{aX H' v u} J rv q=>⟨v,H',J.os,J.bare,J.base,J.au,rv,q⟩
 cases fl with
 | ret u=>
  obtain⟨v,aX,H',J,rv,q⟩:=hs;exact fin J rv q
 | next=>
  obtain⟨aX,H',J,q⟩:=hs;exact fin (v:=V.bj) (u:=Value.none) J rfl q
 | brk=>
  obtain⟨_,_,_,q⟩:=hs;exact False.elim q
 | cont=>
  obtain⟨_,_,_,q⟩:=hs;exact False.elim q
section
variable{X:Cx}{x:Str}{p pos:Pos}{e:Expr}{es:List Expr}{t:TA}{id T:String}{r:List V->Hp->VK->Prop}
def kP(r:List V->Hp->VK->Prop)(t:TA):TE:=λσ H Q=>t σ H λvs H1=>r vs H1 Q
theorem bR(hc:aH X (.builtin id) r)(hg:Gl X x)(hm:X.mg x=none)(hv:bootBuiltins x=some (.builtin id))(ha:PA X (e::es) t)(hn:x≠"__name__" := by decide)(gE:(x == ("__debug__" : Str))=false:=by decide)(he:starEach (e::es) X.env=(false,eval e X.env)::starEach es X.env:=by rfl)(hpl:(backTo pos (starEach es X.env)).any (·.1)=false:=by rfl):PE X (.Call (.Name x p) (e::es) [] pos) (kP r t):=by intro pins s σ H Q I h;refine abu (jv I hg hm hv ?_ hn gE);exact PyProof.Rows.callWith_builtin1 (ba (ha pos pins s σ H _ I h) λus s1 ⟨vs,H1,I1,r1,q1⟩=>hc pins s1 σ H1 vs us Q I1 r1 q1) he hpl
theorem eJ(hc:aH X (.type T) r)(hg:Gl X x)(hm:X.mg x=none)(hv:bootBuiltins x=some (.type T))(ha:PA X (e::es) t)(hn:x≠"__name__" := by decide)(gE:(x == ("__debug__" : Str))=false:=by decide)(he:starEach (e::es) X.env=(false,eval e X.env)::starEach es X.env:=by rfl)(hpl:(backTo pos (starEach es X.env)).any (·.1)=false:=by rfl):PE X (.Call (.Name x p) (e::es) [] pos) (kP r t):=by intro pins s σ H Q I h;refine abu (jv I hg hm hv ?_ hn gE);exact abO (ba (ha pos pins s σ H _ I h) λus s1 ⟨vs,H1,I1,r1,q1⟩=>hc pins s1 σ H1 vs us Q I1 r1 q1) he hpl
end
end L2
namespace HT
open PySem PyProof.Rows
section
variable{prog:Program}{w:World}{A:Around}{E:Value->Shared->Prop}{s:Shared}
def jh(n d:Nat):Option Int->Nat
 | none=>d
 | some v=>if v<0 then(v+(n:Int)).toNat else min v.toNat n
theorem i3(n d:Nat):jh n d none=d:=rfl
theorem dO(n d k:Nat):jh n d (some (k:Int))=min k n:=by show(if(k:Int)<0 then((k:Int)+(n:Int)).toNat else min (k:Int).toNat n)=min k n;rw[aar (by omega),abh]
end
end HT
namespace L2
open PySem PySem.Spec PyProof.Rows
abbrev TO:=St->Hp->(Option Int->Hp->Prop)->Prop
def PO(X:Cx)(e:Option Expr)(t:TO):Prop:=
 ∀(pins:List (Addr×Obj))(s:Shared)(σ:St)(H:Hp)(Q:Option Int->Hp->Prop),Inv X pins σ H s->t σ H Q →
  wpAny (model X.prog X.w) X.A (evalPart e X.env) (λu s'=>∃o H',Inv X pins σ H' s'/\IsPart u o/\Q o H') X.xe s
def Hl:TO:=λ_ H Q=>Q none H
section
variable{X:Cx}{e:Expr}{te:TE}{lo hi:Option Expr}{tl th:TO}{pos p2:Pos}
theorem HH:PO X none Hl:=by intro pins s σ H Q I h;rw[evalPart_none];exact aaj ⟨none,H,I,.none,h⟩
def J3(X:Cx)(r:V->Option Int->Option Int->Hp->VK->Prop):Prop:=
 ∀(pins:List (Addr×Obj))(s:Shared)(σ:St)(H:Hp)(x:V)(v vl vu:Value)(lo hi:Option Int)(sl:Addr)(Q:VK),Inv X pins σ H s->RelV x v->s.heap.IsSliceOf sl vl vu .none->IsPart vl lo->IsPart vu hi->r x lo hi H Q →
  ∃T id,typeLookup (.type T) "__getitem__" = pure (some (.builtin id))/\s.TypeIs v T/\wpAny (model X.prog X.w) X.A (getItem v (.ref sl)) (EP X pins σ Q) X.xe s
theorem J3.or{r r':V->Option Int->Option Int->Hp->VK->Prop}(h:J3 X r)(h':J3 X r'):J3 X (λx lo hi H Q=>r x lo hi H Q\/r' x lo hi H Q):=by
 intro pins s σ H x v vl vu lo hi sl Q I rx hs pl pu q;rcases q with q|q
 ·exact h pins s σ H x v vl vu lo hi sl Q I rx hs pl pu q
 ·exact h' pins s σ H x v vl vu lo hi sl Q I rx hs pl pu q
def Ys(r:V->Option Int->Option Int->Hp->VK->Prop)(te:TE)(tl th:TO):TE:=λσ H Q=>te σ H λx H1=>tl σ H1 λl H2=>th σ H2 λu H3=>r x l u H3 Q
theorem ED{r:V->Option Int->Option Int->Hp->VK->Prop}(hr:J3 X r)(he:PE X e te)(hl:PO X lo tl)(hu:PO X hi th):PE X (.Subscript e (.Slice lo hi none p2) pos) (Ys r te tl th):=by intro pins s σ H Q I h;refine Subscript_ (ba (he pins s σ H _ I h) λv s1 ⟨x,H1,I1,r1,q1⟩=>?_);refine wpAny_Slice (ba (hl pins s1 σ H1 _ I1 q1) λvl s2 ⟨l,H2,I2,pl,q2⟩=>ba (hu pins s2 σ H2 _ I2 q2) λvu s3 ⟨u,H3,I3,pu,q3⟩=>?_);rw[evalPart_none];refine aaj ?_;have I4:Inv X pins σ H3 { s3 with heap:=s3.heap.push { cls:=.type "slice",data:=.fields #[vl,vu,.none] } }:=I3.kept (t':=s3.toks) λb ob q=>aad _ q;obtain⟨T,id,hT,ht,hg⟩:=hr pins { s3 with heap:=s3.heap.push { cls:=.type "slice",data:=.fields #[vl,vu,.none] } } σ H3 x v vl vu l u s3.heap.objs.size Q I4 r1 (Heap.IsSliceOf.new ..) pl pu q3;show wpAny (model X.prog X.w) X.A (subscriptTail e (.Slice lo hi none p2) v (.ref s3.heap.objs.size)) (EP X pins σ Q) X.xe { s3 with heap:=s3.heap.push { cls:=.type "slice",data:=.fields #[vl,vu,.none] } };exact tail_any (ops:=[.ref s3.heap.objs.size,v]) ht hT hg (by with_unfolding_all rfl)
def dm(xs:List V)(lo hi:Option Int):List V:=(xs.drop (HT.jh xs.length 0 lo)).take (HT.jh xs.length xs.length hi-HT.jh xs.length 0 lo)
theorem ve(xs:List V)(lo hi:Option Int):(dm xs lo hi).length<=xs.length:=by unfold dm;rw[aas,abC];omega
end
def F9(n:Nat)(i:Int):Option Nat:=if 0<=i then(if i<n then some i.toNat else none)else if -(n:Int)<=i then some (i+n).toNat else none
def pP{α:Type}(xs:List α)(i:Int):Option α:=(F9 xs.length i).bind λj=>xs[j]?
theorem zi{n:Nat}{i:Int}{j:Nat}(h:F9 n i=some j):seqIndex? i n=some j/\j<n/\-(n:Int)<=i/\i<n:=by
 unfold F9 at h;by_cases h0:0<=i
 ·rw[aaz h0]at h;by_cases h1:i<n
  ·rw[aaz h1]at h;have e:i.toNat=j:=aaw h;exact⟨by rw[seqIndex_of h0 h1,e],by omega,by omega,h1⟩
  ·rw[aar h1]at h;cases h
 ·rw[aar h0]at h;by_cases h1 : -(n:Int)<=i
  ·rw[aaz h1]at h;have e:(i+n).toNat=j:=aaw h;exact⟨by rw[seqIndex_neg (by omega) h1,e],by omega,h1,by omega⟩
  ·rw[aar h1]at h;cases h
theorem rR{α:Type}{xs:List α}{i:Int}{v:α}(h:pP xs i=some v):∃j,seqIndex? i xs.length=some j/\xs[j]? = some v/\j<xs.length/\-(xs.length:Int)<=i/\i<xs.length:=by
 unfold pP at h;cases e:F9 xs.length i with
 | none=>rw[e]at h;cases h
 | some j=>
  rw[e]at h;obtain⟨h1,h2,h3,h4⟩:=zi e;exact⟨j,h1,h,h2,h3,h4⟩
theorem JJ{α:Type}{xs:List α}{j:Nat}{v:α}(h:xs[j]? = some v):pP xs (j:Int)=some v:=by
 have hj:j<xs.length:=(aaB.mp h).1;have e:F9 xs.length (j:Int)=some j:=by unfold F9;rw[aaz (by omega),aaz (by omega)];simp
 unfold pP;rw[e];exact h
theorem F5{α:Type}(xs:List α)(v:α):pP (xs++[v]) (-1)=some v:=by
 have hl:(xs++[v]).length=xs.length+1:=by simp
 have e:F9 (xs++[v]).length (-1)=some xs.length:=by unfold F9;rw[hl,aar (by decide),aaz (by omega)];congr 1;omega
 unfold pP;rw[e];show(xs++[v])[xs.length]? = some v;simp
def JK(b:Expr):Prop:=∀o i,subscripted b false o i=operate [o,i] (getItem o i)
def BW(X:Cx)(r:R2):Prop:=
 ∀(value slice:Expr)(pins:List (Addr×Obj))(s:Shared)(σ:St)(H:Hp)(x y:V)(v u:Value)(Q:VK),Inv X pins σ H s->RelV x v->RelV y u->r x y H Q →
  subscripted slice false v u=operate [v,u] (getItem v u)->wpAny (model X.prog X.w) X.A (subscriptTail value slice v u) (EP X pins σ Q) X.xe s
section
variable{X:Cx}{a b:Expr}{ta tb:TE}{pos:Pos}
theorem BW.or{r r':R2}(h:BW X r)(h':BW X r'):BW X (λx y H Q=>r x y H Q\/r' x y H Q):=by
 intro value slice pins s σ H x y v u Q I rx ry q hs;rcases q with q|q
 ·exact h value slice pins s σ H x y v u Q I rx ry q hs
 ·exact h' value slice pins s σ H x y v u Q I rx ry q hs
theorem CQ{r:R2}(hr:BW X r)(ha:PE X a ta)(hb:PE X b tb)(hs:JK b):PE X (.Subscript a b pos) (sT r ta tb):=by intro pins s σ H Q I h;exact Subscript_ (LN ha hb I h λv u s2 x y H2 I2 rx ry q=>hr a b pins s2 σ H2 x y v u Q I2 rx ry q (hs _ _))
def Qi(K:W.Frag):R2:=λx y H Q=>∃p xs i v,x = .ref p/\y = .int i/\aN K H p xs/\pP xs i=some v/\Q v H
def Qg(K:W.Frag):R2:=λx y H Q=>∃p xs i v,x = .ref p/\y = .int i/\pQ K H p xs/\pP xs i=some v/\Q v H
def Qh:R2:=λx y H Q=>∃z i c,x = .str z/\y = .int i/\z.length<=sizeLine/\pP z.cps.toList i=some c/\Q (.str ⟨#[c]⟩) H
theorem zh:BW X (Qi X.K):=by
 intro value slice pins s σ H x y v u Q I rx ry h hs;refine az λak=>?_;obtain⟨p,xs,i,z,rfl,rfl,hq,he,q⟩:=h;refine ak ?_;clear ak;cases rx;obtain⟨t,rfl⟩:=ry;obtain⟨its,r,pl,hz⟩:=I.list hq;obtain⟨j,h1,h2,h3,h4,h5⟩:=rR he;obtain⟨w,ew,sU⟩:=r.get h2;have hl:=r.length;have hn:=ib;have fin:EP X pins σ Q w s:=⟨z,H,I,sU,q⟩
 by_cases h0:0<=i
 ·have hj:i.toNat=j:=by rw[seqIndex_of h0 h5]at h1;exact aaw h1
  exact item_listR pl.isList h0 (by omega) (by rw[hj];simpa using ew) fin hs
 ·have hj:(i+(its.toArray.size:Int)).toNat=j:=by rw[seqIndex_neg (by omega) h4]at h1;rw[aaE,<-hl];exact aaw h1
  exact subscriptTail_builtinR (x:=w) pl.isList.typeIs slot_list_getitem.lookup
   (wpAny_getItem_list_neg (Q:=λr s'=>r=w/\EP X pins σ Q r s') pl.isList (by omega) (by rw[aaE]<;>omega) (by omega) (by rw[hj];simpa using ew) ⟨rfl,fin⟩) hs
theorem Nt:BW X (Qg X.K):=by
 intro value slice pins s σ H x y v u Q I rx ry h hs;refine az λak=>?_;obtain⟨p,xs,i,z,rfl,rfl,hq,he,q⟩:=h;refine ak ?_;clear ak;cases rx;obtain⟨t,rfl⟩:=ry;obtain⟨its,r,pl,hz⟩:=I.tuple hq;obtain⟨j,h1,h2,h3,h4,h5⟩:=rR he;obtain⟨w,ew,sU⟩:=r.get h2;have hl:=r.length;have hn:=ib;have fin:EP X pins σ Q w s:=⟨z,H,I,sU,q⟩
 exact subscriptTail_builtinR (x:=w) pl.typeIs slot_tuple_getitem.lookup
  (getItem_tuple (j:=j) (Q:=λr s'=>r=w/\EP X pins σ Q r s') pl (by omega) (by omega) (by rw[aaE,<-hl];exact h1) (by simpa using ew) ⟨rfl,fin⟩) hs
theorem Nu:BW X Qh:=by
 intro value slice pins s σ H x y v u Q I rx ry h hs;refine az λak=>?_;obtain⟨z,i,c,rfl,rfl,hz,he,q⟩:=h;obtain⟨t,rfl⟩:=rx;obtain⟨t',rfl⟩:=ry;obtain⟨j,h1,h2,h3,h4,h5⟩:=rR he;refine ak ?_;clear ak;have hl:z.cps.toList.length=z.length:=by simp[Str.length]
 rw[hl]at h1 h4 h5;have hn:=ib;exact tail_any (typeIs_str s z t) slot_str_getitem.lookup (getItem_str (c:=c) (by have e1:decide (i < -(2 ^ 63:Int))=false:=aaT (by omega);have e2:decide (i ≥ 2 ^ 63)=false:=aaT (by omega);rw[e1,e2,Bool.or_false]) (by rw[h1];simpa using h2) ⟨.str ⟨#[c]⟩,H,I.tok _,⟨_,rfl⟩,q⟩) hs
def YN(K:W.Frag):R2:=λx y H Q=>Qi K x y H Q\/Qg K x y H Q\/Qh x y H Q
theorem Nv:BW X (YN X.K):=zh.or (Nt.or Nu)
theorem xO(its:List Value)(n j:Nat)(u:Value):Obj.mapSeq (·.setIfInBounds j u) { cls:=.type "list",data:=.seq its.toArray n }={ cls:=.type "list",data:=.seq (its.set j u).toArray n }:=by simp[Obj.mapSeq]
theorem Inv.lst{pins:List (Addr×Obj)}{σ:St}{H:Hp}{s:Shared}{p:Addr}{xs:List V}(I:Inv X pins σ H s)(h:H p=some (.lst xs)):∃(its:List Value)(n:Nat),Vals xs its/\s.heap.get? p=some { cls:=.type "list",data:=.seq its.toArray n }/\xs.length<=sizeLine:=by obtain⟨z,its,n,r,e⟩:=I.au p _ h;exact⟨its,n,r,e,z⟩
theorem Inv.Nf{pins:List (Addr×Obj)}{σ:St}{H:Hp}{s:Shared}{p:Addr}{xs ys:List V}{its its':List Value}{n n':Nat}{f:Obj->Obj}(I:Inv X pins σ H s)(h:H p=some (.lst xs))(ho:s.heap.get? p=some { cls:=.type "list",data:=.seq its.toArray n })(hf:f { cls:=.type "list",data:=.seq its.toArray n }={ cls:=.type "list",data:=.seq its'.toArray n' })(r:Vals ys its')(hz:ys.length<=sizeLine)(t:Nat):Inv X pins σ (upd H p (.lst ys)) { s with heap:=s.heap.update p f,toks:=t }:=by
 have e:(s.heap.update p f).get? p=some { cls:=.type "list",data:=.seq its'.toArray n' }:=by rw[aba f ho (by rw[hf]<;>rfl),hf]
 refine I.write (x:=p) (e:=p) (by rw[h];trivial) (.inl rfl) (λb u hb q=>(aaU _ _ (aa5 hb)).trans q) ⟨_,e⟩ ?_;exact⟨hz,its',n',r,e⟩
def Q0:V->V->V->Hp->(Hp->Prop)->Prop:=λo i v H Q=>∃p xs k j,o = .ref p/\i = .int k/\H p=some (.lst xs)/\F9 xs.length k=some j/\Q (upd H p (.lst (xs.set j v)))
theorem set_list:G9 X Q0:=by
 intro pins s σ H o i v ov iv u Q I ro ri rv h;refine az λak=>?_;obtain⟨p,xs,k,j,rfl,rfl,hp,hj,q⟩:=h;refine ak ?_;clear ak;cases ro;obtain⟨t,rfl⟩:=ri;obtain⟨its,n,r,ho,hz⟩:=I.lst hp;obtain⟨h1,h2,h3,h4⟩:=zi hj;have hl:=r.length;have hn:=ib;have I':Inv X pins σ (upd H p (.lst (xs.set j v))) { s with heap:=s.heap.update p (Obj.mapSeq (·.setIfInBounds j u)) }:=
  I.Nf hp ho (xO its n j u) (r.set rv j) (by rw[List.length_set];exact hz) s.toks
 by_cases h0:0<=k
 ·have hk:k.toNat=j:=by rw[seqIndex_of h0 h4]at h1;exact aaw h1
  exact W.ki_setAt ho h0 (by omega) (by rw[aaE,<-hl];exact h4) (by rw[hk];exact⟨_,I',q⟩)
 ·have hk:(k+(its.toArray.size:Int)).toNat=j:=by rw[seqIndex_neg (by omega) h3]at h1;rw[aaE,<-hl];exact aaw h1
  exact W.ki_setBack ho (by omega) (by rw[aaE,<-hl];exact h3) (by omega) (by rw[hk];exact⟨_,I',q⟩)
theorem rZ(lo hi:Option Int)(n:Nat):(sliceBounds lo hi none n).1=((HT.jh n 0 lo:Nat):Int)/\(sliceBounds lo hi none n).2.1=((HT.jh n n hi:Nat):Int)/\(sliceBounds lo hi none n).2.2=1:=by
 refine⟨?_,?_,rfl⟩
 ·cases lo with
  | none=>simp[sliceBounds,HT.jh]
  | some i=>
   simp only[sliceBounds,HT.jh,Option.getD_none,show(1:Int)>0 by decide,if_true];by_cases h:i<0
   ·simp only[h,if_true]<;>omega
   ·simp only[h,abX]<;>omega
 ·cases hi with
  | none=>simp[sliceBounds,HT.jh]
  | some i=>
   simp only[sliceBounds,HT.jh,Option.getD_none,show(1:Int)>0 by decide,if_true];by_cases h:i<0
   ·simp only[h,if_true]<;>omega
   ·simp only[h,abX]<;>omega
theorem n9(its:List Value)(lo hi:Option Int):slicePick its.toArray lo hi none=((its.drop (HT.jh its.length 0 lo)).take (HT.jh its.length its.length hi-HT.jh its.length 0 lo)).toArray:=by obtain⟨h1,h2,h3⟩:=rZ lo hi its.toArray.size;unfold slicePick;rw[h1,h2,h3];simp only[sliceRange_one,pick_run,aaE]<;>rfl
def VT(K:W.Frag):V->Option Int->Option Int->Hp->VK->Prop:=λx lo hi H Q=>∃a xs,x = .ref a/\aN K H a xs/\∀p,H p=none->Q (.ref p) (upd H p (.lst (dm xs lo hi)))
theorem Hn:J3 X (VT X.K):=by intro pins s σ H x v vl vu lo hi sl Q I rx hs pl pu h;obtain⟨a,xs,rfl,hx,q⟩:=h;cases rx;obtain⟨its,r,ht,hz⟩:=I.list hx;have hlen:=r.length;refine⟨"list",_,slot_list_getitem.lookup,ht.isList.typeIs,?_⟩;refine wpAny_getItem_list_slice ht.isList hs pl pu .none (by simp) ?_ (by rw[aaE]<;>omega);rw[n9,<-hlen];refine⟨.ref s.heap.objs.size,_,I.laid (t':=s.toks) (o:=.lst (dm xs lo hi)) (λb ob q=>aad _ q) (aae _) ?_,rfl,q _ (I.au.fresh (aae _))⟩;exact⟨aaM (ve xs lo hi) hz,_,0,(r.drop (HT.jh xs.length 0 lo)).take (HT.jh xs.length xs.length hi-HT.jh xs.length 0 lo),aap _ rfl⟩
def iI:V->Bool
 | .bj=>true
 | .bl _=>true
 | .int _=>true
 | .str _=>true
 | _=>false
def JZ:V->V->Bool
 | .bj,.bj=>true
 | .bl a,.bl b=>a == b
 | .bl a,.int b=>(if a then 1 else 0) == b
 | .int a,.bl b=>a == (if b then 1 else 0)
 | .int a,.int b=>a == b
 | .str a,.str b=>a == b
 | _,_=>false
theorem NO{A:Around}{s:Shared}{y x:V}{u v:Value}(ry:RelV y u)(rx:RelV x v)(fy:iI y=true)(fx:iI x=true):SeqAt.EqAt A s u v (JZ y x):=by
 cases y with
 | bj=>
  cases ry;cases x with
  | bj=>cases rx;exact SeqAt.EqAt.same _
  | bl b=>cases rx;exact SeqAt.EqAt.none_bool b
  | int b=>obtain⟨t,rfl⟩:=rx;exact SeqAt.EqAt.none_int b t
  | str b=>obtain⟨t,rfl⟩:=rx;exact SeqAt.EqAt.none_str b t
  | _=>exact absurd (show false=true from fx) aav
 | bl a=>
  cases ry;cases x with
  | bj=>cases rx;exact SeqAt.EqAt.bool_none a
  | bl b=>cases rx;exact SeqAt.EqAt.bool_bool a b
  | int b=>obtain⟨t,rfl⟩:=rx;exact SeqAt.EqAt.bool_int a b t
  | str b=>obtain⟨t,rfl⟩:=rx;exact SeqAt.EqAt.bool_str a b t
  | _=>exact absurd (show false=true from fx) aav
 | int a=>
  obtain⟨t',rfl⟩:=ry;cases x with
  | bj=>cases rx;exact SeqAt.EqAt.int_none a t'
  | bl b=>cases rx;exact SeqAt.EqAt.int_bool a t' b
  | int b=>obtain⟨t,rfl⟩:=rx;exact SeqAt.EqAt.int_int a t' b t
  | str b=>obtain⟨t,rfl⟩:=rx;exact SeqAt.EqAt.int_str a t' b t
  | _=>exact absurd (show false=true from fx) aav
 | str a=>
  obtain⟨t',rfl⟩:=ry;cases x with
  | bj=>cases rx;exact SeqAt.EqAt.str_none a t'
  | bl b=>cases rx;exact SeqAt.EqAt.str_bool a t' b
  | int b=>obtain⟨t,rfl⟩:=rx;exact SeqAt.EqAt.str_int a t' b t
  | str b=>obtain⟨t,rfl⟩:=rx;exact SeqAt.EqAt.str_str a t' b t
  | _=>exact absurd (show false=true from fx) aav
 | _=>exact absurd (show false=true from fy) aav
def Gx(x:V)(u:Value):Bool:=match u with
 | .none=>JZ .bj x
 | .bool b=>JZ (.bl b) x
 | .int i _=>JZ (.int i) x
 | .str z _=>JZ (.str z) x
 | _=>false
theorem Ea{x y:V}{u:Value}(r:RelV y u)(f:iI y=true):Gx x u=JZ y x:=by
 cases y with
 | bj=>cases r;rfl
 | bl b=>cases r;rfl
 | int i=>obtain⟨t,rfl⟩:=r;rfl
 | str z=>obtain⟨t,rfl⟩:=r;rfl
 | _=>exact absurd (show false=true from f) aav
theorem rS{x:V}:∀{xs:List V}{us:List Value},Vals xs us->xs.all iI=true->us.any (Gx x)=xs.any λy=>JZ y x
 | _,_,.nil,_=>rfl
 | y::xs,u::us,.cons r t,f=>by rw[List.all_cons,aaJ]at f;rw[adi,adi,Ea r f.1,rS t f.2]
theorem mM{A:Around}{s:Shared}{x:V}{v:Value}(rx:RelV x v)(fx:iI x=true):∀{xs:List V}{us:List Value},Vals xs us->xs.all iI=true->∀u∈us,SeqAt.EqAt A s u v (Gx x u)
 | _,_,.nil,_=>λu hu=>by cases hu
 | y::xs,u::us,.cons r t,f=>λu' hu=>by
  rw[List.all_cons,aaJ]at f;rcases aau.mp hu with rfl|hu
  ·rw[Ea r f.1];exact NO r rx f.1 fx
  ·exact mM rx fx t f.2 u' hu
def Sl(x:V)(xs:List V):Bool:=xs.any λy=>JZ y x
def YO(K:W.Frag)(neg:Bool):R2:=λx y H Q=>∃p xs,y = .ref p/\(aN K H p xs\/pQ K H p xs)/\iI x=true/\xs.all iI=true/\Q (.bl (if neg then !Sl x xs else Sl x xs)) H
theorem AJ:ck X (compareOp .In) (YO X.K false):=by
 intro pins s σ H x y v u Q I rx ry h;obtain⟨p,xs,rfl,hq,fx,fs,q⟩:=h;cases ry;rcases hq with hq|hq
 ·obtain⟨its,r,pl,hz⟩:=I.list hq;refine SeqAt.in_listAt (Gx x) pl.isList (λw hw=>mM rx fx r fs w (by simpa using hw)) ⟨.bl _,H,I,rfl,?_⟩;rw[show its.toArray.any (Gx x)=its.any (Gx x)by simp,rS r fs];exact q
 ·obtain⟨its,r,pl,hz⟩:=I.tuple hq;refine SeqAt.in_tupleAt (Gx x) pl (λw hw=>mM rx fx r fs w (by simpa using hw)) ⟨.bl _,H,I,rfl,?_⟩;rw[show its.toArray.any (Gx x)=its.any (Gx x)by simp,rS r fs];exact q
theorem jf:aH X (.builtin "len") (λxs H Q=>∃p ys,xs=[.ref p]/\(aN X.K H p ys\/pQ X.K H p ys)/\Q (.int ys.length) H):=by
 intro pins s σ H xs us Q I r h;obtain⟨p,ys,rfl,hq,q⟩:=h;obtain⟨u,rfl,rx⟩:=vals1 r;cases rx;have hn:=ib;rcases hq with hq|hq
 ·obtain⟨its,r',pl,hz⟩:=I.list hq;have hlen:=r'.length;exact Calls.call_len_list pl.isList (by simp only[aaE]<;>omega) ⟨.int ys.length,H,I.tok _,⟨s.toks+1,by rw[aaE,hlen]⟩,q⟩
 ·obtain⟨its,r',pl,hz⟩:=I.tuple hq;have hlen:=r'.length;exact len_tuple pl (by simp only[aaE]<;>omega) ⟨.int ys.length,H,I.tok _,⟨s.toks+1,by rw[aaE,hlen]⟩,q⟩
theorem sI:aH X (.builtin "len") (λxs H Q=>∃z,xs=[.str z]/\z.length<=sizeLine/\Q (.int z.length) H):=by intro pins s σ H xs us Q I r h;obtain⟨z,rfl,hz,q⟩:=h;obtain⟨u,rfl,t,rfl⟩:=vals1 r;have hn:=ib;exact len_str (by omega) ⟨.int z.length,H,I.tok _,⟨_,rfl⟩,q⟩
theorem aH.or{f:Value}{r r':List V->Hp->VK->Prop}(h:aH X f r)(h':aH X f r'):aH X f (λxs H Q=>r xs H Q\/r' xs H Q):=by
 intro pins s σ H xs us Q I rs q;rcases q with q|q
 ·exact h pins s σ H xs us Q I rs q
 ·exact h' pins s σ H xs us Q I rs q
theorem sF:aH X (.type "list") (λxs H Q=>∃p ys,xs=[.ref p]/\(aN X.K H p ys\/pQ X.K H p ys)/\∀l,H l=none->Q (.ref l) (upd H l (.lst ys))):=by
 intro pins s σ H xs us Q I r h;obtain⟨p,ys,rfl,hq,q⟩:=h;obtain⟨u,rfl,rx⟩:=vals1 r;cases rx;have fin:∀(its:List Value),Vals ys its->ys.length<=sizeLine->∀(h':Heap)(c':Nat),(∀b o',s.heap.get? b=some o'->h'.get? b=some o') →
   h'.get? s.heap.objs.size=some { cls:=.type "list",dict:=none,data:=.seq its.toArray c',slots:=#[] }->EP X pins σ Q (.ref s.heap.objs.size) { s with heap:=h' }:=λits r' hz h' c' kp e=>
  ⟨.ref s.heap.objs.size,_,I.laid (t':=s.toks) kp (aae _) (show aS X.prog X.w _ h' _ (.lst ys)from⟨hz,its,c',r',e⟩),rfl,q _ (I.au.fresh (aae _))⟩
 rcases hq with hq|hq
 ·obtain⟨its,r',pl,hz⟩:=I.list hq;have hlen:=r'.length;obtain⟨o,ho,hc,n,hd⟩:=pl.isList;exact call_list_seq p (.inl rfl) ho hc hd (λh' c' kp e=>fin its r' hz h' c' kp e) (by simp only[aaE]<;>omega)
 ·obtain⟨its,r',pl,hz⟩:=I.tuple hq;have hlen:=r'.length;obtain⟨o,ho,hc,n,hd⟩:=pl;exact call_list_seq p (.inr rfl) ho hc hd (λh' c' kp e=>fin its r' hz h' c' kp e) (by simp only[aaE]<;>omega)
theorem oh:aH X (.type "tuple") (λxs H Q=>∃p ys,xs=[.ref p]/\((aN X.K H p ys/\∀l,H l=none->Q (.ref l) (upd H l (.tup ys)))\/(pQ X.K H p ys/\Q (.ref p) H))):=by
 intro pins s σ H xs us Q I r h;obtain⟨p,ys,rfl,h⟩:=h;obtain⟨u,rfl,rx⟩:=vals1 r;cases rx;rcases h with⟨hq,q⟩|⟨hq,q⟩
 ·obtain⟨its,r',pl,hz⟩:=I.list hq;have hlen:=r'.length;refine call_tuple_list pl.isList (λh' kp=>?_) (by simp only[aaE]<;>omega);have I1:Inv X pins σ H { s with heap:=h' }:=I.kept (t':=s.toks) kp;have I2:Inv X pins σ (upd H h'.objs.size (.tup ys)) { s with heap:=h'.push { cls:=.type "tuple",data:=.seq its.toArray } }:=
   I1.laid (t':=s.toks) (λb o e=>aad _ e) (aae _) (show aS X.prog X.w _ _ _ (.tup ys)from⟨hz,its,r',IsTup.new _ _⟩)
  exact⟨.ref h'.objs.size,_,I2,rfl,q _ (I1.au.fresh (aae _))⟩
 ·obtain⟨its,r',pl,hz⟩:=I.tuple hq;exact call_tuple_same pl ⟨.ref p,H,I,rfl,q⟩
def WX(K:W.Frag)(T:String)(x:V)(H:Hp):Prop:=match x with
 | .str _=>T = "str"
 | .int _=>T = "int"
 | .ref p=>(T = "list"/\∃xs,aN K H p xs)\/(T = "tuple"/\∃o,K.lookup p=some o/\o.cls = .type "tuple"/\o.dict=none) ∨
   (T = "dict"/\((∃ag,H p=some (.dK ag))\/∃ag,H p=some (.dT ag)))\/(T = "set"/\∃S n,H p=some (.set S n))
 | _=>False
theorem Dc{pins:List (Addr×Obj)}{σ:St}{H:Hp}{s:Shared}{T:String}{x:V}{v:Value}(I:Inv X pins σ H s)(r:RelV x v)(ty:WX X.K T x H):s.TypeIs v T/\∀a,v = .ref a->∃ob,s.heap.get? a=some ob/\ob.dict=none:=by
 cases x with
 | str z=>
  obtain⟨t,rfl⟩:=r;cases(show T = "str" from ty);exact⟨typeIs_str s z t,λ_ e=>nomatch e⟩
 | int i=>
  obtain⟨t,rfl⟩:=r;cases(show T = "int" from ty);exact⟨typeIs_int s i t,λ_ e=>nomatch e⟩
 | ref p=>
  cases r;rcases ty with⟨rfl,xs,hq⟩|⟨rfl,o,hk,hc,hd⟩|⟨rfl,hk⟩|⟨rfl,S,n,hk⟩
  ·obtain⟨its,_,pl,_⟩:=I.list hq;refine⟨pl.isList.typeIs,λa e=>?_⟩;cases e;obtain⟨o,n,e,c,hd,_⟩:=pl;exact⟨o,e,hd⟩
  ·refine⟨⟨o,I.fj p o hk,hc⟩,λa e=>?_⟩;cases e;exact⟨o,I.fj _ o hk,hd⟩
  ·have z:∃o,s.heap.get? p=some o/\o.ExactDict:=by
    rcases hk with⟨ag,hk⟩|⟨ag,hk⟩
    ·refine az λak=>?_;obtain⟨_,_,_,_,o,_,_,e,ex,_⟩:=I.au p _ hk;refine ak ?_;clear ak;exact⟨o,e,ex⟩
    ·refine az λak=>?_;obtain⟨_,_,_,_,o,_,_,e,ex,_⟩:=I.au p _ hk;refine ak ?_;clear ak;exact⟨o,e,ex⟩
   obtain⟨o,e,ex⟩:=z;refine⟨⟨o,e,ex.1⟩,λa e2=>?_⟩;cases e2;exact⟨o,e,ex.2.1⟩
  ·obtain⟨o,_,_,_,e,ex,_⟩:=I.au p _ hk;refine⟨⟨o,e,ex.1⟩,λa e2=>?_⟩;cases e2;exact⟨o,e,ex.2.1⟩
 | _=>exact False.elim ty
variable{o e:Expr}{es:List Expr}{to:TE}{t:TA}{name:Str}{apos ax:Pos}{T id:String}{r:V->List V->Hp->VK->Prop}
end
def nM(X:Cx)(id:String)(r:V->List V->Hp->VK->Prop):Prop:=
 ∀(pins:List (Addr×Obj))(s:Shared)(σ:St)(H:Hp)(x:V)(xs:List V)(v:Value)(us:List Value)(Q:VK),Inv X pins σ H s->RelV x v->Vals xs us->r x xs H Q →
  wpAny (model X.prog X.w) X.A (call (.builtin id) (v::us)) (EP X pins σ Q) X.xe s
theorem Vals.one:∀{x:V}{us:List Value},Vals [x] us->∃u,us=[u]/\RelV x u
 | _,_,.cons r .nil=>⟨_,rfl,r⟩
theorem Vals.zero:∀{us:List Value},Vals [] us->us=[]
 | _,.nil=>rfl
theorem Vals.rep{xs:List V}{us:List Value}(h:Vals xs us):∀k:Nat,Vals (List.replicate k xs).flatten (List.replicate k us).flatten
 | 0=>.nil
 | k+1=>by rw[ab6,ab6,aa8,aa8];exact Vals.append h (Vals.rep h k)
theorem foldl_rep(its:List Value):∀(k:Nat)(acc:List Value), List.foldl (λx1 x2=>x1++x2) acc.toArray (List.replicate k its.toArray)=(acc++(List.replicate k its).flatten).toArray
 | 0,acc=>by simp
 | k+1,acc=>by
  have e:acc.toArray++its.toArray=(acc++its).toArray:=by simp
  have e2:(acc++its)++(List.replicate k its).flatten=acc++(List.replicate (k+1) its).flatten:=by rw[ab6,aa8,abi]
  rw[<-e2,<-foldl_rep its k (acc++its),<-e,ab6,List.foldl_cons]
section
variable{X:Cx}{pins:List (Addr×Obj)}{σ:St}{H:Hp}{s:Shared}{l b:Addr}{xs ys zs:List V}
theorem Inv.Lx{its its':List Value}{n:Nat}{f:Array Value->Array Value}{t':Nat}(I:Inv X pins σ H s)(hH:H l=some (.lst xs))(e:s.heap.get? l=some { cls:=.type "list",data:=.seq its.toArray n })(hf:f its.toArray=its'.toArray)(hv:Vals ys its')(hz:ys.length<=sizeLine):Inv X pins σ (upd H l (.lst ys)) { s with heap:=s.heap.update l (Obj.mapSeq f),toks:=t' }:=by have q:=PySem.IsL.update e f;rw[hf]at q;refine I.write (x:=l) (e:=l) (by rw[hH];exact trivial) (.inl rfl) (λb' u hb hu=>(aaU s.heap (Obj.mapSeq f) (aa5 hb)).trans hu) ⟨_,q⟩ ?_;exact⟨hz,its',_,hv,q⟩
theorem Inv.Ly{its:List Value}{t':Nat}(I:Inv X pins σ H s)(hv:Vals ys its)(hz:ys.length<=sizeLine):Inv X pins σ (upd H s.heap.objs.size (.lst ys)) { s with heap:=s.heap.push { cls:=.type "list",data:=.seq its.toArray },toks:=t' }:=
 I.laid (λ_ _ q=>aad _ q) (aae _) ⟨hz,its,0,hv,aap _ rfl⟩
theorem Inv.fresh(I:Inv X pins σ H s):H s.heap.objs.size=none:=I.au.fresh (aae _)
theorem Inv.vR(I:Inv X pins σ H s)(hH:H l=some (.lst xs)):xs.length<=sizeLine/\∃(its:List Value)(n:Nat),Vals xs its/\xs.length=its.length/\s.heap.get? l=some { cls:=.type "list",data:=.seq its.toArray n }:=by obtain⟨z,its,n,r,e⟩:=I.au l _ hH;exact⟨z,its,n,r,r.length,e⟩
theorem ux{n:Nat}(h:n<=sizeLine):Builtin.List.listTooLong n=false:=by unfold Builtin.List.listTooLong;exact aaT (by omega)
end
section
variable{X:Cx}
def Hz:V->List V->Hp->VK->Prop:=λx vs H Q=>∃l xs y,x = .ref l/\vs=[y]/\H l=some (.lst xs)/\xs.length<sizeLine/\Q .bj (upd H l (.lst (xs++[y])))
theorem o9:nM X "list.append" Hz:=by intro pins s σ H x vs v us Q I rx rv h;refine az λak=>?_;obtain⟨l,xs,y,rfl,rfl,hH,hz,q⟩:=h;refine ak ?_;clear ak;cases rx;obtain⟨u,rfl,ru⟩:=rv.one;obtain⟨z,its,n,r,hl,e⟩:=I.vR hH;refine ab3 F.slot_list_append ⟨_,e,rfl⟩ F.entry_list_append (F.args_list_append_2 _ _) (PySem.list_append l its.toArray n u (by rw[aaE];omega)) ⟨e,?_⟩;refine⟨.bj,_,I.Lx (its':=its++[u]) hH e (by simp) (r.append (.cons ru .nil)) ?_,rfl,q⟩;rw[aal,List.length_singleton];omega
def Hv:V->List V->Hp->VK->Prop:=λx vs H Q=>∃l b xs zs,x = .ref l/\vs=[.ref b]/\H l=some (.lst xs)/\H b=some (.lst zs)/\xs.length+zs.length<=sizeLine/\Q .bj (upd H l (.lst (xs++zs)))
theorem A2:nM X "list.extend" Hv:=by
 intro pins s σ H x vs v us Q I rx rv h;refine az λak=>?_;obtain⟨l,b,xs,zs,rfl,rfl,hH,hB,hz,q⟩:=h;refine ak ?_;clear ak;cases rx;obtain⟨u,rfl,ru⟩:=rv.one;cases ru;obtain⟨z,its,n,r,hl,e⟩:=I.vR hH;obtain⟨z2,vS,n2,r2,Z7,e2⟩:=I.vR hB;have hsz:its.toArray.size+vS.toArray.size<=sizeLine:=by rw[aaE,aaE];omega
 have CV:¬(!its.toArray.isEmpty&&Builtin.List.listTooLong (its.toArray.size+vS.toArray.size))=true:=by rw[ux hsz,ac5];exact aav
 refine ab3 F.slot_list_extend ⟨_,e,rfl⟩ F.entry_list_extend (F.args_list_extend_2 _ _)
  (AutoSeq1.list_extend_list_list_0 l its.toArray n b vS.toArray n2 CV (by rw[aaE];omega) (by omega)) ⟨e,e2,?_⟩
 refine⟨.bj,_,I.Lx (its':=its++vS) hH e (by simp) (r.append r2) ?_,rfl,q⟩;rw[aal];omega
def Mc:V->List V->Hp->VK->Prop:=λx vs H Q=>∃l xs,x = .ref l/\vs=[]/\H l=some (.lst xs)/\Q .bj (upd H l (.lst []))
theorem Fd:nM X "list.clear" Mc:=by intro pins s σ H x vs v us Q I rx rv h;obtain⟨l,xs,rfl,rfl,hH,q⟩:=h;cases rx;have ZJ:=rv.zero;subst ZJ;obtain⟨z,its,n,r,hl,e⟩:=I.vR hH;refine ab3 F.slot_list_clear ⟨_,e,rfl⟩ F.entry_list_clear (F.args_list_clear_1 _) (AutoSeq1.list_clear_list_0 l its.toArray n (by rw[aaE];omega)) ⟨e,?_⟩;exact⟨.bj,_,I.Lx (its':=[]) (ys:=[]) hH e rfl .nil (aaO _),rfl,q⟩
def VY:R2:=λx y H Q=>∃l b xs zs,x = .ref l/\y = .ref b/\H l=some (.lst xs)/\H b=some (.lst zs)/\xs.length+zs.length<=sizeLine/\∀p,H p=none->Q (.ref p) (upd H p (.lst (xs++zs)))
theorem MQ:ck X (binaryOp .Add) VY:=by
 intro pins s σ H x y v u Q I rx ry h;refine az λak=>?_;obtain⟨l,b,xs,zs,rfl,rfl,hH,hB,hz,q⟩:=h;refine ak ?_;clear ak;cases rx;cases ry;obtain⟨z,its,n,r,hl,e⟩:=I.vR hH;obtain⟨z2,vS,n2,r2,Z7,e2⟩:=I.vR hB;refine PySem.P.add_list e e2 ?_ (by rw[aaE,aaE];omega);have ea:its.toArray++vS.toArray=(its++vS).toArray:=by simp
 rw[ea];exact⟨.ref _,_,I.Ly (t':=s.toks) (r.append r2) (by rw[aal];omega),rfl,q _ I.fresh⟩
def VU:R2:=λx y H Q=>∃l k xs,x = .ref l/\y = .int k/\H l=some (.lst xs)/\-(2 ^ 63)<=k/\k<2 ^ 63/\xs.length*k.toNat<=sizeLine ∧
 ∀p,H p=none->Q (.ref p) (upd H p (.lst (List.replicate k.toNat xs).flatten))
theorem len_rep{α:Type}(xs:List α)(k:Nat):(List.replicate k xs).flatten.length=k*xs.length:=by
 induction k with
 | zero=>simp
 | succ k ih=>rw[ab6,aa8,aal,ih,aby,Nat.add_comm]
theorem MG:ck X (binaryOp .Mult) VU:=by
 intro pins s σ H x y v u Q I rx ry h;refine az λak=>?_;obtain⟨l,k,xs,rfl,rfl,hH,h1,h2,hz,q⟩:=h;refine ak ?_;clear ak;cases rx;obtain⟨t,rfl⟩:=ry;obtain⟨z,its,n,r,hl,e⟩:=I.vR hH;have hlen:its.toArray.size*k.toNat<=sizeLine:=by rw[aaE,<-hl];exact hz
 have Wr:¬its.toArray.size*k.toNat>(2 ^ 63-1) / 8:=by
  have:(sizeLine:Nat)<=(2 ^ 63-1) / 8:=by decide
  omega
 have LB:¬(!Builtin.List.listFitsIndex k)=true:=by rw[fitsIndex_both h1 h2];exact aav
 have CV:¬Builtin.List.listTooLong (its.toArray.size*k.toNat)=true:=by rw[ux hlen];exact aav
 have Wi:List.foldl (λx1 x2=>x1++x2) #[] (List.replicate (if its.toArray.isEmpty=true then 0 else k.toNat) its.toArray)=(List.replicate k.toNat its).flatten.toArray:=by
  have f0:∀m:Nat,List.foldl (λx1 x2=>x1++x2) #[] (List.replicate m its.toArray)=(List.replicate m its).flatten.toArray:=λm=>by have:=foldl_rep its m [];rw[acX]at this;exact this
  rw[f0];cases its with
  | nil=>simp
  | cons a r'=>rw[aar (by simp)]
 refine wpAny_binaryOp_repeat_ref (T:= "list") (U:= "int") (by decide) ⟨_,e,rfl⟩ (λs'=>typeIs_int s' k t) noFill_list_mul F.fills_int_mul F.slot_int_rmul repeat_list F.slot_int_index.lookup
  (ab3 F.slot_int_rmul (typeIs_int s k t) F.entry_int_rmul (F.args_int_rmul_2 _ _) (int___rmul___int_list k t l its.toArray n)
   ⟨e,rfl,⟨_,e,rfl⟩,ab3 F.slot_list_mul ⟨_,e,rfl⟩ F.entry_list_mul (F.args_list_mul_2 _ _) (AutoListH.list___mul___list_int_3 l its.toArray n k t LB Wr CV) ⟨e,?_⟩⟩)
 rw[Wi];exact⟨.ref _,_,I.Ly (t':=s.toks) (r.rep k.toNat) (by rw[len_rep,adz];exact hz),rfl,q _ I.fresh⟩
end
end L2
namespace Att
open PySem PySem.W PySem.Calls PyProof.Rows
theorem kO{P:Params}{h:Heap}:∀(ns:List Int)(vs:List Value),WellAll P h vs (ns.map WData.int)->IntsAre vs ns:=by
 intro ns
 induction ns with
 | nil=>
  intro vs w;rw[acq]at w;cases w;exact .nil
 | cons n ns ih=>
  intro vs w;rw[aaR]at w;cases w with
  | cons a b=>
   cases a;exact .cons _ _ (ih _ b)
theorem Aw{l:OpenLaw}{n:Nat}(hn:l.most=some n){P:Params}{h:Heap}{args:List WData}{vals:List Value}(GV:l.row.toRowW.claim.pre args=true)(JS:WellAll P h vals args):∃a vs ns,vals=[Value.ref a]/\args=[WData.list (ns.map WData.int)]/\h.get? a=some { cls:=.type "list",data:=.seq vs.toArray }/\IntsAre vs ns/\ns.length<=n:=by
 have ZP:WShape.hasAll [] args [.list .int]=true:=(pre_splitW GV).1;have hc:l.pre.holds [] { args:=args }=true:=(pre_splitW GV).2;obtain⟨d,r,rfl,h1,h2⟩:=hasAllW_cons ZP;obtain rfl:=hasAllW_nil h2;obtain⟨xs,rfl,h3⟩:=hasW_list h1;obtain⟨ns,rfl⟩:=items_int h3;have hlen:ns.length<=n:=by
  unfold OpenLaw.pre at hc;have h4:(WTm.not (.lt (.lit (.int (n:Int))) (.len (.arg 0)))).holds [] { args:=[.list (ns.map .int)] }=true:=by have h4:=(holds_andW hc).1;rw[hn]at h4;exact h4
  have h5:=condW_of h4 (w_not (w_lt w_lit (w_len_list (w_arg rfl))));rw[aaa]at h5;refine ab9 λq=>?_;have q':(n:Int)<((ns.length:Nat):Int):=by omega
  first
   | (rw[aaI q']at h5;exact absurd h5 (by decide))
   | (simp at h5;omega)
 cases JS with
 | cons w1 w2=>
  cases w2;cases w1 with
  | list ho Ci=>exact⟨_,_,ns,rfl,rfl,ho,kO ns _ Ci,hlen⟩
theorem AE(l:OpenLaw)(args:List WData):l.row.toRowW.claim.post args (.bool true) args=true:=
 postW_of (r:=l.row.toRowW) (X:=(true == true))
  (show WShape.has [] (.bool true) .bool=true by first|rfl|decide|simp[WShape.has,WShape.arms,WShape.armsAll])
  (show(WTm.eq .res (.lit (.bool true))).value [] { args:=args,res:=some (.bool true),after:=args }=some (.bool (true == true))from w_eq_bool (w_res rfl) w_lit) rfl
theorem vi{l:OpenLaw}{n:Nat}{q:Program}{loose:List Str}{XP:(Str->Option Value)->Heap->Prop}{YP:World->Heap->Prop}{d:DefRec}(hn:l.most=some n)(PB:d.params.defaults=[])(call:∀(w:World)(cq aD:Shared)(mg mb:Str->Option Value)(fa:Addr)(o:Obj)(pm cd doc:Value)(a:Addr)(vs:List Value)(ns:List Int), Ground q loose [] XP w cq mg mb aD.heap->YP w aD.heap → aD.heap.get? fa=some o->o.data = .func (docDef d.name d.params d.body d.scope pm cd doc)->aD.heap.CodeRec cd d.name->mg d.name=some (.ref fa) → aD.heap.get? a=some { cls:=.type "list",data:=.seq vs.toArray }->IntsAre vs ns->ns.length<=n->aD.gens = #[] → codeAny (model l.prog w) callerA (.call (.ref fa) ⟨[.ref a],[]⟩) (λr s'=>r = .ok (.ret (.bool true))/\OldK aD.heap s'.heap/\s'.os=aD.os/\AllBare s'.gens) aD):WalkO q loose XP YP l.row.toRowW d [] (λf vs=>PySem.call f vs):=by intro w cq aD mg mb G Y fa o pm cd doc dV kV ho hd gW hD Pq hg args vals as GV aci hrd JS XA;obtain rfl:dV = .none:=Dflts.none hD PB;obtain rfl:kV = .none:=Dflts.noKw hD;refine az λak=>?_;obtain⟨a,vs,ns,rfl,rfl,LA,hints,hlen⟩:=Aw hn GV JS;refine ak ?_;clear ak;refine enter_call (abN (call w cq aD mg mb fa o pm cd doc a vs ns G Y ho (fd_plain hd) gW Pq LA hints hlen hg) λr s' hq=>?_);obtain⟨rfl,h2,h3,h4⟩:=hq;exact⟨.inl ⟨.bool true,.bool true,[],rfl,λ_=>rfl,.bool true,AE l _,λ_=>⟨List.Pairwise.nil,λ_ hm=>(nomatch hm)⟩⟩,h2,h3,h4⟩
end Att
namespace L2
open PySem PySem.Spec PyProof.Rows
theorem oF:∀{vs:List Value}{ns:List Int},IntsAre vs ns->Vals (ns.map V.int) vs
 | _,_,.nil=>.nil
 | _,_,.cons n t h=>.cons ⟨t,rfl⟩ (oF h)
def aU(s:Stmt):Arguments:=match s with
 | .FunctionDef _ a _ _ _ _ _ _ _ _=>a
 | _=>{ posonlyargs:=[],args:=[],vararg:=none,kwonlyargs:=[],kw_defaults:=[],kwarg:=none,defaults:=[] }
def ay(s:Stmt):List Stmt:=match s with
 | .FunctionDef _ _ b _ _ _ _ _ _ _=>b
 | _=>[]
def ae(s:Stmt):Scope:=match s with
 | .FunctionDef _ _ _ _ _ _ sc _ _ _=>sc
 | _=>{ kind:=.function,names:=[],isGenerator:=false,isCoroutine:=false }
abbrev kR:zL:=λ_ _ _ _ _ _=>False
abbrev E0:XK:=λ_ _ _=>False
theorem yt{X:Cx}:Passes kR X E0:=λ_ _ _ _ _ _ _ h=>h.elim
structure BX(K:W.Frag)(x qual:Str)(st:Stmt)(f:Addr)(fd:FuncData):Prop where
 ex:∃(oc:Value)(od:Option Addr)(kV doc pm:Value)(an:Option Addr)(aA ct:Value)(fW:Array (Option Value)),
  fd=W.fnOf x qual (aU st) (ay st) (ae st) .none kV doc pm an aA ct/\K.lookup f=some ⟨oc,od,.func fd,fW⟩/\W.codeIn K aA qual=true
 kp:W.keepIn K (.ref f)=true
section
variable{P:Program}{w:World}{K:W.Frag}{mg:Str->Option Value}{base:Heap}
theorem BX.ok{x qual:Str}{st:Stmt}{f:Addr}{fd:FuncData}{N ps:List Str}{k:Nat}{sp:Sp}(F:BX K x qual st f fd)(S:ao N ps (ae st))(len:∀vs H Q E,sp vs H Q E->vs.length=ps.length)(cx:∀(aA:Value)(A:Around)(outer:List Env)(s:Shared)(H:Hp)(vs:List V)(Q:VK)(E:XK),av k (A.deeper (envOfC qual (ae st) s.heap.objs.size f aA))->sp vs H Q E → ∃t,nL (br kR P w K mg base N qual (ae st) f aA A outer s H E).vp (ay st) t/\t { nx:=λ_ H'=>Q .bj H',rt:=Q } (start N vs) H):cU P w K mg base kR (k+1) f fd ps sp:=by refine az λak=>?_;obtain⟨oc,od,kV,doc,pm,an,aA,ct,fW,rfl,lk,gW⟩:=F.ex;refine ak ?_;clear ak;refine yA lk gW S len λA outer s H vs Q E hr oi=>?_;obtain⟨t,h,q⟩:=cx aA A outer s H vs Q E hr oi;exact⟨t,h.vp,q⟩
theorem BX.binds{x qual:Str}{st:Stmt}{f:Addr}{fd:FuncData}{ps:List Str}(F:BX K x qual st f fd)(h:∀(kV doc pm:Value)(an:Option Addr)(aA ct:Value)(us:List Value),us.length=ps.length->bindArgs (W.fnOf x qual (aU st) (ay st) (ae st) .none kV doc pm an aA ct) ⟨us,[]⟩=pure (ps.zip us)):Binds K fd ps []:=by refine az λak=>?_;obtain⟨oc,od,kV,doc,pm,an,aA,ct,fW,rfl,lk,gW⟩:=F.ex;refine ak ?_;clear ak;exact .all (h kV doc pm an aA ct)
theorem wZ{x qual:Str}{st:Stmt}{f:Addr}{oc:Value}{od an:Option Addr}{fW:Array (Option Value)}{kV doc pm aA ct:Value}(l:K.lookup f=some ⟨oc,od,.func (W.fnOf x qual (aU st) (ay st) (ae st) .none kV doc pm an aA ct),fW⟩)(c:W.codeIn K aA qual=true)(k:W.keepIn K (.ref f)=true):BX K x qual st f (W.fnOf x qual (aU st) (ay st) (ae st) .none kV doc pm an aA ct):=⟨⟨oc,od,kV,doc,pm,an,aA,ct,fW,rfl,l,c⟩,k⟩
end
theorem dX{A B:Prop}(h:B):if false=true then A else B:=by rw[aar aav];exact h
theorem Qm{A B:Prop}(h:A):if true=true then A else B:=by rw[aaz rfl];exact h
theorem aO{c A B:Prop}[Decidable c](h1:c->A)(h2:¬c->B):if c then A else B:=by
 by_cases h:c
 ·rw[aaz h];exact h1 h
 ·rw[aar h];exact h2 h
def ah(H H':Hp):Prop:=∀b o,H b=some o->H' b=some o
theorem ah.refl(H:Hp):ah H H:=λ_ _ h=>h
theorem ah.trans{H H1 H2:Hp}(a:ah H H1)(b:ah H1 H2):ah H H2:=λc o h=>b c o (a c o h)
theorem ah.free{H H':Hp}(e:ah H H'){l:Addr}(h:H' l=Option.none):H l=Option.none:=by
 cases q:H l with
 | none=>rfl
 | some o=>
  rw[e l o q]at h;cases h
theorem ah.seq{K:W.Frag}{H H':Hp}{a:Addr}{xs:List V}(e:ah H H')(h:aN K H a xs):aN K H' a xs:=by
 rcases h with(h|⟨o,h⟩)|h
 ·exact .inl (.inl (e _ _ h))
 ·exact .inl (.inr ⟨o,e _ _ h⟩)
 ·exact .inr h
end L2
namespace L2
open PySem
section
variable{prog:Program}{w:World}{A:Around}{R:Result->Shared->Prop}{s:Shared}
theorem sf{elt target iter:Expr}{ifs:List Expr}{scope:Scope}{pos:Pos}{it acc:Value}{env:Env}(I:Nat->Shared->Prop)(turn:∀n s,I n s->wpAny (model prog w) A (pyNext it) (λr aD=>match r with | none=>R (.ok .next) aD | some v=>wpAny (model prog w) A (letOwnedTupleGo target it v) (λ_ Kb=>wpAny (model prog w) A (assign target env v) (λ_ zO=> wpAny (model prog w) A (forIn ifs true λc r=>if r=true then do let ok <-isTrue c env (eval c env);pure (ForInStep.yield ok)else pure (ForInStep.yield r)) (λok pS=> if ok=true then wpAny (model prog w) A (eval elt env) (λx GA=> wpAny (model prog w) A (call (.builtin "list.append") [acc,x]) (λ_ P6=>∃m,m<n/\I m P6) (λ_ _=>False) GA) (λ_ _=>False) pS else ∃m,m<n/\I m pS) (λ_ _=>False) zO) (λ_ _=>False) Kb) (λ_ _=>False) aD) (λ_ _=>False) s)(n:Nat)(h:I n s):codeAny (model prog w) A (.compLoop (.ListComp elt [⟨target,iter,ifs,0⟩] scope pos) 0 it acc env) R s:=by
 refine codeAny_loop rfl I (λn s hI=>?_) n h;show wpAny _ A ((compTurn (.ListComp elt [⟨target,iter,ifs,0⟩] scope pos) 0 it acc env).onRaise (λx=>do noteFrame x env;theTreesLotGoes x)) _ _ s;refine wpAny_noted ?_;rw[compTurn_list];refine aac (acV (aac (abd (turn n s hI) (λr aD fe=>?_) λ_ _ h'=>h'.elim)));cases r with
 | none=>exact aaj fe
 | some v=>
  refine aac (abd fe (λ_ Kb Ry=>?_) λ_ _ h'=>h'.elim);refine aac (abd Ry (λ_ zO Cg=>aac (abd Cg (λok pS Qo=>?_) λ_ _ h'=>h'.elim)) λ_ _ h'=>h'.elim);cases ok with
  | false=>exact aaj ⟨rfl,Qo⟩
  | true=>
   exact aac (aac (abd Qo (λx GA Wb=>aac (abd Wb (λ_ P6 Wa=>aaj (aaj ⟨rfl,Wa⟩)) λ_ _ h'=>h'.elim)) λ_ _ h'=>h'.elim))
end
theorem eZ{env:Env}:∀(names:List (Str×NameKind))(acc:List (Str×Addr)),(∀y∈names,y.2 = .free->∃c,env.cells.lookup y.1=some c)->(∀x c,acc.lookup x=some c->env.cells.lookup x=some c) →
  ∃cl:List (Str×Addr),(forIn names acc λ(x:Str×NameKind)(r:List (Str×Addr))=>(match x with|(name,kind)=>if(kind == NameKind.free)=true then do let a <-cellOf env name;pure (ForInStep.yield ((name,a)::r))else pure (ForInStep.yield r):Sem (ForInStep (List (Str×Addr)))))=pure cl ∧
   (∀x c,cl.lookup x=some c->env.cells.lookup x=some c)/\(∀y∈names,y.2 = .free->∃c,cl.lookup y.1=some c)/\∀x c,acc.lookup x=some c->∃c',cl.lookup x=some c'
 | [],acc,_,h=>⟨acc,rfl,h,(λy z=>by cases z),λ_ c e=>⟨c,e⟩⟩
 | (name,kind)::r,acc,hf,h=>by
  by_cases hk:kind = .free
  ·subst hk;obtain⟨c,hc⟩:=hf (name,.free) aah rfl;have h2:∀x d,((name,c)::acc).lookup x=some d->env.cells.lookup x=some d:=λx d e=>by
    rw[abn]at e;cases hx:x == name with
    | true=>rw[hx]at e;cases e;rw[eq_of_beq hx];exact hc
    | false=>rw[hx]at e;exact h x d e
   obtain⟨cl,e,h3,h4,h5⟩:=eZ r ((name,c)::acc) (λy hy=>hf y (aaf _ hy)) h2;refine⟨cl,?_,h3,λy hy Sm=>?_,λx d hx=>?_⟩
   ·rw[ado];simp only[beq_self_eq_true,if_true,cellOf,hc,pure_bind];exact e
   ·rcases aau.mp hy with rfl|hy
    ·exact h5 name c (by simp[abn])
    ·exact h4 y hy Sm
   ·cases Xu:x == name with
    | true=>exact h5 x c (by rw[abn,Xu])
    | false=>exact h5 x d (by rw[abn,Xu];exact hx)
  ·obtain⟨cl,e,h3,h4,h5⟩:=eZ r acc (λy hy=>hf y (aaf _ hy)) h;have hb:(kind == NameKind.free)=false:=by simpa using hk
   refine⟨cl,?_,h3,λy hy Sm=>?_,h5⟩
   ·rw[ado];simp only[hb,aa9,abX,pure_bind];exact e
   ·rcases aau.mp hy with rfl|hy
    ·exact absurd Sm hk
    ·exact h4 y hy Sm
theorem iy{env:Env}{scope:Scope}(hf:∀y∈scope.names,y.2 = .free->∃c,env.cells.lookup y.1=some c):∃cl,closureFor scope env=pure cl/\(∀x c,cl.lookup x=some c->env.cells.lookup x=some c)/\∀y∈scope.names,y.2 = .free->∃c,cl.lookup y.1=some c:=by obtain⟨cl,e,h1,h2,_⟩:=eZ (env:=env) scope.names [] hf (λx c e=>by simp at e);refine⟨cl,?_,h1,h2⟩;unfold closureFor;exact(aaX (· >>= pure) e).trans (pure_bind _ _)
end L2
namespace L2
open PySem PySem.Spec PyProof.Rows
abbrev Cx.block(X:Cx)(scope:Scope)(cl:List (Str×Addr))(C:Addr)(N:List Str)(s:Shared)(H:Hp)(fp:List Addr):Cx:=
 { X with N:=N,cq:=s,H₀:=H,env:=compEnvC scope cl C X.env,outer:=X.stack,ex:=fp,fn:=λ_=>false,pn:=[],xe:=λ_ _=>False }
def jz(JQ:Scope)(oN:List Str)(sc:Scope)(N:List Str)(js:List Nat):Bool:=
 sc.names.all (λy=>y.2 != .cell)&&(sc.names.all (λy=>y.2 != .local || sc.names.lookup y.1 == some .local)&&(decide (js.length<=N.length) &&
  (sc.names.all (λy=>y.2 != .free || (JQ.names.lookup y.1 == some .cell || JQ.names.lookup y.1 == some .free)) &&
   (List.range js.length).all (λi=>match N[N.length-js.length+i]?,oN[js.getD i 0]? with|some x,some y=>x == y&&sc.names.lookup x == some .free|_,_=>false))))
structure xh(JQ:Scope)(oN:List Str)(sc:Scope)(N:List Str)(js:List Nat):Prop where
 jt:∀y∈sc.names,y.2≠.cell
 names:∀y∈sc.names,y.2 = .local->sc.names.lookup y.1=some .local
 len:js.length<=N.length
 tk:∀y∈sc.names,y.2 = .free->JQ.names.lookup y.1=some .cell\/JQ.names.lookup y.1=some .free
 fr:∀(i j:Nat),js[i]? = some j->∃x,N[N.length-js.length+i]? = some x/\oN[j]? = some x/\sc.names.lookup x=some .free
theorem pE{JQ:Scope}{oN:List Str}{sc:Scope}{N:List Str}{js:List Nat}(h:jz JQ oN sc N js=true):xh JQ oN sc N js:=by
 unfold jz at h;simp only[aaJ]at h;obtain⟨h1,h2,h3,h4,h5⟩:=h;refine⟨λy hy=>?_,λy hy hl=>?_,aaF h3,λy hy hf=>?_,λi j hj=>?_⟩
 ·have:=aaZ.mp h1 y hy;simpa using this
 ·have:=aaZ.mp h2 y hy;rw[hl]at this;simpa using this
 ·have:=aaZ.mp h4 y hy;rw[hf]at this;simpa using this
 ·have hi:i<js.length:=(aaB.mp hj).1;have:=aaZ.mp h5 i (abx.mpr hi);have e:js.getD i 0=j:=by rw[aag,hj];rfl
  rw[e]at this;split at this
  ·rename_i x y e1 e2;simp only[aaJ,acp]at this;obtain⟨rfl,h⟩:=this;exact⟨x,e1,e2,h⟩
  ·cases this
def Ge(n:Nat)(js:List Nat)(σ:St):St:=List.replicate n none++js.map λj=>(σ[j]?).join
theorem JH{n:Nat}{js:List Nat}{σ:St}{i:Nat}{v:V}(h:(Ge n js σ)[i]? = some (some v)):∃k j,i=n+k/\js[k]? = some j/\σ[j]? = some (some v):=by
 unfold Ge at h;by_cases hi:i<n
 ·rw[aaV (by simpa using hi),List.getElem?_replicate]at h;split at h<;>cases h
 ·rw[aaS (by simpa using hi),acG,aak]at h;cases e:js[i-n]? with
  | none=>rw[e]at h;cases h
  | some j=>
   rw[e]at h;refine⟨i-n,j,by omega,e,?_⟩;have h':(σ[j]?).join=some v:=by simpa using h
   cases q:σ[j]? with
   | none=>rw[q]at h';cases h'
   | some o=>
    rw[q]at h';have:o=some v:=h';rw[this]
theorem dh{env:Env}:∀{names:List (Str×NameKind)}{x:Str}{k:NameKind},
  (names.map λ(n,k)=>if(k == NameKind.free&&env.scope.kind == .function&&env.kindOf n == some .cell)then(n,NameKind.cell)else(n,k)).lookup x=some k->k = .cell\/k = .free->(∀y∈names,y.2≠.cell)->(x,NameKind.free)∈names
 | [],_,_,h,_,_=>by simp at h
 | (n,k1)::r,x,k,h,hk,hc=>by
  have ih:=@dh env r x k;have sR:∀y∈r,y.2≠.cell:=λy hy=>hc y (aaf _ hy);have h1:k1≠.cell:=hc (n,k1) aah;have h:List.lookup x ((if(k1 == NameKind.free&&env.scope.kind == .function&&env.kindOf n == some .cell)=true then(n,NameKind.cell)else(n,k1))::_)=some k:=h;by_cases c:(k1 == NameKind.free&&env.scope.kind == .function&&env.kindOf n == some .cell)=true
  ·rw[aaz c,abn]at h;cases hx:x == n with
   | true=>
    have e:k1 = .free:=by simp only[aaJ,acp]at c;exact c.1.1
    rw[eq_of_beq hx,e];exact aah
   | false=>rw[hx]at h;exact aaf _ (ih h hk sR)
  ·rw[aar c,abn]at h;cases hx:x == n with
   | true=>
    rw[hx]at h;have e:k1=k:=aaw h;have e2:k1 = .free:=by
     rcases hk with z|z
     ·exact absurd (e.trans z) h1
     ·exact e.trans z
    rw[eq_of_beq hx,e2];exact aah
   | false=>rw[hx]at h;exact aaf _ (ih h hk sR)
theorem jd{env:Env}:∀{names:List (Str×NameKind)}{x:Str},names.lookup x=some .free →
  (names.map λ(n,k)=>if(k == NameKind.free&&env.scope.kind == .function&&env.kindOf n == some .cell)then(n,NameKind.cell)else(n,k)).lookup x=some .cell ∨
  (names.map λ(n,k)=>if(k == NameKind.free&&env.scope.kind == .function&&env.kindOf n == some .cell)then(n,NameKind.cell)else(n,k)).lookup x=some .free
 | [],_,h=>by simp at h
 | (n,k1)::r,x,h=>by
  have ih:=@jd env r x;show List.lookup x ((if(k1 == NameKind.free&&env.scope.kind == .function&&env.kindOf n == some .cell)=true then(n,NameKind.cell)else(n,k1))::_)=_\/List.lookup x ((if(k1 == NameKind.free&&env.scope.kind == .function&&env.kindOf n == some .cell)=true then(n,NameKind.cell)else(n,k1))::_)=_;rw[abn]at h;by_cases c:(k1 == NameKind.free&&env.scope.kind == .function&&env.kindOf n == some .cell)=true
  ·rw[aaz c,abn];cases hx:x == n with
   | true=>exact .inl rfl
   | false=>rw[hx]at h;exact ih h
  ·rw[aar c,abn];cases hx:x == n with
   | true=>rw[hx]at h;exact .inr h
   | false=>rw[hx]at h;exact ih h
def PF(X:Cx)(ifs:List Expr)(t:TT):Prop:=
 ∀(pins:List (Addr×Obj))(s:Shared)(σ:St)(H:Hp)(Q:Bool->Hp->Prop),Inv X pins σ H s->t σ H Q →
  wpAny (model X.prog X.w) X.A (forIn ifs true λc r=>if r=true then do let ok <-isTrue c X.env (eval c X.env);pure (ForInStep.yield ok)else pure (ForInStep.yield r)) (TP X pins σ Q) X.xe s
def P2:TT:=λ_ H Q=>Q true H
theorem Mn{X:Cx}:PF X [] P2:=λ_ _ _ H _ I h=>wpAny_tests_nil ⟨H,I,h⟩
def yp(n:Nat)(js:List Nat)(wi:TI)(g:TG)(tt:TT)(te:TE):TE:=λσ H Q=>wi σ H λJ H1=>∀D,H1 D=none->∃W:Nat->Nat->St->Hp->List V->Prop,
 (∃m,W 0 m (Ge n js σ) (upd H1 D (.lst [])) [])/\∀i m τ H2 ys,W i m τ H2 ys->H2 D=some (.lst ys) ∧
  ((J.stop i H2/\Q (.ref D) H2)\/(J.go i H2/\ys.length<sizeLine/\∃N:St->Hp->List V->Prop,(∀nO H' nP,N nO H' nP->∃m',m'<m/\W (i+1) m' nO H' nP)/\∀x H3,J.sS i H2 x H3->g x τ H3 λfV H4=>tt fV H4 λb H5=>
   if b=true then te fV H5 λy H6=>H6 D=some (.lst ys)/\N fV (upd H6 D (.lst (ys++[y]))) (ys++[y])
   else N fV H5 ys))
section
variable{X:Cx}
theorem BC{pins:List (Addr×Obj)}{σ:St}{H:Hp}{s:Shared}{fe:Heap}{tk:Nat}{scope:Scope}{N:List Str}{js:List Nat}{cl:List (Str×Addr)}{fp:List Addr}(I:Inv X pins σ H s)(hk:scope.kind = .function)(hN:N.Nodup)(S:xh X.env.scope X.N scope N js)(nK:∀x c,cl.lookup x=some c->X.env.cells.lookup x=some c)(tw:∀y∈scope.names,y.2 = .free->∃c,cl.lookup y.1=some c)(hf:∀b∈fp,b<s.heap.objs.size/\b≠X.env.locals/\b ∉ X.fs/\(b∈X.ex\/X.cq.heap.objs.size<=b)/\(∀x c,X.env.cells.lookup x=some c->c≠b))(JV:fe.Ns s.heap.objs.size λ_=>none)(old:∀b o,s.heap.get? b=some o->fe.get? b=some o):Inv (X.block scope cl s.heap.objs.size N s H fp) [] (Ge (N.length-js.length) js σ) H { s with heap:=fe,toks:=tk }:=by
 have look:∀x,((relabel scope X.env).names.lookup x=some .cell\/(relabel scope X.env).names.lookup x=some .free)->∃c,cl.lookup x=some c:=λx hx=>by
  have hm:(x,NameKind.free)∈scope.names:=by
   rcases hx with z|z
   ·exact dh z (.inl rfl) S.jt
   ·exact dh z (.inr rfl) S.jt
  exact tw _ hm rfl
 refine⟨⟨I.ok.mod,hk,I.ok.glob,I.ok.blt,aae _,λx y c h1 h2=>I.ok.inj x y c (nK x c h1) (nK y c h2),look,λx c h=>(by cases h),I.ok.hd,I.ok.frames,.inl rfl,λb hb=>?_,I.bs,aaM I.ok.BI I.sz,λb o e hb=>?_,λb hb z=>?_,I.stack,I.iM⟩,
  rfl,I.bare,Un.kept old,⟨_,JV,λi x v h1 h2 h3=>?_⟩,λx c h=>?_,I.au.fresh (aae _),λx c h=>I.dE x c (nK x c h),λp hp=>absurd (show p∈([]:List (Addr×Obj))from hp) (by simp),I.au.kept old,?_⟩
 ·exact⟨aaD (hf b hb).1,λx c h=>(hf b hb).2.2.2.2 x c (nK x c h)⟩
 ·rcases(hf b hb).2.2.2.1 with z|z
  ·exact I.ok.zS b o e z
  ·exact absurd (aaG (aam e) (aaM I.ok.BI z)) (abm _)
 ·rcases aau.mp (I.pY b z)with q|q
  ·exact(hf b hb).2.1 q
  ·exact(hf b hb).2.2.1 q
 ·obtain⟨k,j,rfl,hj,Zx⟩:=JH h2;obtain⟨x',e1,e2,e3⟩:=S.fr k j hj;rw[e1]at h1;have ex:x'=x:=aaw h1;subst ex;have ok:=S.tk _ (abb e3) rfl;obtain⟨m,_,hl⟩:=I.loc;obtain⟨u,r,l⟩:=hl j x' v e2 Zx (.inr ok);refine⟨u,r,?_⟩;rcases l with⟨XB,_⟩|⟨_,c,hc,ko⟩
  ·have Z8:X.env.scope.names.lookup x'=some .local:=XB;rcases ok with z|z<;>(rw[Z8]at z;cases z)
  ·obtain⟨c',sR⟩:=tw _ (abb e3) rfl;have:c'=c:=aaw ((nK _ _ sR).symm.trans hc);subst this;obtain⟨o,ho,hd⟩:=ko;exact .inr ⟨jd e3,c',sR,⟨o,old _ _ ho,hd⟩⟩
 ·obtain⟨v,o,ho,hd⟩:=I.cell x c (nK x c h);exact⟨v,o,old _ _ ho,hd⟩
 ·show(Ge (N.length-js.length) js σ).length=N.length;unfold Ge;rw[aal,acG,aaa];have:=S.len;omega
theorem nv{pins:List (Addr×Obj)}{σ:St}{H:Hp}{s:Shared}{elt target iter:Expr}{ifs:List Expr}{scope:Scope}{pos:Pos}{N:List Str}{js:List Nat}{cl:List (Str×Addr)}{J:It}{fp:List Addr}{it:Addr}{tn:Nat->Heap->Prop}{g:TG}{tt:TT}{te:TE}{E:Value->Shared->Prop}{RR:Value->Addr->Result->Shared->Prop}{Q:VK}(hc:X.calm=true)(I:Inv X pins σ H s)(T:Turn X.prog X.w X.K target J fp it tn)(st:tn 0 s.heap)(hf:∀b∈fp,lN X pins H b)(hk:scope.kind = .function)(hN:N.Nodup)(S:xh X.env.scope X.N scope N js)(nK:∀x c,cl.lookup x=some c->X.env.cells.lookup x=some c)(tw:∀y∈scope.names,y.2 = .free->∃c,cl.lookup y.1=some c)(hg:∀cl C s H fp,PG (X.block scope cl C N s H fp) target g)(ht:∀cl C s H fp,PF (X.block scope cl C N s H fp) ifs tt)(he:∀cl C s H fp,PE (X.block scope cl C N s H fp) elt te)(h:∀D,H D=none->∃W:Nat->Nat->St->Hp->List V->Prop,(∃m,W 0 m (Ge (N.length-js.length) js σ) (upd H D (.lst [])) [])/\∀i m τ H2 ys,W i m τ H2 ys->H2 D=some (.lst ys) ∧ ((J.stop i H2/\Q (.ref D) H2)\/(J.go i H2/\ys.length<sizeLine/\∃N:St->Hp->List V->Prop,(∀nO H' nP,N nO H' nP->∃m',m'<m/\W (i+1) m' nO H' nP)/\∀x H3,J.sS i H2 x H3->g x τ H3 λfV H4=>tt fV H4 λb H5=> if b=true then te fV H5 λy H6=>H6 D=some (.lst ys)/\N fV (upd H6 D (.lst (ys++[y]))) (ys++[y]) else N fV H5 ys)))(LC:∀D C H' s',(∃m,s'.heap.Ns C m)->lN X pins H' C->Inv X pins σ H' s'->Q (.ref D) H'->RR (.ref D) C (.ok .next) s'):wpAny (model X.prog X.w) X.A (newList []) (λacc pS=>wpAny (model X.prog X.w) X.A (newFunctionEnv scope X.env.globals cl [] X.env.qual none .none (some X.env)) (λQA GA=> codeAny (model X.prog X.w) X.A (.compStart (.ListComp elt [⟨target,iter,ifs,0⟩] scope pos) 0 (.ref it) acc { QA with scope:=relabel scope X.env }) (RR acc QA.locals) GA) E pS) E s:=by
 obtain⟨W,⟨m0,w0⟩,turn⟩:=h s.heap.objs.size I.fresh;refine acJ (wpAny_newFunctionEnv S.jt (by intro y hy;simp at hy) (λfe DU DT=>?_) hk);have I3:Inv X pins σ (upd H s.heap.objs.size (.lst [])) { s with heap:=s.heap.push { cls:=.type "list",dict:=none,data:=.seq ([]:List Value).toArray } }:=I.Ly (its:=[]) (ys:=[]) (t':=s.toks) .nil (aaO _);have XM:∀b∈fp,b<s.heap.objs.size:=λb hb=>by obtain⟨o,e,_⟩:=T.obj 0 s.heap st b hb;exact aam e
 have BD:tn 0 (s.heap.push { cls:=.type "list",dict:=none,data:=.seq ([]:List Value).toArray }):=T.keep 0 _ _ st λb hb o e=>aad _ e;generalize ZR:({ s with heap:=s.heap.push { cls:=.type "list",dict:=none,data:=.seq ([]:List Value).toArray } }:Shared)=s3 at I3 DU DT ⊢;have e3:s3.heap=s.heap.push { cls:=.type "list",dict:=none,data:=.seq ([]:List Value).toArray }:=by rw[<-ZR]
 rw[<-e3]at BD;have z3:s.heap.objs.size<=s3.heap.objs.size:=by rw[e3,Heap.size_push];exact abW _
 have old:∀b o,s3.heap.get? b=some o->fe.get? b=some o:=λb o e=>DT.extBut b o (aaD (aam e)) (aad _ e);have hf3:∀b∈fp,b<s3.heap.objs.size/\b≠X.env.locals/\b ∉ X.fs/\(b∈X.ex\/X.cq.heap.objs.size<=b)/\(∀x c,X.env.cells.lookup x=some c->c≠b):=λb hb=>
  let⟨_,q1,q2,q3,q4,_⟩:=hf b hb
  ⟨aaG (XM b hb) z3,q1,q2,q3,q4⟩
 have nD:∀b∈fp,upd H s.heap.objs.size (.lst []) b=none:=λb hb=>by rw[af (aaD (XM b hb))];exact(hf b hb).1
 have I4:Inv (X.block scope cl s3.heap.objs.size N s3 (upd H s.heap.objs.size (.lst [])) fp) [] (Ge (N.length-js.length) js σ) (upd H s.heap.objs.size (.lst [])) { s3 with heap:=fe,toks:=s3.toks+([]:List (Str×Value)).length }:=
  BC I3 hk hN S nK tw hf3 DU old
 have lI:tn 0 fe:=T.keep 0 _ _ BD λb hb o e=>old b o e;have Py:=hg cl s3.heap.objs.size s3 (upd H s.heap.objs.size (.lst [])) fp;have lJ:=ht cl s3.heap.objs.size s3 (upd H s.heap.objs.size (.lst [])) fp;have UC:=he cl s3.heap.objs.size s3 (upd H s.heap.objs.size (.lst [])) fp;have vL:∀{H':Hp},(∀b∈fp,H' b=none)->∀b∈fp,lN (X.block scope cl s3.heap.objs.size N s3 (upd H s.heap.objs.size (.lst [])) fp) [] H' b:=λhn b hb=>
  ⟨hn b hb,(I4.ok.PR b hb).1,I4.ok.Aa b hb,.inl hb,(I4.ok.PR b hb).2,λp hp=>absurd (show p∈([]:List (Addr×Obj))from hp) (by simp)⟩
 have loop:codeAny (model X.prog X.w) X.A (.compLoop (.ListComp elt [⟨target,iter,ifs,0⟩] scope pos) 0 (.ref it) (.ref s.heap.objs.size) (compEnvC scope cl s3.heap.objs.size X.env)) (RR (.ref s.heap.objs.size) s3.heap.objs.size) { s3 with heap:=fe,toks:=s3.toks+([]:List (Str×Value)).length }:=by
  refine sf (λn s'=>∃i τ H' ys,Inv (X.block scope cl s3.heap.objs.size N s3 (upd H s.heap.objs.size (.lst [])) fp) [] τ H' s'/\tn i s'.heap/\(∀b∈fp,H' b=none)/\W i n τ H' ys) ?_ m0 ⟨0,_,_,[],I4,lI,nD,w0⟩;rintro n s5 ⟨i,τ,H5,ys,I5,vj,SN,w5⟩;obtain⟨hD,hw⟩:=turn i n τ H5 ys w5;rcases hw with⟨stop,qn⟩|⟨go,hz,M,hM,step⟩
  ·refine ba (T.done (X.block scope cl s3.heap.objs.size N s3 (upd H s.heap.objs.size (.lst [])) fp) rfl rfl rfl hc i [] s5 τ H5 (λ_ _=>False) I5 (vL SN) vj stop) λr s6 ⟨hr,I6⟩=>?_;subst hr;refine LC _ _ H5 s6 (let⟨m,hn,_⟩:=I6.loc;⟨m,hn⟩) (I3.pV (aae _) I6.free) ?_ qn;exact I3.yB (ch:=fp) I6.os I6.base I6.au I6.bare λb hb=>⟨(hf b hb).2.2.2.1,(hf b hb).2.1,(hf b hb).2.2.2.2.1,(hf b hb).2.2.2.2.2⟩
  ·refine ba (T.item (X.block scope cl s3.heap.objs.size N s3 (upd H s.heap.objs.size (.lst [])) fp) rfl rfl rfl hc i [] s5 τ H5 (λ_ _=>False) I5 (vL SN) vj go) λr s6 ⟨u,hr,h6⟩=>?_;subst hr;refine ba h6 λ_ s7 ⟨x,H7,I7,r7,y7,Sb,fr7⟩=>?_;have I7':=I7.pinned (vL fr7) (T.obj _ _ Sb);refine ba (Py _ s7 τ H7 x u _ I7' r7 (step x H7 y7)) λ_ s8 ⟨R7,H8,I8,q8⟩=>?_;refine ba (lJ _ s8 R7 H8 _ I8 q8) λb s9 ⟨H9,I9,q9⟩=>?_;have again:∀{nO:St}{H':Hp}{s':Shared}{nP:List V},Inv (X.block scope cl s3.heap.objs.size N s3 (upd H s.heap.objs.size (.lst [])) fp) ([]++l5 fp s7.heap) nO H' s'->M nO H' nP →
     ∃m,m<n/\∃i τ H' ys,Inv (X.block scope cl s3.heap.objs.size N s3 (upd H s.heap.objs.size (.lst [])) fp) [] τ H' s'/\tn i s'.heap/\(∀b∈fp,H' b=none)/\W i m τ H' ys:=λ{nO H' s' nP} I' zI=>by obtain⟨m',hm,w'⟩:=hM _ _ _ zI;refine⟨m',hm,i+1,nO,H',nP,I'.fE,T.keep _ _ _ Sb λb hb o e=>(I'.pin (b,o) (aaQ _ (aaQ _ (eV hb e)))).1,λb hb=>?_,w'⟩;obtain⟨o,e,d⟩:=T.obj _ _ Sb b hb;exact(I'.pin (b,o) (aaQ _ (aaQ _ (eV hb e)))).2.1
   cases b with
   | false=>exact again I9 q9
   | true=>
    refine ba (UC _ s9 R7 H9 _ I9 q9) λy KP ⟨v10,vH,I10,TL,Ww,YU⟩=>?_;refine ba (o9 (X:=X.block scope cl s3.heap.objs.size N s3 (upd H s.heap.objs.size (.lst [])) fp) _ KP R7 vH (.ref s.heap.objs.size) [v10] (.ref s.heap.objs.size) [y] (λ_ H'=>M R7 H' (ys++[v10])) I10 rfl (.cons TL .nil) ⟨_,ys,v10,rfl,rfl,Ww,hz,YU⟩) λ_ Ol ⟨_,Lc,I11,_,YT⟩=>?_;exact again I11 YT
 exact codeAny_compStart_list loop (T.self X.A 0 _ _ _ lI loop)
variable{elt target iter:Expr}{ifs:List Expr}{scope:Scope}{pos Ca:Pos}{wi:TI}{g:TG}{tt:TT}{te:TE}
theorem HR(N:List Str)(js:List Nat)(au:jz X.env.scope X.N scope N js=true)(hN:N.Nodup)(hc:X.calm=true)(hi:PI X target iter wi)(hg:∀cl C s H fp,PG (X.block scope cl C N s H fp) target g)(ht:∀cl C s H fp,PF (X.block scope cl C N s H fp) ifs tt)(he:∀cl C s H fp,PE (X.block scope cl C N s H fp) elt te)(hk:scope.kind = .function:=by rfl)(hs:∀x,foldedSetIterable iter X.env x=pure x:=by intro _;rfl):PE X (.ListComp elt [⟨target,iter,ifs,0⟩] scope pos) (yp (N.length-js.length) js wi g tt te):=by intro pins s σ H Q I h;have S:=pE au;obtain⟨cl,CZ,nK,tw⟩:=iy (env:=X.env) (scope:=scope) λy hy hf=>I.ok.has _ (S.tk y hy hf);rw[eval_ListComp];refine wpAny_comprehension_free (use:=none) rfl hs CZ hk S.names (ba (hi pins s σ H _ I h) λv s1 h1=>ba h1 λSj s2 h2=>?_);refine az λak=>?_;obtain⟨it,fp,tn,J,H2,e,I2,T,nF,f2,hw⟩:=h2;refine ak ?_;clear ak;subst e;refine nv (RR:=λacc C=>compPost (model X.prog X.w) X.A X.xe none (EP X pins σ Q) acc C) (Q:=Q) hc I2 T nF f2 hk hN S nK tw hg ht he hw ?_;rintro D C H' s' ⟨m,hn⟩ ⟨c0,c1,c2,c3,c4,c5⟩ I' q;exact⟨m,hn,λh' Oy=>⟨.ref D,H',I'.turned (t':=s'.toks) (λb o hb e=>(Oy.2 b hb).trans e) c0 c1 c3 c4 c5,rfl,q⟩⟩
theorem xC{i:Nat}{y:Str}{py:Pos}(N:List Str)(js:List Nat)(au:jz X.env.scope X.N scope N js=true)(hN:N.Nodup)(hc:X.calm=true)(UJ:X.N.Nodup)(Uj:X.N[i]? = some y)(hy:Loc X.env.scope y)(hi:PI X target iter wi)(hg:∀cl C s H fp,PG (X.block scope cl C N s H fp) target g)(ht:∀cl C s H fp,PF (X.block scope cl C N s H fp) ifs tt)(he:∀cl C s H fp,PE (X.block scope cl C N s H fp) elt te)(Uq:swapsWith (.ListComp elt [⟨target,iter,ifs,0⟩] scope pos) (some (.Name y py)) Ca.line X.env=pure true:=by rfl)(hk:scope.kind = .function:=by rfl)(hs:∀x,foldedSetIterable iter X.env x=pure x:=by intro _;rfl)(hf:X.fn y=true\/X.env.scope.names.lookup y=some .local:=by first|exact .inl rfl|exact .inr rfl|assumption):PS X (.Assign [.Name y py] (.ListComp elt [⟨target,iter,ifs,0⟩] scope pos) Ca) (BZ (yp (N.length-js.length) js wi g tt te) (aQ i)):=by
 intro pins s σ H D I h;have S:=pE au;obtain⟨cl,CZ,nK,tw⟩:=iy (env:=X.env) (scope:=scope) λy hy hf=>I.ok.has _ (S.tk y hy hf);rw[exec_Assign_Name_used _ _ _ _ Uq];refine aac (acV (aac ?_));show wpAny _ X.A (do let _ <-comprehension (.ListComp elt [⟨target,iter,ifs,0⟩] scope pos) scope X.env _ (newList []) false (eval iter X.env) (some (assign (.Name y py) X.env))) _ _ s;refine aac (abd (wpAny_comprehension_free (use:=some (assign (.Name y py) X.env)) (Q:=λ_ s'=>SP X pins D .next s') rfl hs CZ hk S.names
  (ba (hi pins s σ H _ I h) λv s1 h1=>ba h1 λSj s2 h2=>?_)) (λ_ s' hq=>aaj (aaj hq)) λ_ _ e=>e)
 refine az λak=>?_;obtain⟨it,fp,tn,J,H2,e,I2,T,nF,f2,hw⟩:=h2;refine ak ?_;clear ak;subst e;refine nv (RR:=λacc C=>compPost (model X.prog X.w) X.A X.xe (some (assign (.Name y py) X.env)) (λ_ s'=>SP X pins D .next s') acc C) (Q:=λv H'=>D.nx (σ.set i (some v)) H') hc I2 T nF f2 hk hN S nK tw hg ht he hw ?_;rintro E C H' s' ⟨m,hn⟩ ⟨c0,c1,c2,c3,c4,c5⟩ I' q;show wpAny _ X.A (assign (.Name y py) X.env (.ref E)) _ _ _;obtain⟨oC,es,ep,Z3,XC,ZS⟩:=id hn;have I2':Inv X (pins++[(C,oC)]) σ H' s':=I'.rC λp hp=>(aay.mp hp).elim (λz=>I'.pin p (aaQ _ z)) λz=>by
  have e:p=(C,oC):=by simpa using z
  subst e;exact⟨Z3,c0,c1,c2,λv z=>by rw[XC]at z;cases z⟩
 refine wpAny_assign_Name (iX I2' UJ Uj hy (v:=.ref E) rfl (λF6 X6=>?_) hf);have hC2:=(X6.pin (C,oC) (aaQ _ (aaQ _ (by simp)))).1;have I3:Inv X pins (σ.set i (some (.ref E))) H' F6:=X6.fE;exact⟨m,⟨oC,es,ep,hC2,XC,ZS⟩,λh' Oy=>⟨_,H',I3.turned (t':=F6.toks) (λb o hb e=>(Oy.2 b hb).trans e) c0 c1 c3 c4 c5,q⟩⟩
end
structure tB(J:It)(xs:List V)(ok:Hp->Prop):Prop where
 stop:∀H,ok H->J.stop xs.length H
 go:∀i H,ok H->i<xs.length->J.go i H
 sS:∀i H x H',ok H->i<xs.length->J.sS i H x H'->H'=H/\xs[i]? = some x
theorem aE(K:W.Frag)(a:Addr)(xs:List V):tB (SX K a) xs λH=>aN K H a xs:=
 ⟨λH h=>⟨xs,h,aae _⟩,λi H h hi=>⟨xs,xs[i],h,by simp[hi]⟩,λi H x H' h hi y=>⟨y.1,y.2 xs h⟩⟩
theorem de(lo:Int)(n:Nat):tB (SW lo n) ((List.range n).map λi=>V.int (lo+(i:Nat))) λ_=>True:=
 ⟨λH _=>by show n<=_;simp,λi H _ hi=>(by show i<n;simpa using hi),λi H x H' _ hi y=>⟨y.1,by
  have bI:i<n:=by simpa using hi
  obtain⟨_,rfl⟩:=y;simp[bI]⟩⟩
theorem bE{J:It}{D:Addr}{xs:List V}{ok:Hp->Prop}{g:TG}{tt:TT}{te:TE}{Q:Hp->Prop}{τ:St}{H:Hp}(IO:tB J xs ok)(Pv:Nat->St->Hp->List V->Prop)(hz:xs.length<=sizeLine)(h0:Pv 0 τ H [])(hl:∀i τ H ys,i<=xs.length->Pv i τ H ys->ok H/\H D=some (.lst ys)/\ys.length<=i)(hs:∀i x τ H ys,i<xs.length->xs[i]? = some x->Pv i τ H ys->g x τ H λfV H4=>tt fV H4 λb H5=> if b=true then te fV H5 λy H6=>H6 D=some (.lst ys)/\Pv (i+1) fV (upd H6 D (.lst (ys++[y]))) (ys++[y])else Pv (i+1) fV H5 ys)(hd:∀τ H ys,Pv xs.length τ H ys->Q H):∃W:Nat->Nat->St->Hp->List V->Prop,(∃m,W 0 m τ H [])/\∀i m τ H2 ys,W i m τ H2 ys->H2 D=some (.lst ys) ∧
   ((J.stop i H2/\Q H2)\/(J.go i H2/\ys.length<sizeLine/\∃N:St->Hp->List V->Prop,(∀nO H' nP,N nO H' nP->∃m',m'<m/\W (i+1) m' nO H' nP)/\∀x H3,J.sS i H2 x H3->g x τ H3 λfV H4=>tt fV H4 λb H5=>
    if b=true then te fV H5 λy H6=>H6 D=some (.lst ys)/\N fV (upd H6 D (.lst (ys++[y]))) (ys++[y])
    else N fV H5 ys)):=by
 refine⟨λi m τ H ys=>m=xs.length-i/\i<=xs.length/\Pv i τ H ys,⟨xs.length,by simp,aaO _,h0⟩,?_⟩;rintro i m τ H ys ⟨rfl,hi,p⟩;obtain⟨q,hD,hy⟩:=hl i τ H ys hi p;refine⟨hD,?_⟩;by_cases cT:i<xs.length
 ·refine .inr ⟨IO.go i H q cT,by omega,Pv (i+1),λnO H' nP p'=>⟨xs.length-(i+1),by omega,rfl,cT,p'⟩,λx H' y=>?_⟩;obtain⟨e,hx⟩:=IO.sS i H x H' q cT y;subst e;exact hs i x τ _ ys cT hx p
 ·have e:i=xs.length:=by omega
  subst e;exact .inl ⟨IO.stop H q,hd τ H ys p⟩
theorem bL{J:It}{xs:List V}{ok:Hp->Prop}{g:TG}{tb:TS}{D:Ends}{σ:St}{H:Hp}(IO:tB J xs ok)(Pv:Nat->St->Hp->Prop)(h0:Pv 0 σ H)(hl:∀i σ H,i<=xs.length->Pv i σ H->ok H)(hs:∀i x σ H,i<xs.length->xs[i]? = some x->Pv i σ H->g x σ H λBM H2=>tb { D with nx:=Pv (i+1),ct:=Pv (i+1),bk:=D.nx } BM H2)(hd:∀σ H,Pv xs.length σ H->D.nx σ H):∃W:Nat->Nat->St->Hp->Prop,(∃m,W 0 m σ H)/\∀i m σ H,W i m σ H → (J.stop i H/\D.nx σ H)\/(J.go i H/\∃N:St->Hp->Prop,(∀aX H',N aX H'->∃m',m'<m/\W (i+1) m' aX H')/\∀x H',J.sS i H x H'->g x σ H' λBM H2=>tb { D with nx:=N,ct:=N,bk:=D.nx } BM H2):=by
 refine⟨λi m σ H=>m=xs.length-i/\i<=xs.length/\Pv i σ H,⟨xs.length,by simp,aaO _,h0⟩,?_⟩;rintro i m σ H ⟨rfl,hi,p⟩;have q:=hl i σ H hi p;by_cases cT:i<xs.length
 ·refine .inr ⟨IO.go i H q cT,Pv (i+1),λaX H' p'=>⟨xs.length-(i+1),by omega,rfl,cT,p'⟩,λx H' y=>?_⟩;obtain⟨e,hx⟩:=IO.sS i H x H' q cT y;subst e;exact hs i x σ _ cT hx p
 ·have e:i=xs.length:=by omega
  subst e;exact .inl ⟨IO.stop H q,hd σ H p⟩
section
variable{X:Cx}
def nR(H:Hp):V->Option String
 | .bj=>some "NoneType"
 | .bl _=>some "bool"
 | .int _=>some "int"
 | .str _=>some "str"
 | .ref a=>match H a with
  | some (.lst _)=>some "list"
  | some (.tup _)=>some "tuple"
  | some (.dK _)=>some "dict"
  | _=>none
 | _=>none
theorem vh:aH X (.builtin "isinstance") (λxs H Q=>∃x T Tx,xs=[x,.ty T]/\nR H x=some Tx/\T∈["int","bool","list","tuple","str"]/\Q (.bl (Tx == T || (Tx == "bool" && T == "int"))) H):=by
 intro pins s σ H xs us Q I r h;obtain⟨x,T,Tx,rfl,hT,hm,q⟩:=h;obtain⟨u,w',rfl,r1,r2⟩:=vals2 r;obtain rfl:w' = .type T:=r2;have no:∀{b:Bool},b=(Tx == T || (Tx == "bool" && T == "int"))->∀tk,EP X pins σ Q (.bool b) { s with toks:=tk }:=λ{b} hb tk=>⟨.bl b,H,I.tok _,rfl,by rw[hb];exact q⟩
 have ye:∀{b:Bool},b=(Tx == T || (Tx == "bool" && T == "int"))->EP X pins σ Q (.bool b) s:=λ{b} hb=>⟨.bl b,H,I,rfl,by rw[hb];exact q⟩
 simp only[aau,List.not_mem_nil,or_false]at hm;cases x with
 | int i=>
  obtain⟨t,rfl⟩:=r1;cases hT;rcases hm with rfl|rfl|rfl|rfl|rfl
  ·exact IsiPair.int_int (ye (by decide))
  ·exact IsiPair.int_bool (no (by decide) _)
  ·exact IsiPair.int_list (no (by decide) _)
  ·exact IsiPair.int_tuple (no (by decide) _)
  ·exact IsiPair.int_str (no (by decide) _)
 | str i=>
  obtain⟨t,rfl⟩:=r1;cases hT;rcases hm with rfl|rfl|rfl|rfl|rfl
  ·exact IsiPair.str_int (no (by decide) _)
  ·exact IsiPair.str_bool (no (by decide) _)
  ·exact IsiPair.str_list (no (by decide) _)
  ·exact IsiPair.str_tuple (no (by decide) _)
  ·exact IsiPair.str_str (ye (by decide))
 | bl i=>
  cases r1;cases hT;rcases hm with rfl|rfl|rfl|rfl|rfl
  ·exact IsiPair.bool_int (ye (by decide))
  ·exact IsiPair.bool_bool (ye (by decide))
  ·exact IsiPair.bool_list (no (by decide) _)
  ·exact IsiPair.bool_tuple (no (by decide) _)
  ·exact IsiPair.bool_str (no (by decide) _)
 | ref a=>
  cases r1;cases hH:H a with
  | none=>simp[nR,hH]at hT
  | some o=>
   cases o with
   | lst ys=>
    simp[nR,hH]at hT;subst hT;obtain⟨_,its,n,_,e⟩:=I.au a _ hH;have hx:∃o,s.heap.get? a=some o/\o.cls = .type "list" := ⟨_,e,rfl⟩
    rcases hm with rfl|rfl|rfl|rfl|rfl
    ·exact aa2 (acH (by decide +kernel) F.isi_meta_int F.sub_list_int) ⟨hx,no (by decide) _⟩
    ·exact aa2 (acH (by decide +kernel) F.isi_meta_bool F.sub_list_bool) ⟨hx,no (by decide) _⟩
    ·exact aa2 (isinstance_true (Tx:= "list") F.isi_meta_list F.sub_list_list) ⟨⟨_,e,rfl⟩,ye (by decide)⟩
    ·exact aa2 (acH (by decide +kernel) F.isi_meta_tuple F.sub_list_tuple) ⟨hx,no (by decide) _⟩
    ·exact aa2 (acH (by decide +kernel) F.isi_meta_str F.sub_list_str) ⟨hx,no (by decide) _⟩
   | tup ys=>
    simp[nR,hH]at hT;subst hT;obtain⟨_,its,_,o,e,hc,_⟩:=I.au a _ hH;have hx:∃o,s.heap.get? a=some o/\o.cls = .type "tuple" := ⟨_,e,hc⟩
    rcases hm with rfl|rfl|rfl|rfl|rfl
    ·exact aa2 (acr (by decide +kernel) F.isi_meta_int F.sub_tuple_int) ⟨hx,no (by decide) _⟩
    ·exact aa2 (acr (by decide +kernel) F.isi_meta_bool F.sub_tuple_bool) ⟨hx,no (by decide) _⟩
    ·exact aa2 (acr (by decide +kernel) F.isi_meta_list F.sub_tuple_list) ⟨hx,no (by decide) _⟩
    ·exact aa2 (isinstance_true (Tx:= "tuple") F.isi_meta_tuple F.sub_tuple_tuple) ⟨⟨_,e,hc⟩,ye (by decide)⟩
    ·exact aa2 (acr (by decide +kernel) F.isi_meta_str F.sub_tuple_str) ⟨hx,no (by decide) _⟩
   | dK ys=>
    simp[nR,hH]at hT;subst hT;obtain⟨_,_,vs,_,dd⟩:=I.au a _ hH;obtain⟨o,es,ep,e,hc,_⟩:=dd;have hx:∃o,s.heap.get? a=some o/\o.cls = .type "dict" := ⟨o,e,hc.1⟩
    rcases hm with rfl|rfl|rfl|rfl|rfl
    ·exact aa2 (abR (by decide +kernel) F.isi_meta_int F.sub_dict_int) ⟨hx,no (by decide) _⟩
    ·exact aa2 (abR (by decide +kernel) F.isi_meta_bool F.sub_dict_bool) ⟨hx,no (by decide) _⟩
    ·exact aa2 (abR (by decide +kernel) F.isi_meta_list F.sub_dict_list) ⟨hx,no (by decide) _⟩
    ·exact aa2 (abR (by decide +kernel) F.isi_meta_tuple F.sub_dict_tuple) ⟨hx,no (by decide) _⟩
    ·exact aa2 (abR (by decide +kernel) F.isi_meta_str F.sub_dict_str) ⟨hx,no (by decide) _⟩
   | _=>simp[nR,hH]at hT
 | bj=>
  cases r1;cases hT;rcases hm with rfl|rfl|rfl|rfl|rfl
  ·exact IsiPair.NoneType_int (no (by decide) _)
  ·exact IsiPair.NoneType_bool (no (by decide) _)
  ·exact IsiPair.NoneType_list (no (by decide) _)
  ·exact IsiPair.NoneType_tuple (no (by decide) _)
  ·exact IsiPair.NoneType_str (no (by decide) _)
 | _=>cases hT
theorem mW:∀{bs:List Bool}{us:List Value},Vals (bs.map V.bl) us->us=bs.map Value.bool
 | [],us,r=>by cases r;rfl
 | b::bs,us,r=>by
  cases r with
  | cons r1 r2=>
   cases r1;rw[mW r2];rfl
theorem all_range(bs:List Bool):(List.range bs.length).all (λi=>bs.getD i true)=bs.all id:=by
 rw[abB,aaZ,aaZ];constructor
 ·intro h b hb;obtain⟨i,hi,rfl⟩:=List.mem_iff_getElem.mp hb;have:=h i (abx.mpr hi);rw[aag,aab hi]at this;exact this
 ·intro h i hi;have hi:=abx.mp hi;rw[aag,aab hi];exact h _ (aat hi)
theorem FU(hc:X.calm=true):aH X (.builtin "all") (λxs H Q=>∃(p:Addr)(bs:List Bool),xs=[.ref p]/\H p=some (.lst (bs.map V.bl))/\Q (.bl (bs.all id)) H):=by
 intro pins s σ H xs us Q I r h;obtain⟨p,bs,rfl,hH,q⟩:=h;obtain⟨u,rfl,r1⟩:=vals1 r;cases r1;obtain⟨z,its,n,rv,e⟩:=I.au p _ hH;have ei:=mW rv;subst ei;have hl:s.heap.IsList p (bs.map Value.bool).toArray:=⟨_,e,rfl,_,rfl⟩
 have hp:p<s.heap.objs.size:=aam e;refine call_all_walk (acK hl ?_);refine⟨s.heap.objs.size,_,[s.heap.objs.size],_,_,_,(λi=>bs.getD i true),rfl,Walks.list (A:=X.A.in1) (I.ok.hd hc) s.heap.objs.size p (aaD hp) (bs.map Value.bool).toArray,⟨⟨_,aap _ rfl,rfl,rfl⟩,hl.push _⟩,?_,λh' tk hk=>?_⟩
 ·intro i v s' Q' E' hP hQ;have hP:(bs.map Value.bool).toArray[i]? = some v:=hP;have hb:∃b,bs[i]? = some b/\v = .bool b:=by
   rw[List.getElem?_toArray,aak]at hP;cases e:bs[i]? with
   | none=>rw[e]at hP;cases hP
   | some b=>rw[e]at hP;exact⟨b,rfl,(aaw hP).symm⟩
  obtain⟨b,hb,rfl⟩:=hb;have e:bs.getD i true=b:=by rw[aag,hb];rfl
  dsimp only at hQ;rw[e]at hQ;exact abF hQ
 ·have hn:(bs.map Value.bool).toArray.size=bs.length:=by simp
  rw[hn,all_range];exact⟨.bl (bs.all id),H,I.kept λb o e=>hk b o (λhm=>by
   have:b=s.heap.objs.size:=by simpa using hm
   exact absurd (this▸aam e) (abm _)) (aad _ e),rfl,q⟩
theorem jH:∀{ws:List Str}{us:List Value},Vals (ws.map V.str) us->StrsAre us ws
 | [],us,r=>by cases r;exact .nil
 | w::ws,us,r=>by
  cases r with
  | cons r1 r2=>
   obtain⟨t,rfl⟩:=r1;exact .cons w t (jH r2)
theorem Iy:nM X "str.join" (λx vs H Q=>∃(sep:Str)(p:Addr)(ws:List Str),x = .str sep/\vs=[.ref p]/\H p=some (.lst (ws.map V.str))/\(ws.map (·.length)).sum+ws.length*sep.length<=16777216/\Q (.str (Txt.join sep ws)) H):=by intro pins s σ H x vs v us Q I rx rv h;refine az λak=>?_;obtain⟨sep,p,ws,rfl,rfl,hH,hz,q⟩:=h;obtain⟨t,rfl⟩:=rx;obtain⟨u,rfl,ru⟩:=rv.one;refine ak ?_;clear ak;cases ru;obtain⟨z,its,n,r,e⟩:=I.au p _ hH;exact join_list (items:=its.toArray) ⟨_,e,rfl,_,rfl⟩ (jH r) hz λt' k=>⟨.str _,H,I.tok _,⟨_,rfl⟩,q⟩
theorem E7:nM X "str.strip" (λx vs H Q=>∃z y,x = .str z/\vs=[.str y]/\z.length<=sizeLine/\Q (.str (Txt.stripChars z y)) H):=by intro pins s σ H x vs v us Q I rx rv h;obtain⟨z,y,rfl,rfl,hz,q⟩:=h;obtain⟨t,rfl⟩:=rx;obtain⟨u,rfl,t',rfl⟩:=rv.one;exact SC.stripChars (λt' k=>⟨.str _,H,I.tok _,⟨_,rfl⟩,q⟩) hz
theorem A4:nM X "int.bit_length" (λx vs H Q=>∃i,x = .int i/\vs=[]/\Q (.int (Builtin.Int.intBits i)) H):=by intro pins s σ H x vs v us Q I rx rv h;obtain⟨i,rfl,rfl,q⟩:=h;obtain⟨t,rfl⟩:=rx;obtain rfl:=rv.zero;exact call_int_bit_length ⟨.int _,H,I.tok _,⟨_,rfl⟩,q⟩
theorem L5:J3 X (λx lo hi H Q=>∃z,x = .str z/\z.length<=sizeLine/\Q (.str (Txt.slice z lo hi)) H):=by
 intro pins s σ H x v vl vu lo hi sl Q I rx hs pl pu h;obtain⟨z,rfl,hz,q⟩:=h;obtain⟨t,rfl⟩:=rx;have fin:∀t' k,EP X pins σ Q (.str (Txt.slice z lo hi) t') { s with toks:=k }:=λt' k=>⟨.str _,H,I.tok _,⟨_,rfl⟩,q⟩
 refine⟨"str",_,F.slot_str_getitem.lookup,typeIs_str _ _ _,?_⟩;cases pl with
 | none=>
  cases pu with
  | none=>exact aca (l:=none) (u:=none) (st:=none) hs rfl (adp ⟨aaM (Txt.slice_le z _ _) hz,fin⟩)
  | int j uj=>exact aca (l:=none) (u:=some (j,uj)) (st:=none) hs rfl (adp ⟨aaM (Txt.slice_le z _ _) hz,fin⟩)
 | int i ui=>
  cases pu with
  | none=>exact aca (l:=some (i,ui)) (u:=none) (st:=none) hs rfl (adp ⟨aaM (Txt.slice_le z _ _) hz,fin⟩)
  | int j uj=>exact aca (l:=some (i,ui)) (u:=some (j,uj)) (st:=none) hs rfl (adp ⟨aaM (Txt.slice_le z _ _) hz,fin⟩)
theorem sJ:aH X (.type "int") (λxs H Q=>∃b:Bool,xs=[.str (if b then("1" : Str)else "0")]/\Q (.int (if b then 1 else 0)) H):=by
 intro pins s σ H xs us Q I r h;obtain⟨b,rfl,q⟩:=h;obtain⟨u,rfl,t,rfl⟩:=vals1 r;cases b with
 | true=>exact abf (x:=("1" : Str)) (n:=1) (by decide +kernel) (by decide +kernel) ⟨.int 1,H,I.tok _,⟨_,rfl⟩,q⟩
 | false=>exact abf (x:=("0" : Str)) (n:=0) (by decide +kernel) (by decide +kernel) ⟨.int 0,H,I.tok _,⟨_,rfl⟩,q⟩
end
mutual
inductive DV(H:Hp):V->PyData->Prop
 | bj:DV H .bj .none
 | bl (b:Bool):DV H (.bl b) (.bool b)
 | int (i:Int):DV H (.int i) (.int i)
 | str (x:Str):DV H (.str x) (.str x)
 | lst {a:Addr} {xs:List V} {ds:List PyData}:H a=some (.lst xs)->bO H xs ds->DV H (.ref a) (.list ds)
 | tup {a:Addr} {xs:List V} {ds:List PyData}:H a=some (.tup xs)->bO H xs ds->DV H (.ref a) (.tuple ds)
 | BU {a:Addr}:H a=some (.dK [])->DV H (.ref a) (.dict [])
inductive bO(H:Hp):List V->List PyData->Prop
 | nil:bO H [] []
 | cons {x:V} {d:PyData} {xs:List V} {ds:List PyData}:DV H x d->bO H xs ds->bO H (x::xs) (d::ds)
end
mutual
theorem DV.mono{H H':Hp}(k:ah H H'):∀{v:V}{d:PyData},DV H v d->DV H' v d
 | _,_,.bj=>.bj
 | _,_,.bl b=>.bl b
 | _,_,.int i=>.int i
 | _,_,.str x=>.str x
 | _,_,.lst h r=>.lst (k _ _ h) (bO.mono k r)
 | _,_,.tup h r=>.tup (k _ _ h) (bO.mono k r)
 | _,_,.BU h=>.BU (k _ _ h)
theorem bO.mono{H H':Hp}(k:ah H H'):∀{vs:List V}{ds:List PyData},bO H vs ds->bO H' vs ds
 | _,_,.nil=>.nil
 | _,_,.cons h r=>.cons (DV.mono k h) (bO.mono k r)
end
section
variable{X:Cx}{pins:List (Addr×Obj)}{σ:St}{H:Hp}{s:Shared}
mutual
theorem DV.reads(I:Inv X pins σ H s):∀{v:V}{d:PyData}{u:Value},DV H v d->d.canLay0=true->RelV v u->∃as,Reads s.heap u d as
 | _,_,_,.bj,_,r=>by cases r;exact⟨_,.none⟩
 | _,_,_,.bl b,_,r=>by cases r;exact⟨_,.bool b⟩
 | _,_,_,.int i,_,r=>by obtain⟨t,rfl⟩:=r;exact⟨_,.int i t⟩
 | _,_,_,.str x,_,r=>by obtain⟨t,rfl⟩:=r;exact⟨_,.str x t⟩
 | _,_,_,.lst h rr,c,r=>by cases r;obtain⟨_,its,n,rv,e⟩:=I.au _ _ h;obtain⟨as,q⟩:=bO.reads I rr (by simpa[PyData.canLay0]using c) rv;exact⟨_,.list e rfl rfl (by simpa using q)⟩
 | _,_,_,.tup h rr,c,r=>by cases r;refine az λak=>?_;obtain⟨_,its,rv,o,e,hc,n,hd⟩:=I.au _ _ h;obtain⟨as,q⟩:=bO.reads I rr (by simpa[PyData.canLay0]using c) rv;refine ak ?_;clear ak;exact⟨_,.tuple e hc hd (by simpa using q)⟩
 | _,_,_,.BU h,c,r=>by simp[PyData.canLay0]at c
theorem bO.reads(I:Inv X pins σ H s):∀{vs:List V}{ds:List PyData}{us:List Value},bO H vs ds->PyData.canLayAll0 ds=true->Vals vs us->∃as,ReadsAll s.heap us ds as
 | _,_,_,.nil,_,r=>by cases r;exact⟨_,.nil⟩
 | _,_,_,.cons h rr,c,r=>by
  have c':=by simpa[PyData.canLayAll0]using c
  cases r with
  | cons r1 r2=>
   obtain⟨as,q⟩:=DV.reads I h c'.1 r1;obtain⟨bs,p⟩:=bO.reads I rr c'.2 r2;exact⟨_,.cons q p⟩
end
end
section
variable{X:Cx}
theorem MP(hu:X.A.units+64<cLine):ck X (compareOp .Eq) (λx y H Q=>∃d e,DV H x d/\DV H y e/\SeqAt.shaped d=true/\SeqAt.shaped e=true/\Q (.bl (PyData.eqv d e)) H):=by intro pins s σ H x y v u Q I rx ry h;obtain⟨d,e,hd,he,sd,se,q⟩:=h;obtain⟨as,ra⟩:=hd.reads I (acs sd) rx;obtain⟨bs,rb⟩:=he.reads I (acs se) ry;exact eq_dataH ra rb sd se hu ⟨.bl _,H,I,rfl,q⟩
theorem MI(hu:X.A.units+64<cLine):ck X (compareOp .NotEq) (λx y H Q=>∃d e,DV H x d/\DV H y e/\SeqAt.shaped d=true/\SeqAt.shaped e=true/\Q (.bl (!PyData.eqv d e)) H):=by intro pins s σ H x y v u Q I rx ry h;obtain⟨d,e,hd,he,sd,se,q⟩:=h;obtain⟨as,ra⟩:=hd.reads I (acs sd) rx;obtain⟨bs,rb⟩:=he.reads I (acs se) ry;exact ne_dataH ra rb sd se hu ⟨.bl _,H,I,rfl,q⟩
end
theorem rM(ds:List PyData):PyData.eqv (.list ds) (.list [])=ds.isEmpty:=by cases ds<;>simp[PyData.eqv,PyData.eqvAll]
def sg(b:Bool):Nat:=if b then 49 else 48
def bs(w:List Bool):Str:=⟨(w.map sg).toArray⟩
theorem bg(w:List Bool):(bs w).length=w.length:=by show((w.map sg).toArray).size=_;simp
theorem L6{a b:Bool}(h:sg a=sg b):a=b:=by cases a<;>cases b<;>first|rfl|cases h
theorem Eg{v w:List Bool}(h:bs v=bs w):v=w:=by
 have h1:(v.map sg).toArray=(w.map sg).toArray:=aaX Str.cps h;have h2:v.map sg=w.map sg:=by simpa using aaX Array.toList h1
 clear h h1
 induction v generalizing w with
 | nil=>cases w<;>simp_all
 | cons a v ih=>
  cases w with
  | nil=>simp at h2
  | cons b w=>
   simp only[aaR,List.cons.injEq]at h2;rw[L6 h2.1,ih h2.2]
theorem qu(v w:List Bool):bs v++bs w=bs (v++w):=by
 show(⟨(v.map sg).toArray++(w.map sg).toArray⟩ : Str)=⟨((v++w).map sg).toArray⟩
 simp
theorem qr:("" : Str)=bs []:=by decide +kernel
theorem Oc{w:List Bool}{i:Nat}{b:Bool}(h:w[i]? = some b):(bs w).cps[i]? = some (sg b):=by show((w.map sg).toArray)[i]? = _;simp[h]
theorem RX(b:Bool):bs [b]=(if b then("1" : Str)else "0"):=by cases b<;>decide +kernel
section
variable{X:Cx}{a b c e o:Expr}{es:List Expr}{pos:Pos}
theorem PE.of{t t':TE}(h:PE X e t)(k:∀σ H Q,t' σ H Q->t σ H Q):PE X e t':=λpins s σ H Q I q=>h pins s σ H Q I (k _ _ _ q)
theorem ck.of{f:Value->Value->Sem Value}{r r':R2}(h:ck X f r)(k:∀x y H Q,r' x y H Q->r x y H Q):ck X f r':=λpins s σ H x y v u Q I rx ry q=>h pins s σ H x y v u Q I rx ry (k _ _ _ _ q)
def tV(i:Nat):TE:=λσ H Q=>match σ[i]? with
 | some (some v)=>Q v H
 | _=>False
theorem vr(i:Nat){x:Str}(hN:X.N[i]? = some x:=by rfl)(hv:PX X.env.scope x:=by first|exact Or.inl rfl|exact Or.inr (Or.inl rfl)|exact Or.inr (Or.inr rfl))(hd:(x == ("__debug__" : Str))=false:=by decide)(gW:(x == ("__classdict__" : Str))=false:=by decide):PE X (.Name x pos) (tV i):=(Mo hN hv hd gW).of λσ H Q q=>by
 unfold tV at q;split at q
 ·exact⟨_,by assumption,q⟩
 ·exact q.elim
def rN(C:Int->Int->Prop)(g:Int->Int->V):R2:=λx y H Q=>match x,y with
 | .int i,.int j=>C i j/\Q (g i j) H
 | _,_=>False
def KQ(g:Int->Int->V):R2:=λx y H Q=>match x,y with
 | .int i,.int j=>Q (g i j) H
 | _,_=>False
theorem ck.n{f:Value->Value->Sem Value}{C:Int->Int->Prop}{g:Int->Int->V}(h:ck X f (rI C g)):ck X f (rN C g):=h.of λx y H Q q=>by
 unfold rN at q;split at q
 ·exact⟨_,_,rfl,rfl,q⟩
 ·exact q.elim
theorem ck.n0{f:Value->Value->Sem Value}{g:Int->Int->V}(h:ck X f (F7 g)):ck X f (KQ g):=h.of λx y H Q q=>by
 unfold KQ at q;split at q
 ·exact⟨_,_,rfl,rfl,q⟩
 ·exact q.elim
def CP:R2:=λx y H Q=>match x,y with
 | .int i,.int j=>Q (.int (i+j)) H
 | .str i,.str j=>i.length+j.length<=sizeLine/\Q (.str (i++j)) H
 | .ref p,.ref q=>∃xs zs,H p=some (.lst xs)/\H q=some (.lst zs)/\xs.length+zs.length<=sizeLine/\∀n,H n=none->Q (.ref n) (upd H n (.lst (xs++zs)))
 | _,_=>False
theorem Ia:ck X (binaryOp .Add) CP:=(MS.or (xE.or MQ)).of λx y H Q q=>by
 unfold CP at q;split at q
 ·exact .inl ⟨_,_,rfl,rfl,q⟩
 ·exact .inr (.inl ⟨_,_,rfl,rfl,q⟩)
 ·obtain⟨xs,zs,h1,h2,h3,h4⟩:=q;exact .inr (.inr ⟨_,_,xs,zs,rfl,rfl,h1,h2,h3,h4⟩)
 ·exact q.elim
def Kj:R2:=λx y H Q=>match x,y with
 | .int i,.int j=>He i j/\Q (.int (i*j)) H
 | .ref p,.int k=>∃xs,H p=some (.lst xs)/\-(2 ^ 63)<=k/\k<2 ^ 63/\xs.length*k.toNat<=sizeLine/\∀n,H n=none->Q (.ref n) (upd H n (.lst (List.replicate k.toNat xs).flatten))
 | _,_=>False
theorem HY:ck X (binaryOp .Mult) Kj:=(MJ.or MG).of λx y H Q q=>by
 unfold Kj at q;split at q
 ·exact .inl ⟨_,_,rfl,rfl,q⟩
 ·obtain⟨xs,h1,h2,h3,h4,h5⟩:=q;exact .inr ⟨_,_,xs,rfl,rfl,h1,h2,h3,h4,h5⟩
 ·exact q.elim
def tj:R2:=λx y H Q=>match x,y with
 | .int i,.int j=>Q (.bl (decide (i=j))) H
 | .str i,.str j=>Q (.bl (decide (i=j))) H
 | .bl i,.bl j=>Q (.bl (decide (i=j))) H
 | .ref p,.ref q=>∃d e,DV H (.ref p) d/\DV H (.ref q) e/\SeqAt.shaped d=true/\SeqAt.shaped e=true/\Q (.bl (PyData.eqv d e)) H
 | _,_=>False
theorem tS(i j:Int):decide (V.int i=V.int j)=decide (i=j):=by simp
theorem tR(i j:Str):decide (V.str i=V.str j)=decide (i=j):=by simp
theorem yG(i j:Bool):decide (V.bl i=V.bl j)=decide (i=j):=by simp
theorem l6(hu:X.A.units+64<cLine):ck X (compareOp .Eq) tj:=(Rf.or (MP hu)).of λx y H Q q=>by
 unfold tj at q;split at q
 ·exact .inl ⟨rfl,by rw[tS];exact q⟩
 ·exact .inl ⟨rfl,by rw[tR];exact q⟩
 ·exact .inl ⟨rfl,by rw[yG];exact q⟩
 ·exact .inr q
 ·exact q.elim
def Ln:R2:=λx y H Q=>tj x y H λv H'=>match v with
 | .bl k=>Q (.bl (!k)) H'
 | _=>False
theorem DJ(hu:X.A.units+64<cLine):ck X (compareOp .NotEq) Ln:=(Q9.or (MI hu)).of λx y H Q q=>by
 unfold Ln tj at q;split at q
 ·exact .inl ⟨rfl,by rw[tS];exact q⟩
 ·exact .inl ⟨rfl,by rw[tR];exact q⟩
 ·exact .inl ⟨rfl,by rw[yG];exact q⟩
 ·exact .inr q
 ·exact q.elim
def gZ(H:Hp)(x:V)(i:Int):Option V:=match x with
 | .ref p=>match H p with
  | some (.lst xs)=>pP xs i
  | some (.tup xs)=>pP xs i
  | some (.eA _ (.lst xs))=>pP xs i
  | _=>none
 | .str z=>if z.length<=sizeLine then(pP z.cps.toList i).map λc=>V.str ⟨#[c]⟩else none
 | _=>none
theorem uH{H:Hp}{p:Addr}{xs:List V}{i:Int}(h:H p=some (.lst xs)):gZ H (.ref p) i=pP xs i:=by simp[gZ,h]
theorem Fy{H:Hp}{p:Addr}{xs:List V}{i:Int}(h:H p=some (.tup xs)):gZ H (.ref p) i=pP xs i:=by simp[gZ,h]
def GF:R2:=λx y H Q=>match y with
 | .int i=>∃v,gZ H x i=some v/\Q v H
 | _=>False
theorem Xn:BW X GF:=by
 intro value slice pins s σ H x y v u Q I rx ry q hs;refine Nv value slice pins s σ H x y v u Q I rx ry ?_ hs;unfold GF at q;split at q
 ·obtain⟨z,hz,q⟩:=q;unfold gZ at hz;split at hz
  ·split at hz
   ·rename_i xs hx;exact .inl ⟨_,xs,_,z,rfl,rfl,aN.of hx,hz,q⟩
   ·rename_i xs hx;exact .inr (.inl ⟨_,xs,_,z,rfl,rfl,pQ.of hx,hz,q⟩)
   ·rename_i oo xs hx;exact .inl ⟨_,xs,_,z,rfl,rfl,.inl (.inr ⟨_,hx⟩),hz,q⟩
   ·cases hz
  ·split at hz
   ·rename_i hl;obtain⟨c,hc,rfl⟩:=aaN.mp hz;exact .inr (.inr ⟨_,_,c,rfl,rfl,hl,hc,q⟩)
   ·cases hz
  ·cases hz
 ·exact q.elim
def Qe:V->Option Int->Option Int->Hp->VK->Prop:=λx lo hi H Q=>match x with
 | .ref p=>∃xs,H p=some (.lst xs)/\∀n,H n=none->Q (.ref n) (upd H n (.lst (dm xs lo hi)))
 | .str z=>z.length<=sizeLine/\Q (.str (Txt.slice z lo hi)) H
 | _=>False
theorem YC:J3 X Qe:=by
 intro pins s σ H x v vl vu lo hi sl Q I rx hs pl pu q;refine(Hn.or L5) pins s σ H x v vl vu lo hi sl Q I rx hs pl pu ?_;unfold Qe at q;split at q
 ·obtain⟨xs,h,q⟩:=q;exact .inl ⟨_,xs,rfl,aN.of h,q⟩
 ·exact .inr ⟨_,rfl,q⟩
 ·exact q.elim
def LZ(t:TE):TO:=λσ H Q=>t σ H λx H1=>match x with
 | .int i=>Q (some i) H1
 | _=>False
theorem EB{te:TE}(h:PE X e te):PO X (some e) (LZ te):=by
 intro pins s σ H Q I hw;rw[evalPart_some];refine ba (h pins s σ H _ I hw) λu s1 ⟨x,H1,I1,r1,q1⟩=>?_;dsimp only at q1;split at q1
 ·obtain⟨t,rfl⟩:=r1;exact⟨some _,H1,I1,.int _ t,q1⟩
 ·exact q1.elim
def JO(t:TE):TT:=λσ H Q=>t σ H λx H1=>match x with
 | .bl c=>Q c H1
 | _=>False
theorem RW{Q:Bool->Hp->Prop}{x:V}{H1:Hp}(q:match x with | .bl c=>Q c H1|_=>False):∃c,x = .bl c/\Q c H1:=by
 split at q
 ·exact⟨_,rfl,q⟩
 ·exact q.elim
theorem HC{op:CmpOp}{r:R2}{ta tb:TE}(ho:ck X (compareOp op) r)(ha:PE X a ta)(hb:PE X b tb)(hm:behindInMarks op b=false:=by first|exact DM _|rfl|(with_unfolding_all rfl)):PT X (.Compare a [op] [b] pos) (JO (sT r ta tb)):=by
 intro pins s σ H Q I h;refine wpAny_isTrue_Compare1 (ba (ha pins s σ H _ I h) λv s1 ⟨x,H1,I1,r1,q1⟩=>ba (hb pins s1 σ H1 _ I1 q1) λu s2 ⟨y,H2,I2,r2,q2⟩=>
  ba (ho pins s2 σ H2 x y v u _ I2 r1 r2 q2) λc s3 ⟨z,H3,I3,r3,q3⟩=>?_) hm
 obtain⟨k,e,q3⟩:=RW q3;subst e;cases r3;exact abF ⟨H3,I3,q3⟩
theorem HS{op:CmpOp}{r:R2}{ta tb:TE}(ho:ck X (compareOp op) r)(ha:PE X a ta)(hb:PE X b tb)(hm:behindInMarks op b=false:=by first|exact DM _|rfl|(with_unfolding_all rfl)):PE X (.Compare a [op] [b] pos) (sT r ta tb):=HU ho ha hb hm
def tG(ta tb:TE):TE:=λσ H Q=>ta σ H λx H1=>match x with
 | .bl c=>if c=true then tb σ H1 Q else Q (.bl false) H1
 | _=>False
def VH(ta tb:TE):TE:=λσ H Q=>ta σ H λx H1=>match x with
 | .bl c=>if c=true then Q (.bl true) H1 else tb σ H1 Q
 | _=>False
def QS(ta:TE):TE:=λσ H Q=>ta σ H λx H1=>match x with
 | .bl c=>Q (.bl (!c)) H1
 | _=>False
def yI(r r':R2)(ta tb tc:TE):TE:=λσ H Q=>ta σ H λx H1=>tb σ H1 λy H2=>r x y H2 λz H3=>match z with
 | .bl k=>if k=true then tc σ H3 λw' H4=>r' y w' H4 Q else Q (.bl false) H3
 | _=>False
variable{ta tb tc:TE}{rest:List Expr}
theorem HV(ha:PE X a ta)(hb:PE X (.BoolOp .And (b::rest) pos) tb):PE X (.BoolOp .And (a::b::rest) pos) (tG ta tb):=by
 intro pins s σ H Q I h;refine BoolOp_and (ba (ha pins s σ H _ I h) λv s1 ⟨x,H1,I1,r1,q1⟩=>?_);dsimp only at q1;split at q1
 ·rename_i c;cases r1;refine abF ?_;cases c with
  | true=>exact hb pins s1 σ H1 Q I1 q1
  | false=>exact⟨.bl false,H1,I1,rfl,q1⟩
 ·exact q1.elim
theorem Mr(ha:PE X a ta)(hb:PE X (.BoolOp .Or (b::rest) pos) tb):PE X (.BoolOp .Or (a::b::rest) pos) (VH ta tb):=by
 intro pins s σ H Q I h;refine BoolOp_or (ba (ha pins s σ H _ I h) λv s1 ⟨x,H1,I1,r1,q1⟩=>?_);dsimp only at q1;split at q1
 ·rename_i c;cases r1;refine abF ?_;cases c with
  | false=>exact hb pins s1 σ H1 Q I1 q1
  | true=>exact⟨.bl true,H1,I1,rfl,q1⟩
 ·exact q1.elim
theorem HN(ha:PE X a ta):PE X (.UnaryOp .Not a pos) (QS ta):=by
 intro pins s σ H Q I h;refine UnaryOp_ (ba (ha pins s σ H _ I h) λv s1 ⟨x,H1,I1,r1,q1⟩=>?_);dsimp only at q1;split at q1
 ·cases r1;exact not_of (abF ⟨.bl _,H1,I1,rfl,q1⟩)
 ·exact q1.elim
theorem AI{op KR:CmpOp}{r r':R2}(ho:ck X (compareOp op) r)(nJ:ck X (compareOp KR) r')(ha:PE X a ta)(hb:PE X b tb)(hc:PE X c tc)(hm:lastMarks [op,KR] [b,c]=false:=by with_unfolding_all rfl):PE X (.Compare a [op,KR] [b,c] pos) (yI r r' ta tb tc):=by
 intro pins s σ H Q I h;refine Compare_chain (ba (ha pins s σ H _ I h) λv s1 ⟨x,H1,I1,r1,q1⟩=>chain_link (ba (hb pins s1 σ H1 _ I1 q1) λu s2 ⟨y,H2,I2,r2,q2⟩=>
  ba (ho pins s2 σ H2 x y v u _ I2 r1 r2 q2) λd s3 ⟨z,H3,I3,r3,q3⟩=>?_)) hm
 dsimp only at q3;split at q3
 ·rename_i k;cases r3;refine abF ?_;cases k with
  | false=>exact ite_ff ⟨.bl false,H3,I3,rfl,q3⟩
  | true=>exact ite_tt (chain_last (ba (hc pins s3 σ H3 _ I3 q3) λw' s4 ⟨z',H4,I4,r4,q4⟩=>nJ pins s4 σ H4 y z' u w' Q I4 r2 r4 q4))
 ·exact q3.elim
theorem aH.of{f:Value}{r r':List V->Hp->VK->Prop}(h:aH X f r)(k:∀xs H Q,r' xs H Q->r xs H Q):aH X f r':=λpins s σ H xs us Q I rx q=>h pins s σ H xs us Q I rx (k _ _ _ q)
theorem nM.of{id:String}{r r':V->List V->Hp->VK->Prop}(h:nM X id r)(k:∀x xs H Q,r' x xs H Q->r x xs H Q):nM X id r':=λpins s σ H x xs v us Q I rx rs q=>h pins s σ H x xs v us Q I rx rs (k _ _ _ _ q)
def nZ(H:Hp)(x:V):Option Nat:=match x with
 | .str z=>if z.length<=sizeLine then some z.length else none
 | .ref p=>match H p with
  | some (.lst xs)=>some xs.length
  | some (.tup xs)=>some xs.length
  | some (.eA _ (.lst xs))=>some xs.length
  | _=>none
 | _=>none
def zQ:List V->Hp->VK->Prop:=λvs H Q=>match vs with
 | [x]=>∃k:Nat,nZ H x=some k/\Q (.int k) H
 | _=>False
theorem j8:aH X (.builtin "len") zQ:=(jf.or sI).of λxs H Q q=>by
 unfold zQ at q;split at q
 ·obtain⟨k,hk,q⟩:=q;unfold nZ at hk;split at hk
  ·split at hk
   ·rename_i hl;cases hk;exact .inr ⟨_,rfl,hl,q⟩
   ·cases hk
  ·split at hk
   ·cases hk;exact .inl ⟨_,_,rfl,.inl (aN.of (by assumption)),q⟩
   ·cases hk;exact .inl ⟨_,_,rfl,.inr (pQ.of (by assumption)),q⟩
   ·cases hk;exact .inl ⟨_,_,rfl,.inl (.inl (.inr ⟨_,by assumption⟩)),q⟩
   ·cases hk
  ·cases hk
 ·exact q.elim
def rB:List V->Hp->VK->Prop:=λvs H Q=>match vs with
 | [.ref p]=>∃xs,(H p=some (.lst xs)\/H p=some (.tup xs))/\∀l,H l=none->Q (.ref l) (upd H l (.lst xs))
 | _=>False
theorem xZ:aH X (.type "list") rB:=sF.of λxs H Q q=>by
 unfold rB at q;split at q
 ·obtain⟨ys,h,q⟩:=q;exact⟨_,ys,rfl,h.elim (λz=>.inl (aN.of z)) (λz=>.inr (pQ.of z)),q⟩
 ·exact q.elim
def GD:List V->Hp->VK->Prop:=λvs H Q=>match vs with
 | [.int i,.int j]=>Q (.int (if j>i then j else i)) H
 | _=>False
theorem Bp(hc:X.calm=true):aH X (.builtin "max") GD:=(Bq hc).of λxs H Q q=>by
 unfold GD at q;split at q
 ·exact⟨_,_,rfl,q⟩
 ·exact q.elim
def GC:List V->Hp->VK->Prop:=λvs H Q=>match vs with
 | [.int i,.int j]=>Q (.int (if j<i then j else i)) H
 | _=>False
theorem Bn(hc:X.calm=true):aH X (.builtin "min") GC:=(Bo hc).of λxs H Q q=>by
 unfold GC at q;split at q
 ·exact⟨_,_,rfl,q⟩
 ·exact q.elim
def Dz:List V->Hp->VK->Prop:=λvs H Q=>match vs with
 | [.int i]=>Q (.int i) H
 | [.bl k]=>Q (.int (if k then 1 else 0)) H
 | [.str z]=>∃k:Bool,z=bs [k]/\Q (.int (if k then 1 else 0)) H
 | _=>False
theorem Bu:aH X (.type "int") Dz:=(Bw.or sJ).of λxs H Q q=>by
 unfold Dz at q;split at q
 ·exact .inl (.inl ⟨_,rfl,q⟩)
 ·exact .inl (.inr ⟨_,rfl,q⟩)
 ·obtain⟨k,h,q⟩:=q;exact .inr ⟨k,by rw[h,RX],q⟩
 ·exact q.elim
def GH:List V->Hp->VK->Prop:=λvs H Q=>match vs with
 | [x,.ty T]=>∃Tx,nR H x=some Tx/\T∈["int","bool","list","tuple","str"]/\Q (.bl (Tx == T || (Tx == "bool" && T == "int"))) H
 | _=>False
theorem FT:aH X (.builtin "isinstance") GH:=vh.of λxs H Q q=>by
 unfold GH at q;split at q
 ·obtain⟨Tx,h1,h2,q⟩:=q;exact⟨_,_,Tx,rfl,h1,h2,q⟩
 ·exact q.elim
def GI:List V->Hp->VK->Prop:=λvs H Q=>match vs with
 | [.ref p]=>∃bl:List Bool,H p=some (.lst (bl.map V.bl))/\Q (.bl (bl.all id)) H
 | _=>False
theorem Bx(hc:X.calm=true):aH X (.builtin "all") GI:=(FU hc).of λxs H Q q=>by
 unfold GI at q;split at q
 ·obtain⟨bl,h,q⟩:=q;exact⟨_,bl,rfl,h,q⟩
 ·exact q.elim
def Lq:V->List V->Hp->VK->Prop:=λx vs H Q=>match x,vs with
 | .ref l,[y]=>∃xs,H l=some (.lst xs)/\xs.length<sizeLine/\Q .bj (upd H l (.lst (xs++[y])))
 | _,_=>False
theorem IA:nM X "list.append" Lq:=o9.of λx xs H Q q=>by
 unfold Lq at q;split at q
 ·obtain⟨ys,h1,h2,q⟩:=q;exact⟨_,ys,_,rfl,rfl,h1,h2,q⟩
 ·exact q.elim
def Lo:V->List V->Hp->VK->Prop:=λx vs H Q=>match x,vs with
 | .ref l,[.ref b]=>∃xs zs,H l=some (.lst xs)/\H b=some (.lst zs)/\xs.length+zs.length<=sizeLine/\Q .bj (upd H l (.lst (xs++zs)))
 | _,_=>False
theorem Iz:nM X "list.extend" Lo:=A2.of λx xs H Q q=>by
 unfold Lo at q;split at q
 ·obtain⟨ys,zs,h1,h2,h3,q⟩:=q;exact⟨_,_,ys,zs,rfl,rfl,h1,h2,h3,q⟩
 ·exact q.elim
def rJoin:V->List V->Hp->VK->Prop:=λx vs H Q=>match x,vs with
 | .str sep,[.ref p]=>∃ws:List Str,H p=some (.lst (ws.map V.str))/\(ws.map (·.length)).sum+ws.length*sep.length<=16777216/\Q (.str (Txt.join sep ws)) H
 | _,_=>False
theorem E8:nM X "str.join" rJoin:=Iy.of λx xs H Q q=>by
 unfold rJoin at q;split at q
 ·obtain⟨ws,h1,h2,q⟩:=q;exact⟨_,_,ws,rfl,rfl,h1,h2,q⟩
 ·exact q.elim
def wN:V->List V->Hp->VK->Prop:=λx vs H Q=>match x,vs with
 | .str z,[.str y]=>z.length<=sizeLine/\Q (.str (Txt.stripChars z y)) H
 | _,_=>False
theorem AZ:nM X "str.strip" wN:=E7.of λx xs H Q q=>by
 unfold wN at q;split at q
 ·exact⟨_,_,rfl,rfl,q⟩
 ·exact q.elim
def CO:V->List V->Hp->VK->Prop:=λx vs H Q=>match x,vs with
 | .int i,[]=>Q (.int (Builtin.Int.intBits i)) H
 | _,_=>False
theorem Fe:nM X "int.bit_length" CO:=A4.of λx xs H Q q=>by
 unfold CO at q;split at q
 ·exact⟨_,rfl,rfl,q⟩
 ·exact q.elim
def WY(H:Hp)(T:String):V->Prop
 | .str _=>T = "str"
 | .int _=>T = "int"
 | .ref p=>∃xs,T = "list"/\H p=some (.lst xs)
 | _=>False
theorem Dd{K:W.Frag}{H:Hp}{T:String}{x:V}(h:WY H T x):WX K T x H:=by
 cases x with
 | str z=>exact h
 | int z=>exact h
 | ref p=>obtain⟨xs,h1,h2⟩:=h;exact .inl ⟨h1,xs,aN.of h2⟩
 | _=>exact h.elim
end
theorem ai{n:Nat}(h:n<=1000):n<=sizeLine:=aaM h (by decide)
theorem bC{n:Nat}(h:n<=1000):n<sizeLine:=Nat.lt_of_le_of_lt h (by decide)
theorem ah.upd{H:Hp}{p:Addr}{o:HO}(h:H p=none):ah H (upd H p o):=λb u e=>by rw[af (aj e h)];exact e
theorem lH{α:Type}{xs:List α}{i:Int}{v:α}(h0:0<=i)(h:xs[i.toNat]? = some v):pP xs i=some v:=by
 have e:i=(i.toNat:Int):=by omega
 rw[e];exact JJ h
theorem gl{H:Hp}{p:Addr}{xs:List V}{i:Int}{v:V}(h:H p=some (.lst xs))(h0:0<=i)(hv:xs[i.toNat]? = some v):gZ H (.ref p) i=some v:=by rw[uH h];exact lH h0 hv
theorem gt{H:Hp}{p:Addr}{xs:List V}{i:Int}{v:V}(h:H p=some (.tup xs))(h0:0<=i)(hv:xs[i.toNat]? = some v):gZ H (.ref p) i=some v:=by rw[Fy h];exact lH h0 hv
theorem dW{H:Hp}{p:Addr}{xs:List V}(h:H p=some (.lst xs)):nZ H (.ref p)=some xs.length:=by simp[nZ,h]
theorem GP{H:Hp}{p:Addr}{xs:List V}(h:H p=some (.tup xs)):nZ H (.ref p)=some xs.length:=by simp[nZ,h]
theorem gs{H:Hp}{w:List Bool}{i:Int}{b:Bool}(hz:w.length<=sizeLine)(h0:0<=i)(hv:w[i.toNat]? = some b):gZ H (.str (bs w)) i=some (.str (bs [b])):=by show(if(bs w).length<=sizeLine then(pP (bs w).cps.toList i).map λc=>V.str ⟨#[c]⟩else none)=_;rw[aaz (by rw[bg];exact hz)];have:pP (bs w).cps.toList i=some (sg b):=lH h0 (by show((w.map sg).toArray.toList)[i.toNat]? = _;simp[hv]);rw[this];rfl
end L2
namespace L2
open PySem
theorem xv{a b c:Int}(ha : -(2 ^ 30)<=a)(ha':a<2 ^ 30)(hb : -(2 ^ 30)<=b)(sY:b<2 ^ 30)(hc:c≠0)(zK : -(2 ^ 30)<c)(OF:c<2 ^ 30):Builtin.Range.small a b c=true:=by
 have h2:(0:Int)<=Builtin.Range.rangeSize a b c/\Builtin.Range.rangeSize a b c<=2 ^ 32:=by
  unfold Builtin.Range.rangeSize;split
  ·split
   ·have h1:0<=(b-a-1) / c:=acY (by omega) (by omega);have h3:(b-a-1) / c<=b-a-1:=Int.ediv_le_self _ (by omega);omega
   ·omega
  ·split
   ·have h1:0<=(a-b-1) / (-c):=acY (by omega) (by omega);have h3:(a-b-1) / (-c)<=a-b-1:=Int.ediv_le_self _ (by omega);omega
   ·omega
 unfold Builtin.Range.small;simp only[Builtin.Range.rangeFitsLong,aaJ,acA,aaH,acp];refine⟨by omega,.inr ?_⟩;split<;>(simp only[aaJ,aaH];omega)
end L2
namespace L2
open PySem PySem.Spec PyProof.Rows
def bX(K:W.Frag)(mg:Str->Option Value)(x:Str)(st:Stmt)(ps:List Str):Prop:=∃f fd,BX K x x st f fd/\mg x=some (.ref f)/\Binds K fd ps []
def aJ(P:Program)(w:World)(K:W.Frag)(mg:Str->Option Value)(base:Heap)(x:Str)(k:Nat)(ps:List Str)(sp:Sp):Prop:=
 ∃f fd,cU P w K mg base kR k f fd ps sp/\mg x=some (.ref f)/\W.keepIn K (.ref f)=true/\Binds K fd ps []
section
variable{P:Program}{w:World}{K:W.Frag}{mg:Str->Option Value}{base:Heap}
theorem ar{x:Str}{st:Stmt}{N ps:List Str}{k:Nat}{sp:Sp}(D:bX K mg x st ps)(S:ao N ps (ae st))(len:∀vs H Q E,sp vs H Q E->vs.length=ps.length)(cx:∀(f:Addr)(aA:Value)(A:Around)(outer:List Env)(s:Shared)(H:Hp)(vs:List V)(Q:VK)(E:XK),av k (A.deeper (envOfC x (ae st) s.heap.objs.size f aA))->sp vs H Q E → ∃t,nL (br kR P w K mg base N x (ae st) f aA A outer s H E).vp (ay st) t/\t { nx:=λ_ H'=>Q .bj H',rt:=Q } (start N vs) H):aJ P w K mg base x (k+1) ps sp:=by obtain⟨f,fd,F,hm,hb⟩:=D;exact⟨f,fd,F.ok S len λaA A outer s H vs Q E hr h=>cx f aA A outer s H vs Q E hr h,hm,F.kp,hb⟩
end
section
variable{X:Cx}{x:Str}{p pos apos:Pos}{e o:Expr}{es:List Expr}{t:TA}{te to ti:TE}{k:Nat}{ps:List Str}{sp:Sp}
def jm(sp:Sp)(t:TA):TE:=λσ H Q=>t σ H λvs H1=>sp vs H1 Q E0
theorem My(C:aJ X.prog X.w X.K X.mg X.base x k ps sp)(hr:av k X.A)(ha:PA X (e::es) t)(hg:Gl X x:=by rfl)(gE:(x == ("__debug__" : Str))=false:=by decide)(he:starEach (e::es) X.env=(false,eval e X.env)::starEach es X.env:=by rfl)(hpl:(backTo pos (starEach es X.env)).any (·.1)=false:=by rfl):PE X (.Call (.Name x p) (e::es) [] pos) (jm sp t):=by
 obtain⟨f,fd,F,hm,hk,hb⟩:=C;have h:=rD (pos:=pos) (p:=p) F hr hg hm hk hb .nil yt ha gE he hpl;intro pins s σ H Q I q;refine ba (h pins s σ H Q I ?_) λ_ _ z=>z;have ee:oq sp [] E0 t=jm sp t:=by funext σ H Q;unfold oq jm;simp only[aa1]
 rw[ee];exact q
theorem Mx(hm:X.mg "len" = none)(ha:PA X (e::es) t)(hg:Gl X "len" := by rfl)(he:starEach (e::es) X.env=(false,eval e X.env)::starEach es X.env:=by rfl)(hpl:(backTo pos (starEach es X.env)).any (·.1)=false:=by rfl):PE X (.Call (.Name "len" p) (e::es) [] pos) (kP zQ t):=bR j8 hg hm PySem.boot_len ha (he:=he) (hpl:=hpl)
theorem AH(hm:X.mg "isinstance" = none)(ha:PA X (e::es) t)(hg:Gl X "isinstance" := by rfl)(he:starEach (e::es) X.env=(false,eval e X.env)::starEach es X.env:=by rfl)(hpl:(backTo pos (starEach es X.env)).any (·.1)=false:=by rfl):PE X (.Call (.Name "isinstance" p) (e::es) [] pos) (kP GH t):=bR FT hg hm PyProof.Rows.boot_isinstance ha (he:=he) (hpl:=hpl)
theorem Mz(hc:X.calm=true)(hm:X.mg "all" = none)(ha:PA X (e::es) t)(hg:Gl X "all" := by rfl)(he:starEach (e::es) X.env=(false,eval e X.env)::starEach es X.env:=by rfl)(hpl:(backTo pos (starEach es X.env)).any (·.1)=false:=by rfl):PE X (.Call (.Name "all" p) (e::es) [] pos) (kP GI t):=bR (Bx hc) hg hm PyProof.Rows.boot_all ha (he:=he) (hpl:=hpl)
theorem Mv(hc:X.calm=true)(hm:X.mg "max" = none)(ha:PA X (e::es) t)(hg:Gl X "max" := by rfl)(he:starEach (e::es) X.env=(false,eval e X.env)::starEach es X.env:=by rfl)(hpl:(backTo pos (starEach es X.env)).any (·.1)=false:=by rfl):PE X (.Call (.Name "max" p) (e::es) [] pos) (kP GD t):=bR (Bp hc) hg hm PyProof.Rows.boot_max ha (he:=he) (hpl:=hpl)
theorem Mu(hc:X.calm=true)(hm:X.mg "min" = none)(ha:PA X (e::es) t)(hg:Gl X "min" := by rfl)(he:starEach (e::es) X.env=(false,eval e X.env)::starEach es X.env:=by rfl)(hpl:(backTo pos (starEach es X.env)).any (·.1)=false:=by rfl):PE X (.Call (.Name "min" p) (e::es) [] pos) (kP GC t):=bR (Bn hc) hg hm PyProof.Rows.boot_min ha (he:=he) (hpl:=hpl)
theorem tJ{T:String}(hb:bootBuiltins x=some (.type T))(hm:X.mg x=none)(hg:Gl X x:=by rfl)(hn:x≠"__name__" := by decide)(hd:(x == ("__debug__" : Str))=false:=by decide):PE X (.Name x pos) (tC (.ty T)):=zb hg hm hb rfl hn hd
def zF(T:String)(r:V->List V->Hp->VK->Prop)(to:TE)(t:TA):TE:=λσ H Q=>to σ H λx H1=>WY H1 T x/\t σ H1 λxs H2=>r x xs H2 Q
theorem iG{T id:String}{name:Str}{ax:Pos}{r:V->List V->Hp->VK->Prop}(pa:PlainAttrs T)(slot:Slot T name id)(Um:typeOf (.builtin id)=pure (.type "method_descriptor"))(hm:nM X id r)(ho:PE X o to)(ha:PA X (e::es) t)(bw:attributeBase o name X.env (eval o X.env)=eval o X.env:=by rfl)(eP:((backTo ax (starEach (e::es) X.env)).all (λx=>!x.1)&&(backToKw ax (keywordEach [] X.env)).all (λx=>x.1.isSome) && decide ((e::es).length+([]:List Keyword).length+(if([]:List Keyword).isEmpty then 0 else 1)<30))=true:=by rfl)(bG:(apos.endLine == ax.line)=true:=by rfl)(hs:starEach (e::es) X.env=(false,eval e X.env)::starEach es X.env:=by rfl)(bB:(backTo ax (starEach es X.env)).any (·.1)=false:=by rfl):PE X (.Call (.Attribute o name apos) (e::es) [] ax) (zF T r to t):=by intro pins s σ H Q I h;refine wpAny_Call_method_late bw eP bG rfl (ba (ho pins s σ H _ I h) λv s1 ⟨x,H1,I1,r1,ty,q1⟩=>?_);obtain⟨h1,h2⟩:=Dc I1 r1 (Dd ty);refine⟨T,id,pa,slot,Um,h1,h2,?_⟩;have hA:=ha ax pins s1 σ H1 _ I1 q1;rw[hs]at hA ⊢;refine Calls.callWith_builtin (by show(false || (backTo ax (starEach es X.env)).any (·.1))=false;rw[bB]<;>rfl) (Calls.evalArgs_plain ?_);exact ba hA λus s2 ⟨vs,H2,I2,r2,q2⟩=>hm pins s2 σ H2 x vs v us Q I2 r1 r2 q2
theorem DD{T id:String}{name:Str}{ax:Pos}{r:V->List V->Hp->VK->Prop}(pa:PlainAttrs T)(slot:Slot T name id)(Um:typeOf (.builtin id)=pure (.type "method_descriptor"))(hm:nM X id r)(ho:PE X o to)(bw:attributeBase o name X.env (eval o X.env)=eval o X.env:=by rfl)(bG:(apos.endLine == ax.line)=true:=by rfl):PE X (.Call (.Attribute o name apos) [] [] ax) (zF T r to gY):=by intro pins s σ H Q I h;refine wpAny_Call_method0_late bw bG (ba (ho pins s σ H _ I h) λv s1 ⟨x,H1,I1,r1,ty,q1⟩=>?_);obtain⟨h1,h2⟩:=Dc I1 r1 (Dd ty);exact⟨T,id,pa,slot,Um,h1,h2,Calls.callWith_builtin rfl (PySem.evalArgs_none (hm pins s1 σ H1 x [] v [] Q I1 r1 .nil q1))⟩
def yr:V->V->V->Hp->(Hp->Prop)->Prop:=λo i v H Q=>match o,i with
 | .ref p,.int k=>∃xs j,H p=some (.lst xs)/\F9 xs.length k=some j/\Q (upd H p (.lst (xs.set j v)))
 | _,_=>False
theorem P9:G9 X yr:=by
 intro pins s σ H o i v ov iv u Q I ro ri rv q;refine set_list pins s σ H o i v ov iv u Q I ro ri rv ?_;unfold yr at q;split at q
 ·obtain⟨xs,j,h1,h2,q⟩:=q;exact⟨_,xs,_,j,rfl,rfl,h1,h2,q⟩
 ·exact q.elim
def wY(t:TG)(u:vF):vF:=λvs σ H Q=>match vs with
 | v::r=>t v σ H λaX H'=>u r aX H' Q
 | []=>False
theorem AF{es:List Expr}{t:TG}{u:vF}(h1:PG X e t)(h2:Gf X es u)(hs:(assignEach (e::es) X.env).map (·.2)=assign e X.env::(assignEach es X.env).map (·.2):=by rfl):Gf X (e::es) (wY t u):=by
 intro pins s σ H vs us Q I r hw;refine EC h1 h2 hs pins s σ H vs us Q I r ?_;unfold wY at hw;split at hw
 ·exact⟨_,_,rfl,hw⟩
 ·exact hw.elim
variable{tg:Expr}
def V9(K:W.Frag)(tl:TE):TI:=λσ H R=>tl σ H λx H1=>match x with
 | .ref a=>(∃xs,aN K H1 a xs)/\R (SX K a) H1
 | _=>False
theorem Ml{l:Expr}{tl:TE}(hl:PE X l tl):PI X tg l (V9 X.K tl):=by
 intro pins s σ H R I h;refine ba (hl pins s σ H _ I h) λv s1 ⟨x,H1,I1,r1,q1⟩=>?_;dsimp only at q1;split at q1
 ·rename_i a;obtain⟨⟨xs,hq⟩,q⟩:=q1;cases r1;obtain⟨its,rv,p,hz⟩:=I1.list hq;refine acK p.isList ?_;refine⟨s1.heap.objs.size,[s1.heap.objs.size],_,_,H1,rfl,I1.kept (t':=s1.toks) λb o e=>aad _ e,oJ a _,⟨_,aap _ rfl,rfl,rfl⟩,λb hb=>?_,q⟩;have e:b=s1.heap.objs.size:=by simpa using hb
  subst e;exact I1.pV (aae _) (I1.au.fresh (aae _))
 ·exact q1.elim
def Xq(ta:TA):TI:=λσ H R=>ta σ H λvs H1=>match vs with
 | [.int j]=>-(2 ^ 62)<=j/\j<2 ^ 62/\R (SW 0 j.toNat) H1
 | _=>False
theorem Q4{a:Expr}{ta:TA}(hm:X.mg "range" = none)(ha:PA X [a] ta)(hg:Gl X "range" := by rfl)(hs:starEach [a] X.env=[(false,eval a X.env)]:=by rfl):PI X tg (.Call (.Name "range" p) [a] [] pos) (Xq ta):=by
 intro pins s σ H R I h;refine Call_ (jv I hg hm boot_range (abO (ba (ha pos pins s σ H _ I h) λus s1 ⟨vs,H1,I1,r1,q1⟩=>?_) hs rfl));dsimp only at q1;split at q1
 ·obtain⟨q1,q2,q⟩:=q1;obtain⟨u,rfl,t,rfl⟩:=vals1 r1;exact call_range_1 (Ew I1 (by omega) (by omega) q1 q2 (by simpa using q))
 ·exact q1.elim
def LQ(lo st:Int)(n:Nat):It:=⟨λi _=>i<n,λi H x H'=>H'=H/\x = .int (lo+(i:Nat)*st),λi _=>n<=i⟩
theorem j4(lo st:Int)(n:Nat):tB (LQ lo st n) ((List.range n).map λi=>V.int (lo+(i:Nat)*st)) λ_=>True:=
 ⟨λH _=>by show n<=_;simp,λi H _ hi=>(by show i<n;simpa using hi),λi H x H' _ hi y=>⟨y.1,by
  have bI:i<n:=by simpa using hi
  obtain⟨_,rfl⟩:=y;simp[bI]⟩⟩
theorem uR{P:Program}{w:World}{K:PySem.W.Frag}{tg:Expr}(it:Addr)(lo st:Int)(n:Nat):Turn P w K tg (LQ lo st n) [it] it (λi h=>IsRangeIter h it (lo+(i:Nat)*st) ((n:Int)-(i:Nat)) st) where
 mem:=by simp
 obj:=λi h st b hb=>by
  have e:b=it:=by simpa using hb
  subst e;exact⟨_,st,λv z=>by have z':Data.fields _=Data.cell v:=z;cases z'⟩
 keep:=λi h h' st k=>k it (by simp) _ st
 item:=by intro X hP hw hK hc i pins s σ H E I hf pN hg;subst hP hw hK;obtain⟨f0,f1,f2,f3,f4,f5⟩:=hf it (by simp);have W:=Walks.range (prog:=X.prog) (w:=X.w) (I.ok.hd hc) it lo st n;refine W.item i s _ _ hg pN λv h' tk hv P7 kk=>?_;obtain⟨t,rfl⟩:=hv;have I1:Inv X pins σ H { s with heap:=h',toks:=tk }:=I.turned (λb o hb e=>kk b o (by simpa using hb) e) f0 f1 f3 f4 f5;exact⟨_,rfl,yw (s:={ s with heap:=h',toks:=tk }) (n:= "range_iterator") P7 rfl rfl (by decide) ⟨.int (lo+(i:Nat)*st),H,I1,⟨t,rfl⟩,⟨rfl,rfl⟩,P7,λb hb=>(hf b hb).1⟩⟩
 done:=by intro X hP hw hK hc i pins s σ H E I hf pN hg;subst hP hw hK;obtain⟨f0,f1,f2,f3,f4,f5⟩:=hf it (by simp);exact wpAny_pyNext_range_end (I.ok.hd hc) pN (by have:n<=i:=hg;omega) λh' eb=>⟨rfl,I.turned (t':=s.toks) (λb o hb e=>eb b o hb e) f0 f1 f3 f4 f5⟩
 self:=λ_ _ _ _ _ st h=>wpAny_pyIter_rangeiter st h
def Xp(ta:TA):TI:=λσ H R=>ta σ H λvs H1=>match vs with
 | [.int i,.int j,.int c]=>(-(2 ^ 30)<=i/\i<2 ^ 30/\-(2 ^ 30)<=j/\j<2 ^ 30/\c≠0/\-(2 ^ 30)<c/\c<2 ^ 30)/\R (LQ i c (Builtin.Range.rangeSize i j c).toNat) H1
 | _=>False
theorem kc(a b c:Int):0<=Builtin.Range.rangeSize a b c:=by
 unfold Builtin.Range.rangeSize;split
 ·split
  ·have:0<=(b-a-1) / c:=acY (by omega) (by omega);omega
  ·omega
 ·split
  ·have:0<=(a-b-1) / (-c):=acY (by omega) (by omega);omega
  ·omega
theorem Q3{a b c:Expr}{ta:TA}(hm:X.mg "range" = none)(ha:PA X [a,b,c] ta)(hg:Gl X "range" := by rfl)(hs:starEach [a,b,c] X.env=[(false,eval a X.env),(false,eval b X.env),(false,eval c X.env)]:=by rfl)(zH:starEach [b,c] X.env=[(false,eval b X.env),(false,eval c X.env)]:=by rfl):PI X tg (.Call (.Name "range" p) [a,b,c] [] pos) (Xp ta):=by
 intro pins s σ H R I h;refine Call_ (jv I hg hm boot_range (abO (ba (ha pos pins s σ H _ I h) λus s1 ⟨vs,H1,I1,r1,q1⟩=>?_) (by rw[hs,zH]) (by rw[zH];rfl)));dsimp only at q1;split at q1
 ·rename_i i j c';refine az λak=>?_;obtain⟨⟨q1,q2,q3,q4,q5,q6,q7⟩,q⟩:=q1;refine ak ?_;clear ak;cases r1 with
  | cons ra r1=>
   obtain⟨u2,u3,e,⟨t2,e2⟩,⟨t3,e3⟩⟩:=vals2 r1;obtain⟨t1,e1⟩:=ra;subst e1 e e2 e3;refine call_range_3 q5 ?_ (.inl (PyProof.noPylong_small (by omega)));refine wpAny_pyIter_range (IsRange.new ..) (xv q1 q2 q3 q4 q5 q6 q7) ?_;have I2:=I1.kept (t':=s1.toks) (h':=s1.heap.push { cls:=.type "range",data:=.fields #[.int i t1,.int j t2,.int c' t3] }) λb o e=>aad _ e;refine⟨_,[_],_,_,H1,rfl,I2.kept (t':=s1.toks) λb o e=>aad _ e,uR _ i c' (Builtin.Range.rangeSize i j c').toNat,?_,λb hb=>?_,q⟩
   ·have e1:i+((0:Nat):Int)*c'=i:=by simp
    have e2:(((Builtin.Range.rangeSize i j c').toNat:Nat):Int)-((0:Nat):Int)=Builtin.Range.rangeSize i j c':=by have:=kc i j c';omega
    show IsRangeIter _ _ (i+((0:Nat):Int)*c') ((((Builtin.Range.rangeSize i j c').toNat:Nat):Int)-((0:Nat):Int)) c';rw[e1,e2];exact aap _ rfl
   ·have e:b=(s1.heap.push { cls:=.type "range",data:=.fields #[.int i t1,.int j t2,.int c' t3] }).objs.size:=by simpa using hb
    subst e;exact I2.pV (aae _) (I2.au.fresh (aae _))
 ·exact q1.elim
end
def BY(sc:Scope)(x:Str):Bool:=(match sc.names.lookup x with
 | some .local=>true
 | some .cell=>true
 | some .free=>true
 | _=>false)&&(!(x == ("__debug__" : Str)) && !(x == ("__classdict__" : Str)))
theorem vZ{sc:Scope}{x:Str}(h:BY sc x=true):PX sc x/\(x == ("__debug__" : Str))=false/\(x == ("__classdict__" : Str))=false:=by
 unfold BY at h;simp only[aaJ,Bool.not_eq_true']at h;obtain⟨h1,h2,h3⟩:=h;refine⟨?_,h2,h3⟩;split at h1
 ·exact .inl (by assumption)
 ·exact .inr (.inl (by assumption))
 ·exact .inr (.inr (by assumption))
 ·cases h1
def zU(sc:Scope)(x:Str):Bool:=match sc.names.lookup x with
 | some .local=>true
 | some .cell=>true
 | _=>false
theorem wW{sc:Scope}{x:Str}(h:zU sc x=true):Loc sc x:=by
 unfold zU at h;split at h
 ·exact .inl (by assumption)
 ·exact .inr (by assumption)
 ·cases h
section
variable{X:Cx}{x:Str}{pos:Pos}
theorem vk(i:Nat)(hN:X.N[i]? = some x:=by rfl)(hv:BY X.env.scope x=true:=by kernel_rfl):PE X (.Name x pos) (tV i):=
 vr i hN (vZ hv).1 (vZ hv).2.1 (vZ hv).2.2
theorem gk(i:Nat)(hN:X.N.Nodup)(hi:X.N[i]? = some x:=by rfl)(hx:zU X.env.scope x=true:=by kernel_rfl)(hf:(X.fn x || X.env.scope.names.lookup x == some .local)=true:=by kernel_rfl):PG X (.Name x pos) (aQ i):=
 HM hN hi (wW hx) (by rw[acA]at hf;exact hf.elim .inl λz=>.inr (eq_of_beq z))
theorem vn(x:Str)(i:Nat)(hN:X.N[i]? = some x:=by with_unfolding_all rfl)(hv:BY X.env.scope x=true:=by kernel_rfl):PE X (.Name x pos) (tV i):=vk i hN hv
theorem gn(x:Str)(i:Nat)(hN:X.N.Nodup)(hi:X.N[i]? = some x:=by with_unfolding_all rfl)(hx:zU X.env.scope x=true:=by kernel_rfl)(hf:(X.fn x || X.env.scope.names.lookup x == some .local)=true:=by kernel_rfl):PG X (.Name x pos) (aQ i):=gk i hN hi hx hf
def gB(X:Cx)(x:Str):Bool:=X.env.scope.names.lookup x == some .globalImplicit
theorem aK(h:gB X x=true):Gl X x:=eq_of_beq h
variable{p apos:Pos}{e o:Expr}{es:List Expr}{t:TA}{te to ti:TE}{k:Nat}{ps:List Str}{sp:Sp}{tg:Expr}
theorem NM(x:Str){P':Program}{w':World}{K':W.Frag}{aI:Str->Option Value}{aW:Heap}(C:aJ P' w' K' aI aW x k ps sp)(hX:X.prog=P'/\X.w=w'/\X.K=K'/\X.mg=aI/\X.base=aW)(hr:av k X.A)(ha:PA X (e::es) t)(hg:gB X x=true:=by kernel_rfl)(gE:(x == ("__debug__" : Str))=false:=by kernel_rfl)(he:starEach (e::es) X.env=(false,eval e X.env)::starEach es X.env:=by kernel_rfl)(hpl:(backTo pos (starEach es X.env)).any (·.1)=false:=by kernel_rfl):PE X (.Call (.Name x p) (e::es) [] pos) (jm sp t):=by obtain⟨rfl,rfl,rfl,rfl,rfl⟩:=hX;exact My C hr ha (aK hg) gE he hpl
theorem NK{aI:Str->Option Value}(hm:aI "len" = none)(hX:X.mg=aI)(ha:PA X (e::es) t)(hg:gB X "len" = true:=by kernel_rfl)(he:starEach (e::es) X.env=(false,eval e X.env)::starEach es X.env:=by kernel_rfl)(hpl:(backTo pos (starEach es X.env)).any (·.1)=false:=by kernel_rfl):PE X (.Call (.Name "len" p) (e::es) [] pos) (kP zQ t):=Mx (by rw[hX];exact hm) ha (aK hg) he hpl
theorem j7{aI:Str->Option Value}(hm:aI "isinstance" = none)(hX:X.mg=aI)(ha:PA X (e::es) t)(hg:gB X "isinstance" = true:=by kernel_rfl)(he:starEach (e::es) X.env=(false,eval e X.env)::starEach es X.env:=by kernel_rfl)(hpl:(backTo pos (starEach es X.env)).any (·.1)=false:=by kernel_rfl):PE X (.Call (.Name "isinstance" p) (e::es) [] pos) (kP GH t):=AH (by rw[hX];exact hm) ha (aK hg) he hpl
theorem NN{aI:Str->Option Value}(hm:aI "all" = none)(hX:X.mg=aI)(ha:PA X (e::es) t)(hc:X.calm=true:=by kernel_rfl)(hg:gB X "all" = true:=by kernel_rfl)(he:starEach (e::es) X.env=(false,eval e X.env)::starEach es X.env:=by kernel_rfl)(hpl:(backTo pos (starEach es X.env)).any (·.1)=false:=by kernel_rfl):PE X (.Call (.Name "all" p) (e::es) [] pos) (kP GI t):=Mz hc (by rw[hX];exact hm) ha (aK hg) he hpl
theorem NJ{aI:Str->Option Value}(hm:aI "max" = none)(hX:X.mg=aI)(ha:PA X (e::es) t)(hc:X.calm=true:=by kernel_rfl)(hg:gB X "max" = true:=by kernel_rfl)(he:starEach (e::es) X.env=(false,eval e X.env)::starEach es X.env:=by kernel_rfl)(hpl:(backTo pos (starEach es X.env)).any (·.1)=false:=by kernel_rfl):PE X (.Call (.Name "max" p) (e::es) [] pos) (kP GD t):=Mv hc (by rw[hX];exact hm) ha (aK hg) he hpl
theorem NI{aI:Str->Option Value}(hm:aI "min" = none)(hX:X.mg=aI)(ha:PA X (e::es) t)(hc:X.calm=true:=by kernel_rfl)(hg:gB X "min" = true:=by kernel_rfl)(he:starEach (e::es) X.env=(false,eval e X.env)::starEach es X.env:=by kernel_rfl)(hpl:(backTo pos (starEach es X.env)).any (·.1)=false:=by kernel_rfl):PE X (.Call (.Name "min" p) (e::es) [] pos) (kP GC t):=Mu hc (by rw[hX];exact hm) ha (aK hg) he hpl
theorem ty_int{aI:Str->Option Value}(hm:aI "int" = none)(hX:X.mg=aI)(hg:gB X "int" = true:=by kernel_rfl):PE X (.Name "int" pos) (tC (.ty "int")):=tJ PyProof.Rows.boot_int (by rw[hX];exact hm) (aK hg)
theorem ty_bool{aI:Str->Option Value}(hm:aI "bool" = none)(hX:X.mg=aI)(hg:gB X "bool" = true:=by kernel_rfl):PE X (.Name "bool" pos) (tC (.ty "bool")):=tJ PyProof.Rows.boot_bool (by rw[hX];exact hm) (aK hg)
theorem ty_list{aI:Str->Option Value}(hm:aI "list" = none)(hX:X.mg=aI)(hg:gB X "list" = true:=by kernel_rfl):PE X (.Name "list" pos) (tC (.ty "list")):=tJ PyProof.Rows.boot_list (by rw[hX];exact hm) (aK hg)
theorem ty_tuple{aI:Str->Option Value}(hm:aI "tuple" = none)(hX:X.mg=aI)(hg:gB X "tuple" = true:=by kernel_rfl):PE X (.Name "tuple" pos) (tC (.ty "tuple")):=tJ PyProof.Rows.boot_tuple (by rw[hX];exact hm) (aK hg)
theorem ty_str{aI:Str->Option Value}(hm:aI "str" = none)(hX:X.mg=aI)(hg:gB X "str" = true:=by kernel_rfl):PE X (.Name "str" pos) (tC (.ty "str")):=tJ PyProof.Rows.boot_str (by rw[hX];exact hm) (aK hg)
theorem Rt{a:Expr}{ta:TA}{aI:Str->Option Value}(hm:aI "range" = none)(hX:X.mg=aI)(ha:PA X [a] ta)(hg:gB X "range" = true:=by kernel_rfl)(hs:starEach [a] X.env=[(false,eval a X.env)]:=by kernel_rfl):PI X tg (.Call (.Name "range" p) [a] [] pos) (Xq ta):=Q4 (by rw[hX];exact hm) ha (aK hg) hs
theorem Rr{a b c:Expr}{ta:TA}{aI:Str->Option Value}(hm:aI "range" = none)(hX:X.mg=aI)(ha:PA X [a,b,c] ta)(hg:gB X "range" = true:=by kernel_rfl)(hs:starEach [a,b,c] X.env=[(false,eval a X.env),(false,eval b X.env),(false,eval c X.env)]:=by kernel_rfl)(zH:starEach [b,c] X.env=[(false,eval b X.env),(false,eval c X.env)]:=by kernel_rfl):PI X tg (.Call (.Name "range" p) [a,b,c] [] pos) (Xp ta):=Q3 (by rw[hX];exact hm) ha (aK hg) hs zH
theorem Rq{a b:Expr}{ta tb:TE}(ha:PE X a ta)(hb:PE X b tb)(hs:∀o i,subscripted b false o i=operate [o,i] (getItem o i):=by intro _ _;kernel_rfl):PE X (.Subscript a b pos) (sT GF ta tb):=CQ Xn ha hb hs
theorem Of{e:Expr}{es:List Expr}{te:TE}{t:TA}(ha:PE X e te)(hr:PA X es t)(hs:starEach (e::es) X.env=(false,eval e X.env)::starEach es X.env:=by kernel_rfl):PA X (e::es) (gO te t):=HX ha hr hs
theorem QO{op:CmpOp}{r:R2}{a b:Expr}{ta tb:TE}(ho:ck X (compareOp op) r)(ha:PE X a ta)(hb:PE X b tb)(hm:behindInMarks op b=false:=by kernel_rfl):PT X (.Compare a [op] [b] pos) (JO (sT r ta tb)):=HC ho ha hb hm
theorem RS{op:CmpOp}{r:R2}{a b:Expr}{ta tb:TE}(ho:ck X (compareOp op) r)(ha:PE X a ta)(hb:PE X b tb)(hm:behindInMarks op b=false:=by kernel_rfl):PE X (.Compare a [op] [b] pos) (sT r ta tb):=HS ho ha hb hm
theorem Je{op KR:CmpOp}{r r':R2}{a b c:Expr}{ta tb tc:TE}(ho:ck X (compareOp op) r)(nJ:ck X (compareOp KR) r')(ha:PE X a ta)(hb:PE X b tb)(hc:PE X c tc)(hm:lastMarks [op,KR] [b,c]=false:=by kernel_rfl):PE X (.Compare a [op,KR] [b,c] pos) (yI r r' ta tb tc):=AI ho nJ ha hb hc hm
theorem QY{tg e:Expr}{te:TE}{g:TG}(he:PE X e te)(hg:PG X tg g)(hs:swapsWithSole [tg] e pos.line X.env=pure false:=by kernel_rfl)(hw:swappedStores [tg] e X.env=pure none:=by kernel_rfl)(h1:(assignEach [tg] X.env).map (·.2)=[assign tg X.env]:=by kernel_rfl):PS X (.Assign [tg] e pos) (BZ te g):=Mh he hg hs hw h1
theorem Dv{e:Expr}{te:TE}(he:PE X e te)(hs:swapsWith e none pos.line X.env=pure false:=by kernel_rfl):PS X (.Expr e pos) (J9 te):=HE he hs
theorem Kg{iter:Expr}{body:List Stmt}{wi:TI}{g:TG}{tb:TS}(hi:PI X tg iter wi)(hg:PG X tg g)(hb:nL X body tb)(hp:PassesOwn (model X.prog X.w) X.A X.env X.xe:=by exact PassesOwn.never)(hc:X.calm=true:=by kernel_rfl)(hs:∀x,foldedSetIterable iter X.env x=pure x:=by intro _;kernel_rfl):PS X (.For tg iter body [] pos) (P5 wi g tb):=Me hp hc hi hg hb hs
theorem Hr{c:Expr}{body:List Stmt}{tc:TT}{tb:TS}(hc:PT X c tc)(hb:nL X body tb)(hp:PassesOwn (model X.prog X.w) X.A X.env X.xe:=by exact PassesOwn.never):PS X (.While c body [] pos) (De tc tb):=Ey hp hc hb
theorem Hs{a b:Option Expr}:PS X (.Raise a b pos) Dg:=Ez
theorem IS{es:List Expr}{t:TG}{u:vF}(h1:PG X e t)(h2:Gf X es u)(hs:(assignEach (e::es) X.env).map (·.2)=assign e X.env::(assignEach es X.env).map (·.2):=by kernel_rfl):Gf X (e::es) (wY t u):=AF h1 h2 hs
theorem RI{o i:Expr}{to ti:TE}(ho:PE X o to)(hi:PE X i ti)(ha:∀v,assign (.Subscript o i pos) X.env v=(do
   let ov <-holding [v] (eval o X.env);let iv <-holding [v,ov] (eval i X.env)
   standAt pos
   holding [v,ov,iv] (setItem ov iv v)
   release [v,ov,iv] []):=by intro _;kernel_rfl):PG X (.Subscript o i pos) (LJ to ti yr):=DC ho hi P9 ha
theorem uA{ax:Pos}(ho:PE X o to)(ha:PA X (e::es) t)(bw:attributeBase o "append" X.env (eval o X.env)=eval o X.env:=by kernel_rfl)(eP:((backTo ax (starEach (e::es) X.env)).all (λx=>!x.1)&&(backToKw ax (keywordEach [] X.env)).all (λx=>x.1.isSome) && decide ((e::es).length+([]:List Keyword).length+(if([]:List Keyword).isEmpty then 0 else 1)<30))=true:=by kernel_rfl)(bG:(apos.endLine == ax.line)=true:=by kernel_rfl)(hs:starEach (e::es) X.env=(false,eval e X.env)::starEach es X.env:=by kernel_rfl)(bB:(backTo ax (starEach es X.env)).any (·.1)=false:=by kernel_rfl):PE X (.Call (.Attribute o "append" apos) (e::es) [] ax) (zF "list" Lq to t):=iG ac0 PySem.F.slot_list_append PySem.F.type_list_append IA ho ha bw eP bG hs bB
theorem Fi{ax:Pos}(ho:PE X o to)(ha:PA X (e::es) t)(bw:attributeBase o "extend" X.env (eval o X.env)=eval o X.env:=by kernel_rfl)(eP:((backTo ax (starEach (e::es) X.env)).all (λx=>!x.1)&&(backToKw ax (keywordEach [] X.env)).all (λx=>x.1.isSome) && decide ((e::es).length+([]:List Keyword).length+(if([]:List Keyword).isEmpty then 0 else 1)<30))=true:=by kernel_rfl)(bG:(apos.endLine == ax.line)=true:=by kernel_rfl)(hs:starEach (e::es) X.env=(false,eval e X.env)::starEach es X.env:=by kernel_rfl)(bB:(backTo ax (starEach es X.env)).any (·.1)=false:=by kernel_rfl):PE X (.Call (.Attribute o "extend" apos) (e::es) [] ax) (zF "list" Lo to t):=iG ac0 PySem.F.slot_list_extend PySem.F.type_list_extend Iz ho ha bw eP bG hs bB
theorem Nc{ax:Pos}(ho:PE X o to)(ha:PA X (e::es) t)(bw:attributeBase o "join" X.env (eval o X.env)=eval o X.env:=by kernel_rfl)(eP:((backTo ax (starEach (e::es) X.env)).all (λx=>!x.1)&&(backToKw ax (keywordEach [] X.env)).all (λx=>x.1.isSome) && decide ((e::es).length+([]:List Keyword).length+(if([]:List Keyword).isEmpty then 0 else 1)<30))=true:=by kernel_rfl)(bG:(apos.endLine == ax.line)=true:=by kernel_rfl)(hs:starEach (e::es) X.env=(false,eval e X.env)::starEach es X.env:=by kernel_rfl)(bB:(backTo ax (starEach es X.env)).any (·.1)=false:=by kernel_rfl):PE X (.Call (.Attribute o "join" apos) (e::es) [] ax) (zF "str" rJoin to t):=iG abo PySem.F.slot_str_join PySem.F.type_str_join E8 ho ha bw eP bG hs bB
theorem m_strip{ax:Pos}(ho:PE X o to)(ha:PA X (e::es) t)(bw:attributeBase o "strip" X.env (eval o X.env)=eval o X.env:=by kernel_rfl)(eP:((backTo ax (starEach (e::es) X.env)).all (λx=>!x.1)&&(backToKw ax (keywordEach [] X.env)).all (λx=>x.1.isSome) && decide ((e::es).length+([]:List Keyword).length+(if([]:List Keyword).isEmpty then 0 else 1)<30))=true:=by kernel_rfl)(bG:(apos.endLine == ax.line)=true:=by kernel_rfl)(hs:starEach (e::es) X.env=(false,eval e X.env)::starEach es X.env:=by kernel_rfl)(bB:(backTo ax (starEach es X.env)).any (·.1)=false:=by kernel_rfl):PE X (.Call (.Attribute o "strip" apos) (e::es) [] ax) (zF "str" wN to t):=iG abo PySem.F.slot_str_strip PySem.F.type_str_strip AZ ho ha bw eP bG hs bB
theorem Nd{ax:Pos}(ho:PE X o to)(bw:attributeBase o "bit_length" X.env (eval o X.env)=eval o X.env:=by kernel_rfl)(bG:(apos.endLine == ax.line)=true:=by kernel_rfl):PE X (.Call (.Attribute o "bit_length" apos) [] [] ax) (zF "int" CO to gY):=DD PySem.F.plainAttrs_int PySem.F.slot_int_bit_length PySem.F.type_int_bit_length Fe ho bw bG
theorem bM(N:List Str)(js:List Nat){elt target iter:Expr}{ifs:List Expr}{scope:Scope}{wi:TI}{g:TG}{tt:TT}{te:TE}(hN:N.Nodup)(hi:PI X target iter wi)(hg:∀cl C s H fp,PG (X.block scope cl C N s H fp) target g)(ht:∀cl C s H fp,PF (X.block scope cl C N s H fp) ifs tt)(he:∀cl C s H fp,PE (X.block scope cl C N s H fp) elt te)(au:jz X.env.scope X.N scope N js=true:=by kernel_rfl)(hc:X.calm=true:=by kernel_rfl)(hk:scope.kind = .function:=by kernel_rfl)(hs:∀x,foldedSetIterable iter X.env x=pure x:=by intro _;kernel_rfl):PE X (.ListComp elt [⟨target,iter,ifs,0⟩] scope pos) (yp (N.length-js.length) js wi g tt te):=HR N js au hN hc hi hg ht he hk hs
theorem wk(y:Str)(i:Nat)(N:List Str)(js:List Nat){elt target iter:Expr}{ifs:List Expr}{scope:Scope}{wi:TI}{g:TG}{tt:TT}{te:TE}{py Ca:Pos}(hN:N.Nodup)(UJ:X.N.Nodup)(hi:PI X target iter wi)(hg:∀cl C s H fp,PG (X.block scope cl C N s H fp) target g)(ht:∀cl C s H fp,PF (X.block scope cl C N s H fp) ifs tt)(he:∀cl C s H fp,PE (X.block scope cl C N s H fp) elt te)(Uj:X.N[i]? = some y:=by with_unfolding_all rfl)(hy:zU X.env.scope y=true:=by kernel_rfl)(au:jz X.env.scope X.N scope N js=true:=by kernel_rfl)(hc:X.calm=true:=by kernel_rfl)(hk:scope.kind = .function:=by kernel_rfl)(hs:∀x,foldedSetIterable iter X.env x=pure x:=by intro _;kernel_rfl)(Uq:swapsWith (.ListComp elt [⟨target,iter,ifs,0⟩] scope pos) (some (.Name y py)) Ca.line X.env=pure true:=by kernel_rfl)(hf:(X.fn y || X.env.scope.names.lookup y == some .local)=true:=by kernel_rfl):PS X (.Assign [.Name y py] (.ListComp elt [⟨target,iter,ifs,0⟩] scope pos) Ca) (BZ (yp (N.length-js.length) js wi g tt te) (aQ i)):=
 xC N js au hN hc UJ Uj (wW hy) hi hg ht he Uq hk hs (by rw[acA]at hf;exact hf.elim .inl λz=>.inr (eq_of_beq z))
end
theorem fm{c A B:Prop}[Decidable c](hc:c)(h:A):if c then A else B:=by rw[aaz hc];exact h
theorem V6{c A B:Prop}[Decidable c](hc:¬c)(h:B):if c then A else B:=by rw[aar hc];exact h
def Off(F:Addr->Prop)(H H':Hp):Prop:=∀b o,H b=some o->¬F b->H' b=some o
theorem Off.refl{F:Addr->Prop}{H:Hp}:Off F H H:=λ_ _ e _=>e
theorem Off.trans{F:Addr->Prop}{H H1 H2:Hp}(h:Off F H H1)(k:Off F H1 H2):Off F H H2:=λb o e n=>k b o (h b o e n) n
theorem ah.off{F:Addr->Prop}{H H1:Hp}(h:ah H H1):Off F H H1:=λb o e _=>h b o e
theorem eR{t u:TT}{σ:St}{H:Hp}{Q:Bool->Hp->Prop}{c1 c2:Bool}(h1:∀Q:Bool->Hp->Prop,Q c1 H->t σ H Q)(h2:c1=false->∀Q:Bool->Hp->Prop,Q c2 H->u σ H Q)(q:Q (c1 || c2) H):R9 t u σ H Q:=by
 refine h1 _ ?_;cases c1 with
 | true=>exact Qm (by simpa using q)
 | false=>exact dX (h2 rfl _ (by simpa using q))
section
variable{H:Hp}
theorem DV.lst_inv{v:V}{ds:List PyData}(h:DV H v (.list ds)):∃a xs,v = .ref a/\H a=some (.lst xs)/\bO H xs ds:=by
 cases h with
 | lst h r=>exact⟨_,_,rfl,h,r⟩
theorem DV.dJ{v:V}{ds:List PyData}(h:DV H v (.tuple ds)):∃a xs,v = .ref a/\H a=some (.tup xs)/\bO H xs ds:=by
 cases h with
 | tup h r=>exact⟨_,_,rfl,h,r⟩
theorem DV.int_inv{v:V}{i:Int}(h:DV H v (.int i)):v = .int i:=by cases h;rfl
theorem DV.str_inv{v:V}{x:Str}(h:DV H v (.str x)):v = .str x:=by cases h;rfl
theorem bO.length:∀{xs:List V}{ds:List PyData},bO H xs ds->xs.length=ds.length
 | _,_,.nil=>rfl
 | _,_,.cons _ r=>by rw[aax,aax,bO.length r]
theorem bO.get:∀{xs:List V}{ds:List PyData}{i:Nat}{d:PyData},bO H xs ds->ds[i]? = some d->∃x,xs[i]? = some x/\DV H x d
 | _,_,_,_,.nil,h=>by simp at h
 | _,_,0,_,.cons h _,e=>by simp at e;subst e;exact⟨_,rfl,h⟩
 | _,_,i+1,d,.cons _ r,e=>by obtain⟨x,h1,h2⟩:=bO.get (i:=i) (d:=d) r (by simpa using e);exact⟨x,by simpa using h1,h2⟩
theorem bO.app:∀{xs ys:List V}{ds es:List PyData},bO H xs ds->bO H ys es->bO H (xs++ys) (ds++es)
 | _,_,_,_,.nil,s=>s
 | _,_,_,_,.cons h r,s=>.cons h (bO.app r s)
theorem bO.ints:∀(ns:List Int),bO H (ns.map V.int) (ns.map PyData.int)
 | []=>.nil
 | n::r=>.cons (.int n) (bO.ints r)
end
end L2
namespace Om
abbrev Rows:=List (List (List Bool×Nat))
structure aq(k n:Nat)(rows:Rows):Prop where
 k1:1<=k
 k3:k<=3
 n1:1<=n
 n6:n<=6
 s1:1<=rows.length
 s8:rows.length<=8
 len:∀st∈rows,st.length=2 ^ k
 row:∀st∈rows,∀r∈st,r.1.length=n/\r.2<rows.length
def step(rows:Rows)(s l:Nat):List Bool×Nat:=(rows.getD s []).getD l ([],0)
def send(rows:Rows):Nat->List Nat->List Bool×Nat
 | s,[]=>([],s)
 | s,l::r=>((step rows s l).1++(send rows (step rows s l).2 r).1,(send rows (step rows s l).2 r).2)
theorem cA(rows:Rows):∀(a b:List Nat)(s:Nat),send rows s (a++b)=((send rows s a).1++(send rows (send rows s a).2 b).1,(send rows (send rows s a).2 b).2)
 | [],b,s=>rfl
 | l::a,b,s=>by show((step rows s l).1++(send rows (step rows s l).2 (a++b)).1,(send rows (step rows s l).2 (a++b)).2)=_;rw[cA rows a b];simp[send]
theorem step_get{k n:Nat}{rows:Rows}(c:aq k n rows){s l:Nat}(hs:s<rows.length)(hl:l<2 ^ k):∃st,rows[s]? = some st/\st[l]? = some (step rows s l)/\(step rows s l).1.length=n/\(step rows s l).2<rows.length:=by
 have h1:rows[s]? = some rows[s]:=aab hs;have hm:rows[s]∈rows:=aat hs;have Px:l<rows[s].length:=by rw[c.len _ hm];exact hl
 have h2:rows[s][l]? = some rows[s][l]:=aab Px;have e:step rows s l=rows[s][l]:=by
  unfold step;have e1:rows.getD s []=rows[s]:=by rw[aag,h1];rfl
  rw[e1,aag,h2];rfl
 rw[e];have:=c.row _ hm _ (aat Px);exact⟨rows[s],h1,h2,this.1,this.2⟩
theorem bt{k n:Nat}{rows:Rows}(c:aq k n rows):∀(t:List Nat)(s:Nat),s<rows.length->(∀l∈t,l<2 ^ k)->(send rows s t).1.length=n*t.length/\(send rows s t).2<rows.length
 | [],s,hs,_=>⟨by simp[send],hs⟩
 | l::t,s,hs,ht=>by obtain⟨st,_,_,h1,h2⟩:=step_get c hs (ht l aah);obtain⟨h3,h4⟩:=bt c t (step rows s l).2 h2 λx hx=>ht x (aaf _ hx);refine⟨?_,h4⟩;show((step rows s l).1++(send rows (step rows s l).2 t).1).length=_;rw[aal,h1,h3,aax,Nat.mul_add,Nat.mul_one,Nat.add_comm]
def bq(c:List Int):Int:=c.foldl (λa b=>2*a+b) 0
def bN(k:Nat)(l:Int):List Int:=(List.range k).map λi=>l / 2 ^ (k-1-i) % 2
def Bit(b:Int):Prop:=b=0\/b=1
theorem zB{k:Nat}:∀(cs:List (List Int))(i:Nat),(∀c∈cs,c.length=k)->(h:i<cs.length)->(cs.flatten.drop (i*k)).take k=cs[i]
 | [],i,_,h=>by simp at h
 | c::cs,0,hc,h=>by have:c.length=k:=hc c aah;simp[aa8,<-this]
 | c::cs,i+1,hc,h=>by
  have e:c.length=k:=hc c aah;have ih:=zB cs i (λx hx=>hc x (aaf _ hx)) (by simpa using h);rw[aa8,List.drop_append,acu (by rw[e,aby];omega),acX,e];have:(i+1)*k-k=i*k:=by rw[aby];omega
  rw[this,ih];simp
theorem mP{k:Nat}:∀(cs:List (List Int)),(∀c∈cs,c.length=k)->cs.flatten.length=cs.length*k
 | [],_=>by simp
 | c::cs,h=>by rw[aa8,aal,mP cs λx hx=>h x (aaf _ hx),h c aah,aax,aby,Nat.add_comm]
end Om
namespace L2
open PySem PySem.Spec PyProof.Rows
theorem bits_le{i:Int}{k:Nat}(h0:0<=i)(h:i<2 ^ k):((Builtin.Int.intBits i:Nat):Int)<=(k:Int):=by
 unfold Builtin.Int.intBits;by_cases hi:i=0
 ·subst hi;simp
 ·have hb:(i == 0)=false:=by simpa using hi
  rw[hb];simp only[aa9,abX];have hn:i.natAbs≠0:=by omega
  have h2:i.natAbs<2 ^ k:=by
   have e:((i.natAbs:Nat):Int)=i:=by omega
   have:((i.natAbs:Nat):Int)<((2 ^ k:Nat):Int):=by rw[e];simpa using h
   exact_mod_cast this
  have:=(Nat.log2_lt hn).mpr h2;omega
theorem tw_all{α:Type}{p:α->Bool}:∀{l:List α},(∀x∈l,p x=true)->l.takeWhile p=l
 | [],_=>rfl
 | a::l,h=>by rw[List.takeWhile_cons,aaz (h a aah),tw_all λx hx=>h x (aaf _ hx)]
theorem qz(w:List Bool):Txt.stripChars (bs w) ("01" : Str)=bs []:=by
 unfold Txt.stripChars;rw[stripBy_eq];have hg:∀b:Bool,(("01" : Str).cps.contains (sg b))=true:=by intro b;cases b<;>decide +kernel
 have XA:stripLo ("01" : Str).cps.contains true (bs w)=w.length:=by
  unfold stripLo;rw[aaz rfl];have e:(bs w).cps.toList=w.map sg:=by show(w.map sg).toArray.toList=_;simp
  rw[e];have:(w.map sg).takeWhile ("01" : Str).cps.contains=w.map sg:=tw_all λx hx=>by obtain⟨b,_,rfl⟩:=aan.mp hx;exact hg b
  rw[this,aaa]
 rw[XA];show(⟨((w.map sg).toArray).extract w.length _⟩ : Str)=bs [];have:∀j,((w.map sg).toArray).extract w.length j = #[]:=λj=>by apply Array.ext';simp
 rw[this];rfl
theorem rQ(ws:List (List Bool)):Txt.join ("" : Str) (ws.map bs)=bs ws.flatten:=by
 rw[eq_of_beq (join_plain_closes _ _)];have e0:("" : Str)=(⟨#[]⟩ : Str):=by decide +kernel
 rw[e0]
 induction ws with
 | nil=>rfl
 | cons w ws ih=>rw[aaR,join_nil_cons,ih,qu,aa8]
def nY(r:List Bool×Nat):PyData:=.tuple [.str (bs r.1),.int (r.2:Nat)]
def cX(st:List (List Bool×Nat)):PyData:=.list (st.map nY)
def aR(k n:Nat)(rows:Om.Rows):PyData:=.tuple [.int (k:Nat),.int (n:Nat),.list (rows.map cX)]
theorem eK{J:It}{D:Addr}{xs:List V}{ok:Hp->Prop}{te:TE}{Q:Hp->Prop}{v0:Option V}{fr:St}{H:Hp}(IO:tB J xs ok)(f:V->V)(hz:xs.length<=sizeLine)(au:∀o,ok (upd H D o))(hs:∀(i:Nat)(x:V)(ys:List V),xs[i]? = some x->∀C:VK,C (f x) (upd H D (.lst ys))->te (some x::fr) (upd H D (.lst ys)) C)(hd:Q (upd H D (.lst (xs.map f)))):∃W:Nat->Nat->St->Hp->List V->Prop,(∃m,W 0 m (v0::fr) (upd H D (.lst [])) [])/\∀i m τ H2 ys,W i m τ H2 ys->H2 D=some (.lst ys) ∧
   ((J.stop i H2/\Q H2)\/(J.go i H2/\ys.length<sizeLine/\∃N:St->Hp->List V->Prop,(∀nO H' nP,N nO H' nP->∃m',m'<m/\W (i+1) m' nO H' nP)/\∀x H3,J.sS i H2 x H3->aQ 0 x τ H3 λfV H4=>P2 fV H4 λb H5=>
    if b=true then te fV H5 λy H6=>H6 D=some (.lst ys)/\N fV (upd H6 D (.lst (ys++[y]))) (ys++[y])
    else N fV H5 ys)):=by
 refine bE IO (λi τ H2 ys=>(∃v,τ=v::fr)/\H2=upd H D (.lst ys)/\ys=(xs.take i).map f/\i<=xs.length) hz ⟨⟨v0,rfl⟩,rfl,rfl,aaO _⟩ ?_ ?_ ?_
 ·rintro i τ H2 ys hi ⟨_,rfl,rfl,_⟩;exact⟨au _,aa,by simp[aas];omega⟩
 ·rintro i x τ H2 ys hi hx ⟨⟨v,rfl⟩,rfl,rfl,_⟩;refine hs i x _ hx _ ⟨aa,⟨_,rfl⟩,dI,?_,hi⟩;rw[aaL,hx,aao];rfl
 ·rintro τ H2 ys ⟨_,rfl,rfl,_⟩;rw[aaY];exact hd
theorem aN.upd{K:W.Frag}{H:Hp}{a D:Addr}{xs:List V}{o:HO}(h:H a=some (.lst xs))(hD:H D=none):aN K (upd H D o) a xs:=aN.of (ah.upd hD _ _ h)
theorem all_true{α:Type}(l:List α):((l.map λ_=>V.bl true))=(l.map λ_=>true).map V.bl:=by simp
theorem Oe(n:Nat){l:List Bool}(h:∀b∈l,b=true):l.all id=true:=aaZ.mpr λb hb=>h b hb
section
variable{prog:Program}{w:World}{A:Around}{E:Value->Shared->Prop}
theorem pB{it l:Addr}{items:Array Value}(e9:l≠it):∀(n i:Nat)(s:Shared)(Q:List Value->Shared->Prop),s.heap.IsListIter it l i->s.heap.IsList l items->i+n<=items.size → (∀h',h'.IsListIter it l (i+n)->Heap.SameBut it s.heap h'->Q ((items.toList.drop i).take n) { s with heap:=h' })->wpAny (model prog w) A (draw (.ref it) n) Q E s
 | 0,i,s,Q,hit,_,_,hQ=>by show wpAny _ _ (pure []) Q E s;exact aaj (by simpa using hQ s.heap hit (Heap.SameBut.refl ..))
 | n+1,i,s,Q,hit,ht,hle,hQ=>by
  have cT:i<items.size:=by omega
  show wpAny _ _ (pyNext (.ref it) >>= _) Q E s;refine aac (wpAny_pyNext_list_item hit ht (x:=items[i]) (by simp[cT]) λfe jw tN=>?_);refine aac (aa0 (pB e9 n (i+1) _ _ jw (ht.extBut tN.extBut e9) (by omega) λCg NC RA=>aaj ?_));have hd:items.toList.drop i=items[i]::items.toList.drop (i+1):=by simp[List.drop_eq_getElem_cons,cT]
  have:=hQ Cg (by rw[show i+(n+1)=i+1+n by omega];exact NC) (tN.trans RA);rw[hd,adu]at this;exact this
theorem j9{s:Shared}{t:Addr}{items:Array Value}{Q:List Value->Shared->Prop}(hh:A.handled=none)(ht:s.heap.IsList t items)(hQ:∀h',Heap.ExtBut s.heap.objs.size s.heap h'->Q items.toList { s with heap:=h' }):wpAny (model prog w) A (unpackItems (.ref t) items.size none) Q E s:=by
 have cT:t≠s.heap.objs.size:=by obtain⟨o,ho,_⟩:=ht;exact aaD (aam ho)
 unfold unpackItems;refine aac ?_
 ·unfold notIterableAtAll;refine aac (acZ ht.typeIs slot_list_iter.lookup ?_);refine aaj ?_;simp only[aa9,abX];refine aac (aa0 (acK ht ?_));refine aac (aa0 (pB cT items.size 0 _ _ ⟨_,aap _ rfl,rfl,rfl⟩ (ht.push _) (by omega) λfe jw tN=>?_));have Ci:List.take items.size (List.drop 0 items.toList)=items.toList:=by rw[acb];exact aaq (by simp)
  rw[Ci];rw[aar (by simp)];have Rz:fe.IsList t items:=(ht.push _).extBut tN.extBut cT;refine aac (aa0 (wpAny_pyNext_list_end hh jw Rz (by simp) λCg RF=>?_));simp only[Option.isSome_none,aa9,abX];refine aaj (hQ Cg λb o hb e=>RF b o hb (tN.extBut b o hb (aad _ e)))
theorem jg{s:Shared}{env:Env}{elts:List Expr}{x1}{pos:Pos}{t:Addr}{items:Array Value}{Q:Unit->Shared->Prop}(hh:A.handled=none)(ht:s.heap.IsList t items)(hn:(assignEach elts env).length=items.size)(RB:(assignEach elts env).findIdx? (·.1)=none)(h:∀h',Heap.ExtBut s.heap.objs.size s.heap h'->wpAny (model prog w) A (assignInOrder ((assignEach elts env).map (·.2)) items.toList) Q E { s with heap:=h' }):wpAny (model prog w) A (assign (.Tuple elts x1 pos) env (.ref t)) Q E s:=by rw[assign_Tuple];refine aac (acV ?_);unfold unpack;rw[hn,RB];exact aac (aa0 (j9 hh ht h))
end
section
variable{X:Cx}{pos:Pos}
def C2(K:W.Frag)(n:Nat)(t:vF):TG:=λv σ H Q=>match v with
 | .ref a=>∃xs,(H a=some (.tup xs)\/H a=some (.lst xs))/\xs.length=n/\t xs σ H Q
 | _=>False
theorem DX{es:List Expr}{k:Nat}{t:vF}(h:Gf X es t)(hc:X.calm=true:=by kernel_rfl)(cF:(assignEach es X.env).findIdx? (·.1)=none:=by kernel_rfl):PG X (.Tuple es k pos) (C2 X.K (assignEach es X.env).length t):=by
 intro pins s σ H v u Q I r hw;unfold C2 at hw;split at hw
 ·obtain⟨xs,h1|h1,h2,hw⟩:=hw
  ·exact Mm hc h rfl cF pins s σ H _ u Q I r ⟨_,xs,rfl,pQ.of h1,h2,hw⟩
  ·cases r;obtain⟨its,rv,p,hz⟩:=I.list (aN.of h1);refine jg (I.ok.hd hc) p.isList (by simp[<-rv.length,h2]) cF λh' hx=>?_;have I1:Inv X pins σ H { s with heap:=h' }:=I.kept (t':=s.toks) λb o e=>hx b o (aaD (aam e)) e;exact h pins _ σ H xs _ Q I1 (by simpa using rv) hw
 ·exact hw.elim
theorem MN:ck X (compareOp .Is) (λx y H Q=>match x,y with
  | .bl a,.bl b=>Q (.bl (a == b)) H
  | _,_=>False):=by
 intro pins s σ H x y v u Q I rx ry h;split at h
 ·cases rx;cases ry;exact is_bool ⟨.bl _,H,I,rfl,h⟩
 ·exact h.elim
end
section
variable{X:Cx}
def Le(t:TE):TT:=λσ H Q=>t σ H λx H1=>match x with
 | .bl c=>Q c H1
 | .ref p=>∃xs,H1 p=some (.lst xs)/\Q (!xs.isEmpty) H1
 | _=>False
theorem QN{e:Expr}{t:TE}(h:PE X e t)(he:∀whole,isTrue e X.env whole=(do let v <-whole;standAt e.pos;holding [v] (truthy v)):=by intro _;kernel_rfl):PT X e (Le t):=by
 intro pins s σ H Q I hw;refine isTrue_plain (ba (h pins s σ H _ I hw) λv s1 ⟨x,H1,I1,r1,q1⟩=>?_) (he _);refine v8 pins s1 σ H1 x v Q I1 r1 ?_;dsimp only at q1;split at q1
 ·exact⟨_,rfl,q1⟩
 ·obtain⟨xs,h1,q⟩:=q1;exact⟨_,.inl ⟨xs,aN.of h1,rfl⟩,q⟩
 ·exact q1.elim
def Qf:V->Hp->VK->Prop:=λx H Q=>match x with
 | .int i=>Q (.int (-i)) H
 | _=>False
theorem RO{a:Expr}{ta:TE}{pos:Pos}(ha:PE X a ta):PE X (.UnaryOp .USub a pos) (W0 Qf ta):=by
 refine Q5 (λpins s σ H x v Q I rx q=>?_) ha;unfold Qf at q;split at q
 ·exact LV pins s σ H _ v Q I rx ⟨_,rfl,q⟩
 ·exact q.elim
end
theorem Jj(xs:List V)(a b:Nat)(h:a<=b)(hb:b<=xs.length):dm xs (some (a:Int)) (some (b:Int))=(xs.drop a).take (b-a):=by unfold dm;have e1:min a xs.length=a:=acB (by omega);have e2:min b xs.length=b:=acB hb;rw[HT.dO,HT.dO,e1,e2]
section
variable{H:Hp}
def ni(ls:List Nat):List Int:=ls.map λl:Nat=>(l:Int)
theorem bH{cv:V}{k n:Nat}{rows:Om.Rows}(h:DV H cv (aR k n rows)):∃a b ss,cv = .ref a/\H a=some (.tup [.int k,.int n,.ref b])/\H b=some (.lst ss)/\bO H ss (rows.map cX):=by
 obtain⟨a,xs,rfl,ha,hx⟩:=h.dJ;cases hx with
 | cons h1 hx=>
  cases hx with
  | cons h2 hx=>
   cases hx with
   | cons h3 hx=>
    cases hx;obtain rfl:=h1.int_inv;obtain rfl:=h2.int_inv;obtain⟨b,ss,rfl,hb,hs⟩:=h3.lst_inv;exact⟨a,b,ss,rfl,ha,hb,hs⟩
theorem da{ss:List V}{rows:Om.Rows}(h:bO H ss (rows.map cX)){s:Nat}{st:List (List Bool×Nat)}(hs:rows[s]? = some st):∃q rs,ss[s]? = some (.ref q)/\H q=some (.lst rs)/\bO H rs (st.map nY):=by obtain⟨x,hx,d⟩:=h.get (i:=s) (d:=cX st) (by rw[aak,hs];rfl);obtain⟨q,rs,rfl,hq,hr⟩:=d.lst_inv;exact⟨q,rs,hx,hq,hr⟩
theorem ia{rs:List V}{st:List (List Bool×Nat)}(h:bO H rs (st.map nY)){l:Nat}{r:List Bool×Nat}(hl:st[l]? = some r):∃p,rs[l]? = some (.ref p)/\H p=some (.tup [.str (bs r.1),.int (r.2:Nat)]):=by
 obtain⟨x,hx,d⟩:=h.get (i:=l) (d:=nY r) (by rw[aak,hl];rfl);obtain⟨p,xs,rfl,hp,hd⟩:=d.dJ;cases hd with
 | cons h1 hd=>
  cases hd with
  | cons h2 hd=>
   cases hd;obtain rfl:=h1.str_inv;obtain rfl:=h2.int_inv;exact⟨p,hx,hp⟩
end
end L2
namespace Om
def words(rows:Rows):Nat->List Nat->List (List Bool)
 | _,[]=>[]
 | s,l::r=>(step rows s l).1::words rows (step rows s l).2 r
theorem ig(rows:Rows):∀(t:List Nat)(s:Nat),(words rows s t).flatten=(send rows s t).1
 | [],_=>rfl
 | l::t,s=>by rw[words,aa8,ig rows t];rfl
theorem oB(rows:Rows):∀(t:List Nat)(s:Nat),(words rows s t).length=t.length
 | [],_=>rfl
 | l::t,s=>by rw[words,aax,oB rows t,aax]
theorem mU(rows:Rows):∀(t:List Nat)(s l:Nat),words rows s (t++[l])=words rows s t++[(step rows (send rows s t).2 l).1]
 | [],_,_=>rfl
 | x::t,s,l=>by show(step rows s x).1::words rows (step rows s x).2 (t++[l])=_;rw[mU rows t];rfl
theorem cR(rows:Rows)(t:List Nat)(s l:Nat):(send rows s (t++[l])).2=(step rows (send rows s t).2 l).2:=by rw[cA];rfl
end Om
namespace L2
open PySem PySem.Spec PyProof.Rows
section
variable{X:Cx}{x:Str}{p pos:Pos}{e:Expr}{es:List Expr}{t:TA}
def Kk(K:W.Frag):List V->Hp->VK->Prop:=λvs H Q=>match vs with
 | [.ref a]=>∃ys,aN K H a ys/\Q (.int (ys.length:Nat)) H
 | _=>False
theorem zq{aI:Str->Option Value}(hm:aI "len" = none)(hX:X.mg=aI)(ha:PA X (e::es) t)(hg:gB X "len" = true:=by kernel_rfl)(he:starEach (e::es) X.env=(false,eval e X.env)::starEach es X.env:=by kernel_rfl)(hpl:(backTo pos (starEach es X.env)).any (·.1)=false:=by kernel_rfl):PE X (.Call (.Name "len" p) (e::es) [] pos) (kP (Kk X.K) t):=bR (jf.of λxs H Q q=>by
   unfold Kk at q;split at q
   ·obtain⟨ys,h,q⟩:=q;exact⟨_,ys,rfl,.inl h,q⟩
   ·exact q.elim) (aK hg) (by rw[hX];exact hm) PySem.boot_len ha (he:=he) (hpl:=hpl)
def Ko(K:W.Frag):R2:=λx y H Q=>match x,y with
 | .ref a,.int i=>∃ys v,aN K H a ys/\pP ys i=some v/\Q v H
 | _,_=>False
theorem Nx{a b:Expr}{ta tb:TE}(ha:PE X a ta)(hb:PE X b tb)(hs:∀o i,subscripted b false o i=operate [o,i] (getItem o i):=by intro _ _;kernel_rfl):PE X (.Subscript a b pos) (sT (Ko X.K) ta tb):=
 CQ (λvalue slice pins s σ H x y v u Q I rx ry q hs=>zh value slice pins s σ H x y v u Q I rx ry (by
  unfold Ko at q;split at q
  ·obtain⟨ys,z,h1,h2,q⟩:=q;exact⟨_,ys,_,z,rfl,rfl,h1,h2,q⟩
  ·exact q.elim) hs) ha hb hs
end
theorem aN.same{K:W.Frag}{H H':Hp}{a:Addr}{xs:List V}(h:aN K H a xs)(s:ah H H'):aN K H' a xs:=s.seq h
theorem RY:("01" : Str)=bs [false,true]:=by decide +kernel
theorem XT{H:Hp}{r:Int}(h0:0<=r)(h1:r<2):gZ H (.str ("01" : Str)) r=some (.str (bs [decide (r=1)])):=by
 rw[RY];refine gs (ai (aai rfl)) h0 ?_;have:r=0\/r=1:=by omega
 rcases this with rfl|rfl<;>rfl
theorem Off.qv{F:Addr->Prop}{H H':Hp}{p:Addr}{o:HO}(h:Off F H H')(hp:H' p=none):Off F H (upd H' p o):=h.trans (ah.upd hp).off
theorem Off.Hh{F:Addr->Prop}{H H':Hp}{p:Addr}{o:HO}(h:Off F H H')(hp:H p=none):Off F H (upd H' p o):=λb u e n=>by rw[af (aj e hp)];exact h b u e n
theorem qd{t u:TS}{D:Ends}{σ:St}{H:Hp}(M:St->Hp->Prop)(fin:∀aX H',M aX H'->u D aX H')(h:(∀aX H',M aX H'->u D aX H')->t { D with nx:=u D } σ H):gX t u D σ H:=h fin
def WS(ws:List (List Bool)):HO:=.lst (ws.map λw=>V.str (bs w))
theorem vY{ws:List (List Bool)}:(ws.map λw=>V.str (bs w)).length=ws.length:=by simp
theorem C8{ws:List (List Bool)}{i:Nat}{w:List Bool}(h:ws[i]? = some w):(ws.map λw=>V.str (bs w))[i]? = some (.str (bs w)):=by rw[aak,h];rfl
theorem rH:∀{ds:List PyData},(∀d∈ds,d.canLay0=true)->PyData.canLayAll0 ds=true
 | [],_=>rfl
 | d::ds,h=>by rw[PyData.canLayAll0,h d aah,rH λx hx=>h x (aaf _ hx)];rfl
theorem pC{k:Nat}:∀{ds:List PyData},(∀d∈ds,d.depth<=k)->PyData.depthAll ds<=k
 | [],_=>aaO _
 | d::ds,h=>by rw[PyData.depthAll];exact Nat.max_le.mpr ⟨h d aah,pC λx hx=>h x (aaf _ hx)⟩
theorem kx{k:Nat}{ds:List PyData}(h1:∀d∈ds,d.canLay0=true)(h2:∀d∈ds,d.depth<=k)(hk:k<64):SeqAt.shaped (.list ds)=true:=by unfold SeqAt.shaped;rw[aaJ];refine⟨by rw[PyData.canLay0];exact rH h1,aaI ?_⟩;have:=pC h2;rw[PyData.depth];omega
def KG(n:Nat)(t:vF):TG:=λv σ H Q=>match v with
 | .ref a=>∃xs,(H a=some (.tup xs)\/H a=some (.lst xs))/\xs.length=n/\t xs σ H Q
 | _=>False
theorem NF{X:Cx}{pos:Pos}{es:List Expr}{k:Nat}{t:vF}(h:Gf X es t)(hc:X.calm=true:=by kernel_rfl)(cF:(assignEach es X.env).findIdx? (·.1)=none:=by kernel_rfl)(hn:(assignEach es X.env).length=es.length:=by kernel_rfl):PG X (.Tuple es k pos) (KG es.length t):=by
 intro pins s σ H v u Q I r hw;exact DX h hc cF pins s σ H v u Q I r (by
  unfold KG at hw;unfold C2;split at hw
  ·exact hn▸hw
  ·exact hw.elim)
theorem dQ(ns:List Int):SeqAt.shaped (.list (ns.map PyData.int))=true:=by
 refine kx (k:=0) (λd hd=>?_) (λd hd=>?_) (by decide)
 ·obtain⟨n,_,rfl⟩:=aan.mp hd;rfl
 ·obtain⟨n,_,rfl⟩:=aan.mp hd;exact aae _
section
variable{X:Cx}{pins:List (Addr×Obj)}{σ:List (Option V)}{H:Hp}{s:Shared}{h':Heap}
theorem Inv.Hi{t':Nat}{ch:List Addr}(I:Inv X pins σ H s)(sQ:∀b∈ch,lN X pins H b)(k:∀b o,b ∉ ch->s.heap.get? b=some o->h'.get? b=some o):Inv X pins σ H { s with heap:=h',toks:=t' }:=by
 have JR:∀b u,H b=some u->b ∉ ch:=λb u e z=>by rw[(sQ b z).1]at e;cases e
 refine I.step (g':=s.gens) (d':=s.drawn) (ch:=ch) (λb hb=>?_) (λb o _ _ hc e _=>k b o hc e) (λb o _ _ hc e _=>⟨o.slots,k b o hc e⟩) (λ_ _ _ _ n=>n)
  (λb o hc e=>⟨o,k b o hc e⟩) (λ_ _ e=>e) (λ_ _ _ e=>e) (λb ps e=>⟨#[],by rw[e];simp⟩) (λm hm=>?_) (λb u e=>?_) I.bare
 ·obtain⟨_,q1,_,q3,q4,q5⟩:=sQ b hb;exact⟨q3,q1,q4,q5⟩
 ·obtain⟨o,es,ep,ho,r⟩:=hm;exact⟨o,es,ep,k _ o (λz=>(sQ _ z).2.1 rfl) ho,r⟩
 ·refine(I.au b u e).dR (λc v hc q=>k c v ?_ q) (λ_ q=>q) λ_ _ q=>q;rcases hc with z|z
  ·rw[z];exact JR b u e
  ·exact JR c _ z
theorem Inv.Em{t':Nat}{ch:List Addr}{a:Addr}{o':HO}(I:Inv X pins σ H s)(sQ:∀b∈ch,lN X pins H b)(k:∀b o,b ∉ ch->s.heap.get? b=some o->h'.get? b=some o)(hp:s.heap.objs.size<=a)(new:aS X.prog X.w (upd H a o') h' a o'):Inv X pins σ (upd H a o') { s with heap:=h',toks:=t' }:=by
 have JR:∀b u,H b=some u->b ∉ ch:=λb u e z=>by rw[(sQ b z).1]at e;cases e
 have ha:H a=none:=I.au.fresh hp;have na:∀b o,s.heap.get? b=some o->b≠a:=λb o e z=>absurd (aaG (aam e) hp) (by rw[z];exact abm _);refine I.step (g':=s.gens) (d':=s.drawn) (ch:=ch) (λb hb=>?_) (λb o _ _ hc e _=>k b o hc e) (λb o _ _ hc e _=>⟨o.slots,k b o hc e⟩) (λb o _ e n=>by rw[af (na b o e)];exact n)
  (λb o hc e=>⟨o,k b o hc e⟩) (λb xs e=>by rw[af (aj e ha)];exact e) (λb o u e=>by rw[af (aj e ha)];exact e) (λb ps e=>⟨#[],by rw[af (aj e ha),e];simp⟩) (λm hm=>?_) (λb u e=>?_) I.bare
 ·obtain⟨_,q1,_,q3,q4,q5⟩:=sQ b hb;exact⟨q3,q1,q4,q5⟩
 ·obtain⟨o,es,ep,ho,r⟩:=hm;exact⟨o,es,ep,k _ o (λz=>(sQ _ z).2.1 rfl) ho,r⟩
 ·by_cases hb:b=a
  ·subst hb;rw[aa]at e;cases e;exact new
  ·rw[af hb]at e;refine(I.au b u e).dR (λc v hc q=>k c v ?_ q) (λc q=>by rw[af (aj q ha)];exact q) λc xs q=>by rw[af (aj q ha)];exact q
   rcases hc with z|z
   ·rw[z];exact JR b u e
   ·exact JR c _ z
end
def VA(K:W.Frag)(a:Addr):It:=
 ⟨λi H=>∃xs x,aN K H a xs/\xs[i]? = some x,λi H x H'=>∃t y,(∀xs,aN K H a xs->xs[i]? = some y)/\H t=none/\x = .ref t/\H'=upd H t (.tup [.int (i:Nat),y]),λi H=>∃xs,aN K H a xs/\xs.length<=i⟩
theorem Ag{P:Program}{w:World}{K:W.Frag}{es:List Expr}{k:Nat}{pos:Pos}(a it e:Addr)(e9:e≠it):Turn P w K (.Tuple es k pos) (VA K a) [e,it] e (λi h=>(∃old,IsEnum h e it (i:Nat) old)/\h.IsListIter it a i) where
 mem:=by simp
 obj:=λi h st b hb=>by
  obtain⟨⟨old,he⟩,o,ho,c,d⟩:=st;have sY:b=e\/b=it:=by simpa using hb
  rcases sY with rfl|rfl
  ·exact⟨_,he,λv z=>by cases z⟩
  ·exact⟨o,ho,λv z=>by rw[d]at z;cases z⟩
 keep:=λi h h' st k=>⟨let⟨old,he⟩:=st.1;⟨old,k e (by simp) _ he⟩,st.2.at λo e=>k it (by simp) o e⟩
 item:=by
  intro X hP hw hK hc i pins s σ H E I hf st hg;subst hP hw hK;obtain⟨xs,x,hq,hx⟩:=hg;obtain⟨its,rv,p,hz⟩:=I.list hq;obtain⟨u,hu,ru⟩:=rv.get hx;obtain⟨⟨old,he⟩,hit⟩:=st;have Qr:e<s.heap.objs.size:=aam he;have Wq:it<s.heap.objs.size:=by obtain⟨_,x,_⟩:=hit;exact aam x
  have fT:=I.fresh;refine wpAny_pyNext_enum_item he hit p.isList (x:=u) (by simpa using hu) e9 λh' ho zX hT hsz hk=>⟨_,rfl,?_⟩
  refine wpAny_letOwnedTupleGo_enum ho λh2 he2 zH=>?_;have zH:Heap.SameBut e h' h2:=zH;have up:∀b o,b ∉ [e,it]->s.heap.get? b=some o->h2.get? b=some o:=λb o hb ee=>by have h1:b≠e:=λz=>hb (by simp[z]);have K8:b≠it:=λz=>hb (by simp[z]);exact(zH.2 b h1).trans (hk b o h1 K8 ee)
  have OH:h2.get? s.heap.objs.size=some { cls:=.type "tuple",data:=.seq #[.int (i:Nat) s.toks,u] }:=(zH.2 _ (acQ Qr)).trans hT;refine⟨.ref s.heap.objs.size,upd H s.heap.objs.size (.tup [.int (i:Nat),x]),?_,rfl,⟨_,x,λys hy=>by rw[I.uC hy hq];exact hx,fT,rfl,rfl⟩,⟨⟨_,by simpa using he2⟩,zX.at λo y=>(zH.2 it e9.symm).trans y⟩,λb hb=>?_⟩
  ·exact I.Em (t':=s.toks+1) hf up (aae _) ⟨aai rfl,[.int (i:Nat) s.toks,u],.cons ⟨_,rfl⟩ (.cons ru .nil),⟨_,OH,rfl,0,rfl⟩⟩
  ·have sY:b=e\/b=it:=by simpa using hb
   rcases sY with rfl|rfl
   ·rw[af (aaD Qr)];exact(hf _ hb).1
   ·rw[af (aaD Wq)];exact(hf _ hb).1
 done:=by intro X hP hw hK hc i pins s σ H E I hf st hg;subst hP hw hK;obtain⟨xs,hq,hx⟩:=hg;obtain⟨its,rv,p,hz⟩:=I.list hq;have hl:=rv.length;obtain⟨⟨old,he⟩,hit⟩:=st;exact wpAny_pyNext_enum_end (I.ok.hd hc) he hit p.isList (by simp;omega) λh' eb=>⟨rfl,I.Hi (t':=s.toks) hf λb o hb e'=>eb b o (λz=>hb (by simp[z])) e'⟩
 self:=λ_ _ _ _ _ st h=>let⟨_,he⟩:=st.1;wpAny_pyIter_enum he h
section
variable{X:Cx}{p pos P1:Pos}{a b:Expr}{es:List Expr}{tk:Nat}
def Rx(K:W.Frag)(ta:TA):TI:=λσ H R=>ta σ H λvs H1=>match vs with
 | [.ref l]=>(∃xs,aN K H1 l xs)/\R (VA K l) H1
 | _=>False
theorem IL{ta:TA}{aI:Str->Option Value}(hm:aI "enumerate" = none)(hX:X.mg=aI)(ha:PA X [a] ta)(hg:gB X "enumerate" = true:=by kernel_rfl)(hs:starEach [a] X.env=[(false,eval a X.env)]:=by kernel_rfl):PI X (.Tuple es tk P1) (.Call (.Name "enumerate" p) [a] [] pos) (Rx X.K ta):=by
 intro pins s σ H R I h;refine Call_ (jv I (aK hg) (by rw[hX];exact hm) boot_enumerate (abO (ba (ha pos pins s σ H _ I h) λus s1 ⟨vs,H1,I1,r1,q1⟩=>?_) hs rfl));dsimp only at q1;split at q1
 ·rename_i l;obtain⟨⟨xs,hq⟩,q⟩:=q1;obtain⟨u,rfl,r⟩:=vals1 r1;cases r;obtain⟨its,rv,pl,hz⟩:=I1.list hq;refine call_enumerate_list pl.isList λh' hE hI hsz hk=>wpAny_pyIter_enum hE ?_;refine⟨s1.heap.objs.size+1,[s1.heap.objs.size+1,s1.heap.objs.size],_,_,H1,rfl,I1.kept (t':=s1.toks) hk,Ag l s1.heap.objs.size (s1.heap.objs.size+1) (Nat.succ_ne_self _),⟨⟨_,hE⟩,hI⟩,λc hc=>?_,q⟩;have sY:c=s1.heap.objs.size+1\/c=s1.heap.objs.size:=by simpa using hc
  have hle:s1.heap.objs.size<=c:=by rcases sY with rfl|rfl<;>first|exact aae _|exact Nat.le_add_right _ _
  exact I1.pV hle (I1.au.fresh hle)
 ·exact q1.elim
structure LR(J:It)(n:Nat)(row:Nat->List V)(ok:Hp->Prop):Prop where
 stop:∀H,ok H->J.stop n H
 go:∀i H,ok H->i<n->J.go i H
 sS:∀i H x H',ok H->i<n->J.sS i H x H'->∃t,H t=none/\x = .ref t/\H'=upd H t (.tup (row i))
theorem qo{J:It}{n:Nat}{row:Nat->List V}{ok:Hp->Prop}{g:TG}{tb:TS}{D:Ends}{σ:St}{H:Hp}(IO:LR J n row ok)(Pv:Nat->St->Hp->Prop)(h0:Pv 0 σ H)(hl:∀i σ H,i<=n->Pv i σ H->ok H)(hs:∀i t σ H,i<n->Pv i σ H->H t=none->g (.ref t) σ (upd H t (.tup (row i))) λBM H2=>tb { D with nx:=Pv (i+1),ct:=Pv (i+1),bk:=D.nx } BM H2)(hd:∀σ H,Pv n σ H->D.nx σ H):∃W:Nat->Nat->St->Hp->Prop,(∃m,W 0 m σ H)/\∀i m σ H,W i m σ H → (J.stop i H/\D.nx σ H)\/(J.go i H/\∃N:St->Hp->Prop,(∀aX H',N aX H'->∃m',m'<m/\W (i+1) m' aX H')/\∀x H',J.sS i H x H'->g x σ H' λBM H2=>tb { D with nx:=N,ct:=N,bk:=D.nx } BM H2):=by
 refine⟨λi m σ H=>m=n-i/\i<=n/\Pv i σ H,⟨n,by simp,aaO _,h0⟩,?_⟩;rintro i m σ H ⟨rfl,hi,p⟩;have q:=hl i σ H hi p;by_cases cT:i<n
 ·refine .inr ⟨IO.go i H q cT,Pv (i+1),λaX H' p'=>⟨n-(i+1),by omega,rfl,cT,p'⟩,λx H' y=>?_⟩;obtain⟨t,ht,rfl,rfl⟩:=IO.sS i H x H' q cT y;exact hs i t σ _ cT p ht
 ·have e:i=n:=by omega
  subst e;exact .inl ⟨IO.stop H q,hd σ H p⟩
theorem fM(K:W.Frag)(a:Addr)(xs:List V):LR (VA K a) xs.length (λi=>[.int (i:Nat),xs.getD i .bj]) λH=>H a=some (.lst xs):=
 ⟨λH h=>⟨xs,aN.of h,aae _⟩,λi H h hi=>⟨xs,xs[i],aN.of h,by simp[hi]⟩,λi H x H' h hi y=>by
  obtain⟨t,y',hq,ht,e1,e2⟩:=y;have hy:=hq xs (aN.of h);have e3:xs.getD i .bj=y':=by rw[aag,hy];rfl
  exact⟨t,ht,e1,by rw[e2,e3]⟩⟩
end
section
variable{X:Cx}{a b c d e o:Expr}{es:List Expr}{pos apos:Pos}{ta tb tc td te to:TE}
def vO:R2:=λx y H Q=>match y with
 | .bj=>Q (.bl (decide (x = .bj))) H
 | .bl b=>match x with
  | .bl a=>Q (.bl (a == b)) H
  | _=>False
 | _=>False
theorem ML:ck X (compareOp .Is) vO:=(MM.or MN).of λx y H Q q=>by
 unfold vO at q;split at q
 ·exact .inl ⟨rfl,q⟩
 ·split at q
  ·exact .inr q
  ·exact q.elim
 ·exact q.elim
theorem Fc:nM X "str.count" (λx vs H Q=>match x,vs with
  | .str z,[.str y]=>Q (.int (Txt.count z y)) H
  | _,_=>False):=by
 intro pins s σ H x vs v us Q I rx rv h;split at h
 ·obtain⟨t,rfl⟩:=rx;obtain⟨u,rfl,t',rfl⟩:=rv.one;exact SC.count ⟨.int _,H,I.tok _,⟨_,rfl⟩,h⟩
 ·exact h.elim
def Mb:V->List V->Hp->VK->Prop:=λx vs H Q=>match x,vs with
  | .str z,[.str y]=>Q (.int (Txt.count z y)) H
  | _,_=>False
theorem ID{ax:Pos}{t:TA}(ho:PE X o to)(ha:PA X (e::es) t)(bw:attributeBase o "count" X.env (eval o X.env)=eval o X.env:=by kernel_rfl)(eP:((backTo ax (starEach (e::es) X.env)).all (λx=>!x.1)&&(backToKw ax (keywordEach [] X.env)).all (λx=>x.1.isSome) && decide ((e::es).length+([]:List Keyword).length+(if([]:List Keyword).isEmpty then 0 else 1)<30))=true:=by kernel_rfl)(bG:(apos.endLine == ax.line)=true:=by kernel_rfl)(hs:starEach (e::es) X.env=(false,eval e X.env)::starEach es X.env:=by kernel_rfl)(bB:(backTo ax (starEach es X.env)).any (·.1)=false:=by kernel_rfl):PE X (.Call (.Attribute o "count" apos) (e::es) [] ax) (zF "str" Mb to t):=iG abo PySem.F.slot_str_count PySem.F.type_str_count Fc ho ha bw eP bG hs bB
end
abbrev At(a:Addr):Addr->Prop:=λb=>b=a
def gF(H:Hp)(a:Addr):Prop:=∃g b c:Int,H a=some (.lst [.int g,.int b,.int c])
section
variable{H H' G:Hp}{a p:Addr}{o:HO}
theorem gF.same(h:gF H a)(k:ah H H'):gF H' a:=let⟨g,b,c,e⟩:=h;⟨g,b,c,k _ _ e⟩
theorem gF.own(h:gF H a)(hp:p≠a):gF (upd H p o) a:=let⟨g,b,c,e⟩:=h;⟨g,b,c,by rw[af (aa5 hp)];exact e⟩
theorem gF.ne(h:gF H a)(hp:H p=none):p≠a:=λz=>by obtain⟨g,b,c,e⟩:=h;rw[<-z,hp]at e;cases e
theorem gF.new(h:gF H a)(hp:H p=none):gF (upd H p o) a:=h.own (h.ne hp)
theorem Off.yx(h:Off (At a) H H')(d:gF H' a)(hp:H' p=none):H p=none:=by
 cases e:H p with
 | none=>rfl
 | some u=>
  have hf:¬At a p:=d.ne hp;rw[h _ _ e hf]at hp;cases hp
theorem ah.VZ(h:ah G H)(hG:G a=none)(k:Off (At a) H H'):ah G H':=λb u e=>k b u (h b u e) (aj e hG)
theorem ah.own(h:ah G H)(hG:G p=none):ah G (L2.upd H p o):=λb u e=>by rw[af (aj e hG)];exact h b u e
theorem gF.tup{xs:List V}(h:gF H a)(hp:H p=some (.tup xs)):p≠a:=λz=>by obtain⟨g,b,c,e⟩:=h;rw[<-z,hp]at e;cases e
end
def fB:Sp:=λvs H Q _=>match vs with
 | [.ref a,.int many]=>gF H a/\0<many/\many<1073741824/\∀r H',0<=r->r<many->gF H' a->Off (At a) H H'->Q (.int r) H'
 | _=>False
def kW:Sp:=λvs H Q _=>match vs with
 | [.int _,.int n]=>0<=n/\n<=1000/\∀w:List Bool,(w.length:Int)=n->Q (.str (bs w)) H
 | _=>False
structure Gh(G H0 H:Hp)(a:Addr):Prop where
 s:ah G H
 ga:G a=none
 st:gF H a
 o:Off (At a) H0 H
section
variable{G H0 H H':Hp}{a p:Addr}{o:HO}
theorem Gh.take(h:Gh G H0 H a)(d:gF H' a)(k:Off (At a) H H'):Gh G H0 H' a:=⟨h.s.VZ h.ga k,h.ga,d,h.o.trans k⟩
theorem Gh.new(h:Gh G H0 H a)(hp:H p=none):Gh G H0 (upd H p o) a:=h.take (h.st.new hp) (ah.upd hp).off
theorem Gh.C3(h:Gh G H0 H a)(hp:H p=none):G p=none:=h.s.free hp
theorem Gh.yz(h:Gh G H0 H a)(hp:H p=none):H0 p=none:=h.o.yx h.st hp
theorem Gh.ne(h:Gh G H0 H a)(hp:H p=none):p≠a:=h.st.ne hp
theorem Gh.own(h:Gh G H0 H a)(hG:G p=none)(h0:H0 p=none)(hp:p≠a):Gh G H0 (upd H p o) a:=⟨h.s.own hG,h.ga,h.st.own hp,h.o.Hh h0⟩
theorem Gh.grow(h:Gh G H0 H a)(hp:H p=some o)(hn:p≠a):Gh (upd G p o) H0 H a:=by
 refine⟨λb u e=>?_,by rw[af (aa5 hn)];exact h.ga,h.st,h.o⟩;by_cases hb:b=p
 ·subst hb;rw[aa]at e;rw[hp];exact e
 ·rw[af hb]at e;exact h.s b u e
theorem Gh.start(h:gF H a):Gh (λ_=>none) H H a:=⟨λ_ _ e=>(by cases e),rfl,h,Off.refl⟩
end
theorem cz{G:Hp}{p q:Addr}{o:HO}(h:G q=none)(hn:q≠p):upd G p o q=none:=by rw[af hn];exact h
theorem bz{G:Hp}{p q:Addr}{o u:HO}(h:G q=some u)(hn:q≠p):upd G p o q=some u:=by rw[af hn];exact h
def pairD(x:Nat×Nat):PyData:=.tuple [.int (x.1:Nat),.int (x.2:Nat)]
theorem uv{H:Hp}{v:V}{x:Nat×Nat}(h:DV H v (pairD x)):∃p,v = .ref p/\H p=some (.tup [.int (x.1:Nat),.int (x.2:Nat)]):=by
 obtain⟨p,xs,rfl,hp,hd⟩:=h.dJ;cases hd with
 | cons h1 hd=>
  cases hd with
  | cons h2 hd=>
   cases hd;obtain rfl:=h1.int_inv;obtain rfl:=h2.int_inv;exact⟨p,rfl,hp⟩
theorem zc{H:Hp}{p:Addr}{x:Nat×Nat}(h:H p=some (.tup [.int (x.1:Nat),.int (x.2:Nat)])):DV H (.ref p) (pairD x):=.tup h (.cons (.int _) (.cons (.int _) .nil))
structure Gr(G H0 H:Hp)(L:Addr)(vs:List V):Prop where
 s:ah G H
 s0:ah H0 G
 gL:G L=none
 hL:H L=some (.lst vs)
section
variable{G H0 H:Hp}{L p:Addr}{vs:List V}{o:HO}
theorem Gr.all(h:Gr G H0 H L vs):ah H0 H:=h.s0.trans h.s
theorem Gr.ne(h:Gr G H0 H L vs)(hp:H p=none):L≠p:=aj h.hL hp
theorem Gr.new(h:Gr G H0 H L vs)(hp:H p=none):Gr G H0 (upd H p o) L vs:=⟨h.s.trans (ah.upd hp),h.s0,h.gL,bz h.hL (h.ne hp)⟩
theorem Gr.put(h:Gr G H0 H L vs)(hp:H p=none):Gr (upd G p o) H0 (upd H p o) L vs:=by
 have gp:G p=none:=h.s.free hp;refine⟨λb u e=>?_,h.s0.trans (ah.upd gp),cz h.gL (h.ne hp),bz h.hL (h.ne hp)⟩;by_cases hb:b=p
 ·subst hb;rw[aa]at e ⊢;exact e
 ·rw[af hb]at e ⊢;exact h.s b u e
theorem Gr.set{ws:List V}(h:Gr G H0 H L vs):Gr G H0 (upd H L (.lst ws)) L ws:=⟨h.s.own h.gL,h.s0,h.gL,aa⟩
theorem Gr.start(hp:H0 L=none):Gr H0 H0 (upd H0 L (.lst [])) L []:=⟨ah.upd hp,ah.refl _,hp,aa⟩
theorem Gr.up(h:Gr G H0 H L vs)(hp:H p=none):ah G (upd G p o):=ah.upd (h.s.free hp)
end
end L2
namespace Om
theorem take_succ_getD{ls:List Nat}{i:Nat}(h:i<ls.length):ls.take (i+1)=ls.take i++[ls.getD i 0]:=by rw[aaL,aag,aab h];rfl
end Om
namespace L2
open PySem PySem.Spec PyProof.Rows
theorem uP{i:Int}{k:Nat}(h0:0<=i):((Builtin.Int.intBits i:Nat):Int)<=(k:Int)↔i<2 ^ k:=by
 constructor
 ·intro h;unfold Builtin.Int.intBits at h;by_cases hi:i=0
  ·subst hi;have:(0:Nat)<2 ^ k:=Nat.two_pow_pos k
   exact_mod_cast this
  ·have hb:(i == 0)=false:=by simpa using hi
   rw[hb]at h;simp only[aa9,abX]at h;have hn:i.natAbs≠0:=by omega
   have h1:Nat.log2 i.natAbs<k:=by omega
   have h2:=(Nat.log2_lt hn).mp h1;have e:((i.natAbs:Nat):Int)=i:=by omega
   have:((i.natAbs:Nat):Int)<((2 ^ k:Nat):Int):=by exact_mod_cast h2
   rw[e]at this;simpa using this
 ·exact bits_le h0
end L2
namespace L2
open PySem
def dG(K:W.Frag)(x:Str)(st:Stmt):Prop:=∃(f:Addr)(oc:Value)(od an:Option Addr)(fW:Array (Option Value))(kV dc pm cd ct:Value),W.nsIn K mainGlobals x=some (some (.ref f)) ∧
 K.lookup f=some ⟨oc,od,.func (W.fnOf x x (aU st) (ay st) (ae st) .none kV dc pm an cd ct),fW⟩/\W.codeIn K cd x=true/\W.keepIn K (.ref f)=true
theorem dG.mk{K:W.Frag}{x:Str}{st:Stmt}{f:Addr}{oc:Value}{od an:Option Addr}{fW:Array (Option Value)}{kV dc pm cd ct:Value}(a:W.nsIn K mainGlobals x=some (some (.ref f)))(l:K.lookup f=some ⟨oc,od,.func (W.fnOf x x (aU st) (ay st) (ae st) .none kV dc pm an cd ct),fW⟩)(c:W.codeIn K cd x=true)(k:W.keepIn K (.ref f)=true):dG K x st:=⟨f,oc,od,an,fW,kV,dc,pm,cd,ct,a,l,c,k⟩
theorem dG.fnX{K:W.Frag}{h:Heap}{mg:Str->Option Value}{x:Str}{st:Stmt}{ps:List Str}(D:dG K x st)(X:K.In h)(G:h.Ns mainGlobals mg)(hb:∀(kV doc pm:Value)(an:Option Addr)(aA ct:Value)(us:List Value),us.length=ps.length->bindArgs (W.fnOf x x (aU st) (ay st) (ae st) .none kV doc pm an aA ct) ⟨us,[]⟩=pure (ps.zip us)):bX K mg x st ps:=by refine az λak=>?_;obtain⟨f,oc,od,an,fW,kV,dc,pm,cd,ct,h1,h2,h3,h4⟩:=D;refine ak ?_;clear ak;have F:=wZ (st:=st) h2 h3 h4;exact⟨f,_,F,ab7 X G h1,F.binds hb⟩
theorem yn{K:W.Frag}{x z:Str}{v:Value}{tk:Tok}(h:W.nsIn K mainGlobals x=some (some v))(e:v = .str z tk):∃tk,W.nsIn K mainGlobals x=some (some (.str z tk)):=⟨tk,by rw[h,e]⟩
end L2
namespace L2
open PySem PySem.Spec PyProof.Rows
def bJ(i:Int):Str:=Str.ofString (toString i)
section
variable{X:Cx}{p pos:Pos}{e:Expr}{es:List Expr}{t:TA}
def wO:List V->Hp->VK->Prop:=λvs H Q=>match vs with
 | [.int i]=>i.natAbs.log2<1920/\Q (.str (bJ i)) H
 | _=>False
theorem Bl:aH X (.type "str") wO:=sq.of λxs H Q q=>by
 unfold wO at q;split at q
 ·exact⟨_,rfl,q⟩
 ·exact q.elim
theorem NH{aI:Str->Option Value}(hm:aI "str" = none)(hX:X.mg=aI)(ha:PA X (e::es) t)(hg:gB X "str" = true:=by kernel_rfl)(he:starEach (e::es) X.env=(false,eval e X.env)::starEach es X.env:=by kernel_rfl)(hpl:(backTo pos (starEach es X.env)).any (·.1)=false:=by kernel_rfl):PE X (.Call (.Name "str" p) (e::es) [] pos) (kP wO t):=eJ Bl (aK hg) (by rw[hX];exact hm) PyProof.Rows.boot_str ha (he:=he) (hpl:=hpl)
theorem ij:∀{ns:List Int}{us:List Value},Vals (ns.map V.int) us->IntsAre us ns
 | [],us,r=>by cases r;exact .nil
 | n::ns,us,r=>by
  cases r with
  | cons r1 r2=>
   obtain⟨t,rfl⟩:=r1;exact .cons n t (ij r2)
theorem j6:∀{us:List Value}{ns:List Int},IntsAre us ns->Vals (ns.map V.int) us
 | _,_,.nil=>.nil
 | _,_,.cons n t r=>.cons ⟨t,rfl⟩ (j6 r)
def rA:List V->Hp->VK->Prop:=λvs H Q=>match vs with
 | [.ref p]=>∃ns:List Int,H p=some (.lst (ns.map V.int))/\ns.length<64/\∀(l:Addr)(pO:List Int),H l=none->pO.Perm ns->pO.Pairwise (·<=·)->Q (.ref l) (upd H l (.lst (pO.map V.int)))
 | _=>False
theorem sv:aH X (.builtin "sorted") rA:=by
 intro pins s σ H xs us Q I r h;unfold rA at h;split at h
 ·rename_i p;obtain⟨ns,hH,hl,q⟩:=h;obtain⟨u,rfl,r1⟩:=vals1 r;cases r1;obtain⟨z,its,n,rv,e⟩:=I.au p _ hH;have hI:=ij rv;have hlen:its.length=ns.length:=by have:=rv.length;simpa using this.symm
  refine sorted_ints (vs:=its) ⟨_,e,rfl,_,rfl⟩ hI (by omega) λout pO a1 a2 a3=>?_;obtain⟨ep,he⟩:=sortedAll_at s.heap its out;have hz:(pO.map V.int).length<=sizeLine:=by rw[aaa,a2.length_eq];exact ai (by omega)
  refine⟨.ref (s.heap.objs.size+1),upd H (s.heap.objs.size+1) (.lst (pO.map V.int)),I.laid (t':=s.toks) (λb u hb=>sortedAll_old hb) (abW _) ⟨hz,out.toList,ep,j6 a1,?_⟩,rfl,q _ _ (I.au.fresh (abW _)) a2 a3⟩;exact he
 ·exact h.elim
end
theorem eS(a b:Str):(a++b).length=a.length+b.length:=by show(a.cps++b.cps).size=_;simp;rfl
theorem join_le(sep:Str):∀ts:List Str,(Str.join sep ts).length<=(ts.map (·.length)).sum+ts.length*sep.length
 | []=>aaO _
 | [x]=>by show x.length<=_;simp
 | x::y::r=>by have ih:=join_le sep (y::r);rw[show Str.join sep (x::y::r)=x++sep++Str.join sep (y::r)from rfl,eS,eS];simp only[aaR,List.sum_cons,aax,aby]at ih ⊢;omega
theorem Fv(sep:Str)(ts:List Str):(Txt.join sep ts).length<=(ts.map (·.length)).sum+ts.length*sep.length:=by rw[eq_of_beq (join_plain_closes _ _)];exact join_le sep ts
theorem pX{B:Nat}:∀{ts:List Str},(∀t∈ts,t.length<=B)->(ts.map (·.length)).sum<=ts.length*B
 | [],_=>aaO _
 | t::ts,h=>by have ih:=pX (B:=B) (ts:=ts) λx hx=>h x (aaf _ hx);have h0:=h t aah;simp only[aaR,List.sum_cons,aax,aby];omega
theorem eF{i:Nat}(h:i<10):(bJ (i:Int)).length=1:=by
 have:i=0\/i=1\/i=2\/i=3\/i=4\/i=5\/i=6\/i=7\/i=8\/i=9:=by omega
 rcases this with rfl|rfl|rfl|rfl|rfl|rfl|rfl|rfl|rfl|rfl<;>decide +kernel
theorem jX{i:Nat}(h:i<10):((i:Int)).natAbs.log2<1920:=by
 have:i=0\/i=1\/i=2\/i=3\/i=4\/i=5\/i=6\/i=7\/i=8\/i=9:=by omega
 rcases this with rfl|rfl|rfl|rfl|rfl|rfl|rfl|rfl|rfl|rfl<;>decide +kernel
def dU(r:List Bool×Nat):Str:=bs r.1++(">" : Str)++bJ (r.2:Nat)
def bK(st:List (List Bool×Nat)):Str:=Txt.join ("," : Str) (st.map dU)
def eB(k n:Nat)(rows:Om.Rows):Str:=Txt.join (" " : Str) (bJ (k:Nat)::bJ (n:Nat)::rows.map bK)
theorem mF{r:List Bool×Nat}(h1:r.1.length<=6)(h2:r.2<10):(dU r).length<=8:=by
 unfold dU;rw[eS,eS,bg,eF h2];have:(">" : Str).length=1:=by decide +kernel
 omega
theorem mX{st:List (List Bool×Nat)}(h:∀r∈st,r.1.length<=6/\r.2<10)(hl:st.length<=8):(bK st).length<=72:=by
 unfold bK;refine aaM (Fv _ _) ?_;have h1:((st.map dU).map (·.length)).sum<=(st.map dU).length*8:=pX λt ht=>by obtain⟨r,hr,rfl⟩:=aan.mp ht;exact mF (h r hr).1 (h r hr).2
 have h2:("," : Str).length=1:=by decide +kernel
 rw[aaa]at h1;rw[h2,aaa];omega
theorem fL{n:Nat}(h:n<=100000):n<=sizeLine:=aaM h (by decide)
theorem NY(xs:List V)(x:V):dm (xs++[x]) none (some (-1))=xs:=by
 unfold dm;have e1:HT.jh (xs++[x]).length 0 none=0:=rfl;have e2:HT.jh (xs++[x]).length (xs++[x]).length (some (-1))=xs.length:=by unfold HT.jh;simp;omega
 rw[e1,e2];simp
theorem Jk{J:It}{D:Addr}{n:Nat}{row:Nat->List V}{ok:Hp->Prop}{g:TG}{tt:TT}{te:TE}{Q:Hp->Prop}{τ:St}{H:Hp}(IO:LR J n row ok)(Pv:Nat->St->Hp->List V->Prop)(hz:n<=sizeLine)(h0:Pv 0 τ H [])(hl:∀i τ H ys,i<=n->Pv i τ H ys->ok H/\H D=some (.lst ys)/\ys.length<=i)(hs:∀i t τ H ys,i<n->Pv i τ H ys->H t=none->g (.ref t) τ (upd H t (.tup (row i))) λfV H4=>tt fV H4 λb H5=> if b=true then te fV H5 λy H6=>H6 D=some (.lst ys)/\Pv (i+1) fV (upd H6 D (.lst (ys++[y]))) (ys++[y])else Pv (i+1) fV H5 ys)(hd:∀τ H ys,Pv n τ H ys->Q H):∃W:Nat->Nat->St->Hp->List V->Prop,(∃m,W 0 m τ H [])/\∀i m τ H2 ys,W i m τ H2 ys->H2 D=some (.lst ys) ∧
   ((J.stop i H2/\Q H2)\/(J.go i H2/\ys.length<sizeLine/\∃N:St->Hp->List V->Prop,(∀nO H' nP,N nO H' nP->∃m',m'<m/\W (i+1) m' nO H' nP)/\∀x H3,J.sS i H2 x H3->g x τ H3 λfV H4=>tt fV H4 λb H5=>
    if b=true then te fV H5 λy H6=>H6 D=some (.lst ys)/\N fV (upd H6 D (.lst (ys++[y]))) (ys++[y])
    else N fV H5 ys)):=by
 refine⟨λi m τ H ys=>m=n-i/\i<=n/\Pv i τ H ys,⟨n,by simp,aaO _,h0⟩,?_⟩;rintro i m τ H ys ⟨rfl,hi,p⟩;obtain⟨q,hD,hy⟩:=hl i τ H ys hi p;refine⟨hD,?_⟩;by_cases cT:i<n
 ·refine .inr ⟨IO.go i H q cT,by omega,Pv (i+1),λnO H' nP p'=>⟨n-(i+1),by omega,rfl,cT,p'⟩,λx H' y=>?_⟩;obtain⟨t,ht,rfl,rfl⟩:=IO.sS i H x H' q cT y;exact hs i t τ _ ys cT p ht
 ·have e:i=n:=by omega
  subst e;exact .inl ⟨IO.stop H q,hd τ H ys p⟩
section
variable{κ:Type}[DecidableEq κ]
def aG(ag:List (κ×V))(k:κ):Option V:=(ag.find? λkv=>decide (kv.1=k)).map (·.2)
def putK(ag:List (κ×V))(k:κ)(v:V):List (κ×V):=
 if(ag.any λkv=>decide (kv.1=k))=true then ag.map (λkv=>if kv.1=k then(kv.1,v)else kv)else ag++[(k,v)]
theorem Ej{k:κ}:aG ([]:List (κ×V)) k=none:=rfl
theorem bp{p:κ×V}{r:List (κ×V)}{k:κ}(e:p.1=k):aG (p::r) k=some p.2:=by simp[aG,acC,e]
theorem bx{p:κ×V}{r:List (κ×V)}{k:κ}(e:¬p.1=k):aG (p::r) k=aG r k:=by simp[aG,acC,e]
theorem eE(k:κ):∀ag:List (κ×V),(ag.any λkv=>decide (kv.1=k))=(aG ag k).isSome
 | []=>rfl
 | p::r=>by
  rw[adi];by_cases e:p.1=k
  ·simp only[bp e,aaI e,Bool.true_or,Option.isSome_some]
  ·rw[bx e,aaT e,adI];exact eE k r
theorem tT(k j:κ)(y:V):∀ag:List (κ×V),aG (ag.map λkv=>if kv.1=k then(kv.1,y)else kv) j=(aG ag j).map λx=>if j=k then y else x
 | []=>rfl
 | p::r=>by
  have ih:=tT k j y r;rw[aaR];by_cases h:p.1=k
  ·rw[aaz h];by_cases e:p.1=j
   ·rw[bp (p:=(p.1,y)) e,bp e,acD,aaz (e.symm.trans h)]
   ·rw[bx (p:=(p.1,y)) e,bx e,ih]
  ·rw[aar h];by_cases e:p.1=j
   ·rw[bp (p:=p) e,bp e,acD,aar (λz=>h (e.trans z))]
   ·rw[bx (p:=p) e,bx e,ih]
theorem oG(k j:κ)(y:V):∀ag:List (κ×V),aG ag k=none->aG (ag++[(k,y)]) j=if j=k then some y else aG ag j
 | [],_=>by
  by_cases e:k=j
  ·rw[aaz e.symm];exact bp (p:=(k,y)) e
  ·rw[aar (λz=>e z.symm)];exact bx (p:=(k,y)) e
 | p::r,hn=>by
  rw[adf];have hk:¬p.1=k:=λz=>by rw[bp z]at hn;cases hn
  rw[bx hk]at hn;have ih:=oG k j y r hn;by_cases e:p.1=j
  ·rw[bp e,bp e,aar (λz=>hk (e.trans z))]
  ·rw[bx e,bx e,ih]
theorem cZ(ag:List (κ×V))(k j:κ)(y:V):aG (putK ag k y) j=if j=k then some y else aG ag j:=by
 unfold putK;by_cases a:(ag.any λkv=>decide (kv.1=k))=true
 ·rw[aaz a,tT];rw[eE]at a;by_cases e:j=k
  ·obtain⟨x,hx⟩:=ab1.mp a;rw[aaz e,e,hx,acD,aaz rfl]
  ·rw[aar e];cases aG ag j with
   | none=>rfl
   | some x=>rw[acD,aar e]
 ·rw[aar a];refine oG k j y ag ?_;rw[eE]at a;cases q:aG ag k with
  | none=>rfl
  | some x=>rw[q]at a;exact(a rfl).elim
theorem cE(ag:List (κ×V))(k:κ)(v:V):(putK ag k v).length<=ag.length+1:=by
 unfold putK;split
 ·rw[aaa];omega
 ·rw[aal,aax,List.length_nil];omega
theorem um{ag:List (κ×V)}{k:κ}(v:V)(h:aG ag k=none):putK ag k v=ag++[(k,v)]:=by unfold putK;rw[eE,h];exact aar (by decide)
theorem fq.j5{o:Option V}{u:Option Value}(r:fq o u):o.isSome=u.isSome:=by
 cases o with
 | none=>cases u with
  | none=>rfl
  | some _=>exact(show False from r).elim
 | some _=>cases u with
  | none=>exact(show False from r).elim
  | some _=>rfl
theorem KV.val{ag:List (κ×V)}{vs:List (κ×Value)}(r:KV ag vs)(k:κ):fq (aG ag k) (valueAt vs k):=by
 unfold KV at r
 induction r with
 | nil=>exact True.intro
 | @cons p q ps qs h t ih=>
  obtain⟨h1,h2⟩:=h;by_cases e:p.1=k
  ·have e':q.1=k:=h1.symm.trans e;have b:valueAt (q::qs) k=some q.2:=by simp[valueAt,acC,e']
   rw[bp e,b];exact h2
  ·have e':¬q.1=k:=λz=>e (h1.trans z);have b:valueAt (q::qs) k=valueAt qs k:=by simp[valueAt,acC,e']
   rw[bx e,b];exact ih
theorem KV.any{ag:List (κ×V)}{vs:List (κ×Value)}(r:KV ag vs)(k:κ):(ag.any λkv=>decide (kv.1=k))=vs.any λkv=>decide (kv.1=k):=by
 unfold KV at r
 induction r with
 | nil=>rfl
 | cons h t ih=>rw[adi,adi,ih,h.1]
theorem KV.Lm{ag:List (κ×V)}{vs:List (κ×Value)}(r:KV ag vs)(k:κ){y:V}{u:Value}(ry:RelV y u):KV (ag.map λkv=>if kv.1=k then(kv.1,y)else kv) (vs.map λkv=>if kv.1=k then(kv.1,u)else kv):=by
 unfold KV at r ⊢
 induction r with
 | nil=>exact .nil
 | @cons p q ps qs h t ih=>
  rw[aaR,aaR];refine .cons ?_ ih;obtain⟨h1,h2⟩:=h;by_cases e:p.1=k
  ·rw[aaz e,aaz (h1.symm.trans e)];exact⟨h1,ry⟩
  ·rw[aar e,aar (λz=>e (h1.trans z))];exact⟨h1,h2⟩
theorem KV.put{ag:List (κ×V)}{vs:List (κ×Value)}(r:KV ag vs)(k:κ){y:V}{u:Value}(ry:RelV y u):KV (putK ag k y) (stored vs k u):=by
 unfold putK stored;rw[r.any k];by_cases e:(vs.any λkv=>decide (kv.1=k))=true
 ·rw[aaz e,aaz e];exact r.Lm k ry
 ·rw[aar e,aar e];exact Paired.snoc r ⟨rfl,ry⟩
theorem KV.length{ag:List (κ×V)}{vs:List (κ×Value)}(r:KV ag vs):ag.length=vs.length:=ab0 r
end
theorem tM{P:Program}{w:World}{k:Key}{u:Value}(r:RelV (kV k) u):(bh P w).is k u=true:=by
 cases k with
 | inl i=>obtain⟨t,e⟩:=(show ∃t,u=Value.int i t from r);subst e;exact u0 P w i t
 | inr x=>obtain⟨t,e⟩:=(show ∃t,u=Value.str x t from r);subst e;exact uZ P w x t
theorem ph{P:Program}{w:World}:∀{ks:List Key}{us:List Value},Vals (ks.map kV) us->ItemsAre (bh P w) ks us
 | [],_,r=>by rw[acq]at r;cases r;exact .nil
 | k::ks,_,r=>by
  rw[aaR]at r;cases r with
  | cons h t=>exact .cons (tM h) (ph t)
abbrev KT(H:Hp):List (List Key×V)->List (List Key×Addr×Value)->Prop:=Paired λp q=>p.1=q.1/\H q.2.1=some (.tup (p.1.map kV))/\RelV p.2 q.2.2
theorem KT.val{H:Hp}{ag:List (List Key×V)}{xs:List (List Key×Addr×Value)}(r:KT H ag xs)(k:List Key):fq (aG ag k) ((atKey xs k).map (·.2)):=by
 induction r with
 | nil=>exact True.intro
 | @cons p q ps qs h t ih=>
  obtain⟨h1,_,h2⟩:=h;by_cases e:p.1=k
  ·have e':q.1=k:=h1.symm.trans e;have b:atKey (q::qs) k=some q.2:=by simp[atKey,acC,e']
   rw[bp e,b];exact h2
  ·have e':¬q.1=k:=λz=>e (h1.trans z);have b:atKey (q::qs) k=atKey qs k:=by simp[atKey,acC,e']
   rw[bx e,b];exact ih
theorem KT.Lm{H:Hp}{ag:List (List Key×V)}{xs:List (List Key×Addr×Value)}(r:KT H ag xs)(k:List Key){y:V}{u:Value}(ry:RelV y u):KT H (ag.map λkv=>if kv.1=k then(kv.1,y)else kv) (xs.map (putAt k u)):=by
 induction r with
 | nil=>exact .nil
 | @cons p q ps qs h t ih=>
  rw[aaR,aaR];refine .cons ?_ ih;obtain⟨h1,h2,h3⟩:=h;unfold putAt;by_cases e:p.1=k
  ·rw[aaz e,aaz (h1.symm.trans e)];exact⟨h1,h2,ry⟩
  ·rw[aar e,aar (λz=>e (h1.trans z))];exact⟨h1,h2,h3⟩
theorem KT.put{H:Hp}{ag:List (List Key×V)}{xs:List (List Key×Addr×Value)}(r:KT H ag xs)(k:List Key){b:Addr}{y:V}{u:Value}(hb:H b=some (.tup (k.map kV)))(ry:RelV y u):KT H (putK ag k y) (storedH xs k b u):=by
 have e:(ag.any λkv=>decide (kv.1=k))=(atKey xs k).isSome:=by rw[eE,(r.val k).j5,Option.isSome_map]
 unfold putK storedH;rw[e];by_cases q:(atKey xs k).isSome=true
 ·rw[aaz q,aaz q];exact r.Lm k ry
 ·rw[aar q,aar q];exact Paired.snoc r ⟨rfl,hb,ry⟩
theorem KT.keeps{H H':Hp}{ag:List (List Key×V)}{xs:List (List Key×Addr×Value)}(r:KT H ag xs)(ht:∀b ys,H b=some (.tup ys)->H' b=some (.tup ys)):KT H' ag xs:=
 Paired.zT r λ_ _ z=>⟨z.1,ht _ _ z.2.1,z.2.2⟩
section
variable{P:Program}{w:World}{H:Hp}{h:Heap}{a:Addr}
theorem CI{u:HO}(ok:eM P w H h)(e:Rd H a u):aS P w H h a u:=e.ok ok
theorem fw{ag:List (Key×V)}(ok:eM P w H h)(e:Rd H a (.dK ag)):ag.length<=sizeLine/\(a == sysModules)=false/\∃vs,KV ag vs/\h.DictOf (bh P w) a vs:=
 show aS P w H h a (.dK ag)from CI ok e
theorem C4{ag:List (Key×V)}(ok:eM P w H h)(e:H a=some (.dK ag)):ag.length<=sizeLine/\(a == sysModules)=false/\∃vs,KV ag vs/\h.DictOf (bh P w) a vs:=fw ok (.inl e)
theorem qm{ks:List Key}(ok:eM P w H h)(e:H a=some (.tup (ks.map kV))):(tupleKind (bh P w)).is h ks a:=by
 refine az λak=>?_;obtain⟨_,its,r,o,h1,h2,n,h3⟩:=(show aS P w H h a (.tup (ks.map kV))from ok a _ e)
 refine ak ?_;clear ak;exact⟨o,its.toArray,n,h1,h2,h3,by simpa using ph r⟩
theorem lU{ag:List (List Key×V)}(ok:eM P w H h)(e:Rd H a (.dT ag)):ag.length<=sizeLine/\(a == sysModules)=false ∧ ∃xs,KT H ag xs/\h.DictOfH (tupleKind (bh P w)) a xs:=by
 refine az λak=>?_;obtain⟨z,y,xs,r,o,es,ep,h1,h2,h3,h4,h5⟩:=(show aS P w H h a (.dT ag)from CI ok e)
 refine ak ?_;clear ak;refine⟨z,y,xs,r,o,es,ep,h1,h2,h3,h4,λx hx=>?_,h5⟩;have all:∀{l:List (List Key×V)}{m:List (List Key×Addr×Value)},KT H l m->∀x∈m,(tupleKind (bh P w)).is h x.1 x.2.1:=by
  intro l m q
  induction q with
  | nil=>intro x hx;exact nomatch hx
  | @cons p q ps qs hq t ih=>
   intro x hx;rcases aau.mp hx with e|hx
   ·subst e;exact qm ok (by rw[<-hq.1];exact hq.2.1)
   ·exact ih x hx
 exact all r x hx
theorem RT{ag:List (List Key×V)}(ok:eM P w H h)(e:H a=some (.dT ag)):ag.length<=sizeLine/\(a == sysModules)=false ∧ ∃xs,KT H ag xs/\h.DictOfH (tupleKind (bh P w)) a xs:=lU ok (.inl e)
end
def gJ(H:Hp)(a:Addr)(y:V)(r:Option V):Prop:=
 (∃ag k,Rd H a (.dK ag)/\y=kV k/\r=aG ag k)\/∃ag k b,Rd H a (.dT ag)/\y = .ref b/\H b=some (.tup (k.map kV))/\r=aG ag k
def vX(H:Hp)(a:Addr)(y v:V)(H':Hp):Prop:=
 (∃ag k,H a=some (.dK ag)/\y=kV k/\ag.length<sizeLine/\H'=upd H a (.dK (putK ag k v))) ∨
 ∃ag k b,H a=some (.dT ag)/\y = .ref b/\H b=some (.tup (k.map kV))/\ag.length<sizeLine/\H'=upd H a (.dT (putK ag k v))
theorem gJ.k{H:Hp}{a:Addr}{ag:List (Key×V)}{k:Key}(e:H a=some (.dK ag)):gJ H a (kV k) (aG ag k):=.inl ⟨ag,k,.inl e,rfl,rfl⟩
theorem vX.k{H:Hp}{a:Addr}{ag:List (Key×V)}{k:Key}{v:V}(e:H a=some (.dK ag))(hl:ag.length<sizeLine):vX H a (kV k) v (upd H a (.dK (putK ag k v))):=.inl ⟨ag,k,e,rfl,hl,rfl⟩
section
variable{X:Cx}{pins:List (Addr×Obj)}{σ:St}{H:Hp}{s:Shared}{a:Addr}{y v:V}{u r:Value}{o:Option V}{A:Around}{E:Value->Shared->Prop}
theorem Inv.big(I:Inv X pins σ H s):sysModules<s.heap.objs.size:=by have h:mainGlobals<s.heap.objs.size:=(I.mod.glob.keeps I.bk).lt;exact Nat.lt_trans (by decide) h
theorem Bi{Q:Value->Shared->Prop}(hu:A.units+1<cLine)(I:Inv X pins σ H s)(g:gJ H a y (some v))(ry:RelV y u)(h:∀w' s',Inv X pins σ H s'->RelV v w'->Q w' s'):wpAny (model X.prog X.w) A (getItem (.ref a) u) Q E s:=by
 rcases g with⟨ag,k,e,ey,l⟩|⟨ag,k,b,e,ey,eb,l⟩
 ·subst ey;obtain⟨z,hd,vs,rel,dd⟩:=fw I.au e;obtain⟨w',hw,sU⟩:=fq.some_of (v:=v) (o:=valueAt vs k) (by rw[l];exact rel.val k);exact wpAny_getItem_of (tM ry) dd.mapOf hw (h w' _ (I.tok _) sU)
 ·subst ey;cases(show u=Value.ref b from ry);obtain⟨z,hd,xs,rel,dd⟩:=lU I.au e;obtain⟨w',hw,sU⟩:=fq.some_of (v:=v) (o:=(atKey xs k).map (·.2)) (by rw[l];exact rel.val k);obtain⟨p,hp,nG⟩:=aaN.mp hw;refine wpAny_getItem_heap (tupleKind_room_in1 hu) (qm I.au eb) dd hp ?_;rw[nG];exact h w' _ (I.tok _) sU
theorem Ji{Q:Value->Shared->Prop}(hu:A.units+1<cLine)(I:Inv X pins σ H s)(g:gJ H a y o)(ry:RelV y u)(h:∀s',Inv X pins σ H s'->Q (.bool (!o.isSome)) s'):wpAny (model X.prog X.w) A (compareOp .NotIn u (.ref a)) Q E s:=by
 rcases g with⟨ag,k,e,ey,l⟩|⟨ag,k,b,e,ey,eb,l⟩
 ·subst ey;obtain⟨z,hd,vs,rel,dd⟩:=fw I.au e;refine wpAny_notIn_of (tM ry) hd dd.mapOf ?_;rw[<-(rel.val k).j5,<-l];exact h _ (I.tok _)
 ·subst ey;cases(show u=Value.ref b from ry);obtain⟨z,hd,xs,rel,dd⟩:=lU I.au e;refine wpAny_notIn_heap (tupleKind_room_in1 hu) (qm I.au eb) hd dd ?_;have q:=(rel.val k).j5;rw[Option.isSome_map]at q;rw[<-q,<-l];exact h _ (I.tok _)
theorem rP{h':Heap}{t':Nat}{ob:HO}(I:Inv X pins σ H s)(mu:Lb (H a))(hs:Heap.SameBut a s.heap h')(he:∃q,h'.get? a=some q)(new:aS X.prog X.w (upd H a ob) h' a ob):Inv X pins σ (upd H a ob) { s with heap:=h',toks:=t' }:=
 I.write (x:=a) (e:=a) mu (.inl rfl) (λb q hb z=>(hs.2 b hb).trans z) he new
theorem Eb{P:Program}{w:World}{H':Hp}{h':Heap}{ag:List (Key×V)}{vs:List (Key×Value)}(z:ag.length<=sizeLine)(hd:(a == sysModules)=false)(rel:KV ag vs)(dd:h'.DictOf (bh P w) a vs):aS P w H' h' a (.dK ag):=⟨z,hd,vs,rel,dd⟩
theorem Bh{H':Hp}{Q:Unit->Shared->Prop}(hu:A.units+1<cLine)(I:Inv X pins σ H s)(g:vX H a y v H')(ry:RelV y u)(rv:RelV v r)(h:∀s',Inv X pins σ H' s'->Q () s'):wpAny (model X.prog X.w) A (setItem (.ref a) u r) Q E s:=by
 rcases g with⟨ag,k,e,ey,l,eH⟩|⟨ag,k,b,e,ey,eb,l,eH⟩
 ·subst ey eH;obtain⟨z,hd,vs,rel,dd⟩:=C4 I.au e;have hz:vs.length<=sizeLine:=by rw[<-rel.length];exact z
  have hl:(putK ag k v).length<=sizeLine:=by have:=cE ag k v;omega
  refine wpAny_setItem_pairs (hsz:=hz) (tM ry) dd λh' J0 hs=>h _ ?_;have he:∃q,h'.get? a=some q:=let⟨q,_,_,hq,_⟩:=J0;⟨q,hq⟩;exact rP I (by rw[e];exact True.intro) hs he (Eb hl hd (rel.put k rv) J0)
 ·subst ey eH;cases(show u=Value.ref b from ry);obtain⟨z,hd,xs,rel,dd⟩:=RT I.au e;have hz:xs.length<=sizeLine:=by rw[<-ab0 rel];exact z
  have hl:(putK ag k v).length<=sizeLine:=by have:=cE ag k v;omega
  refine wpAny_setItem_heap (hsz:=hz) (tupleKind_room_in1 hu) (qm I.au eb) dd λh' J0 hs=>h _ ?_;refine az λak=>?_;obtain⟨q,es,ep,hq,h2,h3,h4,_,h5⟩:=J0;refine ak ?_;clear ak;refine rP I (by rw[e];exact True.intro) hs ⟨q,hq⟩ ⟨hl,hd,_,(rel.put k eb rv).keeps λc ys ec=>?_,q,es,ep,hq,h2,h3,h4,h5⟩;rw[af (cc ec e (λz=>nomatch z))];exact ec
end
section
variable{X:Cx}{pins:List (Addr×Obj)}{σ:St}{H:Hp}{s:Shared}{a:Addr}{ag:List (Key×V)}{k:Key}{u:Value}{A:Around}{E:Value->Shared->Prop}
theorem Jh{Q:Bool->Shared->Prop}(I:Inv X pins σ H s)(e:Rd H a (.dK ag))(h:∀s',Inv X pins σ H s'->Q (!ag.isEmpty) s'):wpAny (model X.prog X.w) A (truthy (.ref a)) Q E s:=by
 obtain⟨z,hd,vs,rel,dd⟩:=fw I.au e;refine wpAny_truthy_dict hd dd (by rw[<-rel.length];rw[abv]at z;omega) ?_;have q:ag.isEmpty=vs.isEmpty:=by cases rel<;>rfl
 rw[<-q];exact h _ (I.tok _)
end
theorem vb{X:Cx}{pins:List (Addr×Obj)}{σ:St}{H:Hp}{s:Shared}{a:Addr}{y:V}{o:Option V}(I:Inv X pins σ H s)(g:gJ H a y o):s.TypeIs (.ref a) "dict":= by
 rcases g with⟨ag,k,e,_,_⟩|⟨ag,k,b,e,_,_,_⟩
 ·obtain⟨_,_,vs,_,dd⟩:=fw I.au e;exact dd.typeIs
 ·obtain⟨_,_,xs,_,dd⟩:=lU I.au e;exact dd.typeIs
theorem uL{P:Program}{w:World}{H:Hp}(h:Heap)(hb:sysModules<h.objs.size):aS P w H (h.push { cls:=.type "dict",data:=.dict #[] }) h.objs.size (.dK []):=
 ⟨aaO _,abK.mpr (aa5 (aaD hb)),[],.nil,Heap.DictOf.new h⟩
theorem FJ{P:Program}{w:World}{H:Hp}(h:Heap)(hb:sysModules<h.objs.size):aS P w H (h.push { cls:=.type "dict",data:=.dict #[] }) h.objs.size (.dT []):=
 ⟨aaO _,abK.mpr (aa5 (aaD hb)),[],.nil,_,#[],0,aap _ rfl,⟨rfl,rfl,rfl⟩,rfl,rfl,List.nodup_nil⟩
def L4:TE:=λ_ H Q=>∀p,H p=none->Q (.ref p) (upd H p (.dK []))
def L3:TE:=λ_ H Q=>∀p,H p=none->Q (.ref p) (upd H p (.dT []))
section
variable{X:Cx}{pos:Pos}
theorem ur:PE X (.Dict [] [] pos) L4:=λpins s σ H Q I h=>
 wpAny_Dict_empty ⟨.ref s.heap.objs.size,_,I.laid (a:=s.heap.objs.size) (o:=.dK []) (t':=s.toks) (λ_ _ q=>aad _ q) (aae _) (uL s.heap I.big),rfl,h _ (I.au.fresh (aae _))⟩
theorem mI:PE X (.Dict [] [] pos) L3:=λpins s σ H Q I h=>
 wpAny_Dict_empty ⟨.ref s.heap.objs.size,_,I.laid (a:=s.heap.objs.size) (o:=.dT []) (t':=s.toks) (λ_ _ q=>aad _ q) (aae _) (FJ s.heap I.big),rfl,h _ (I.au.fresh (aae _))⟩
end
def wa:List (TE×TE)->St->Hp->(List (V×V)->Hp->Prop)->Prop
 | [],_,H,Q=>Q [] H
 | (tk,tv)::r,σ,H,Q=>tk σ H λx H1=>tv σ H1 λy H2=>wa r σ H2 λps H3=>Q ((x,y)::ps) H3
abbrev VV:List (V×V)->List (Value×Value)->Prop:=Paired λp q=>RelV p.1 q.1/\RelV p.2 q.2
def SV(X:Cx)(pos:Pos)(keys:List (Option Expr))(values:List Expr)(Gk:List (TE×TE)):Prop:=
 ∀(pins:List (Addr×Obj))(s:Shared)(σ:St)(H:Hp)(Q:List (V×V)->Hp->Prop),Inv X pins σ H s->wa Gk σ H Q →
  wpAny (model X.prog X.w) X.A (evalPairs (pairTrees keys values X.env pos)) (λvs s'=>∃ps H',Inv X pins σ H' s'/\VV ps vs/\Q ps H') X.xe s
theorem HF{X:Cx}{pos:Pos}:SV X pos [] [] []:=λpins s σ H Q I h=>pairTrees_nil_walk ⟨[],H,I,.nil,h⟩
theorem EA{X:Cx}{pos:Pos}{k v:Expr}{ks:List (Option Expr)}{vs:List Expr}{tk tv:TE}{Gk:List (TE×TE)}(hk:PE X k tk)(hv:PE X v tv)(hr:SV X pos ks vs Gk):SV X pos (some k::ks) (v::vs) ((tk,tv)::Gk):=λpins s σ H Q I h=>
 pairTrees_cons_walk (ba (hk pins s σ H _ I h) λu s1 ⟨x,H1,I1,rx,q1⟩=>ba (hv pins s1 σ H1 _ I1 q1) λw2 s2 ⟨y,H2,I2,ry,q2⟩=>
  ba (hr pins s2 σ H2 _ I2 q2) λws s3 ⟨ps,H3,I3,rel,q3⟩=>⟨(x,y)::ps,H3,I3,.cons ⟨rx,ry⟩ rel,q3⟩)
def l9(ag more:List (Key×V)):List (Key×V):=more.foldl (λacc kv=>putK acc kv.1 kv.2) ag
theorem KV.merge:∀{more:List (Key×V)}{rs:List (Key×Value)}{ag:List (Key×V)}{vs:List (Key×Value)},KV more rs->KV ag vs->KV (l9 ag more) (merged vs rs):=by
 intro more rs ag vs r;unfold KV at r
 induction r generalizing ag vs with
 | nil=>intro q;exact q
 | @cons p q ps qs h t ih=>
  intro r0;have e:KV (putK ag p.1 p.2) (stored vs q.1 q.2):=by have:=r0.put p.1 h.2;rw[<-h.1];exact this
  exact ih e
theorem gV:∀(more ag:List (Key×V)),(l9 ag more).length<=ag.length+more.length
 | [],ag=>by show ag.length<=ag.length+0;omega
 | p::r,ag=>by have h1:=gV r (putK ag p.1 p.2);have h2:=cE ag p.1 p.2;show(l9 (putK ag p.1 p.2) r).length<=_;rw[aax];omega
theorem nz{P:Program}{w:World}:∀{ag:List (Key×V)}{ws:List (Value×Value)},VV (ag.map λkv=>(kV kv.1,kv.2)) ws->∃rs,Carries (bh P w) ws rs/\KV ag rs
 | [],_,r=>by rw[acq]at r;cases r;exact⟨[],True.intro,.nil⟩
 | p::ag,_,r=>by
  rw[aaR]at r;cases r with
  | @cons a b as bs h t=>
   obtain⟨rs,c,q⟩:=nz (P:=P) (w:=w) t;obtain⟨b1,b2⟩:=b;exact⟨(p.1,b2)::rs,⟨tM h.1,rfl,c⟩,.cons ⟨rfl,h.2⟩ q⟩
def QU(Gk:List (TE×TE)):TE:=λσ H Q=>∀p,H p=none->wa Gk σ (upd H p (.dK [])) λps H2=>H2 p=some (.dK [])/\∃ag:List (Key×V),ps=ag.map (λkv=>(kV kv.1,kv.2))/\ag.length<=15/\Q (.ref p) (upd H2 p (.dK (l9 [] ag)))
theorem HQ{X:Cx}{pos:Pos}{keys:List (Option Expr)}{values:List Expr}{Gk:List (TE×TE)}(h:SV X pos keys values Gk)(Ci:keys.all (·.isSome)=true)(hl:keys.length=values.length)(h0:keys≠[])(Gv:keys.length<=15):PE X (.Dict keys values pos) (QU Gk):=by
 intro pins s σ H Q I q;have hn:=I.au.fresh (aae s.heap.objs.size);have I1:=I.laid (a:=s.heap.objs.size) (o:=.dK []) (h':=s.heap.push { cls:=.type "dict",data:=.dict #[] }) (t':=s.toks) (λ_ _ q=>aad _ q) (aae _) (uL s.heap I.big);refine wpAny_Dict_walk (knd:=bh X.prog X.w) Ci hl h0 Gv (ba (h pins _ σ _ _ I1 (q _ hn)) λws s2 ⟨ps,H2,I2,rel,e,ag,ep,lk,q2⟩=>?_);subst ep;obtain⟨rs,c,rk⟩:=nz (P:=X.prog) (w:=X.w) rel;obtain⟨z,hd,Yi,r0,dd⟩:=C4 I2.au e;cases r0;refine⟨rs,c,dd,λh' J0 hs=>⟨.ref s.heap.objs.size,_,?_,rfl,q2⟩⟩;have hz:(l9 [] ag).length<=sizeLine:=by have h1:=gV ag [];rw[List.length_nil]at h1;rw[abv];omega
 have he:∃q,h'.get? s.heap.objs.size=some q:=let⟨q,_,_,hq,_⟩:=J0;⟨q,hq⟩;exact rP I2 (by rw[e];exact True.intro) hs he (Eb hz hd (rk.merge .nil) J0)
def eN:PyData->String
 | .none=>"NoneType"
 | .bool _=>"bool"
 | .int _=>"int"
 | .str _=>"str"
 | .list _=>"list"
 | .tuple _=>"tuple"
 | .dict _=>"dict"
theorem DV.ty{H:Hp}{v:V}{d:PyData}(h:DV H v d):nR H v=some (eN d):=by
 cases h with
 | bj=>rfl
 | bl b=>rfl
 | int i=>rfl
 | str x=>rfl
 | lst e _=>simp[nR,e,eN]
 | tup e _=>simp[nR,e,eN]
 | BU e=>simp[nR,e,eN]
mutual
def bf:PyData->Bool
 | .str z=>decide (z.length<=1000)
 | .list xs=>decide (xs.length<=1000)&&cQ xs
 | .tuple xs=>decide (xs.length<=1000)&&cQ xs
 | _=>true
def cQ:List PyData->Bool
 | []=>true
 | d::ds=>bf d&&cQ ds
end
theorem bF:∀{ds:List PyData},cQ ds=true↔∀d∈ds,bf d=true
 | []=>by simp[cQ]
 | d::ds=>by rw[cQ,aaJ,bF];simp
theorem mZ{ds:List PyData}(h:bf (.list ds)=true):ds.length<=1000/\∀d∈ds,bf d=true:=by rw[bf,aaJ,aaH,bF]at h;exact h
theorem oQ{ds:List PyData}(h:bf (.tuple ds)=true):ds.length<=1000/\∀d∈ds,bf d=true:=by rw[bf,aaJ,aaH,bF]at h;exact h
theorem Al{z:Str}(h:bf (.str z)=true):z.length<=1000:=by rw[bf,aaH]at h;exact h
namespace Om
def whole:PyData->Bool
 | .int _=>true
 | _=>false
def within(d:PyData)(a b:Int):Bool:=match d with
 | .int i=>decide (a<=i)&&decide (i<=b)
 | _=>false
def jq(d:PyData)(n:Int):Bool:=match d with
 | .str z=>decide ((z.length:Int)=n)&&decide (Txt.stripChars z ("01" : Str)=("" : Str))
 | _=>false
def kn(d:PyData)(n count:Int):Bool:=match d with
 | .tuple [x,y]=>jq x n&&within y 0 (count-1)
 | _=>false
def dM(d:PyData)(k:Nat)(n count:Int):Bool:=match d with
 | .list rs=>decide (rs.length=2 ^ k)&&rs.all λr=>kn r n count
 | _=>false
def intOf:PyData->Int
 | .int i=>i
 | _=>0
def codeOk(d:PyData):Bool:=match d with
 | .tuple [x,y,.list ss]=>within x 1 3&&(within y 1 6&&(decide (1<=ss.length/\ss.length<=8)&&ss.all λs=>dM s (intOf x).toNat (intOf y) (ss.length:Nat)))
 | _=>false
theorem mV{d:PyData}{a b:Int}(h:within d a b=true):∃i,d = .int i/\a<=i/\i<=b:=by
 unfold within at h;split at h
 ·rw[aaJ,aaH,aaH]at h;exact⟨_,rfl,h⟩
 ·exact nomatch h
end Om
def iY:Sp:=λvs H Q _=>match vs with
 | [v]=>∃d,DV H v d/\Q (.bl (Om.whole d)) H
 | _=>False
def eI:Sp:=λvs H Q _=>match vs with
 | [v,.int a,.int b]=>∃d,DV H v d/\Q (.bl (Om.within d a b)) H
 | _=>False
def kX:Sp:=λvs H Q _=>match vs with
 | [v,.int n]=>∃d,DV H v d/\bf d=true/\Q (.bl (Om.jq d n)) H
 | _=>False
def wd:Sp:=λvs H Q _=>match vs with
 | [v,.int n,.int count]=>∃d,DV H v d/\bf d=true/\Q (.bl (Om.kn d n count)) H
 | _=>False
def mh:Sp:=λvs H Q _=>match vs with
 | [v,.int k,.int n,.int count]=>∃d,DV H v d/\bf d=true/\1<=k/\k<=3/\∀H',ah H H'->Q (.bl (Om.dM d k.toNat n count)) H'
 | _=>False
def qQ:Sp:=λvs H Q _=>match vs with
 | [v]=>∃d,DV H v d/\bf d=true/\∀H',ah H H'->Q (.bl (Om.codeOk d)) H'
 | _=>False
theorem ju{H:Hp}{z:Str}(hz:z.length<=sizeLine):nZ H (.str z)=some z.length:=by
 unfold nZ
 first|exact aaz hz|simp[hz]|rfl
theorem GR{c:Bool}{A B:Prop}(hc:c=false)(h:B):if c=true then A else B:=by rw[hc];exact h
theorem bO.iP{H:Hp}{xs:List V}{d:PyData}{ds:List PyData}(h:bO H xs (d::ds)):∃x r,xs=x::r/\DV H x d/\bO H r ds:=by
 cases h with
 | cons h r=>exact⟨_,_,rfl,h,r⟩
theorem bO.nil_inv{H:Hp}{xs:List V}(h:bO H xs []):xs=[]:=by cases h;rfl
section
variable{prog:Program}{w:World}{A:Around}{E:Value->Shared->Prop}{s:Shared}
theorem rK{d:Addr}{ep:Nat}{od:Obj}{es:Array DictEntry}{Q:Value->Shared->Prop}(hd:(d == sysModules)=false)(hT:s.TypeIs (.ref d) "dict")(ho:s.heap.get? d=some od)(dY:od.data = .dict es ep)(hQ:Q (.ref s.heap.objs.size) { s with heap:=s.heap.push { cls:=.type "dict_keyiterator",data:=.fields #[.ref d,.int 0 0,.int es.size 0,.int ep 0] } }):wpAny (model prog w) A (pyIter (.ref d)) Q E s:=by refine wpAny_pyIter_slot hT F.slot_dict_iter (acd F.slot_dict_iter hT F.entry_dict_iter ?_ (F.args_dict_iter_1 _));unfold Builtin.«dict.__iter__» Builtin.Dict.dictSlotNone;refine aac (aac (wpAny_notOrdered_dict hT ?_));refine aaj ?_;show wpAny _ _ (Builtin.Dict.showsAll d >>= _) _ _ s;unfold Builtin.Dict.showsAll;rw[aar (by rw[hd];exact aav)];refine aac (aaj (aac (abG ho dY (aac (adq ho dY ?_)))));refine aac (acJ (aaj ⟨_,rfl,"dict_keyiterator",_,⟨_,aap _ rfl,rfl⟩,F.slot_dict_keyiterator_next.lookup,?_⟩));simpa[rawInt]using hQ
theorem zg{it d:Addr}{i ep:Nat}{od:Obj}{es:Array DictEntry}{e:DictEntry}{Q:Option Value->Shared->Prop}(hit:s.heap.IsKeyIter it d i es.size ep)(Pn:s.heap.get? d=some od)(K3:od.data = .dict es ep)(he:es[i]? = some e)(hQ:∀h',h'.IsKeyIter it d (i+1) es.size ep->Heap.SameBut it s.heap h'->Q (some e.key) { s with heap:=h' }):wpAny (model prog w) A (pyNext (.ref it)) Q E s:=by
 obtain⟨o,ho,hc,hd⟩:=id hit;unfold pyNext;refine aac (wpAny_attempt (ace (name:=Str.ofString "__next__") hit.typeIs abI
  (acd abI hit.typeIs F.entry_dict_keyiterator_next ?_ (F.args_dict_keyiterator_next_1 _))))
 refine aac (aaj (aac (aac ?_)))
 first|refine aac (abE hit.typeIs (aaj ?_))|refine aac (ab4 hit.typeIs (aaj ?_))
 refine aac (wpAny_fieldsOf ho hd ?_);simp only[show Builtin.Dict_items.ownsTuple "dict_keyiterator" = false from by decide,aa9,abX];show wpAny _ _ (if(Value.ref d == Value.none)=true then _ else _) _ _ s;rw[aar (show ¬((Value.ref d == Value.none)=true)from aav)];refine aac (aaj (aac (abG Pn K3 ?_)));rw[aar (by simp)];refine aac (aaj (aac (adq Pn K3 ?_)));rw[aar (by simp)];refine aaj ?_;simp only[show ¬((i:Int)<0)from by omega,abX,abh,he];refine aac ?_
 first|refine aac (abE hit.typeIs (aaj ?_))|refine aac (ab4 hit.typeIs (aaj ?_))
 refine aac (wpAny_isOneOf_keyiter hit.typeIs ?_);show wpAny _ _ (setField (.ref it) 1 (rawInt ((i:Int)+1)) >>= _) _ _ s;refine aac (acN ho hd (by simp) ?_);have zX:(s.heap.update it (Obj.mapFields (·.setIfInBounds 1 (rawInt ((i:Int)+1))))).IsKeyIter it d (i+1) es.size ep:=
  ⟨_,aba _ ho (ac9 (acv hd _)),(Obj.cls_mapFields ..).trans hc,by rw[acv hd];simp[rawInt]⟩
 refine aac (aa0 ?_);refine aac (wpAny_isOneOf_keyiter (s:={ s with heap:=s.heap.update it (Obj.mapFields (·.setIfInBounds 1 (rawInt ((i:Int)+1)))) }) zX.typeIs ?_);show wpAny _ _ (pure e.key) _ _ _;exact aaj (aaj ⟨_,rfl,aaj (hQ _ zX (Heap.SameBut.update ..))⟩)
theorem DS{it d:Addr}{i ep:Nat}{od:Obj}{es:Array DictEntry}{Q:Option Value->Shared->Prop}(hh:A.handled=none)(hit:s.heap.IsKeyIter it d i es.size ep)(Pn:s.heap.get? d=some od)(K3:od.data = .dict es ep)(Gu:es.size<=i)(hQ:∀h',Heap.ExtBut it s.heap h'->Q none { s with heap:=h' }):wpAny (model prog w) A (pyNext (.ref it)) Q E s:=by
 obtain⟨o,ho,hc,hd⟩:=id hit;unfold pyNext;refine aac (wpAny_attempt (ace (name:=Str.ofString "__next__") hit.typeIs abI
  (acd abI hit.typeIs F.entry_dict_keyiterator_next ?_ (F.args_dict_keyiterator_next_1 _))))
 refine aac (aaj (aac (aac ?_)))
 first|refine aac (abE hit.typeIs (aaj ?_))|refine aac (ab4 hit.typeIs (aaj ?_))
 refine aac (wpAny_fieldsOf ho hd ?_);simp only[show Builtin.Dict_items.ownsTuple "dict_keyiterator" = false from by decide,aa9,abX];show wpAny _ _ (if(Value.ref d == Value.none)=true then _ else _) _ _ s;rw[aar (show ¬((Value.ref d == Value.none)=true)from aav)];refine aac (aaj (aac (abG Pn K3 ?_)));rw[aar (by simp)];refine aac (aaj (aac (adq Pn K3 ?_)));rw[aar (by simp)];refine aaj ?_;simp only[show ¬((i:Int)<0)from by omega,abX,abh,Array.getElem?_eq_none Gu];refine aac ?_
 first|refine aac (abE hit.typeIs (aaj ?_))|refine aac (ab4 hit.typeIs (aaj ?_))
 show wpAny _ _ (setField (.ref it) 0 .none >>= _) _ _ s;refine aac (acN ho hd (by simp) ?_);show wpAny _ _ (newExc (.type "StopIteration") [] >>= _) _ _ _;refine aac ?_;simp only[newExc,newTuple];refine aac (acJ ?_ (by size_fits));refine aac (m:=firstArgMember _ _) (wpAny_of_eq (a:=Value.none) (by first|rfl|(simp only[firstArgMember];rfl)) ?_);refine acJ ?_ (by size_fits);simp only[raiseNew];refine aac (wpAny_handled ?_);rw[show A.in1.handled=none from hh];refine aac (aaj (wpAny_throw ?_));refine aac (wpAny_isInstance (T:= "StopIteration") (b:=true) ⟨_,aap _ rfl,rfl⟩ isSubtype_stop ?_);exact aaj (hQ _ (((Heap.SameBut.update ..).extBut.push _).push _))
end
section
variable{X:Cx}{pins:List (Addr×Obj)}{σ:St}{H:Hp}{s:Shared}{a:Addr}{u:HO}{o:Obj}
theorem Inv.freeze(I:Inv X pins σ H s)(e:H a=some u)(mu:Lb (some u))(ho:s.heap.get? a=some o):Inv X pins σ (upd H a (.eA o u)) s:=by
 have GK:∀c y,H c=some (.own y)->c≠a:=λc y r z=>by subst z;rw[r]at e;cases e;exact mu
 have Lv:∀c xs,H c=some (.tup xs)->c≠a:=λc xs r z=>by subst z;rw[r]at e;cases e;exact mu
 exact I.write (t':=s.toks) (h':=s.heap) (x:=a) (e:=a) (by rw[e];exact mu) (.inl rfl) (λ_ _ _ q=>q) ⟨o,ho⟩
  ⟨ho,(I.au a u e).dR (λ_ _ _ q=>q) (λb q=>by rw[af (GK b a q)];exact q) λb xs q=>by rw[af (Lv b xs q)];exact q⟩
theorem Inv.frozen(I:Inv X pins σ H s)(e:H a=some (.eA o u)):s.heap.get? a=some o:=(I.au a _ e).1
theorem Inv.obj(I:Inv X pins σ H s)(e:H a=some u):∃o,s.heap.get? a=some o:=by
 have l:=(I.au a u e).lt;cases u with
 | lst xs=>obtain⟨_,_,_,_,q⟩:=I.au a _ e;exact⟨_,q⟩
 | dK ag=>obtain⟨_,_,_,_,o,_,_,q,_⟩:=I.au a _ e;exact⟨_,q⟩
 | dT ag=>obtain⟨_,_,_,_,o,_,_,q,_⟩:=I.au a _ e;exact⟨_,q⟩
 | tup xs=>obtain⟨_,_,_,o,q,_⟩:=I.au a _ e;exact⟨_,q⟩
 | set S n=>obtain⟨o,_,_,_,q,_⟩:=I.au a _ e;exact⟨_,q⟩
 | ins C dx fs=>obtain⟨_,_,_,q,_⟩:=I.au a _ e;exact⟨_,q⟩
 | own y=>obtain⟨_,q⟩:=I.au a _ e;exact⟨_,q⟩
 | xd fs=>obtain⟨_,⟨_,_,_,q,_⟩,_⟩:=I.au a _ e;exact⟨_,q⟩
 | Oo lo hi=>obtain⟨_,_,_,q⟩:=I.au a _ e;exact⟨_,q⟩
 | eA ob u=>obtain⟨q,_⟩:=I.au a _ e;exact⟨_,q⟩
 | eL ps=>exact⟨_,I.au a _ e⟩
 | met f y=>exact⟨_,I.au a _ e⟩
 | ext φ=>obtain⟨_,q,_⟩:=I.au a _ e;exact q
end
section
variable{X:Cx}{e:Expr}{te:TE}{pos:Pos}
def QR(te:TE):TS:=λD σ H=>te σ H λx H1=>match x with
 | .ref a=>(∃u,H1 a=some u/\Lb (some u)/\∀o,D.rt (.ref a) (upd H1 a (.eA o u)))\/D.rt (.ref a) H1
 | x=>D.rt x H1
theorem qf(he:PE X e te):PS X (.Return (some e) pos) (QR te):=by
 intro pins s σ H D I h;refine wpAny_Return_some (ba (he pins s σ H _ I h) λv s1 ⟨x,H1,I1,r1,q1⟩=>?_);cases x with
 | ref a=>
  rcases q1 with⟨u,e,mu,q⟩|q
  ·obtain⟨o,ho⟩:=I1.obj e;exact⟨.ref a,σ,_,I1.freeze e mu ho,r1,q o⟩
  ·exact⟨.ref a,σ,H1,I1,r1,q⟩
 | _=>exact⟨_,σ,H1,I1,r1,q1⟩
end
abbrev eh(H:Hp):List (List Key×V)->List Addr->Prop:=Paired λp b=>H b=some (.tup (p.1.map kV))
def SY(a:Addr)(o:Obj)(xs:List V):It:=
 ⟨λi H=>i<xs.length/\∃u,H a=some (.eA o u),λi H x H'=>H'=H/\xs[i]? = some x,λi H=>xs.length<=i/\∃u,H a=some (.eA o u)⟩
theorem IK(a:Addr)(o:Obj)(xs:List V):tB (SY a o xs) xs λH=>∃u,H a=some (.eA o u):=
 ⟨λ_ h=>⟨aae _,h⟩,λ_ _ h hi=>⟨hi,h⟩,λ_ _ _ _ _ _ y=>y⟩
theorem oK{P:Program}{w:World}{K:W.Frag}{tg:Expr}{a it:Addr}{o:Obj}{es:Array DictEntry}{ep:Nat}{xs:List V}(hd:o.data = .dict es ep)(rel:Vals xs (es.toList.map (·.key))):Turn P w K tg (SY a o xs) [it] it (λi h=>h.IsKeyIter it a i es.size ep) where
 mem:=by simp
 obj:=λi h st b hb=>by
  have e:b=it:=by simpa using hb
  subst e;obtain⟨o,e,c,d⟩:=st;exact⟨o,e,λv z=>by rw[d]at z;cases z⟩
 keep:=λi h h' st k=>st.at λo e=>k it (by simp) o e
 item:=by
  intro X hP hw hK hc i pins s σ H E I hf st hg;subst hP hw hK;obtain⟨hi,u,hu⟩:=hg;have hx:xs[i]? = some xs[i]:=by simp[hi]
  obtain⟨v,hv,rv⟩:=rel.get hx;obtain⟨e,he,ev⟩ : ∃e,es[i]? = some e/\e.key=v:=by rw[aak]at hv;obtain⟨e,h1,h2⟩:=aaN.mp hv;exact⟨e,by simpa using h1,h2⟩
  obtain⟨f0,f1,f2,f3,f4,f5⟩:=hf it (by simp);refine zg st (I.frozen hu) hd he λh' pN sb=>?_;have I1:Inv X pins σ H { s with heap:=h' }:=I.turned (t':=s.toks) (λb o hb e=>(sb.2 b hb).trans e) f0 f1 f3 f4 f5;refine⟨e.key,rfl,letGo_keyiter pN ⟨xs[i],H,I1,by rw[ev];exact rv,⟨rfl,hx⟩,pN,λb hb=>(hf b hb).1⟩⟩
 done:=by
  intro X hP hw hK hc i pins s σ H E I hf st hg;subst hP hw hK;obtain⟨hi,u,hu⟩:=hg;have hl:es.size<=i:=by have:=rel.length;simp at this;omega
  obtain⟨f0,f1,f2,f3,f4,f5⟩:=hf it (by simp);exact DS (I.ok.hd hc) st (I.frozen hu) hd hl λh' eb=>⟨rfl,I.turned (t':=s.toks) (λb o hb e=>eb b o hb e) f0 f1 f3 f4 f5⟩
 self:=λ_ _ _ _ _ st h=>wpAny_pyIter_keyiter st h
section
variable{X:Cx}{tg:Expr}
def Rv(K:W.Frag)(tl:TE):TI:=λσ H R=>tl σ H λx H1=>match x with
 | .ref a=>((∃xs,aN K H1 a xs)/\R (SX K a) H1)\/(∃o ag,H1 a=some (.eA o (.dT ag))/\∀bs,eh H1 ag bs->R (SY a o (bs.map V.ref)) H1) ∨
   ∃o ag,H1 a=some (.eA o (.dK ag))/\R (SY a o (ag.map λp=>kV p.1)) H1
 | _=>False
theorem uE{H:Hp}{ag:List (List Key×V)}{xs:List (List Key×Addr×Value)}(r:KT H ag xs):eh H ag (xs.map (·.2.1)):=by
 induction r with
 | nil=>exact .nil
 | cons h _ ih=>exact .cons h.2.1 ih
theorem eG{P:Program}{w:World}{ag:List (Key×V)}:∀{es:List DictEntry}{vs:List (Key×Value)},KV ag vs->Pairs (bh P w) es vs->Vals (ag.map λp=>kV p.1) (es.map (·.key)):=by
 intro es vs r q;unfold KV at r
 induction r generalizing es with
 | nil=>cases q;exact .nil
 | @cons p v ps BO h t ih=>
  cases q with
  | cons h1 h2 h3=>
   refine .cons ?_ (ih h3);dsimp only;rw[h.1];rcases aZ h1 with⟨i,t,e1,e2⟩|⟨x,t,e1,e2⟩
   ·rw[e1,e2];exact⟨t,rfl⟩
   ·rw[e1,e2];exact⟨t,rfl⟩
theorem HJ{l:Expr}{tl:TE}(hl:PE X l tl):PI X tg l (Rv X.K tl):=by
 intro pins s σ H R I h;refine ba (hl pins s σ H _ I h) λv s1 ⟨x,H1,I1,r1,q1⟩=>?_;dsimp only at q1;split at q1
 ·rename_i a;cases r1;rcases q1 with⟨⟨xs,hq⟩,q⟩|⟨o,ag,hq,q⟩|⟨o,ag,hq,q⟩
  ·obtain⟨its,rv,p,hz⟩:=I1.list hq;refine acK p.isList ?_;refine⟨s1.heap.objs.size,[s1.heap.objs.size],_,_,H1,rfl,I1.kept (t':=s1.toks) λb o e=>aad _ e,oJ a _,⟨_,aap _ rfl,rfl,rfl⟩,λb hb=>?_,q⟩;have e:b=s1.heap.objs.size:=by simpa using hb
   subst e;exact I1.pV (aae _) (I1.au.fresh (aae _))
  ·have ho:=I1.frozen hq;refine az λak=>?_;obtain⟨_,z,hd,xs,r,o',es,ep,h1,h2,h3,h4,h5⟩:=I1.au a _ hq;refine ak ?_;clear ak;rw[ho]at h1;cases h1;have hT:s1.TypeIs (.ref a) "dict" := let⟨_,_,_,_,dd⟩:=lU I1.au (.inr ⟨o,hq⟩);dd.typeIs;have rel:Vals ((xs.map (·.2.1)).map V.ref) (es.toList.map (·.key)):=by
    rw[h4];clear h4 h5 r
    induction xs with
    | nil=>exact .nil
    | cons x xs ih=>exact .cons rfl ih
   refine rK hd hT ho h3 ?_;refine⟨s1.heap.objs.size,[s1.heap.objs.size],_,_,H1,rfl,I1.kept (t':=s1.toks) λb o e=>aad _ e,oK h3 rel,⟨_,aap _ rfl,rfl,rfl⟩,λb hb=>?_,q _ (uE r)⟩;have e:b=s1.heap.objs.size:=by simpa using hb
   subst e;exact I1.pV (aae _) (I1.au.fresh (aae _))
  ·have ho:=I1.frozen hq;refine az λak=>?_;obtain⟨_,z,hd,vs,r,o',es,ep,h1,h2,h3,h4,h5,h6⟩:=I1.au a _ hq;refine ak ?_;clear ak;rw[ho]at h1;cases h1;have hT:s1.TypeIs (.ref a) "dict" := let⟨_,_,_,_,dd⟩:=fw I1.au (.inr ⟨o,hq⟩);dd.typeIs;refine rK hd hT ho h3 ?_;refine⟨s1.heap.objs.size,[s1.heap.objs.size],_,_,H1,rfl,I1.kept (t':=s1.toks) λb o e=>aad _ e,oK h3 (eG r h5),⟨_,aap _ rfl,rfl,rfl⟩,λb hb=>?_,q⟩;have e:b=s1.heap.objs.size:=by simpa using hb
   subst e;exact I1.pV (aae _) (I1.au.fresh (aae _))
 ·exact q1.elim
end
section
variable{X:Cx}{pos:Pos}
def Kr:R2:=λx y H Q=>∃a v,x = .ref a/\gJ H a y (some v)/\Q v H
def Hw:R2:=λy x H Q=>∃a o,x = .ref a/\gJ H a y o/\Q (.bl (!o.isSome)) H
def Kq:V->V->V->Hp->(Hp->Prop)->Prop:=λo i v H Q=>∃a H',o = .ref a/\vX H a i v H'/\Q H'
theorem IJ(hu:X.A.units+64<cLine):BW X Kr:=by
 intro value slice pins s σ H x y v u Q I rx ry ⟨a,z,ex,g,q⟩ hs;subst ex;obtain rfl:v=Value.ref a:=rx;have hT:=vb I g;unfold subscriptTail;refine aac ?_;rw[getitemInPython_of_ne hT.not_modules];refine aac (acZ hT PySem.F.slot_dict_getitem.lookup ?_);have fin:wpAny (model X.prog X.w) X.A (subscripted slice false (.ref a) u) (λr pS=>wpAny (model X.prog X.w) X.A (letTemporaryGo value (.ref a) r >>= λ_=>pure r) (EP X pins σ Q) X.xe pS) X.xe s:=by rw[hs];exact wpAny_operating (Bi (by omega) I g ry λw' s3 I3 sU=>aac (wpAny_letTemporaryGo (aaj ⟨z,H,I3,sU,q⟩)))
 first
  | exact aaj (aac fin)
  | exact aac (aaj (aac fin))
  | exact aac fin
theorem cO(hu:X.A.units+64<cLine):ck X (compareOp .NotIn) Hw:=by intro pins s σ H y x u v Q I ry rx ⟨a,o,ex,g,q⟩;subst ex;obtain rfl:v=Value.ref a:=rx;exact Ji (by omega) I g ry λs3 I3=>⟨.bl (!o.isSome),H,I3,rfl,q⟩
theorem set_dict(hu:X.A.units+64<cLine):G9 X Kq:=by intro pins s σ H o i v ov iv u Q I ro ri rv ⟨a,H',eo,g,q⟩;subst eo;obtain rfl:ov=Value.ref a:=ro;exact Bh (by omega) I g ri rv λs4 I4=>⟨H',I4,q⟩
def VW:R2:=λx y H Q=>GF x y H Q\/Kr x y H Q
def Q1:V->V->V->Hp->(Hp->Prop)->Prop:=λo i v H Q=>yr o i v H Q\/Kq o i v H Q
theorem ma{a b:Expr}{ta tb:TE}(hu:X.A.units+64<cLine)(ha:PE X a ta)(hb:PE X b tb)(hs:∀o i,subscripted b false o i=operate [o,i] (getItem o i):=by intro _ _;kernel_rfl):PE X (.Subscript a b pos) (sT VW ta tb):=
 CQ (Xn.or (IJ hu)) ha hb hs
theorem jx{o i:Expr}{to ti:TE}(hu:X.A.units+64<cLine)(ho:PE X o to)(hi:PE X i ti)(ha:∀v,assign (.Subscript o i pos) X.env v=(do
   let ov <-holding [v] (eval o X.env);let iv <-holding [v,ov] (eval i X.env)
   standAt pos
   holding [v,ov,iv] (setItem ov iv v)
   release [v,ov,iv] []):=by intro _;kernel_rfl):PG X (.Subscript o i pos) (LJ to ti Q1):=
 DC ho hi (λpins s σ H o i v ov iv u Q I ro ri rv q=>by
  rcases q with q|q
  ·exact P9 pins s σ H o i v ov iv u Q I ro ri rv q
  ·exact set_dict hu pins s σ H o i v ov iv u Q I ro ri rv q) ha
end
section
variable{prog:Program}{w:World}{A:Around}{E:Value->Shared->Prop}{s:Shared}
theorem nA{d:Addr}{o:Obj}{es:Array DictEntry}{ep:Nat}{Q:Bool->Shared->Prop}(hd:(d == sysModules)=false)(hT:s.TypeIs (.ref d) "dict")(ho:s.heap.get? d=some o)(dY:o.data = .dict es ep)(LB:(es.size:Int)<2 ^ 63)(h:Q (decide (es.size≠0)) { s with toks:=s.toks+1+1 }):wpAny (model prog w) A (truthy (.ref d)) Q E s:=by
 have e9:((es.size:Int) != 0)=decide (es.size≠0):=by
  by_cases z:es.size=0
  ·simp[z]
  ·simp[z]
 have Lz:MeetsIn prog w (Builtin.«dict.__len__» ⟨[.ref d],[]⟩) (λ_ R s=>s.heap.get? d=some o/\R (.ok (.ret (.int es.size s.toks))) { s with toks:=s.toks+1 }):=
  .of_wp λA R s ⟨ho,h⟩=>by show wpAny _ _ (dictSize d >>= _) _ _ s;unfold dictSize;refine aac (aac (abG ho dY (aaj ?_)));show wpAny _ _ (Builtin.Dict.pendingCount d >>= _) _ _ s;refine aac (wpAny_pendingCount_other hd ?_);refine wpAny_ret_mkInt ?_;rw[Nat.add_zero];exact h
 have key:wpAny (model prog w) A (runValue (.builtin "len" ⟨[.ref d],[]⟩)) (λr s'=>r = .int es.size (s.toks+1)/\Q (decide (es.size≠0)) s') E s:=by
  refine wpAny_runValue (abU entry_len ?_);rw[acO plain_len _];unfold Builtin.«len»;refine aac (m:=oneArg "len" _) (aaj ?_);refine aac (m:=callSpecial? (.ref d) (Str.ofString "__len__")) (ace (name:=Str.ofString "__len__") hT ads
   (call_meetsIn ads hT F.entry_dict_len (F.args_dict_len_1 _) Lz ⟨ho,?_⟩))
  show wpAny _ _ _ _ _ { s with toks:=s.toks+1 };refine aac (aa0 (aaj ?_));refine aac (wpAny_letGo ?_);show wpAny _ _ (if((es.size:Nat):Int)<0 then _ else _) _ _ _;rw[aar (by omega)];show wpAny _ _ (if((es.size:Nat):Int) ≥ 2 ^ 63 then _ else _) _ _ _;rw[aar (by omega)];exact aac (wpAny_mkInt (aaj ⟨rfl,h⟩))
 unfold truthy
 first
  | refine aac (wpAny_callSpecial?_none (name:=Str.ofString "__bool__") hT noBool_dict ?_)
  | refine aac (aaj (aac (wpAny_callSpecial?_none (name:=Str.ofString "__bool__") hT noBool_dict ?_)))
 first
  | refine aac (acZ (name:=Str.ofString "__len__") hT F.slot_dict_len.lookup ?_)
  | refine aac (aaj (aac (acZ (name:=Str.ofString "__len__") hT F.slot_dict_len.lookup ?_)))
 first
  | exact aac (abd key (λr s' h'=>by obtain⟨rfl,hq⟩:=h';exact aaj (e9▸hq)) λ_ _ e=>e)
  | exact aac (aaj (aac (abd key (λr s' h'=>by obtain⟨rfl,hq⟩:=h';exact aaj (e9▸hq)) λ_ _ e=>e)))
end
section
variable{X:Cx}{pins:List (Addr×Obj)}{σ:St}{H:Hp}{s:Shared}{a:Addr}{A:Around}{E:Value->Shared->Prop}
theorem FN{ag:List (List Key×V)}{Q:Bool->Shared->Prop}(I:Inv X pins σ H s)(e:Rd H a (.dT ag))(h:∀s',Inv X pins σ H s'->Q (!ag.isEmpty) s'):wpAny (model X.prog X.w) A (truthy (.ref a)) Q E s:=by
 obtain⟨z,hd,xs,rel,dd⟩:=lU I.au e;have hT:s.TypeIs (.ref a) "dict" := dd.typeIs;refine az λak=>?_;obtain⟨o,es,ep,h1,h2,h3,h4,_⟩:=dd;refine ak ?_;clear ak;have hl:es.size=ag.length:=by have:=aaX List.length h4;simp at this;rw[this,ab0 rel]
 refine nA hd hT h1 h3 (by rw[hl];rw[abv]at z;omega) ?_;have q:decide (es.size≠0)=!ag.isEmpty:=by rw[hl];cases ag<;>simp
 rw[q];exact h _ ((I.tok _).tok _)
end
section
variable{X:Cx}{pos:Pos}
def CK(_K:W.Frag)(x:V)(H:Hp)(Q:Bool->Hp->Prop):Prop:=match x with
 | .bl c=>Q c H
 | .ref p=>(∃xs,H p=some (.lst xs)/\Q (!xs.isEmpty) H)\/(∃ag,Rd H p (.dK ag)/\Q (!ag.isEmpty) H)\/∃ag,Rd H p (.dT ag)/\Q (!ag.isEmpty) H
 | _=>False
def QQ(K:W.Frag)(t:TE):TT:=λσ H Q=>t σ H λx H1=>CK K x H1 Q
theorem VE{pins:List (Addr×Obj)}{s:Shared}{σ:St}{H:Hp}{x:V}{v:Value}{Q:Bool->Hp->Prop}(I:Inv X pins σ H s)(rx:RelV x v)(q:CK X.K x H Q):wpAny (model X.prog X.w) X.A (truthy v) (λb s'=>∃H',Inv X pins σ H' s'/\Q b H') X.xe s:=by
 unfold CK at q;split at q
 ·exact v8 pins s σ H _ v Q I rx ⟨_,rfl,q⟩
 ·rcases q with⟨xs,h1,q⟩|⟨ag,h1,q⟩|⟨ag,h1,q⟩
  ·exact v8 pins s σ H _ v Q I rx ⟨_,.inl ⟨xs,aN.of h1,rfl⟩,q⟩
  ·obtain rfl:=(show v=Value.ref _ from rx)
   exact Jh I h1 λs' I'=>⟨H,I',q⟩
  ·obtain rfl:=(show v=Value.ref _ from rx)
   exact FN I h1 λs' I'=>⟨H,I',q⟩
 ·exact q.elim
theorem LX{e:Expr}{t:TE}(h:PE X e t)(he:∀whole,isTrue e X.env whole=(do let v <-whole;standAt e.pos;holding [v] (truthy v)):=by intro _;kernel_rfl):PT X e (QQ X.K t):=by intro pins s σ H Q I hw;exact isTrue_plain (ba (h pins s σ H _ I hw) λv s1 ⟨x,H1,I1,r1,q1⟩=>VE I1 r1 q1) (he _)
end
section
variable{X:Cx}{p pos:Pos}{a b e:Expr}{es:List Expr}{t:TA}
def VL(te:TE):TE:=λσ H Q=>te σ H λx H1=>match x with
 | .str z=>z.length<=sizeLine/\Q (.str z) H1
 | .int i=>i.natAbs.log2<1920/\Q (.str (bJ i)) H1
 | _=>False
theorem RQ{te:TE}(h:PE X e te):PE X (.FormattedValue e (-1) none pos) (VL te):=by
 intro pins s σ H Q I q;refine FormattedValue_plain (ba (h pins s σ H _ I q) λu s1 ⟨x,H1,I1,r1,q1⟩=>?_);dsimp only at q1;split at q1
 ·obtain⟨t,rfl⟩:=r1;exact formatField_str (λt' tk=>⟨.str _,H1,I1.tok _,⟨_,rfl⟩,q1.2⟩) q1.1
 ·obtain⟨t,rfl⟩:=r1;exact formatField_int_small q1.1 ⟨.str _,H1,I1.tok _,⟨_,rfl⟩,q1.2⟩
 ·exact q1.elim
def Tw:List TE->Str->TE
 | [],acc=>λ_ H Q=>acc.length<=sizeLine/\Q (.str acc) H
 | t::ts,acc=>λσ H Q=>t σ H λx H1=>match x with
  | .str z=>(acc++z).length<=sizeLine/\Tw ts (acc++z) σ H1 Q
  | _=>False
def PJ(X:Cx)(es:List Expr)(ts:List TE):Prop:=∀(acc:Str)(pins:List (Addr×Obj))(s:Shared)(σ:St)(H:Hp)(Q:VK),Inv X pins σ H s->Tw ts acc σ H Q →
 wpAny (model X.prog X.w) X.A (joinParts acc (evalEach es X.env)) (EP X pins σ Q) X.xe s
theorem Mi:PJ X [] []:=λacc pins s σ H Q I q=>joinParts_nil ⟨.str _,H,I.tok _,⟨_,rfl⟩,q.2⟩ q.1
theorem HI{te:TE}{ts:List TE}(h:PE X e te)(hr:PJ X es ts):PJ X (e::es) (te::ts):=by
 intro acc pins s σ H Q I q;refine joinParts_cons (rest:=evalEach es X.env) (ba (h pins s σ H _ I q) λu s1 ⟨x,H1,I1,r1,q1⟩=>?_);dsimp only at q1;split at q1
 ·obtain⟨t,rfl⟩:=r1;exact⟨q1.1,hr _ pins s1 σ H1 Q I1 q1.2⟩
 ·exact q1.elim
theorem NU{ts:List TE}(h:PJ X (a::b::es) ts):PE X (.JoinedStr (a::b::es) pos) (Tw ts Str.empty):=λpins s σ H Q I q=>JoinedStr_many (h _ pins s σ H Q I q)
end
end L2
namespace Om
abbrev cL:=(Nat×Nat)×(Nat×Nat)
abbrev X3:=Nat->Nat->Prop
def St(rows:Rows)(x y:Nat)(s:cL):Prop:=
 s.1.1<(rows.getD x []).length/\s.1.2<(rows.getD y []).length/\(step rows x s.1.1).1=(step rows y s.1.2).1/\s.2=((step rows x s.1.1).2,(step rows y s.1.2).2)
section
variable{k n:Nat}{rows:Rows}
theorem aq.KO(ok:aq k n rows){p i:Nat}(hi:i<(rows.getD p []).length):p<rows.length/\(step rows p i).1.length=n/\(step rows p i).2<rows.length:=by
 by_cases hp:p<rows.length
 ·have e:rows.getD p []=rows[p]:=by simp[aag,hp]
  rw[e]at hi;have e2:step rows p i=rows[p][i]:=by unfold step;rw[e];simp[aag,hi]
  rw[e2];have:=ok.row _ (aat hp) _ (aat hi);exact⟨hp,this.1,this.2⟩
 ·have:rows.getD p []=[]:=by simp[aag,List.getElem?_eq_none (ab9 hp)]
  rw[this]at hi;simp at hi
end
end Om
namespace L2
open PySem PySem.Spec PyProof.Rows
def kk(p:Nat×Nat):List Key:=[.inl ((p.1:Nat):Int),.inl ((p.2:Nat):Int)]
theorem DR{p q:Nat×Nat}(h:kk p=kk q):p=q:=by
 obtain⟨a,b⟩:=p;obtain⟨c,d⟩:=q;unfold kk at h;simp at h;obtain⟨h1,h2⟩:=h;have:a=c:=by omega
 have:b=d:=by omega
 subst_vars;rfl
structure KD(ks:List (Nat×Nat))(ag:List (List Key×V)):Prop where
 keys:ag.map (·.1)=ks.map kk
 nd:ks.Nodup
 lt:∀p∈ks,p.1<8/\p.2<8
section
variable{ks:List (Nat×Nat)}{ag:List (List Key×V)}{p:Nat×Nat}{v:V}
theorem KD.nil:KD [] []:=⟨rfl,List.nodup_nil,by simp⟩
def C6:List (Nat×Nat):=(List.range 8).flatMap λx=>(List.range 8).map λy=>(x,y)
theorem KD.le(h:KD ks ag):ks.length<=64:=by
 have:ks ⊆ C6:=λp hp=>by obtain⟨h1,h2⟩:=h.lt p hp;unfold C6;rw[List.mem_flatMap];exact⟨p.1,abx.mpr h1,aan.mpr ⟨p.2,abx.mpr h2,rfl⟩⟩
 have:=List.Nodup.length_le_of_subset h.nd this;have e:C6.length=64:=by decide +kernel
 omega
theorem KD.len(h:KD ks ag):ag.length=ks.length:=by have:=aaX List.length h.keys;simpa using this
theorem KD.bC(h:KD ks ag):ag.length<sizeLine:=by rw[h.len,abv];have:=h.le;omega
theorem e7:∀{ag:List (List Key×V)}{k:List Key},(aG ag k).isSome=true↔k∈ag.map (·.1)
 | [],k=>by simp[Ej]
 | q::r,k=>by
  by_cases e:q.1=k
  ·rw[bp e];simp[e]
  ·rw[bx e,e7];simp only[aaR,aau];constructor
   ·exact λh=>.inr h
   ·rintro(h|h)
    ·exact absurd h.symm e
    ·exact h
theorem KD.mem(h:KD ks ag):(aG ag (kk p)).isSome=true↔p∈ks:=by
 rw[e7,h.keys,aan];constructor
 ·rintro⟨q,hq,e⟩;rw[<-DR e];exact hq
 ·exact λh=>⟨p,h,rfl⟩
theorem KD.none(h:KD ks ag)(n:p ∉ ks):aG ag (kk p)=none:=by
 cases e:aG ag (kk p)with
 | none=>rfl
 | some v=>exact absurd (h.mem.mp (by rw[e];rfl)) n
theorem KD.put(h:KD ks ag)(n:p ∉ ks)(l1:p.1<8)(l2:p.2<8):KD (ks++[p]) (putK ag (kk p) v):=by
 rw[um v (h.none n)];refine⟨by simp[h.keys],?_,λq hq=>?_⟩
 ·rw[ac6];refine⟨h.nd,by simp,λa ha b hb=>?_⟩;have:b=p:=by simpa using hb
  subst this;exact λe=>n (e▸ha)
 ·rcases aay.mp hq with hq|hq
  ·exact h.lt q hq
  ·have:q=p:=by simpa using hq
   subst this;exact⟨l1,l2⟩
theorem KD.at(h:KD ks ag){i:Nat}(hi:i<ks.length):∃v,ag[i]? = some (kk ks[i],v):=by
 have bI:i<ag.length:=by rw[h.len];exact hi
 have e:=aaX (λl=>l[i]?) h.keys;simp only[aak,aab hi,aab bI,acD]at e;exact⟨ag[i].2,by rw[aab bI,<-aaw e]⟩
theorem Paired.Qw{α β:Type}{F:α->β->Prop}:∀{Ce:List α}{l₂:List β},Paired F Ce l₂->∀{i:Nat}{a:α},Ce[i]? = some a->∃b,l₂[i]? = some b/\F a b
 | _,_,.nil,_,_,e=>by simp at e
 | _,_,.cons r _,0,_,e=>by simp at e;subst e;exact⟨_,rfl,r⟩
 | _,_,.cons _ t,i+1,_,e=>by obtain⟨b,h1,h2⟩:=Paired.Qw t (i:=i) (by simpa using e);exact⟨b,by simpa using h1,h2⟩
theorem KD.key{H:Hp}{bs:List Addr}(h:KD ks ag)(hb:eh H ag bs){i:Nat}{x:V}(hi:i<ks.length)(hx:(bs.map V.ref)[i]? = some x):∃b,x = .ref b/\H b=some (.tup ((kk ks[i]).map kV)):=by obtain⟨v,hv⟩:=h.at hi;obtain⟨b,h1,h2⟩:=Paired.Qw hb hv;rw[aak,h1]at hx;exact⟨b,(aaw hx).symm,h2⟩
theorem KD.LM{H:Hp}{bs:List Addr}(h:KD ks ag)(hb:eh H ag bs):(bs.map V.ref).length=ks.length:=by rw[aaa,<-ab0 hb,h.len]
end
def sD(s:Om.cL):PyData:=.tuple [pairD s.1,pairD s.2]
def Gy(H:Hp)(l:Addr)(ss:List Om.cL):Prop:=DV H (.ref l) (.list (ss.map sD))
theorem Gy.mono{H H':Hp}{l:Addr}{ss:List Om.cL}(h:Gy H l ss)(s:ah H H'):Gy H' l ss:=(show DV H (.ref l) (.list (ss.map sD))from h).mono s
theorem Dw{H:Hp}{v:V}{s:Om.cL}(h:DV H v (sD s)):∃p a b,v = .ref p/\H p=some (.tup [.ref a,.ref b])/\H a=some (.tup [.int (s.1.1:Nat),.int (s.1.2:Nat)])/\H b=some (.tup [.int (s.2.1:Nat),.int (s.2.2:Nat)]):=by
 obtain⟨p,xs,rfl,hp,hd⟩:=h.dJ;cases hd with
 | cons h1 hd=>
  cases hd with
  | cons h2 hd=>
   cases hd;obtain⟨a,rfl,ha⟩:=uv h1;obtain⟨b,rfl,hb⟩:=uv h2;exact⟨p,a,b,rfl,hp,ha,hb⟩
structure Gd(G H0 H:Hp)(D:Addr)(ag:List (List Key×V)):Prop where
 s:ah G H
 s0:ah H0 G
 gD:G D=none
 hD:H D=some (.dT ag)
section
variable{G H0 H:Hp}{D p:Addr}{ag:List (List Key×V)}{o:HO}
theorem Gd.start(h:H0 D=none):Gd H0 H0 (upd H0 D (.dT [])) D []:=⟨ah.upd h,ah.refl _,h,aa⟩
theorem Gd.all(g:Gd G H0 H D ag):ah H0 H:=g.s0.trans g.s
theorem Gd.put(g:Gd G H0 H D ag)(h:H p=none):Gd (upd G p o) H0 (upd H p o) D ag:=by
 have pD:D≠p:=aj g.hD h;refine⟨λx u e=>?_,g.s0.trans (ah.upd (g.s.free h)),by rw[af pD];exact g.gD,by rw[af pD];exact g.hD⟩;by_cases hx:x=p
 ·subst hx;rw[aa]at e ⊢;exact e
 ·rw[af hx]at e ⊢;exact g.s _ _ e
theorem Gd.up(g:Gd G H0 H D ag)(h:H p=none):ah G (upd G p o):=ah.upd (g.s.free h)
theorem Gd.set{Cf:List (List Key×V)}(g:Gd G H0 H D ag):Gd G H0 (upd H D (.dT Cf)) D Cf:=by refine⟨λx u e=>?_,g.s0,g.gD,aa⟩;have:x≠D:=aj e g.gD;rw[af this];exact g.s _ _ e
theorem Gd.eA{ob:Obj}(g:Gd G H0 H D ag):ah G (upd H D (.eA ob (.dT ag))):=λx u e=>by have:x≠D:=aj e g.gD;rw[af this];exact g.s _ _ e
theorem Gd.call{H':Hp}(g:Gd G H0 H D ag)(s:ah H H'):∃G',Gd G' H0 H' D ag/\ah G G'/\∀x,x≠D->G' x=H' x:=by
 refine⟨λx=>if x=D then none else H' x,⟨λx u e=>?_,λx u e=>?_,aaz rfl,s _ _ g.hD⟩,λx u e=>?_,λx hx=>aar hx⟩
 ·by_cases hx:x=D
  ·rw[aaz hx]at e;cases e
  ·rw[aar hx]at e;exact e
 ·have hx:x≠D:=aj (g.s0 _ _ e) g.gD;show(if x=D then none else H' x)=some u;rw[aar hx];exact s _ _ (g.all _ _ e)
 ·have hx:x≠D:=aj e g.gD;show(if x=D then none else H' x)=some u;rw[aar hx];exact s _ _ (g.s _ _ e)
end
section
variable{X:Cx}{a:Expr}{p pos:Pos}{ta:TA}
def wQ:List V->Hp->VK->Prop:=λvs H Q=>match vs with
 | [.ref p]=>(∃j:Nat,H p=some (.Oo 0 j)/\j<=2 ^ 24/\∀l,H l=none->Q (.ref l) (upd H l (.lst ((List.range j).map λi=>V.int (i:Nat)))))\/rB vs H Q
 | _=>False
theorem yH:∀{xs:List V}{us:List Value},xs.length=us.length->(∀(i:Nat)(x:V)(u:Value),xs[i]? = some x->us[i]? = some u->RelV x u)->Vals xs us
 | [],[],_,_=>.nil
 | [],_::_,h,_=>by simp at h
 | _::_,[],h,_=>by simp at h
 | x::xs,u::us,h,r=>.cons (r 0 x u rfl rfl) (yH (by simpa using h) λi y v h1 h2=>r (i+1) y v (by simpa using h1) (by simpa using h2))
theorem xS{acc:Array Value}{n:Nat}(h:ItemsOf (λi v=>∃t,v = .int (0+(i:Nat)*1) t) acc n):Vals ((List.range n).map λi=>V.int (i:Nat)) acc.toList:=by
 refine yH (by simp[h.1]) λi x u hx hu=>?_;have ZL:acc[i]? = some u:=by simpa using hu
 obtain⟨t,rfl⟩:=h.2 i u ZL;rw[aak]at hx;obtain⟨j,h1,rfl⟩:=aaN.mp hx;have hj:j=i:=by
  have cT:i<n:=by have:=aaB.mp h1;obtain⟨hl,_⟩:=this;simpa using hl
  rw[abL cT]at h1;exact(aaw h1).symm
 subst hj;exact⟨t,by simp⟩
theorem x5(hc:X.calm=true):aH X (.type "list") wQ:=by
 intro pins s σ H xs us Q I r h;unfold wQ at h;split at h
 ·rcases h with⟨j,hp,hj,q⟩|h
  ·obtain⟨u,rfl,rx⟩:=vals1 r;cases rx;obtain⟨t,u,v,e⟩:=I.au _ _ hp;refine call_list_range (I.ok.hd hc) e (small_one (by omega) (by omega) (by omega) (by omega)) (n:=j) (by rw[rangeSize_one];split<;>omega) hj λh' tk dn c' kp e' it=>?_;have hv:=xS it;have hl:((List.range j).map λi=>V.int (i:Nat)).length<=sizeLine:=by rw[aaa,aaK,abv];omega
   exact⟨.ref s.heap.objs.size,_,I.laid (t':=tk) kp (aae _) (show aS X.prog X.w _ h' _ (.lst _)from⟨hl,dn.toList,c',hv,by simpa using e'⟩),rfl,q _ (I.au.fresh (aae _))⟩
  ·exact xZ pins s σ H _ us Q I r h
 ·exact h.elim
end
structure Lt(H H':Hp):Prop where
 l:∀a xs,H a=some (.lst xs)->H' a=some (.lst xs)
 t:∀a xs,H a=some (.tup xs)->H' a=some (.tup xs)
 d:∀a,H a=some (.dK [])->H' a=some (.dK [])
mutual
theorem DV.lt{H H':Hp}(k:Lt H H'):∀{v:V}{d:PyData},DV H v d->DV H' v d
 | _,_,.bj=>.bj
 | _,_,.bl b=>.bl b
 | _,_,.int i=>.int i
 | _,_,.str x=>.str x
 | _,_,.lst h r=>.lst (k.l _ _ h) (bO.lt k r)
 | _,_,.tup h r=>.tup (k.t _ _ h) (bO.lt k r)
 | _,_,.BU h=>.BU (k.d _ h)
theorem bO.lt{H H':Hp}(k:Lt H H'):∀{vs:List V}{ds:List PyData},bO H vs ds->bO H' vs ds
 | _,_,.nil=>.nil
 | _,_,.cons h r=>.cons (DV.lt k h) (bO.lt k r)
end
theorem Lt.but{H G:Hp}{D:Addr}{ag:List (List Key×V)}(hD:H D=some (.dT ag))(h:∀x,x≠D->G x=H x):Lt H G:=
 ⟨λa xs e=>by rw[h a (cc e hD (λz=>nomatch z))];exact e,λa xs e=>by rw[h a (cc e hD (λz=>nomatch z))];exact e,λa e=>by rw[h a (cc e hD (λz=>nomatch z))];exact e⟩
end L2
namespace Om
abbrev Rw:=List Nat×List Bool×Nat
end Om
namespace L2
open PySem PySem.Spec PyProof.Rows
section
variable{prog:Program}{w:World}{A:Around}{E:Value->Shared->Prop}{s:Shared}
theorem Af(hh:A.handled=none)(I d:Addr)(e9:d≠I){od:Obj}{es:Array DictEntry}{ep:Nat}(dY:od.data = .dict es ep):Walks prog w A I [I,d] [I] es.size (λi v=>∃e,es[i]? = some e/\v=e.key) (λi h=>h.IsKeyIter I d i es.size ep/\h.get? d=some od) where
 sub:=λb hb=>by simp at hb;simp[hb]
 frame:=λ_ _ _ st hk=>⟨st.1.at λo e=>hk I (by simp) o e,hk d (by simp) _ st.2⟩
 item:=λi s Q E hi st hQ=>by
  have he:es[i]? = some es[i]:=by simp[hi]
  refine zg st.1 st.2 dY he λh' zX Oy=>?_;exact hQ _ h' s.toks ⟨_,he,rfl⟩ ⟨zX,Oy.extBut d _ e9 st.2⟩ λb o hb e=>Oy.extBut b o (λh=>hb (by simp[h])) e
 done:=λs Q E st hQ=>DS hh st.1 st.2 dY (aae _) λh' UC=>hQ h' s.toks λb o hb e=>UC b o (λh=>hb (by simp[h])) e
 self:=λ_ _ _ _ st hQ=>wpAny_pyIter_keyiter st.1 hQ
theorem Bb{d:Addr}{Q:Bool->Shared->Prop}(hT:s.TypeIs (.ref d) "dict")(h:Q false s):wpAny (model prog w) A (Builtin.List.listLengthHint (.ref d)) Q E s:=by
 unfold Builtin.List.listLengthHint;refine aac (acZ hT F.slot_dict_len.lookup ?_);generalize K2:("dict.__len__" : String)=Zv
 wp_delta
 rw[show splitId Zv=some ("dict","__len__")from by subst K2;decide +kernel];subst K2;refine aac (wpAny_isInstance (T:= "dict") (b:=true) hT (by rw[isSubtype_type];kernel_rfl) ?_);refine wpAny_ite_split (λPD=>absurd PD (by decide)) (λ_=>?_);refine wpAny_ite_split (λ_=>?_) (λPD=>absurd (by decide +kernel) PD);refine aac (wpAny_typeOf (T:= "dict") hT ?_);exact aaj h
theorem kC{R:Result->Shared->Prop}{d:Addr}{od:Obj}{es:Array DictEntry}{ep:Nat}(hh:A.handled=none)(hd:(d == sysModules)=false)(hT:s.TypeIs (.ref d) "dict")(ho:s.heap.get? d=some od)(dY:od.data = .dict es ep)(hlen:es.size<=sizeLine)(S:Addr)(res:Value)(c₀:Nat)(hS:s.heap.get? S=some { cls:=.type "list",data:=.seq #[] c₀ })(hR:∀h' tk dn c',(∀b o,b≠S->s.heap.get? b=some o->h'.get? b=some o)->h'.get? S=some { cls:=.type "list",dict:=none,data:=.seq dn c',slots:=#[] } → ItemsOf (λi v=>∃e,es[i]? = some e/\v=e.key) dn es.size->R (.ok (.ret res)) { s with heap:=h',toks:=tk }):wpAny (model prog w) A.in1 (Builtin.List.listExtendWith (.ref S) (.ref d) res)
   (λfin s'=>match fin with | .done f=>R (.ok f) s' | .again c'=>c'.quiet=true/\codeAny (model prog w) A c' R s') (λe s'=>R (.error e) s') s:=by
 have OI:S≠d:=λe=>by rw[e,ho]at hS;cases hS;cases dY
 have Wu:S<s.heap.objs.size:=aam hS;have UK:S≠s.heap.objs.size:=aaD Wu;have hdI:d≠s.heap.objs.size:=aaD (aam ho);have SG:S ∉ [s.heap.objs.size,d]:=λhm=>by simp at hm;rcases hm with h|h;exact UK h;exact OI h
 have W:=(Af (prog:=prog) (w:=w) (A:=A.in1) hh s.heap.objs.size d hdI dY).toS;unfold Builtin.List.listExtendWith;refine aac (wpAny_typeOf (T:= "dict") hT ?_);have h1:Builtin.List.listSameRef (.ref S) (.ref d)=false:=by simp[Builtin.List.listSameRef,OI]
 have h2:(Value.type "dict" == Value.type "list")=false:=by decide
 have h3:(Value.type "dict" == Value.type "tuple")=false:=by decide
 simp only[h1,h2,h3,Bool.or_false,aa9,abX];refine aac (rK hd hT ho dY ?_);have JX:(⟨s.heap.push { cls:=.type "dict_keyiterator",data:=.fields #[.ref d,.int 0 0,.int es.size 0,.int ep 0] },s.gens,s.drawn,s.toks,s.os⟩ : Shared).TypeIs (.ref d) "dict" := by obtain⟨o,e1,e2⟩:=hT;exact⟨o,aad _ e1,e2⟩
 refine aac (aa0 (Bb JX ?_));have jw:(s.heap.push { cls:=.type "dict_keyiterator",data:=.fields #[.ref d,.int 0 0,.int es.size 0,.int ep 0] }).IsKeyIter s.heap.objs.size d 0 es.size ep:=⟨_,aap _ rfl,rfl,rfl⟩
 have tO:=aad { cls:=.type "dict_keyiterator",data:=.fields #[.ref d,.int 0 0,.int es.size 0,.int ep 0] } hS;have Ky:=aad { cls:=.type "dict_keyiterator",data:=.fields #[.ref d,.int 0 0,.int es.size 0,.int ep 0] } ho;have key:∀(h:Heap)(c₁ tk:Nat),h.IsKeyIter s.heap.objs.size d 0 es.size ep->h.get? d=some od->(∀b o,b≠S->s.heap.get? b=some o->h.get? b=some o) →
   h.get? S=some { cls:=.type "list",data:=.seq #[] c₁ }->codeAny (model prog w) A (.builtin "list.extend.loop" ⟨[.ref S,.ref s.heap.objs.size,res],[]⟩) R { s with heap:=h,toks:=tk }:=by
  intro h c₁ tk hit K3 hk tO;refine codeAny_extend_loopS W hlen S SG res es.size 0 _ #[] c₁ rfl (aaO _) ⟨hit,K3⟩ tO (ItemsOf.nil _) λs' dn c' hm OK Cj=>?_;rw[Moved.eq_with hm];refine hR s'.heap s'.toks dn c' (λb o hb e=>hm.heap b o (λtq=>?_) (hk b o hb e)) OK Cj;rcases aau.mp tq with e'|tq
  ·exact hb e'
  ·exact absurd (aam e) (by rw[aaA.mp tq];exact abm _)
 refine wpAny_ite_split (λ_=>?_) (λ_=>aaj ⟨plainId_quiet F.plain_extend_loop _,key _ c₀ _ jw Ky (λb o _ e=>aad _ e) tO⟩);refine aac (wpAny_rule ?_);refine aac ?_;show wpAny _ _ (updateSeq S (·.push .none) >>= λ_=>updateSeq S (·.pop)) _ _ _;refine aac (wpAny_updateSeq tO rfl ?_);have yu:=aba (Obj.mapSeq (·.push Value.none)) tO rfl;refine wpAny_updateSeq (hz:=by seq_fits) yu rfl ?_;have RH:=aba (Obj.mapSeq (·.pop)) yu rfl;refine aaj ⟨plainId_quiet F.plain_extend_loop _,key _ _ _ ?_ ?_ (λb o hb e=>?_) RH⟩
 ·exact jw.at λo e=>(aaU _ _ UK).trans ((aaU _ _ UK).trans e)
 ·exact(aaU _ _ OI).trans ((aaU _ _ OI).trans Ky)
 ·exact(aaU _ _ (aa5 hb)).trans ((aaU _ _ (aa5 hb)).trans (aad _ e))
theorem dj{Q:Value->Shared->Prop}{d:Addr}{od:Obj}{es:Array DictEntry}{ep:Nat}(hh:A.handled=none)(hd:(d == sysModules)=false)(hT:s.TypeIs (.ref d) "dict")(ho:s.heap.get? d=some od)(dY:od.data = .dict es ep)(hlen:es.size<=sizeLine)(hQ:∀h' tk dn c',(∀b o,s.heap.get? b=some o->h'.get? b=some o) → h'.get? s.heap.objs.size=some { cls:=.type "list",dict:=none,data:=.seq dn c',slots:=#[] }->ItemsOf (λi v=>∃e,es[i]? = some e/\v=e.key) dn es.size->Q (.ref s.heap.objs.size) { s with heap:=h',toks:=tk }):wpAny (model prog w) A (call (.type "list") [.ref d]) Q E s:=by
 refine callType_codes (Q₁:=λobj aD=>obj = .ref s.heap.objs.size/\aD={ s with heap:=s.heap.push { cls:=.type "list",data:=.seq #[] } }) F.called_list (F.typeCall_list_1 _) F.entry_list_init
  (code_list_new _ ⟨rfl,rfl⟩) λobj aD fe=>?_
 obtain⟨rfl,rfl⟩:=fe;have hS:(s.heap.push { cls:=.type "list",data:=.seq #[] }).get? s.heap.objs.size=some { cls:=.type "list",data:=.seq #[] }:=aap _ rfl;have OI:s.heap.objs.size≠d:=acQ (aam ho);refine⟨⟨_,hS,rfl⟩,F.args_list_init_2 _ _,?_⟩;show wpAny _ _ (do let old <-Builtin.List.listItems (.ref s.heap.objs.size);Builtin.List.listUpdate (.ref s.heap.objs.size) (λ_=>#[]);letGo old.toList.reverse;Builtin.List.listExtendWith (.ref s.heap.objs.size) (.ref d) .none) _ _ _;refine aac ?_;unfold Builtin.List.listItems;refine aac (wpAny_seqItems hS rfl (aaj ?_));show wpAny _ _ (updateSeq s.heap.objs.size (λ_=>#[]) >>= λ_=>letGo (#[]:Array Value).toList.reverse >>= λ_=>Builtin.List.listExtendWith (.ref s.heap.objs.size) (.ref d) .none) _ _ _;refine aac (wpAny_updateSeq hS rfl ?_);have yu:=aba (Obj.mapSeq (λ_=>(#[]:Array Value))) hS rfl;have W8:∀b o,b≠s.heap.objs.size->(s.heap.push { cls:=.type "list",data:=.seq #[] }).get? b=some o->((s.heap.push { cls:=.type "list",data:=.seq #[] }).update s.heap.objs.size (Obj.mapSeq (λ_=>(#[]:Array Value)))).get? b=some o:=
  λb o hb e=>(aaU _ _ (aa5 hb)).trans e
 refine aac (wpAny_letGo ?_);have JU:=W8 d _ (aa5 OI) (aad _ ho);refine kC (A:=A.in1) hh hd ?_ JU dY hlen _ .none _ yu λh' tk dn c' hk OK Cj=>?_
 ·obtain⟨o,e1,e2⟩:=hT;rw[ho]at e1;cases e1;exact⟨_,JU,e2⟩
 ·exact⟨rfl,hQ h' tk dn c' (λb o e=>hk b o (aaD (aam e)) (W8 b o (aaD (aam e)) (aad _ e))) OK Cj⟩
end
section
variable{X:Cx}{p pos:Pos}
theorem eX{es:Array DictEntry}{acc:Array Value}{xs:List V}(h:ItemsOf (λi v=>∃e,es[i]? = some e/\v=e.key) acc es.size)(r:Vals xs (es.toList.map (·.key))):Vals xs acc.toList:=by
 have:acc.toList=es.toList.map (·.key):=by
  apply List.ext_getElem?;intro i;rw[aak];by_cases hi:i<es.size
  ·have bI:i<acc.size:=by rw[h.1];exact hi
   obtain⟨e,e1,e2⟩:=h.2 i acc[i] (by simp[bI]);have e3:es.toList[i]? = some e:=by simpa using e1
   rw[e3];simp[bI,e2]
  ·have:¬i<acc.size:=by rw[h.1];exact hi
   simp[ab9 hi,ab9 this]
 rw[this];exact r
def wR:List V->Hp->VK->Prop:=λvs H Q=>match vs with
 | [.ref p]=>(∃ag,H p=some (.dT ag)/\∀o bs l,eh H ag bs->H l=none->Q (.ref l) (upd (upd H p (.eA o (.dT ag))) l (.lst (bs.map V.ref)))) ∨
   (∃o ag,H p=some (.eA o (.dT ag))/\∀bs l,eh H ag bs->H l=none->Q (.ref l) (upd H l (.lst (bs.map V.ref)))) ∨
   (∃o ag,H p=some (.eA o (.dK ag))/\∀l,H l=none->Q (.ref l) (upd H l (.lst (ag.map λp=>kV p.1))))\/wQ vs H Q
 | _=>False
theorem x8(hc:X.calm=true):aH X (.type "list") wR:=by
 have OH:∀(pins:List (Addr×Obj))(s:Shared)(σ:St)(H:Hp)(a:Addr)(Q:VK)(o:Obj)(ag:List (List Key×V)),Inv X pins σ H s->H a=some (.eA o (.dT ag)) →
   (∀bs l,eh H ag bs->H l=none->Q (.ref l) (upd H l (.lst (bs.map V.ref))))->wpAny (model X.prog X.w) X.A (call (.type "list") [.ref a]) (EP X pins σ Q) X.xe s:=by
  intro pins s σ H a Q o ag I hq q;have ho:=I.frozen hq;refine az λak=>?_;obtain⟨_,z,hd,xs,r,o',es,ep,h1,h2,h3,h4,h5⟩:=I.au a _ hq;refine ak ?_;clear ak;rw[ho]at h1;cases h1;have hT:s.TypeIs (.ref a) "dict" := let⟨_,_,_,_,dd⟩:=lU I.au (.inr ⟨o,hq⟩);dd.typeIs;have rel:Vals ((xs.map (·.2.1)).map V.ref) (es.toList.map (·.key)):=by
   rw[h4];clear h4 h5 r
   induction xs with
   | nil=>exact .nil
   | cons x xs ih=>exact .cons rfl ih
  have le:es.size<=sizeLine:=by have e1:=aaX List.length h4;have e2:=ab0 r;simp at e1;omega
  refine dj (I.ok.hd hc) hd hT ho h3 le λh' tk dn c' kp e' it=>?_;have hl:((xs.map (·.2.1)).map V.ref).length<=sizeLine:=by have:=rel.length;simp at this ⊢;omega
  exact⟨.ref s.heap.objs.size,_,I.laid (t':=tk) kp (aae _) (show aS X.prog X.w _ h' _ (.lst _)from⟨hl,dn.toList,c',eX it rel,by simpa using e'⟩),rfl,q _ _ (uE r) (I.au.fresh (aae _))⟩
 intro pins s σ H xs us Q I r h;unfold wR at h;split at h
 ·rename_i a;have r':=r;obtain⟨u,rfl,rx⟩:=vals1 r;cases rx;rcases h with⟨ag,hq,q⟩|⟨o,ag,hq,q⟩|⟨o,ag,hq,q⟩|h
  ·obtain⟨o,ho⟩:=I.obj hq;refine OH pins s σ _ a Q o ag (I.freeze hq trivial ho) aa λbs l kb hl=>?_;have Ss:l≠a:=λz=>by subst z;rw[aa]at hl;cases hl
   rw[af Ss]at hl;refine q o bs l ?_ hl;refine Paired.zT kb λx b e=>?_;have:b≠a:=λz=>by subst z;rw[aa]at e;cases e
   rw[af this]at e;exact e
  ·exact OH pins s σ H a Q o ag I hq q
  ·have ho:=I.frozen hq;refine az λak=>?_;obtain⟨_,z,hd,vs,r,o',es,ep,h1,h2,h3,h4,h5,h6⟩:=I.au a _ hq;refine ak ?_;clear ak;rw[ho]at h1;cases h1;have hT:s.TypeIs (.ref a) "dict" := let⟨_,_,_,_,dd⟩:=fw I.au (.inr ⟨o,hq⟩);dd.typeIs;have rel:=eG r h5;have le:es.size<=sizeLine:=by have e1:=rel.length;simp at e1;omega
   refine dj (I.ok.hd hc) hd hT ho h3 le λh' tk dn c' kp e' it=>?_;have hl:(ag.map λp=>kV p.1).length<=sizeLine:=by have:=rel.length;simp at this ⊢;omega
   exact⟨.ref s.heap.objs.size,_,I.laid (t':=tk) kp (aae _) (show aS X.prog X.w _ h' _ (.lst _)from⟨hl,dn.toList,c',eX it rel,by simpa using e'⟩),rfl,q _ (I.au.fresh (aae _))⟩
  ·exact x5 hc pins s σ H _ _ Q I r' h
 ·exact h.elim
end
theorem NT{X:Cx}{pos:Pos}{x:Str}{z:Int}{aI:Str->Option Value}(hm:∃tk,aI x=some (.int z tk))(hX:X.mg=aI)(hg:gB X x=true:=by kernel_rfl)(hd:(x == ("__debug__" : Str))=false:=by kernel_rfl):PE X (.Name x pos) (tC (.int z)):=by obtain⟨tk,hm⟩:=hm;exact lr (aK hg) (by rw[hX];exact hm) ⟨tk,rfl⟩ hd
theorem Ri{K:W.Frag}{x:Str}{z:Int}{v:Value}{tk:Tok}(h:W.nsIn K mainGlobals x=some (some v))(e:v = .int z tk):∃tk,W.nsIn K mainGlobals x=some (some (.int z tk)):=⟨tk,by rw[h,e]⟩
section
variable{prog:Program}{w:World}{A:Around}{E:Value->Shared->Prop}{s:Shared}
theorem kg{d:Addr}{o:Obj}{es:Array DictEntry}{ep:Nat}{Q:Value->Shared->Prop}(hd:(d == sysModules)=false)(hT:s.TypeIs (.ref d) "dict")(ho:s.heap.get? d=some o)(dY:o.data = .dict es ep)(LB:(es.size:Int)<2 ^ 63)(h:Q (.int es.size (s.toks+1)) { s with toks:=s.toks+1+1 }):wpAny (model prog w) A (call (.builtin "len") [.ref d]) Q E s:=by
 have Lz:MeetsIn prog w (Builtin.«dict.__len__» ⟨[.ref d],[]⟩) (λ_ R s=>s.heap.get? d=some o/\R (.ok (.ret (.int es.size s.toks))) { s with toks:=s.toks+1 }):=
  .of_wp λA R s ⟨ho,h⟩=>by show wpAny _ _ (dictSize d >>= _) _ _ s;unfold dictSize;refine aac (aac (abG ho dY (aaj ?_)));show wpAny _ _ (Builtin.Dict.pendingCount d >>= _) _ _ s;refine aac (wpAny_pendingCount_other hd ?_);refine wpAny_ret_mkInt ?_;rw[Nat.add_zero];exact h
 refine acS kind_len plain_len entry_len (args_len1 _) ?_;unfold Builtin.«len»;refine aac (m:=oneArg "len" _) (aaj ?_);refine aac (m:=callSpecial? (.ref d) (Str.ofString "__len__")) (ace (name:=Str.ofString "__len__") hT ads
  (call_meetsIn ads hT F.entry_dict_len (F.args_dict_len_1 _) Lz ⟨ho,?_⟩))
 show wpAny _ _ _ _ _ { s with toks:=s.toks+1 };refine aac (aa0 (aaj ?_));refine aac (wpAny_letGo ?_);show wpAny _ _ (if((es.size:Nat):Int)<0 then _ else _) _ _ _;rw[aar (by omega)];show wpAny _ _ (if((es.size:Nat):Int) ≥ 2 ^ 63 then _ else _) _ _ _;rw[aar (by omega)];exact aac (wpAny_mkInt (aaj ⟨_,rfl,h⟩))
end
section
variable{X:Cx}{p pos:Pos}
def Kn:List V->Hp->VK->Prop:=λvs H Q=>(∃a ag,vs=[.ref a]/\Rd H a (.dT ag)/\ag.length<=2 ^ 24/\Q (.int (ag.length:Nat)) H)\/zQ vs H Q
theorem Bt:aH X (.builtin "len") Kn:=by
 intro pins s σ H xs us Q I r h;rcases h with⟨a,ag,rfl,rd,hl,q⟩|h
 ·obtain⟨u,rfl,rx⟩:=vals1 r;cases rx;refine az λak=>?_;obtain⟨z,hd,ys,kt,o,es,ep,h1,h2,h3,h4,h5⟩:=(show aS X.prog X.w H s.heap a (.dT ag)from CI I.au rd)
  refine ak ?_;clear ak;have hT:s.TypeIs (.ref a) "dict" := ⟨o,h1,h2.1⟩
  have esl:es.size=ag.length:=by have e1:=aaX List.length h4;have e2:=ab0 kt;simp at e1;omega
  refine kg hd hT h1 h3 (by omega) ?_;exact⟨.int _,H,I.tok _,⟨_,rfl⟩,by rw[esl];exact q⟩
 ·exact j8 pins s σ H xs us Q I r h
theorem zr{e:Expr}{es:List Expr}{t:TA}{aI:Str->Option Value}(hm:aI "len" = none)(hX:X.mg=aI)(ha:PA X (e::es) t)(hg:gB X "len" = true:=by kernel_rfl)(he:starEach (e::es) X.env=(false,eval e X.env)::starEach es X.env:=by kernel_rfl)(hpl:(backTo pos (starEach es X.env)).any (·.1)=false:=by kernel_rfl):PE X (.Call (.Name "len" p) (e::es) [] pos) (kP Kn t):=bR Bt (aK hg) (by rw[hX];exact hm) boot_len ha (he:=he) (hpl:=hpl)
end
section
variable{prog:Program}{w:World}{A:Around}{E:Value->Shared->Prop}{s:Shared}
theorem Ba{R:Result->Shared->Prop}{d:Addr}{od:Obj}{es:Array DictEntry}{ep:Nat}(hh:A.handled=none)(hd:(d == sysModules)=false)(hT:s.TypeIs (.ref d) "dict")(ho:s.heap.get? d=some od)(dY:od.data = .dict es ep)(hlen:es.size<=sizeLine)(S:Addr)(c₀:Nat)(hS:s.heap.get? S=some { cls:=.type "list",data:=.seq #[] c₀ })(hR:∀h' tk dn c',(∀b o,b≠S->s.heap.get? b=some o->h'.get? b=some o)->h'.get? S=some { cls:=.type "list",dict:=none,data:=.seq dn c',slots:=#[] } → ItemsOf (λi v=>∃e,es[i]? = some e/\v=e.key) dn es.size->R (.ok (.ret (.ref S))) { s with heap:=h',toks:=tk }):codeAny (model prog w) A (.builtin "list.__iadd__" ⟨[.ref S,.ref d],[]⟩) R s:=by refine abU entry_list_iadd' ?_;rw[acO (by decide +kernel) _];exact kC hh hd hT ho dY hlen S (.ref S) c₀ hS hR
theorem je{d:Addr}{od:Obj}{es:Array DictEntry}{ep:Nat}{Q:List Value->Shared->Prop}(hh:A.handled=none)(hd:(d == sysModules)=false)(hT:s.TypeIs (.ref d) "dict")(ho:s.heap.get? d=some od)(dY:od.data = .dict es ep)(hlen:es.size<=sizeLine)(h:∀(h':Heap)(tk:Tok)(acc:Array Value),(∀b o,s.heap.get? b=some o->h'.get? b=some o)->s.heap.objs.size<h'.objs.size->ItemsOf (λi v=>∃e,es[i]? = some e/\v=e.key) acc es.size->Q acc.toList { s with heap:=h',toks:=tk }):wpAny (model prog w) A (collect (.ref d)) Q E s:=by
 unfold collect;refine aac (wpAny_runValue (abU entry_proto_collect' ?_));show wpAny _ _ (do again (.builtin "list.__iadd__" ⟨[<-newList [],.ref d],[]⟩)) _ _ s;refine aac (wpAny_newList (aaj ⟨acw _ (by decide +kernel),?_⟩));have hT':(⟨s.heap.push (seqObj "list" #[] 0),s.gens,s.drawn,s.toks,s.os⟩ : Shared).TypeIs (.ref d) "dict" := by obtain⟨o,e1,e2⟩:=hT;exact⟨o,aad _ e1,e2⟩
 refine Ba hh hd hT' (aad _ ho) dY hlen s.heap.objs.size 0 (aap _ rfl) λh' tk dn c' hk OK Cj=>?_;show wpAny (model prog w) A (do
   let o <-load s.heap.objs.size
   match o.data with
   | .seq xs _=>pure xs.toList
   | _=>unsupported "internal:collect") Q E { s with heap:=h',toks:=tk }
 refine aac (wpAny_load OK ?_);exact aaj (h h' tk dn (λb o e=>hk b o (aaD (aam e)) (aad _ e)) (aam OK) Cj)
theorem uS{d:Addr}{od:Obj}{es:Array DictEntry}{ep:Nat}{ns:List Int}{Q:Value->Shared->Prop}(hh:A.handled=none)(hd:(d == sysModules)=false)(hT:s.TypeIs (.ref d) "dict")(ho:s.heap.get? d=some od)(dY:od.data = .dict es ep)(hI:IntsAre (es.toList.map (·.key)) ns)(JY:es.size<64)(h:∀(h':Heap)(tk:Tok)(l:Addr)(out:Array Value)(pO:List Int)(e:Nat),(∀b o,s.heap.get? b=some o->h'.get? b=some o)->s.heap.objs.size<=l->h'.get? l=some (seqObj "list" out e)->IntsAre out.toList pO->pO.Perm ns->pO.Pairwise (·<=·)->Q (.ref l) { s with heap:=h',toks:=tk }):wpAny (model prog w) A (call (.builtin "sorted") [.ref d]) Q E s:=by
 refine acS kind_sorted plain_sorted entry_sorted (args_sorted1 _) ?_;unfold Builtin.«sorted»;refine aac (m:=checkCount "sorted" 1 1 _) (aaj ?_);refine aac (je hh hd hT ho dY (by rw[abv];omega) λh1 tk acc kp lt it=>?_);have ea:acc.toList=es.toList.map (·.key):=by
  apply List.ext_getElem?;intro i;rw[aak];by_cases hi:i<es.size
  ·have bI:i<acc.size:=by rw[it.1];exact hi
   obtain⟨e,e1,e2⟩:=it.2 i acc[i] (by simp[bI]);have e3:es.toList[i]? = some e:=by simpa using e1
   rw[e3];simp[bI,e2]
  ·have:¬i<acc.size:=by rw[it.1];exact hi
   simp[ab9 hi,ab9 this]
 rw[ea];generalize ZE:es.toList.map (·.key)=vs at *
 have Wd:vs.length<64:=by rw[<-ZE];simpa using JY
 refine aac (wpAny_newList ?_);have Ga:(h1.push (seqObj "list" vs.toArray 0)).get? h1.objs.size=some (seqObj "list" vs.toArray 0):=aap _ rfl;refine aac (aa0 (acd slot_list_sort ⟨_,Ga,rfl⟩ entry_list_sort (list_sort_tree Ga hI Wd λout pO a1 a2 a3=>⟨_,rfl,?_⟩) (args_list_sort _)));obtain⟨e,he⟩:=sortedHeap_at (out:=out) Ga;refine aaj ⟨_,rfl,h _ tk h1.objs.size out pO e (λb o hb=>?_) (abV lt) he a1 a2 a3⟩;have vC:=kp b o hb;have bl:=aam vC;rw[sortedHeap_old (aaD bl) (by rw[size_push'];exact acL bl)];exact aad _ vC
end
section
variable{X:Cx}{p pos:Pos}
def uk:List V->Hp->VK->Prop:=λvs H Q=>(∃(a:Addr)(ag:List (Key×V))(ns:List Int),vs=[.ref a]/\Rd H a (.dK ag)/\ag.map (·.1)=ns.map Sum.inl/\ns.length<64 ∧
  ∀(l:Addr)(pO:List Int),H l=none->pO.Perm ns->pO.Pairwise (·<=·)->Q (.ref l) (upd H l (.lst (pO.map V.int))))\/rA vs H Q
theorem sC(hc:X.calm=true):aH X (.builtin "sorted") uk:=by
 intro pins s σ H xs us Q I r h;rcases h with⟨a,ag,ns,rfl,rd,hk,hl,q⟩|h
 ·obtain⟨u,rfl,rx⟩:=vals1 r;cases rx;refine az λak=>?_;obtain⟨z,hd,vs,kv,o,es,ep,h1,h2,h3,h4,h5,h6⟩:=fw I.au rd;refine ak ?_;clear ak;have hT:s.TypeIs (.ref a) "dict" := ⟨o,h1,h2.1⟩
  have rel:=eG kv h5;have e1:(ag.map λp=>kV p.1)=ns.map V.int:=by
   have:(ag.map λp=>kV p.1)=(ag.map (·.1)).map kV:=by rw[aaC];rfl
   rw[this,hk,aaC];rfl
  rw[e1]at rel;have hI:=ij rel;have WC:es.size<64:=by have:=rel.length;simp at this;omega
  refine uS (I.ok.hd hc) hd hT h1 h3 hI WC λh' tk l out pO e kp Px he a1 a2 a3=>?_;have hz:(pO.map V.int).length<=sizeLine:=by rw[aaa,a2.length_eq];exact ai (by omega)
  exact⟨.ref l,upd H l (.lst (pO.map V.int)),I.laid (t':=tk) kp Px ⟨hz,out.toList,e,j6 a1,by simpa using he⟩,rfl,q _ _ (I.au.fresh Px) a2 a3⟩
 ·exact sv pins s σ H xs us Q I r h
theorem xX{e:Expr}{es:List Expr}{t:TA}{aI:Str->Option Value}(hm:aI "sorted" = none)(hX:X.mg=aI)(ha:PA X (e::es) t)(hc:X.calm=true:=by kernel_rfl)(hg:gB X "sorted" = true:=by kernel_rfl)(he:starEach (e::es) X.env=(false,eval e X.env)::starEach es X.env:=by kernel_rfl)(hpl:(backTo pos (starEach es X.env)).any (·.1)=false:=by kernel_rfl):PE X (.Call (.Name "sorted" p) (e::es) [] pos) (kP uk t):=bR (sC hc) (aK hg) (by rw[hX];exact hm) PyProof.Rows.boot_sorted ha (he:=he) (hpl:=hpl)
end
def VN:TE:=λ_ H Q=>∀d,H d=none->Q (.ref d) (upd H d (.dK []))
theorem NV{X:Cx}{pos:Pos}:PE X (.Dict [] [] pos) VN:=ur
def cK(c:Addr)(q:Str):HO:=.ext λh=>h.CodeRec (.ref c) q
theorem cK.mk{P:Program}{w:World}{H:Hp}{h:Heap}{c:Addr}{q:Str}(x:h.CodeRec (.ref c) q):aS P w H h c (cK c q):=by
 refine⟨x,?_,λh1 h2 x1 k=>?_⟩
 ·obtain⟨c',o,vs,t,e,g,r⟩:=x;cases e;exact⟨o,g⟩
 ·obtain⟨c',o,vs,t,e,g,r⟩:=x1;cases e;exact⟨_,o,vs,t,rfl,k o g,r⟩
theorem cK.at{P:Program}{w:World}{H:Hp}{h:Heap}{c:Addr}{q:Str}(ok:eM P w H h)(e:H c=some (cK c q)):h.CodeRec (.ref c) q:=(ok c _ e).1
def yC(h:Heap)(f:Addr)(params:Arguments)(body:Expr)(scope:Scope)(qual:Str)(c:Addr)(F:List Str)(gN:List V):Prop:=
 ∃(pm vE:Value)(bA:List (Str×Addr)),h.get? f=some (W.kla_obj "<lambda>" qual params body scope bA pm c vE) ∧
  (∀x y d,bA.lookup x=some d->bA.lookup y=some d->x=y) ∧
  (∀y∈scope.names,y.2 = .free->∃d,bA.lookup y.1=some d) ∧
  (∀x d,bA.lookup x=some d->∃v,h.IsCell d v) ∧
  ∀(i:Nat) x v,F[i]? = some x->gN[i]? = some v->∃d u,bA.lookup x=some d/\h.IsCell d (some u)/\RelV v u
structure KN(p:Str)(F:List Str)(sc:Scope):Prop where
 kind:sc.kind = .function
 co:sc.isCoroutine=false
 gen:sc.isGenerator=false
 par:sc.names.lookup p=some .local
 fre:∀x∈F,sc.names.lookup x=some .free
 jt:∀y∈sc.names,y.2≠.cell
def C5(CX:zL)(P:Program)(w:World)(K:W.Frag)(mg:Str->Option Value)(base:Heap)(N:List Str)(qual:Str)(scope:Scope)(f:Addr)(cd:Value)(bA:List (Str×Addr))(A:Around)(outer:List Env)(s:Shared)(H:Hp)(E:XK):Cx where
 prog:=P
 w:=w
 K:=K
 mg:=mg
 base:=base
 A:=A.deeper (W.envX qual scope s.heap.objs.size f cd bA)
 N:=N
 cq:=s
 H₀:=H
 env:=W.envX qual scope s.heap.objs.size f cd bA
 outer:=outer
 stack:=W.envX qual scope s.heap.objs.size f cd bA::outer
 ex:=[]
 calm:=true
 fn:=λ_=>false
 pn:=[]
 xe:=λe s'=>wpAny (model P w) (A.deeper (W.envX qual scope s.heap.objs.size f cd bA)) (leaving (W.envX qual scope s.heap.objs.size f cd bA) e) (λ_ F6=>CX outer H s E e F6) (λe' F6=>CX outer H s E e' F6) s'
theorem IM{CX:zL}{P:Program}{w:World}{K:W.Frag}{mg:Str->Option Value}{base:Heap}{p:Str}{F:List Str}{gN:List V}{qual:Str}{scope:Scope}{f:Addr}{cd:Value}{bA:List (Str×Addr)}{A:Around}{outer:List Env}{s:Shared}{H:Hp}{E:XK}{u:Value}{v:V}{h':Heap}{tk:Nat}(S:KN p F scope)(hd:A.handled=none)(e0:lP P w K mg base A outer s H)(rv:RelV v u)(hl:F.length=gN.length)(inj:∀x y d,bA.lookup x=some d->bA.lookup y=some d->x=y)(has:∀y∈scope.names,y.2 = .free->∃d,bA.lookup y.1=some d)(SR:∀x d,bA.lookup x=some d->∃v,base.IsCell d v)(vals:∀(i:Nat) x v,F[i]? = some x->gN[i]? = some v->∃d u,bA.lookup x=some d/\base.IsCell d (some u)/\RelV v u)(JV:h'.Ns s.heap.objs.size (λx=>[(p,u)].reverse.lookup x))(hk:∀b o,s.heap.get? b=some o->h'.get? b=some o):Inv (C5 CX P w K mg base (p::F) qual scope f cd bA A outer s H E) [] (some v::gN.map some) H { s with heap:=h',toks:=tk }:=by
 have KS:∀b:Addr,b ∉ (C5 CX P w K mg base (p::F) qual scope f cd bA A outer s H E).ex:=λb z=>absurd (show b∈([]:List Addr)from z) (by simp);have up:∀{d:Addr}{v:Option Value},base.IsCell d v->h'.IsCell d v:=λ{d v}⟨o,e,q⟩=>⟨o,hk _ _ (e0.bs _ _ e).1,q⟩
 refine⟨⟨e0.mod,S.kind,rfl,rfl,aae _,inj,λy hy=>?_,λy c hf _=>(by cases(show false=true from hf)),λ_=>hd,Around.frames_deeper e0.frames,.inr ⟨rfl,rfl⟩,λb z=>absurd z (KS b),e0.bs,e0.BI,λb _ _=>KS b,λb z=>absurd z (KS b),e0.gG,e0.Gb⟩,
  rfl,e0.bare,Un.kept hk,⟨_,JV,λi y x h1 h2 h3=>?_⟩,λy c h=>?_,e0.au.fresh (aae _),λy c h=>?_,λp hp=>absurd (show p∈([]:List (Addr×Obj))from hp) (by simp),e0.au.kept hk,?_⟩
 ·have hy:scope.names.lookup y=some .cell\/scope.names.lookup y=some .free:=hy;rcases hy with hy|hy
  ·exact absurd rfl (S.jt _ (abb hy))
  ·exact has _ (abb hy) rfl
 ·cases i with
  | zero=>
   cases h1;cases h2;exact⟨u,rv,.inl ⟨S.par,by simp⟩⟩
  | succ i=>
   have h1:F[i]? = some y:=by have h1:(p::F)[i+1]? = some y:=h1;rw[abe]at h1;exact h1
   have h2:gN[i]? = some x:=by
    rw[abe,aak]at h2;cases q:gN[i]? with
    | none=>rw[q]at h2;cases h2
    | some z=>rw[q]at h2;cases h2;rfl
   obtain⟨d,u',e1,e2,e3⟩:=vals i y x h1 h2;exact⟨u',e3,.inr ⟨.inr (S.fre y (aaP h1)),d,e1,up e2⟩⟩
 ·obtain⟨x,e⟩:=SR y c h;exact⟨x,up e⟩
 ·obtain⟨x,o,e,_⟩:=SR y c h;exact(e0.bs _ _ e).2
 ·show(some v::gN.map some).length=(p::F).length;simp[hl]
def Hb(P:Program)(w:World)(K:W.Frag)(mg:Str->Option Value)(base:Heap)(f:Addr)(k:Nat)(p:Str)(sp:Sp):Prop:=
 ∃fd,cU P w K mg base kR k f fd [p] sp/\(∃oc od sl,base.get? f=some ⟨oc,od,.func fd,sl⟩)/\Binds K fd [p] []
theorem Nk{P:Program}{w:World}{K:W.Frag}{mg:Str->Option Value}{base:Heap}{f c:Addr}{params:Arguments}{body:Expr}{scope:Scope}{qual p:Str}{F:List Str}{gN:List V}{k:Nat}{sp:Sp}(L:yC base f params body scope qual c F gN)(S:KN p F scope)(hl:F.length=gN.length)(C1:∀bA pm vE u,bindArgs (W.kla_fn "<lambda>" qual params body scope bA pm (.ref c) vE) ⟨[u],[]⟩=pure [(p,u)])(len:∀vs H Q E,sp vs H Q E->vs.length=1)(cx:∀(bA:List (Str×Addr))(A:Around)(outer:List Env)(s:Shared)(H:Hp)(v:V)(Q:VK)(E:XK),av k (A.deeper (W.envX qual scope s.heap.objs.size f (.ref c) bA))->sp [v] H Q E → H c=some (cK c qual)/\∃t,PE (C5 kR P w K mg base (p::F) qual scope f (.ref c) bA A outer s H E).vp body t/\t (some v::gN.map some) H Q):Hb P w K mg base f (k+1) p sp:=by
 refine az λak=>?_;obtain⟨pm,vE,bA,hf,inj,has,SR,vals⟩:=L;refine ak ?_;clear ak;refine⟨_,⟨len,λA outer s H args us vs Q E hr e0 hb r oi=>?_⟩,⟨_,_,_,hf⟩,.all λus hl=>?_⟩
 ·have Uy:=len _ _ _ _ oi
  match vs,Uy with
  | [v],_=>
   obtain⟨u,rfl,rv⟩:=vals1 r;have lim:s.heap.NoLimit:=e0.mod.nolimit.keeps λb o e=>(e0.bs b o e).1;obtain⟨hc,t,ht,hq⟩:=cx bA A outer s H v Q E (hr.deeper _) oi;refine W.kla_callFunE hr.depth (e0.bs _ _ hf).1 rfl S.co S.gen rfl (cK.at e0.au hc) (hb _ _ _ _ ?_);refine wpAny_newFunctionEnv S.jt (λy hy=>?_) (λh' JV ZQ=>?_) S.kind
   ·have e:y=(p,u):=by simpa using hy
    subst e;exact S.par
   ·have hk:∀b o,s.heap.get? b=some o->h'.get? b=some o:=λb o e=>ZQ.extBut b o (aaD (aam e)) (aad _ e);refine⟨lim.keeps hk,W.kla_codeExpr ?_⟩;have I:=IM (CX:=kR) (E:=E) (f:=f) (cd:=.ref c) (qual:=qual) (tk:=s.toks+([p].zip [u]).length) S hr.hd e0 rv hl inj has SR vals JV hk;refine abd (ht.vp [] _ _ H _ I hq) (λu' s' hs=>?_) λe s' hs=>hs;obtain⟨v',H',J,YI,q⟩:=hs;exact⟨v',H',J.os,J.bare,J.base,J.au,YI,q⟩
 ·match us,hl with
  | [u],_=>exact C1 bA pm vE u
section
variable{X:Cx}{p pos:Pos}{e:Expr}{es:List Expr}{t:TA}
def QW(i:Nat)(f:Addr)(sp:Sp)(t:TA):TE:=λσ H Q=>σ[i]? = some (some (.ref f))/\t σ H λvs H1=>sp vs H1 Q E0
theorem Jf(x:Str)(i:Nat){P':Program}{w':World}{K':W.Frag}{aI:Str->Option Value}{aW:Heap}{f:Addr}{k:Nat}{y:Str}{sp:Sp}(V:Hb P' w' K' aI aW f k y sp)(hX:X.prog=P'/\X.w=w'/\X.K=K'/\X.mg=aI/\X.base=aW)(hr:av k X.A)(ha:PA X (e::es) t)(hN:X.N[i]? = some x:=by with_unfolding_all rfl)(hv:BY X.env.scope x=true:=by kernel_rfl)(he:starEach (e::es) X.env=(false,eval e X.env)::starEach es X.env:=by kernel_rfl)(hpl:(backTo pos (starEach es X.env)).any (·.1)=false:=by kernel_rfl):PE X (.Call (.Name x p) (e::es) [] pos) (QW i f sp t):=by
 obtain⟨rfl,rfl,rfl,rfl,rfl⟩:=hX;obtain⟨fd,F,⟨oc,od,sl,hf⟩,b⟩:=V;intro pins s σ H Q I h;obtain⟨ef,h⟩:=h;refine abu (ba ((vn (X:=X) (pos:=p) x i hN hv) pins s σ H (λv H'=>v = .ref f/\H'=H) I ?_) λu s1 ⟨v,H1,I1,r1,q1,q2⟩=>?_)
 ·unfold tV;rw[ef];exact⟨rfl,rfl⟩
 ·subst q1;subst q2;cases r1;have go:wpAny (model X.prog X.w) X.A (spliced (backTo pos (starEach (e::es) X.env))) (λvs aD=>aD.heap.get? f=some ⟨oc,od,.func fd,sl⟩/\wpAny (model X.prog X.w) X.A (call (.ref f) vs) (EP X pins σ Q) X.xe aD) X.xe s1:=
   ba (ha pos pins s1 σ H1 _ I1 h) λus s2 ⟨vs,H2,I2,r,q⟩=>⟨I2.bk _ _ hf,qi (kH:=[]) (E:=E0) F hr b .nil yt I2 r (by rw[aa1];exact q)⟩
  rw[he]at go ⊢;exact W.callWith_of (P:=λh=>h.get? f=some ⟨oc,od,.func fd,sl⟩) (first:=[]) (by show((false || (backTo pos (starEach es X.env)).any (·.1)) || false)=false;rw[hpl];rfl)
   (λh hh=>⟨.frame,.inl rfl,(W.Looks.ld (part:=none) hh).andThen .now⟩) (Calls.evalArgs_plain go)
end
structure Maker(mg:Str->Option Value)(base:Heap)(c P:Addr):Prop where
 bm:∃bm ob,mg "__builtins__" = some (.ref bm)/\bm≠builtinsNs/\base.get? bm=some ob/\ob.cls = .type "module"/\ob.dict=some builtinsNs/\ob.data = .plain
 hd:W.CodeHd base c P
def Tab(P:Addr)(pos:Pos)(qual:Str)(H:Hp):Prop:=H P=some (.eL #[])\/∃c,H P=some (.eL #[rawInt pos.line,rawInt pos.col,.ref c])/\H c=some (cK c qual)
def aw(P:Addr)(H H':Hp):Prop:=∀b o,b≠P->H b=some o->H' b=some o
theorem aw.refl(P:Addr)(H:Hp):aw P H H:=λ_ _ _ h=>h
theorem aw.trans{P:Addr}{H H1 H2:Hp}(a:aw P H H1)(b:aw P H1 H2):aw P H H2:=λc o n h=>b c o n (a c o n h)
theorem ah.t{P:Addr}{H H':Hp}(a:ah H H'):aw P H H':=λc o _ h=>a c o h
theorem Tab.mono{P:Addr}{pos:Pos}{qual:Str}{H H':Hp}(t:Tab P pos qual H)(s:ah H H'):Tab P pos qual H':=by
 rcases t with e|⟨c,e1,e2⟩
 ·exact .inl (s _ _ e)
 ·exact .inr ⟨c,s _ _ e1,s _ _ e2⟩
theorem LW{Pg:Program}{w:World}{fs ex:List Addr}{H:Hp}{h h':Heap}{P c:Addr}{ps more:Array Value}{q:Str}(ok:eM Pg w H h)(e:H P=some (.eL ps))(k:∀b o,b≠P->h.get? b=some o->h'.get? b=some o)(hP:h'.get? P=some (W.tabObj (ps++more)))(hc:h.objs.size<=c):Un fs ex H (upd (upd H P (.eL (ps++more))) c (cK c q)) h h':=by
 have nc:=ok.fresh hc;have cP:c≠P:=λz=>by rw[z,e]at nc;cases nc
 have at':∀b o,b≠P->H b=some o->upd (upd H P (.eL (ps++more))) c (cK c q) b=some o:=λb o n g=>by rw[af (aj g nc),af n];exact g
 have un:∀b,H b=none->b≠P:=λb n z=>by rw[z,e]at n;cases n
 refine⟨λb o g n _ _=>k b o (un b n) g,λb o g n _ _=>⟨o.slots,k b o (un b n) g⟩,λb o g n _=>?_,λb o g _=>?_,λb xs g=>at' b _ (λz=>by rw[z,e]at g;cases g) g,λb o u g=>at' b _ (λz=>by rw[z,e]at g;cases g) g,λb qs g=>?_⟩
 ·rw[af (aaD (aaG (aam g) hc)),af (un b n)];exact n
 ·by_cases z:b=P
  ·rw[z];exact⟨_,hP⟩
  ·exact⟨o,k b o z g⟩
 ·by_cases z:b=P
  ·subst z;rw[e]at g;cases g;exact⟨more,by rw[af (aa5 cP),aa]⟩
  ·exact⟨#[],by rw[at' b _ z g];simp⟩
theorem Hj{Pg:Program}{w:World}{H:Hp}{h h':Heap}{P c:Addr}{ps more:Array Value}{q:Str}(ok:eM Pg w H h)(e:H P=some (.eL ps))(k:∀b o,b≠P->h.get? b=some o->h'.get? b=some o)(hP:h'.get? P=some (W.tabObj (ps++more)))(hc:h.objs.size<=c)(rec:h'.CodeRec (.ref c) q):eM Pg w (upd (upd H P (.eL (ps++more))) c (cK c q)) h':=by
 have nc:=ok.fresh hc;have cP:c≠P:=λz=>by rw[z,e]at nc;cases nc
 have at':∀b o,b≠P->H b=some o->upd (upd H P (.eL (ps++more))) c (cK c q) b=some o:=λb o n g=>by rw[af (aj g nc),af n];exact g
 intro a o g;by_cases z:a=c
 ·subst z;rw[aa]at g;cases g;exact cK.mk rec
 ·rw[af z]at g;by_cases y:a=P
  ·subst y;rw[aa]at g;cases g;exact hP
  ·rw[af y]at g;refine(ok a o g).dR (λb u hb r=>k b u ?_ r) (λb r=>at' b _ (λz=>by rw[z,e]at r;cases r) r) λb xs r=>at' b _ (λz=>by rw[z,e]at r;cases r) r;rintro rfl;rcases hb with rfl|hb
   ·exact y rfl
   ·rw[e]at hb;cases hb
section
variable{X:Cx}{pins:List (Addr×Obj)}{σ:St}{H:Hp}{s:Shared}
theorem Fs{params:Arguments}{body:Expr}{scope:Scope}{pos:Pos}{c P:Addr}{Q:Value->Shared->Prop}(I:Inv X pins σ H s)(M:Maker X.mg X.base c P)(gW:X.env.code = .ref c)(LD:defaultsOf params X.env=([],[]))(tb:Tab P pos (X.env.qual++"<lambda>") H)(UB:∀y∈scope.names,y.2 = .free->∃d,X.env.cells.lookup y.1=some d)(h:∀(f c':Addr)(bA:List (Str×Addr))(pm vE:Value)(H2:Hp)(s2:Shared),Inv X pins σ H2 s2->aw P H H2->H2 P=some (.eL #[rawInt pos.line,rawInt pos.col,.ref c'])->H2 c'=some (cK c' (X.env.qual++"<lambda>"))->H2 f=none → s2.heap.get? f=some (W.kla_obj "<lambda>" (X.env.qual++"<lambda>") params body scope bA pm c' vE)->s.heap.objs.size<=f->(∀x d,bA.lookup x=some d->X.env.cells.lookup x=some d)->(∀y∈scope.names,y.2 = .free->∃d,bA.lookup y.1=some d)->Q (.ref f) s2):wpAny (model X.prog X.w) X.A (eval (.Lambda params body scope pos) X.env) Q X.xe s:=by
 refine W.kla_eval LD ?_;obtain⟨bA,nK,zK,OF⟩:=iy UB;have OB:=I.mod.glob.keeps I.bk;refine az λak=>?_;obtain⟨bm,ob,b1,b2,b3,b4,b5,b6⟩:=M.bm;refine ak ?_;clear ak;have K5:=I.bk _ _ b3;have hbG:bm≠mainGlobals:=λq=>by obtain⟨o,es,ep,e,hd,_⟩:=OB;rw[q,e]at K5;cases K5;rw[hd]at b6;cases b6
 have side:∀{ps:Array Value},s.heap.get? P=some (W.tabObj ps)->mainGlobals≠P/\s.heap.BuiltinsAt X.mg P:=λ{ps} hP=>by
  refine⟨λq=>?_,bm,ob,b1,b2,hbG,λq=>?_,K5,b4,b5,b6⟩
  ·obtain⟨o,es,ep,e,hd,_⟩:=OB;rw[q,hP]at e;cases e;cases hd
  ·rw[q,hP]at K5;cases K5;cases b4
 rcases tb with e|⟨c',e1,e2⟩
 ·have hP:s.heap.get? P=some (W.tabObj #[]):=I.au P _ e;obtain⟨g1,g2⟩:=side hP;refine W.kla_makeFunction (mg:=X.mg) nK I.ok.glob OB gW (M.hd.keeps I.bk) hP trivial rfl g1 g2 λc' vE h' tk hx Gu cT We Ox=>?_;have k:∀(o:Obj) b u,b≠P->s.heap.get? b=some u->(h'.push o).get? b=some u:=λo b u n g=>aad _ (hx b u n g);have hf:s.heap.objs.size<=h'.objs.size:=abV (Nat.lt_of_le_of_lt Gu cT);have nf:=I.au.fresh hf;have cP:c'≠P:=λz=>by have:=I.au.fresh Gu;rw[z,e]at this;cases this
  have J:=I.un (t':=tk) (LW (fs:=X.fs) (ex:=[]) (more:=#[rawInt pos.line,rawInt pos.col,.ref c']) (q:=X.env.qual++"<lambda>") I.au e (k _) (aad (W.kla_obj "<lambda>" (X.env.qual++"<lambda>") params body scope bA ((X.mg "__name__").getD .none) c' vE) Ox) Gu)
   (Hj I.au e (k _) (aad _ Ox) Gu (We.push _))
  refine h h'.objs.size c' bA _ vE _ _ J (λb o n g=>?_) ?_ aa ?_ (aap _ rfl) hf zK OF
  ·rw[af (aj g (I.au.fresh Gu)),af n];exact g
  ·rw[af (aa5 cP),aa];simp
  ·rw[af (acQ cT),af (λz=>by rw[z,e]at nf;cases nf)];exact nf
 ·have hP:s.heap.get? P=some (W.tabObj #[rawInt pos.line,rawInt pos.col,.ref c']):=I.au P _ e1;obtain⟨g1,g2⟩:=side hP;refine W.kla_makeFunctionHit (mg:=X.mg) nK I.ok.glob OB gW (M.hd.keeps I.bk) hP (TriplesOk_snoc _ _ _ [] trivial) (codeAmong_snoc [] trivial rfl) g2 λvE h' tk hk hsz=>?_;have J:=I.kept (t':=tk) (h':=h'.push (W.kla_obj "<lambda>" (X.env.qual++"<lambda>") params body scope bA ((X.mg "__name__").getD .none) c' vE)) λb u g=>aad _ (hk b u g);exact h h'.objs.size c' bA _ vE H _ J (aw.refl _ _) e1 e2 (I.au.fresh hsz) (aap _ rfl) hsz zK OF
def lT(X:Cx)(h:Heap)(H:Hp):Heap:=W.hideAll h (vB h H++cj X.stack)
theorem jG{h:Heap}{b:Addr}{o:Obj}(e:h.get? b=some o)(n:H b=none)(f:b ∉ cj X.stack):(lT X h H).get? b=some o:=
 W.hideAll_get _ e λhm=>by
  rcases aay.mp hm with hm|hm
  ·have q:(H b).isSome=true:=(acy.mp hm).2;rw[n]at q;simp at q
  ·exact f hm
theorem uw{h:Heap}{b:Addr}{o:Obj}(e:(lT X h H).get? b=some o):h.get? b=some o/\H b=none/\b ∉ cj X.stack:=by
 have e':h.get? b=some o:=W.of_hideAll _ e;have nm:b ∉ vB h H++cj X.stack:=λhm=>by rw[show(lT X h H).get? b=none from W.hideAll_none _ hm]at e;cases e
 refine⟨e',?_,λz=>nm (aaQ _ z)⟩;cases q:H b with
 | none=>rfl
 | some x=>exact absurd (aa7 _ (acy.mpr ⟨abx.mpr (aam e'),by simp[q]⟩)) nm
theorem Inv.Rm(I:Inv X pins σ H s){b:Addr}{o:Obj}(e:X.base.get? b=some o):b ∉ cj X.stack:=λhb=>by have:=(I.stack.mem hb).1;rw[e]at this;cases this
theorem Inv.wide(I:Inv X pins σ H s):(∀b o,X.base.get? b=some o->(lT X s.heap H).get? b=some o):=λb o e=>jG (I.bs b o e).1 (I.bs b o e).2 (I.Rm e)
theorem fU{h base aW:Heap}:∀{l:List Env},h.FunFrames base l->(∀b∈cj l,aW.get? b=none)->h.FunFrames aW l
 | [],_,_=>trivial
 | env::r,⟨hk,⟨L,o,hf,hn,ho,hd⟩,hr⟩,k=>by
  have hL:L∈cj (env::r):=by unfold cj;rw[ab5,hf];exact aah
  exact⟨hk,⟨L,o,hf,k L hL,ho,hd⟩,fU hr λb hb=>k b (by unfold cj;rw[ab5,hf];exact aaf _ hb)⟩
theorem Mod.keeps{K:W.Frag}{mg:Str->Option Value}{base aW:Heap}(M:Mod K mg base)(k:∀b o,base.get? b=some o->aW.get? b=some o):Mod K mg aW:=
 ⟨M.zG.keeps k,M.glob.keeps k,let⟨mb,a,b⟩:=M.blt;⟨mb,a.keeps k,b⟩,M.nolimit.keeps k⟩
theorem Inv.Qz(I:Inv X pins σ H s):lP X.prog X.w X.K X.mg (lT X s.heap H) X.A X.stack s H:=
 ⟨I.ok.frames,I.mod.keeps I.wide,λb o e=>⟨(uw e).1,(uw e).2.1⟩,ac4 (W.hideAll_size _ _),fU I.stack λb hb=>W.hideAll_none _ (aaQ _ hb),I.iM,I.au,I.bare⟩
end
section
variable{X:Cx}{p pos lp:Pos}{a:Expr}{ta:TE}
def VJ(P:Addr)(lp:Pos)(qual:Str)(js:List Nat)(sp:Addr->Addr->List V->Sp)(ta:TE):TE:=λσ H Q=>ta σ H λx H1=>Tab P lp qual H1/\∃gN:List V,js.map (λj=>σ[j]?)=gN.map (λv=>some (some v)) ∧
 ∀f c H2,aw P H1 H2->H2 P=some (.eL #[rawInt lp.line,rawInt lp.col,.ref c])->H2 c=some (cK c qual)->H2 f=none->sp f c gN [x,.ref f] H2 Q E0
theorem Bg(x:Str){params:Arguments}{body:Expr}{scope:Scope}{c P:Addr}{F:List Str}{js:List Nat}{k:Nat}{ps:List Str}{sp:Addr->Addr->List V->Sp}(hm:∃f,X.mg x=some (.ref f)/\W.keepIn X.K (.ref f)=true)(M:Maker X.mg X.base c P)(gW:X.env.code = .ref c)(hF:∀(i:Nat) y,F[i]? = some y->∃j,js[i]? = some j/\X.N[j]? = some y/\X.env.scope.names.lookup y=some .cell)(hFn:F.length=js.length)(UP:∀y∈F,scope.names.lookup y=some .free)(Pz:∀y,X.fn y=true)(oy:∀y∈scope.names,y.2 = .free->X.env.scope.names.lookup y.1=some .cell)(hC:∀(B:Heap)(f c':Addr)(gN:List V),Mod X.K X.mg B->(∀b o,X.base.get? b=some o->B.get? b=some o)->F.length=gN.length->yC B f params body scope (X.env.qual++"<lambda>") c' F gN->aJ X.prog X.w X.K X.mg B x k ps (sp f c' gN))(hr:av k X.A)(ha:PE X a ta)(hg:gB X x=true)(LD:defaultsOf params X.env=([],[]))(gE:(x == ("__debug__" : Str))=false)(he:starEach [a,.Lambda params body scope lp] X.env=[(false,eval a X.env),(false,eval (.Lambda params body scope lp) X.env)]):PE X (.Call (.Name x p) [a,.Lambda params body scope lp] [] pos) (VJ P lp (X.env.qual++"<lambda>") js sp ta):=by
 obtain⟨tf,hm,hk⟩:=hm;intro pins s σ H Q I h;refine abu (cM I (aK hg) hm ?_ gE);have go:wpAny (model X.prog X.w) X.A (spliced (backTo pos (starEach [a,.Lambda params body scope lp] X.env))) (λvs aD=>X.K.In aD.heap/\wpAny (model X.prog X.w) X.A (call (.ref tf) vs) (EP X pins σ Q) X.xe aD) X.xe s:=by
  rw[he];refine Calls.spliced_cons (ba (ha pins s σ H _ I h) λu s1 ⟨v,H1,I1,r1,q1⟩=>?_);obtain⟨tb,gN,hv,q⟩:=q1;refine Calls.spliced_cons (Fs I1 M gW LD tb (λy hy hz=>I1.ok.has _ (.inl (oy y hy hz))) λf c' bA pm vE H2 s2 I2 sm e1 e2 nf hf Gu PV X0=>Calls.spliced_nil ⟨I2.fj,?_⟩);have ls:F.length=gN.length:=by have:=aaX List.length hv;rw[aaa,aaa]at this;omega
  have Y3:f ∉ cj X.stack:=λhb=>by obtain⟨_,o,ho,_⟩:=I1.stack.mem hb;exact absurd (aam ho) (Nat.not_lt.mpr Gu)
  have KI:∀{y:Str}{d:Addr}{z:Option Value},X.env.cells.lookup y=some d->s2.heap.IsCell d z->(lT X s2.heap H2).IsCell d z:=λ{y d z} hd ⟨o,eo,od⟩=>by
   refine⟨o,jG eo (I2.dE y d hd) λhb=>?_,od⟩;rcases aau.mp (I2.pY d hb)with z1|z1
   ·exact I2.BH y d hd z1
   ·obtain⟨_,o',nJ,_⟩:=I2.ok.gG.mem z1;exact absurd (aam nJ) (Nat.not_lt.mpr (I2.ok.La y d (Pz y) hd))
  have L:yC (lT X s2.heap H2) f params body scope (X.env.qual++"<lambda>") c' F gN:=by
   refine⟨pm,vE,bA,jG hf nf Y3,λy z d h1 h2=>I2.ok.inj y z d (PV y d h1) (PV z d h2),X0,λy d hd=>?_,λi y v' hi JT=>?_⟩
   ·obtain⟨z,hz⟩:=I2.cell y d (PV y d hd);exact⟨z,KI (PV y d hd) hz⟩
   ·obtain⟨j,hj,hN,hc⟩:=hF i y hi;have ej:σ[j]? = some (some v'):=by have:=aaX (·[i]?) hv;simp only[aak,hj,JT,acD]at this;exact aaw this
    obtain⟨m,_,Wk⟩:=I2.loc;obtain⟨u',ru,lk⟩:=Wk j y v' hN ej (.inr (.inl hc));rcases lk with⟨k1,_⟩|⟨_,d,hd,ko⟩
    ·have k1:X.env.scope.names.lookup y=some .local:=k1;rw[hc]at k1;cases k1
    ·obtain⟨d',JW⟩:=X0 (y,.free) (abb (UP y (aaP hi))) rfl;have:=PV y d' JW;rw[hd]at this;cases this;exact⟨d,u',JW,KI hd ko,ru⟩
  obtain⟨f',fd,Fk,zI,XB,hb⟩:=hC _ f c' gN I2.Qz.mod I2.wide ls L;rw[hm]at zI;cases zI;have r2:Vals [v,.ref f] [u,.ref f]:=.cons r1 (.cons rfl .nil);have hq:=q f c' H2 sm e1 e2 nf;have hl:([u,Value.ref f]++[]).length=ps.length:=by rw[aa1,<-r2.length];exact Fk.len _ _ _ _ hq
  refine abP (abN (Fk.run X.A X.stack s2 H2 ⟨[u,.ref f],[]⟩ ([u,.ref f]++[]) [v,.ref f] Q E0 hr I2.Qz (hb s2 _ I2.fj hl) (by rw[aa1];exact r2) hq) λr s' hq=>?_);cases r with
  | error e=>exact hq.elim
  | ok fl=>
   cases fl with
   | ret u=>exact I2.after hq
   | next=>exact False.elim hq
   | brk=>exact False.elim hq
   | cont=>exact False.elim hq
 rw[he]at go ⊢;exact W.callWith_of (P:=λh=>X.K.In h) (first:=[]) rfl (W.keeps_K hk) (Calls.evalArgs_plain go)
end
end L2
namespace Om
def once{α:Type}[DecidableEq α](l:List α):List α:=l.foldl (λacc x=>if x∈acc then acc else acc++[x]) []
section
variable{α:Type}[DecidableEq α]
theorem snocInd{P:List α->Prop}(h0:P [])(h1:∀l x,P l->P (l++[x]))(l:List α):P l:=by
 have all:∀(n:Nat)(l:List α),l.length=n->P l:=by
  intro n
  induction n with
  | zero=>intro l e;rw[abH.mp e];exact h0
  | succ n ih=>
   intro l e;have ne:l≠[]:=λz=>by rw[z]at e;cases e
   rw[<-abt ne];exact h1 _ _ (ih _ (by rw[adl];omega))
 exact all _ l rfl
theorem gr(l:List α)(x:α):once (l++[x])=if x∈once l then once l else once l++[x]:=by unfold once;rw[List.foldl_append];rfl
theorem Ic(l:List α):(once l).length<=l.length:=by
 induction l using snocInd with
 | h0=>exact aae _
 | h1 l x ih=>
  rw[gr];split
  ·rw[aal];exact aaM ih (Nat.le_add_right _ _)
  ·rw[aal,aal];exact Nat.add_le_add_right ih _
theorem i5(l:List α)(y:α):y∈once l↔y∈l:=by
 induction l using snocInd with
 | h0=>exact Iff.rfl
 | h1 l x ih=>
  rw[gr,aay,aaA];split
  ·rename_i h;exact⟨λz=>.inl (ih.mp z),λz=>z.elim ih.mpr λe=>e▸h⟩
  ·rw[aay,aaA,ih]
end
end Om
namespace L2
open PySem PySem.Spec PyProof.Rows
section
variable{prog:Program}{w:World}{A:Around}{I:Addr}{fp wr:List Addr}{G:Array GenState->Array GenState->Prop}{n:Nat}{P:Nat->Value->Prop}{St:Nat->Shared->Prop}{κ:Type}[DecidableEq κ]{knd:KeyKind prog w κ}
theorem fR{h h':Heap}{S:Addr}{M:κ->Bool}{m:Nat}(x:h.SetOf knd S M m)(k:∀o,h.get? S=some o->h'.get? S=some o):h'.SetOf knd S M m:=by obtain⟨o,es,ep,t,ho,r⟩:=x;exact⟨o,es,ep,t,k o ho,r⟩
theorem Av(W:WalksS prog w A.in1 I fp wr G n P St)(S:Addr)(SG:S ∉ fp)(ks:List κ)(hn:ks.length=n)(Wc:∀i v,P i v->∃x,ks[i]? = some x/\knd.is x v=true/\v.scannable=true)(hb:n+1<scanBound){R:Result->Shared->Prop}:∀(m i:Nat)(s:Shared),n-i=m->i<=n->St i s->s.heap.SetOf knd S (λx=>decide (x∈Om.once (ks.take i))) (Om.once (ks.take i)).length → (∀s',Moved (S::wr) G s s'->s'.heap.SetOf knd S (λx=>decide (x∈Om.once ks)) (Om.once ks).length->R (.ok (.ret .none)) s') → codeAny (model prog w) A (.builtin "set.update.loop" ⟨[.ref S,.ref I],[]⟩) R s:=by
 have nw:S ∉ wr:=λh=>SG (W.sub _ h);have up:∀b∈wr,b∈S::wr:=λb hb=>aaf _ hb;intro m
 induction m with
 | zero=>
  intro i s hm hi st x out;obtain rfl:i=n:=by omega
  refine abU F.entry_set_update_loop ?_;rw[acO F.plain_set_update_loop _];show wpAny _ A.in1 (pyNext (.ref I) >>= _) _ _ s;refine aac (W.done s _ _ st λs1 mv=>?_);show wpAny _ A.in1 (ret Value.none) _ _ s1;rw[aaq (by omega)]at x;exact aaj (out s1 (mv.mono up) (fR x λo e=>mv.heap S o nw e))
 | succ m ih=>
  intro i s hm hi st x out;have lt:i<n:=by omega
  refine abU F.entry_set_update_loop ?_;rw[acO F.plain_set_update_loop _];show wpAny _ A.in1 (pyNext (.ref I) >>= _) _ _ s;refine aac (W.item i s _ _ lt st λv s1 hv BP mv=>?_);obtain⟨y,hy,ky,sy⟩:=Wc i v hv;have x1:=fR (h':=s1.heap) x λo e=>mv.heap S o nw e;show wpAny _ A.in1 (holding [v] (setAdd S v) >>= _) _ _ s1;refine aac (aa0 ?_);unfold setAdd;refine aa0 (aac (knd.pyHash ky ?_));have rm:(Om.once (ks.take i)).length+1<scanBound:=by
   have h1:=Om.Ic (ks.take i);have h2:(ks.take i).length<=i:=by rw[aas];exact abJ _ _
   omega
  refine wpAny_setAddHashed_of (knd:=knd) (s:={ s1 with toks:=s1.toks+1 }) ky sy x1 rm λh2 sb x2=>?_;have tk:ks.take (i+1)=ks.take i++[y]:=by rw[List.take_succ,hy];rfl
  have x3:h2.SetOf knd S (λx=>decide (x∈Om.once (ks.take (i+1)))) (Om.once (ks.take (i+1))).length:=by
   rw[tk,Om.gr];by_cases Pt:y∈Om.once (ks.take i)
   ·rw[aaz Pt];rw[aaz (by simpa using Pt)]at x2;refine(aaX (λM=>h2.SetOf knd S M (Om.once (ks.take i)).length) (funext λz=>?_)).mp x2;by_cases e:z=y
    ·subst e;simp[Pt]
    ·simp[e]
   ·rw[aar Pt,aal];rw[aar (by simpa using Pt)]at x2;refine(aaX (λM=>h2.SetOf knd S M ((Om.once (ks.take i)).length+1)) (funext λz=>?_)).mp x2;rw[abB];simp[aay]
  refine aaj ⟨plainId_quiet F.plain_set_update_loop _,ih (i+1) _ (by omega) lt (W.frame _ s1 _ _ BP (abW _) λb hb o e=>?_) x3 λs2 Za x4=>?_⟩
  ·rw[sb.2 b λh:b=S=>SG (h▸hb)];exact e
  ·refine out s2 (Moved.trans W.gtrans ((mv.mono up).then_heap (abW _) λb o hb e=>?_) Za) x4;rw[sb.2 b λh:b=S=>hb (h▸aah)];exact e
theorem vg{E:Value->Shared->Prop}{s:Shared}{l:Addr}{items:Array Value}{ks:List κ}{Q:Value->Shared->Prop}(hh:A.handled=none)(hl:s.heap.IsList l items)(hn:ks.length=items.size)(hi:∀(i:Nat) v,items[i]? = some v->∃x,ks[i]? = some x/\knd.is x v=true/\v.scannable=true)(hb:items.size+1<scanBound)(h:∀(h':Heap)(tk:Nat),h'.SetOf knd s.heap.objs.size (λx=>decide (x∈Om.once ks)) (Om.once ks).length->(∀b o,s.heap.get? b=some o->h'.get? b=some o)->Q (.ref s.heap.objs.size) { s with heap:=h',toks:=tk }):wpAny (model prog w) A (call (.type "set") [.ref l]) Q E s:=by
 obtain⟨c,tl,m1⟩:=PySem.F.called_set.mro;have m2:=PySem.F.called_set.made;have m3:=PySem.F.called_set.sub;refine abP (codeAny_of_tree ?_);show wpAny _ _ (callAny (.type "set") _) _ _ _;refine aaj ⟨acw _ (by decide +kernel),abU PySem.F.entry_type_call ?_⟩;rw[Around.under_plain (weight_type_call_type "set" [.ref l] []) rfl];have t1:=PySem.F.called_set.notType;have t2:=PySem.F.called_set.canCreate;have t3:=PySem.F.typeCall_set_1 (.ref l)
 repeat(any_goals (first|assumption|wp_step))
 refine abN (code_set_new_1 (.ref l) (E:=E) (Q₁:=λob s1=>∃led:Bool,ob = .ref s.heap.objs.size/\s1={ s with heap:=s.heap.push { cls:=.type "set",dict:=none,data:=.set #[] 0 (.fresh 0 0 led) } }) λled=>⟨led,rfl,rfl⟩) λr s1 hr=>?_;cases r with
 | error e=>exact hr
 | ok fl=>
  cases fl with
  | ret ob=>
   obtain⟨led,rfl,rfl⟩:=hr;have X2:(s.heap.push { cls:=.type "set",dict:=none,data:=.set #[] 0 (.fresh 0 0 led) }).get? s.heap.objs.size=some { cls:=.type "set",dict:=none,data:=.set #[] 0 (.fresh 0 0 led) }:=aap _ rfl;have ty:Shared.TypeIs { s with heap:=s.heap.push { cls:=.type "set",dict:=none,data:=.set #[] 0 (.fresh 0 0 led) } } (.ref s.heap.objs.size) "set" := ⟨_,X2,rfl⟩
   have i1:=PySem.F.called_set.init.lookup;have i2:=PySem.F.called_set.init.bind (.ref s.heap.objs.size)
   repeat(any_goals (first|assumption|wp_step))
   refine abN (abY (R:=wants (λr s2=>r = .none/\∃h' tk,s2={ s with heap:=h',toks:=tk }/\h'.SetOf knd s.heap.objs.size (λx=>decide (x∈Om.once ks)) (Om.once ks).length/\∀b o,s.heap.get? b=some o->h'.get? b=some o) E)
    PySem.F.called_set.init.plain PySem.F.entry_set_init (check_set_init_1 ty ?_)) λr2 s2 Uu=>?_
   ·have l1:(s.heap.push { cls:=.type "set",dict:=none,data:=.set #[] 0 (.fresh 0 0 led) }).IsList l items:=hl.push _;have lS:l<s.heap.objs.size:=by obtain⟨ol,e,_⟩:=hl;exact aam e
    obtain⟨ol,e0,ec,nl,ed⟩:=hl;obtain⟨oc,od,dt,sl⟩:=ol;simp only at ec ed;subst ec;subst ed;have e1:(s.heap.push { cls:=.type "set",dict:=none,data:=.set #[] 0 (.fresh 0 0 led) }).get? l=some { cls:=.type "list",dict:=od,data:=.seq items nl,slots:=sl }:=aad _ e0;have u1:=PySem.F.sub_list_set;have u2:=PySem.F.sub_list_frozenset;have u3:(Value.type "list" == Value.type "dict")=false:=by decide
    unfold Builtin.«set.__init__» noKeywords Builtin.Frozenset.updateFrom;generalize ePI:pyIter=PI
    wp_walk
    subst ePI;refine acK l1 ?_;refine aac (wpAny_runValue ?_);have z1:(s.heap.push { cls:=.type "set",dict:=none,data:=.set #[] 0 (.fresh 0 0 led) }).objs.size=s.heap.objs.size+1:=Heap.size_push _ _;have nI:l≠(s.heap.push { cls:=.type "set",dict:=none,data:=.set #[] 0 (.fresh 0 0 led) }).objs.size:=by rw[z1];exact aaD (acL lS)
    have nS:s.heap.objs.size ∉ [(s.heap.push { cls:=.type "set",dict:=none,data:=.set #[] 0 (.fresh 0 0 led) }).objs.size,l]:=by
     rw[z1];intro hm;rcases aau.mp hm with z|z
     ·exact absurd z (aaD (acR _))
     ·have:s.heap.objs.size=l:=by simpa using z
      exact absurd this (acQ lS)
    refine Av (knd:=knd) ((Walks.list (by simp[hh]) _ l nI items).toS) s.heap.objs.size nS ks hn (λi v hv=>hi i v hv) hb (items.size-0) 0 _ (by omega) (aaO _) ⟨⟨_,aap _ rfl,rfl,rfl⟩,l1.push _⟩ ?x0 ?out
    case x0=>
     have at1:((s.heap.push { cls:=.type "set",dict:=none,data:=.set #[] 0 (.fresh 0 0 led) }).push { cls:=.type "list_iterator",data:=.fields #[.ref l,.int 0 0] }).get? s.heap.objs.size=some { cls:=.type "set",dict:=none,data:=.set #[] 0 (.fresh 0 0 led) }:=aad _ X2;have:=(PyProof.Rows.setObjOf_fresh (knd:=knd) led).setOf at1 (by unfold scanBound;omega);refine(aaX (λM=>Heap.SetOf knd _ _ M 0) (funext λz=>?_)).mp this;simp[Om.once]
    case out=>
     intro s' mv x;obtain⟨h',g',d',JN,TN⟩:=s';obtain rfl:g'=s.gens:=mv.gens;obtain rfl:d'=s.drawn:=mv.drawn;obtain rfl:TN=s.os:=mv.os;show wpAny _ _ _ _ _ _;refine aaj ?_;show wpAny _ _ (ret Value.none) _ _ _;refine aaj ⟨rfl,h',JN,rfl,x,λb o e=>?_⟩;have lb:=aam e;refine mv.heap b o (λhm=>?_) (aad _ (aad _ e));rcases aau.mp hm with z|z
     ·exact absurd z (aaD lb)
     ·have:b=(s.heap.push { cls:=.type "set",dict:=none,data:=.set #[] 0 (.fresh 0 0 led) }).objs.size:=by simpa using z
      rw[z1]at this;exact absurd this (aaD (acL lb))
   ·cases r2 with
    | error e=>exact Uu
    | ok f2=>
     cases f2 with
     | ret r=>
      obtain⟨rfl,h',tk,rfl,x,k⟩:=Uu
      repeat(any_goals (first|assumption|wp_step))
      exact h _ _ x k
     | _=>exact Uu.elim
  | _=>exact hr.elim
end
section
variable{X:Cx}{p pos:Pos}{a b e:Expr}{es:List Expr}{t:TA}
def Ka(i:Nat)(te:TE):TS:=λD σ H=>match σ[i]? with
 | some (some (.int a))=>te σ H λy H1=>match y with
  | .int b=>D.nx (σ.set i (some (.int (a+b)))) H1
  | _=>False
 | _=>False
theorem Kh(y:Str)(i:Nat){te:TE}{py:Pos}(hN:X.N.Nodup)(he:PE X e te)(hi:X.N[i]? = some y:=by with_unfolding_all rfl)(hx:zU X.env.scope y=true:=by kernel_rfl)(hf:(X.fn y || X.env.scope.names.lookup y == some .local)=true:=by kernel_rfl):PS X (.AugAssign (.Name y py) .Add e pos) (Ka i te):=by
 have h:=Mg (pos:=pos) (pos':=py) hN hi (wW hx) he (Nz (X:=X)) (by rw[acA]at hf;exact hf.elim .inl λz=>.inr (eq_of_beq z))
 intro pins s σ H D I q;refine h pins s σ H D I ?_;unfold Ka at q;split at q
 ·rename_i a ea;have q2:te σ H λy H1=>Sk (λi j=>i+j) (.int a) y H1 λz H2=>D.nx (σ.set i (some z)) H2:=by
   have e:(λ(y:V)(H1:Hp)=>match y with
    | .int b=>D.nx (σ.set i (some (.int (a+b)))) H1
    | _=>False)=λy H1=>Sk (λi j=>i+j) (.int a) y H1 λz H2=>D.nx (σ.set i (some z)) H2:=by
    funext y H1;apply propext;unfold Sk;constructor
    ·intro z;split at z
     ·exact⟨_,_,rfl,rfl,z⟩
     ·exact z.elim
    ·rintro⟨i',j',e1,e2,z⟩;cases e1;cases e2;exact z
   rw[e]at q;exact q
  exact⟨_,ea,q2⟩
 ·exact q.elim
end
end L2
namespace Om
inductive vG(nx:Nat->List Nat):Nat->Prop
 | z:vG nx 0
 | s {a b:Nat}:vG nx a->b∈nx a->vG nx b
theorem Ma{nx:Nat->List Nat}{qs:List Nat}(h0:0∈qs)(hc:∀a∈qs,∀b∈nx a,b∈qs):∀s,vG nx s->s∈qs:=λs h=>by
 induction h with
 | z=>exact h0
 | s _ hb ih=>exact hc _ ih _ hb
theorem jV:∀(m:Nat)(qs:List Nat),qs.Nodup->(∀s∈qs,s<m)->qs.length<=m
 | 0,[],_,_=>aae _
 | 0,q::_,_,h=>absurd (h q aah) (adt _)
 | m+1,qs,nd,h=>by
  have ih:=jV m (qs.erase m) (nd.erase m) λs hs=>by
   have h1:=(nd.mem_erase_iff.mp hs)
   have h2:=h s h1.2;have h3:=h1.1;omega
  rw[List.length_erase]at ih;split at ih<;>omega
theorem L9{nx:Nat->List Nat}{m:Nat}(h0:0<m)(h:∀a,a<m->∀b∈nx a,b<m):∀s,vG nx s->s<m:=λs q=>by
 induction q with
 | z=>exact h0
 | s _ hb ih=>exact h _ ih _ hb
def vm(rows:Rows)(s:Nat):List Nat:=(rows.getD s []).map (·.2)
end Om
namespace L2
open PySem PySem.Spec PyProof.Rows
theorem lX{H:Hp}{a b:Addr}{o:HO}(h:upd H a o b=none):b≠a/\H b=none:=by
 by_cases e:b=a
 ·rw[e,aa]at h;cases h
 ·rw[af e]at h;exact⟨e,h⟩
def G5(H:Hp)(ps:List V)(ts:List Nat):Prop:=ps.length=ts.length/\∀(i t:Nat),ts[i]? = some t->∃q,ps[i]? = some (.ref q)/\H q=some (.tup [.int (i:Nat),.int (t:Nat)])
def nk(s:Nat):Key:=Sum.inl (s:Int)
theorem DN{a b:Nat}(h:nk a=nk b):a=b:=by have:(a:Int)=(b:Int):=Sum.inl.inj h;omega
theorem oH{s:Nat}:∀{ag:List (Key×V)}{qs:List Nat},ag.map (·.1)=qs.map nk->(aG ag (nk s)).isSome=decide (s∈qs)
 | [],[],_=>by simp[aG]
 | [],_::_,h=>nomatch h
 | _::_,[],h=>nomatch h
 | kv::ag,q::qs,h=>by
  rw[aaR,aaR,List.cons.injEq]at h;by_cases e:q=s
  ·subst e;rw[bp h.1];simp
  ·rw[bx (λz=>e (DN (h.1.symm.trans z))),oH h.2];have:¬s=q:=λz=>e z.symm;simp[this]
structure Tq(H0 H:Hp)(D Q:Addr)(ag:List (Key×V))(qs:List Nat)(c:Nat):Prop where
 s:ah H0 H
 nD:H0 D=none
 nQ:H0 Q=none
 hD:H D=some (.dK ag)
 hQ:H Q=some (.lst (qs.map λs=>V.int (s:Nat)))
 ks:ag.map (·.1)=qs.map nk
 vl:∀s∈qs,∃t zs,aG ag (nk s)=some (.ref t)/\H t=some (.lst zs)/\zs.length<=c/\t≠Q
 nd:qs.Nodup
section
variable{H0 H H1:Hp}{D Q:Addr}{ag:List (Key×V)}{qs:List Nat}{c:Nat}
theorem Tq.mono(g:Tq H0 H D Q ag qs c)(s:ah H H1):Tq H0 H1 D Q ag qs c:=
 ⟨g.s.trans s,g.nD,g.nQ,s _ _ g.hD,s _ _ g.hQ,g.ks,λx hx=>let⟨t,zs,a,b,r⟩:=g.vl x hx;⟨t,zs,a,s _ _ b,r⟩,g.nd⟩
theorem Tq.le{c':Nat}(g:Tq H0 H D Q ag qs c)(h:c<=c'):Tq H0 H D Q ag qs c':=
 ⟨g.s,g.nD,g.nQ,g.hD,g.hQ,g.ks,λx hx=>let⟨t,zs,a,b,d,e⟩:=g.vl x hx;⟨t,zs,a,b,aaM d h,e⟩,g.nd⟩
theorem Tq.V4(g:Tq H0 H D Q ag qs c):ag.length=qs.length:=by have:=aaX List.length g.ks;rwa [aaa,aaa]at this
theorem Tq.has(g:Tq H0 H D Q ag qs c)(s:Nat):(aG ag (nk s)).isSome=decide (s∈qs):=oH g.ks
theorem Tq.start{Z:Addr}(hD:H D=none)(hZ:upd H D (.dK []) Z=none)(hQ:upd (upd (upd H D (.dK [])) Z (.lst [])) D (.dK [(nk 0,.ref Z)]) Q=none):Tq H (upd (upd (upd (upd H D (.dK [])) Z (.lst [])) D (.dK [(nk 0,.ref Z)])) Q (.lst [.int 0])) D Q [(nk 0,.ref Z)] [0] 0:=by
 obtain⟨QD,q1⟩:=lX hQ;obtain⟨QZ,q2⟩:=lX q1;obtain⟨_,q3⟩:=lX q2;obtain⟨ZD,z1⟩:=lX hZ;refine⟨λb o e=>?_,hD,q3,by rw[af (aa5 QD),aa],aa,rfl,λs hs=>?_,by simp⟩
 ·rw[af (aj e q3),af (aj e hD),af (aj e z1),af (aj e hD)];exact e
 ·have:s=0:=by simpa using hs
  subst this;exact⟨Z,[],bp rfl,by rw[af (aa5 QZ),af ZD,aa],aae _,aa5 QZ⟩
theorem Tq.DA{b u:Addr}{o:HO}{t:Nat}{ys:List V}(h:H b=some o)(bD:b≠D)(bQ:b≠Q):upd (upd H D (.dK (putK ag (nk t) (.ref u)))) Q (.lst ys) b=some o:=by rw[af bQ,af bD];exact h
theorem Tq.put(g:Tq H0 H D Q ag qs c){u:Addr}{zs:List V}{t:Nat}(nt:t ∉ qs)(hu:H u=some (.lst zs))(uQ:u≠Q)(hz:zs.length<=c):Tq H0 (upd (upd H D (.dK (putK ag (nk t) (.ref u)))) Q (.lst ((qs.map λs=>V.int (s:Nat))++[.int (t:Nat)]))) D Q (putK ag (nk t) (.ref u)) (qs++[t]) c:=by
 have DQ:D≠Q:=cc g.hD g.hQ (λz=>nomatch z);have vn:aG ag (nk t)=none:=by
  have:=g.has t;rw[aaT nt]at this;cases e:aG ag (nk t)with
  | none=>rfl
  | some v=>rw[e]at this;cases this
 have lk:∀{b:Addr}{ys:List V},H b=some (.lst ys)->b≠Q->upd (upd H D (.dK (putK ag (nk t) (.ref u)))) Q (.lst ((qs.map λs=>V.int (s:Nat))++[.int (t:Nat)])) b=some (.lst ys):=λ{b ys} h n=>by rw[af n,af (cc h g.hD (λz=>nomatch z))];exact h
 refine⟨λb o e=>?_,g.nD,g.nQ,by rw[af DQ,aa],by rw[aa,aao];rfl,?_,λx hx=>?_,?_⟩
 ·rw[af (aj e g.nQ),af (aj e g.nD)];exact g.s _ _ e
 ·rw[um _ vn,aao,aao,g.ks];rfl
 ·by_cases e:x=t
  ·subst e;exact⟨u,zs,by rw[cZ,aaz rfl],lk hu uQ,hz,uQ⟩
  ·obtain⟨t',ys,a,b,d,f⟩:=g.vl x ((aay.mp hx).resolve_right (λz=>e (by simpa using z)));exact⟨t',ys,by rw[cZ,aar (λz=>e (DN z))];exact a,lk b f,d,f⟩
 ·rw[ac6];refine⟨g.nd,by simp,λa ha b hb z=>?_⟩;have:b=t:=by simpa using hb
  subst this;subst z;exact nt ha
end
end L2
namespace Om
theorem Lr{k:Nat}(h:k<=3):2 ^ k<=8:=by
 have:k=0\/k=1\/k=2\/k=3:=by omega
 rcases this with rfl|rfl|rfl|rfl<;>decide
theorem Kv{k n:Nat}{rows:Rows}(ok:aq k n rows){s:Nat}(hs:s<rows.length):(vm rows s).length<=8/\∀t∈vm rows s,t<rows.length:=by
 have e:rows.getD s []=rows[s]:=by rw[aag,aab hs];rfl
 unfold vm;rw[e];refine⟨by rw[aaa,ok.len _ (aat hs)];exact Lr ok.k3,λt ht=>?_⟩;obtain⟨r,hr,rfl⟩:=aan.mp ht;exact(ok.row _ (aat hs) r hr).2
theorem wM{k n:Nat}{rows:Rows}(ok:aq k n rows):∀s,vG (vm rows) s->s<rows.length:=L9 ok.s1 λa ha=>(Kv ok ha).2
theorem AG{qs:List Nat}{ns:List Int}(h:ns.Perm (qs.map λs=>((s:Nat):Int))):∃nU:List Nat,ns=nU.map (λs=>((s:Nat):Int))/\nU.Perm qs:=by
 have e:ns=(ns.map Int.toNat).map λs=>((s:Nat):Int):=by
  have all:∀x∈ns,((x.toNat:Nat):Int)=x:=λx hx=>by obtain⟨s,_,rfl⟩:=aan.mp (h.mem_iff.mp hx);simp
  rw[aaC]
  conv=>lhs;rw[<-List.map_id ns]
  exact aaW λx hx=>(all x hx).symm
 refine⟨ns.map Int.toNat,e,?_⟩;have:=h.map Int.toNat;rw[aaC]at this;have z:(Int.toNat ∘ λs=>((s:Nat):Int))=id:=by funext s;simp
 rwa [z,List.map_id]at this
theorem uB:∀{qs:List Nat},qs.Nodup->(qs.map λs=>((s:Nat):Int)).Pairwise (·<=·)->qs.Pairwise (· < ·)
 | [],_,_=>.nil
 | q::qs,nd,h=>by rw[aaR,abD]at h;rw[abr]at nd;refine .cons (λs hs=>?_) (uB nd.2 h.2);have h1:=h.1 _ (abc (f:=λs=>((s:Nat):Int)) hs);have h2:q≠s:=λz=>nd.1 (z▸hs);have h1:(q:Int)<=(s:Int):=h1;omega
end Om
namespace L2
open PySem PySem.Spec PyProof.Rows
def II(e:Expr):Arguments:=match e with
 | .Lambda a _ _ _=>a
 | _=>{ posonlyargs:=[],args:=[],vararg:=none,kwonlyargs:=[],kw_defaults:=[],kwarg:=none,defaults:=[] }
def IH(e:Expr):Expr:=match e with
 | .Lambda _ b _ _=>b
 | _=>e
def uD(e:Expr):Scope:=match e with
 | .Lambda _ _ sc _=>sc
 | _=>{ kind:=.function,names:=[],isGenerator:=false,isCoroutine:=false }
def aC(e:Expr):Pos:=match e with
 | .Lambda _ _ _ p=>p
 | _=>⟨0,0,0,0⟩
def Jp(i:Nat)(e:Expr):Expr:=match e with
 | .Call _ as _ _=>as.getD i e
 | _=>e
def VS(d:Expr)(s:Stmt):Expr:=match s with
 | .Return (some e) _=>e
 | _=>d
def pM(P:Addr)(H:Hp):Hp:=λb=>if b=P then none else H b
theorem pM.at{P b:Addr}{H:Hp}{o:HO}(h:H b=some o)(n:b≠P):pM P H b=some o:=by unfold pM;rw[aar n];exact h
theorem pM.same{P:Addr}{H H':Hp}(s:aw P H H'):ah (pM P H) H':=λb o e=>by
 unfold pM at e;split at e
 ·cases e
 ·rename_i n;exact s b o n e
mutual
theorem DV.pM{H:Hp}{P:Addr}{ps:Array Value}(hP:H P=some (.eL ps)):∀{v:V}{d:PyData},DV H v d->DV (pM P H) v d
 | _,_,.bj=>.bj
 | _,_,.bl b=>.bl b
 | _,_,.int i=>.int i
 | _,_,.str x=>.str x
 | _,_,.lst h r=>.lst (pM.at h (cc h hP (λz=>nomatch z))) (bO.pM hP r)
 | _,_,.tup h r=>.tup (pM.at h (cc h hP (λz=>nomatch z))) (bO.pM hP r)
 | _,_,.BU h=>.BU (pM.at h (cc h hP (λz=>nomatch z)))
theorem bO.pM{H:Hp}{P:Addr}{ps:Array Value}(hP:H P=some (.eL ps)):∀{vs:List V}{ds:List PyData},bO H vs ds->bO (pM P H) vs ds
 | _,_,.nil=>.nil
 | _,_,.cons h r=>.cons (DV.pM hP h) (bO.pM hP r)
end
theorem Tab.eL{P:Addr}{pos:Pos}{qual:Str}{H:Hp}(t:Tab P pos qual H):∃ps,H P=some (.eL ps):=by
 rcases t with e|⟨c,e,_⟩
 ·exact⟨_,e⟩
 ·exact⟨_,e⟩
theorem DV.dC{H H':Hp}{P:Addr}{pos:Pos}{qual:Str}{v:V}{d:PyData}(h:DV H v d)(t:Tab P pos qual H)(s:aw P H H'):DV H' v d:=
 let⟨_,e⟩:=t.eL
 (h.pM e).mono (pM.same s)
theorem aw.free{P:Addr}{H H':Hp}{l:Addr}(s:aw P H H')(h:H' l=none)(n:l≠P):H l=none:=by
 cases q:H l with
 | none=>rfl
 | some o=>rw[s l o n q]at h;cases h
def PZ(K:W.Frag)(mg:Str->Option Value)(x:Str)(st:Stmt)(ps:List Str)(c:Addr):Prop:=∃(f:Addr)(oc:Value)(od:Option Addr)(kV doc pm:Value)(an:Option Addr)(ct:Value)(fW:Array (Option Value)),
 K.lookup f=some ⟨oc,od,.func (W.fnOf x x (aU st) (ay st) (ae st) .none kV doc pm an (.ref c) ct),fW⟩/\W.codeIn K (.ref c) x=true/\W.keepIn K (.ref f)=true/\mg x=some (.ref f) ∧
 Binds K (W.fnOf x x (aU st) (ay st) (ae st) .none kV doc pm an (.ref c) ct) ps []
theorem Jm{P:Program}{w:World}{K:W.Frag}{mg:Str->Option Value}{base:Heap}{x:Str}{st:Stmt}{N ps:List Str}{k:Nat}{sp:Sp}{c:Addr}(D:PZ K mg x st ps c)(S:ao N ps (ae st))(len:∀vs H Q E,sp vs H Q E->vs.length=ps.length)(cx:∀(f:Addr)(A:Around)(outer:List Env)(s:Shared)(H:Hp)(vs:List V)(Q:VK)(E:XK),av k (A.deeper (envOfC x (ae st) s.heap.objs.size f (.ref c)))->sp vs H Q E → ∃t,nL (br kR P w K mg base N x (ae st) f (.ref c) A outer s H E).vp (ay st) t/\t { nx:=λ_ H'=>Q .bj H',rt:=Q } (start N vs) H):aJ P w K mg base x (k+1) ps sp:=by refine az λak=>?_;obtain⟨f,oc,od,kV,doc,pm,an,ct,fW,lk,gW,kp,hm,hb⟩:=D;refine ak ?_;clear ak;refine⟨f,_,yA lk gW S len λA outer s H vs Q E hr oi=>?_,hm,kp,hb⟩;obtain⟨t,h,q⟩:=cx f A outer s H vs Q E hr oi;exact⟨t,h.vp,q⟩
theorem PZ.of{K:W.Frag}{h:Heap}{mg:Str->Option Value}{x:Str}{st:Stmt}{ps:List Str}{c P:Addr}(D:dG K x st)(ht:W.tabIn K x=some (c,P))(X:K.In h)(G:h.Ns mainGlobals mg)(hb:∀(kV doc pm:Value)(an:Option Addr)(aA ct:Value)(us:List Value),us.length=ps.length->bindArgs (W.fnOf x x (aU st) (ay st) (ae st) .none kV doc pm an aA ct) ⟨us,[]⟩=pure (ps.zip us)):PZ K mg x st ps c:=by
 refine az λak=>?_;obtain⟨f,oc,od,an,fW,kV,dc,pm,cd,ct,h1,h2,h3,h4⟩:=D;refine ak ?_;clear ak;have e:cd = .ref c:=by
  unfold W.tabIn at ht;rw[h1]at ht;dsimp only at ht;rw[h2]at ht;dsimp only at ht;split at ht
  ·rename_i c' _;split at ht
   ·split at ht
    ·cases ht;rfl
    ·cases ht
   ·cases ht
  ·cases ht
 subst e;exact⟨f,oc,od,kV,dc,pm,an,ct,fW,h2,h3,h4,ab7 X G h1,.all (hb kV dc pm an _ ct)⟩
theorem A6{P:Program}{w:World}{K:W.Frag}{mg mb:Str->Option Value}{CX:zL}{k:Nat}{fa a:Addr}{fd:FuncData}{x:Str}{sp:Sp}{aD:Shared}{vs:List Value}{ns:List Int}{tabs:List (Addr×Addr)}(KX:K.In aD.heap)(JV:aD.heap.Ns mainGlobals mg)(hb:aD.heap.Ns builtinsNs mb)(UG:∀x:Str,x≠"__name__"->mb x=bootBuiltins x)(Wl:aD.heap.NoLimit)(hg:aD.gens = #[])(ha:aD.heap.get? a=some { cls:=.type "list",data:=.seq vs.toArray })(hi:IntsAre vs ns)(hl:ns.length<=sizeLine)(hr:av k callerA)(hT:W.TabsAt tabs aD.heap)(Po:W.noTabs K=true)(K5:∃bm ob,mg "__builtins__" = some (.ref bm)/\bm≠builtinsNs/\aD.heap.get? bm=some ob/\ob.cls = .type "module"/\ob.dict=some builtinsNs/\ob.data = .plain)(F:∀base:Heap,K.In base->base.Ns mainGlobals mg->(∀q∈tabs,Maker mg base q.1 q.2)->cU P w K mg base CX k fa fd [x] sp)(C1:∀(s:Shared)(u:Value),BindsTo s fd ⟨[u],[]⟩ [(x,u)])(oi:∀H:Hp,(∀q∈tabs,H q.2=some (.eL #[]))->aN K H a (ns.map V.int)->sp [.ref a] H (λv _=>v = .bl true) λ_ _ _=>False)(US:∀H e s',CX [] H aD (λ_ _ _=>False) e s'->False):codeAny (model P w) callerA (.call (.ref fa) ⟨[.ref a],[]⟩) (λr s'=>r = .ok (.ret (.bool true))/\OldK aD.heap s'.heap/\s'.os=aD.os/\AllBare s'.gens) aD:=by
 have rv:=oF hi;have nZ:=hi.length;have aT:∀q∈tabs,q.2≠a:=λq hq z=>by have e:=(hT q hq).2;rw[z,ha]at e;cases e
 have core:∀H:Hp,(∀b u,H b=some u->(b=a/\u = .eA { cls:=.type "list",data:=.seq vs.toArray } (.lst (ns.map V.int))/\K.lookup a=none)\/∃q∈tabs,b=q.2/\u = .eL #[])->(∀q∈tabs,H q.2=some (.eL #[]))->aN K H a (ns.map V.int) →
   codeAny (model P w) callerA (.call (.ref fa) ⟨[.ref a],[]⟩) (λr s'=>r = .ok (.ret (.bool true))/\OldK aD.heap s'.heap/\s'.os=aD.os/\AllBare s'.gens) aD:=by
  intro H hH XF hS;have au:eM P w H aD.heap:=λb u e=>by
   rcases hH b u e with⟨rfl,rfl,_⟩|⟨q,hq,rfl,rfl⟩
   ·exact⟨ha,by rw[aaa];exact hl,vs,_,rv,ha⟩
   ·exact(hT q hq).2
  have free:∀{b:Addr}{o:Obj},aD.heap.get? b=some o->o.cls≠.type "list"\/(∀y,o.data≠.seq vs.toArray y)->(o.cls≠.none\/∀ps,o.data≠.fields ps)->H b=none:=λ{b o} e n1 n2=>by
   cases q:H b with
   | none=>rfl
   | some u=>
    rcases hH b u q with⟨rfl,_,_⟩|⟨t,ht,rfl,_⟩
    ·rw[ha]at e;cases e;rcases n1 with n1|n1
     ·exact absurd rfl n1
     ·exact absurd rfl (n1 _)
    ·rw[(hT t ht).2]at e;cases e;rcases n2 with n2|n2
     ·exact absurd rfl n2
     ·exact absurd rfl (n2 _)
  have Sg:∀{b:Addr}{m:Str->Option Value},aD.heap.Ns b m->(pU aD.heap H).Ns b m:=λ{b m}⟨o,es,ep,e,d,r⟩=>
   ⟨o,es,ep,i6 e (free e (.inr λy z=>by rw[d]at z;cases z) (.inr λy z=>by rw[d]at z;cases z)),d,r⟩
  have XI:K.In (pU aD.heap H):=λb o e=>i6 (KX b o e) (by
   cases q:H b with
   | none=>rfl
   | some u=>
    rcases hH b u q with⟨rfl,_,z⟩|⟨t,ht,rfl,_⟩
    ·rw[z]at e;cases e
    ·have e1:=KX _ _ e;rw[(hT t ht).2]at e1;have e2:=aaZ.mp Po _ (W.mem_of_lookupK e);cases e1;exact absurd (show false=true from e2) aav)
  have hM:Mod K mg (pU aD.heap H):=⟨XI,Sg JV,⟨mb,Sg hb,UG⟩,let⟨mc,h1,h2⟩:=Wl;⟨mc,Sg h1,h2⟩⟩
  have XG:∀q∈tabs,Maker mg (pU aD.heap H) q.1 q.2:=λq hq=>by
   refine⟨?_,?_⟩
   ·refine az λak=>?_;obtain⟨bm,ob,b1,b2,b3,b4,b5,b6⟩:=K5;refine ak ?_;clear ak;exact⟨bm,ob,b1,b2,i6 b3 (free b3 (.inl (by rw[b4];decide)) (.inl (by rw[b4];exact λz=>nomatch z))),b4,b5,b6⟩
   ·refine az λak=>?_;obtain⟨o,c1,c2,c3,c4,c5,c6,c7,c8,e,c9,r⟩:=(hT q hq).1;refine ak ?_;clear ak;exact⟨o,c1,c2,c3,c4,c5,c6,c7,c8,i6 e (free e (.inl (by rw[c9];decide)) (.inl (by rw[c9];exact λz=>nomatch z))),c9,r⟩
  have e0:lP P w K mg (pU aD.heap H) callerA [] aD H:=⟨rfl,hM,λb o e=>Iu e,ac4 (Bc _ _),trivial,λb hb=>absurd (show b∈([]:List Addr)from hb) (by simp),au,.of_eq hg⟩
  refine abN ((F _ XI (Sg JV) XG).run callerA [] aD H ⟨[.ref a],[]⟩ [.ref a] [.ref a] _ _ hr e0 (C1 aD (.ref a)) (.cons rfl .nil) (oi H XF hS)) λr s' h=>?_;cases r with
  | error e=>exact(US H e s' h).elim
  | ok fl=>
   cases fl with
   | next=>exact False.elim h
   | brk=>exact False.elim h
   | cont=>exact False.elim h
   | ret u=>
    refine az λak=>?_;obtain⟨v,H',os,bare,un,GW,r',q⟩:=h;refine ak ?_;clear ak;have q':v = .bl true:=q;subst q';obtain rfl:u=Value.bool true:=r';have kept:∀b o,aD.heap.get? b=some o->(∀t∈tabs,b≠t.2)->s'.heap.get? b=some o:=λb o e n=>by
     cases q:H b with
     | none=>exact un.keep b o e q (by intro z;exact absurd (show b∈([]:List Addr)from z) (by simp)) (by simp)
     | some u=>
      rcases hH b u q with⟨rfl,rfl,_⟩|⟨t,ht,z,_⟩
      ·have z2:=un.iE _ _ _ q;obtain⟨e2,_⟩:=GW _ _ z2;rw[ha]at e;cases e;exact e2
      ·exact absurd z (n t ht)
    have grown:∀t∈tabs,∃more,s'.heap.get? t.2=some (W.tabObj (#[]++more)):=λt ht=>by obtain⟨more,z⟩:=un.iC _ _ (XF t ht);exact⟨more,GW _ _ z⟩
    refine⟨rfl,⟨λb o e=>?_,λb o e=>?_⟩,os,bare⟩
    ·by_cases n:∀t∈tabs,b≠t.2
     ·exact .inl (kept b o e n)
     ·obtain⟨t,ht,z⟩ : ∃t∈tabs,b=t.2:=by refine aa6 λz=>n λt ht y=>z ⟨t,ht,y⟩
      subst z;have hP:=(hT t ht).2;rw[hP]at e;cases e;obtain⟨more,g⟩:=grown t ht;exact .inr (.inl ⟨((hT t ht).1.tab hP).isCodeTable,rfl,#[],more,rfl,g⟩)
    ·by_cases n:∀t∈tabs,b≠t.2
     ·exact⟨o,kept b o e n⟩
     ·obtain⟨t,ht,z⟩ : ∃t∈tabs,b=t.2:=by refine aa6 λz=>n λt ht y=>z ⟨t,ht,y⟩
      subst z;obtain⟨more,g⟩:=grown t ht;exact⟨_,g⟩
 cases hk:K.lookup a with
 | some o=>
  have e:=KX a o hk;rw[ha]at e;cases e;refine core (λb=>if b∈tabs.map (·.2)then some (.eL #[])else none) (λb u e=>?_) (λq hq=>aaz (abc hq)) (.inr ⟨_,vs.toArray,_,hk,rfl,rfl,rfl,by rw[aaE,nZ];exact hl,by simpa using rv⟩);by_cases n:b∈tabs.map (·.2)
  ·obtain⟨q,hq,rfl⟩:=aan.mp n;have z:=(aaz n).symm.trans e;cases z;exact .inr ⟨q,hq,rfl,rfl⟩
  ·have z:=(aar n).symm.trans e;cases z
 | none=>
  refine core (λb=>if b=a then some (.eA { cls:=.type "list",data:=.seq vs.toArray } (.lst (ns.map V.int)))else if b∈tabs.map (·.2)then some (.eL #[])else none) (λb u e=>?_) (λq hq=>?_) (.inl (.inr ⟨{ cls:=.type "list",data:=.seq vs.toArray },aaz rfl⟩))
  ·by_cases m:b=a
   ·have z:=(aaz m).symm.trans e;cases z;exact .inl ⟨m,rfl,hk⟩
   ·have z:=(aar m).symm.trans e;by_cases n:b∈tabs.map (·.2)
    ·obtain⟨q,hq,rfl⟩:=aan.mp n;have z2:=(aaz n).symm.trans z;cases z2;exact .inr ⟨q,hq,rfl,rfl⟩
    ·have z2:=(aar n).symm.trans z;cases z2
  ·show(if q.2=a then _ else _)=_;rw[aar (aT q hq)];exact aaz (abc hq)
theorem Ei{l:W.OpenLaw}{n k:Nat}{q:Program}{loose:List Str}{XP:(Str->Option Value)->Heap->Prop}{YP:World->Heap->Prop}{d:DefRec}{K:Params->W.Frag}{CX:World->zL}{sp:World->Sp}{x:Str}{c0 P0:Addr}(hn:l.most=some n)(Pp:n<=sizeLine)(PB:d.params.defaults=[])(hr:av k callerA)(hY:∀(w:World)(h:Heap),YP w h->(K w.params).In h)(Po:∀w:World,W.noTabs (K w.params)=true)(Ox:∀(w:World)(h:Heap),YP w h->h.get? P0=some (W.tabObj #[]))(gW:∀w:World,W.codeHdIn (K w.params) c0 P0=true)(F:∀(w:World)(mg:Str->Option Value)(fa:Addr)(h:Heap),(K w.params).In h->h.Ns mainGlobals mg->mg d.name=some (.ref fa) → ∃fd:FuncData,(∀(s:Shared)(u:Value),BindsTo s fd ⟨[u],[]⟩ [(x,u)]) ∧ ∀base:Heap,(K w.params).In base->base.Ns mainGlobals mg->Maker mg base c0 P0->cU l.prog w (K w.params) mg base (CX w) k fa fd [x] (sp w))(oi:∀(w:World)(H:Hp)(a:Addr)(ns:List Int),ns.length<=n->H P0=some (.eL #[])->aN (K w.params) H a (ns.map V.int)->sp w [.ref a] H (λv _=>v = .bl true) λ_ _ _=>False)(US:∀(w:World)(H:Hp)(s:Shared)(e:Value)(s':Shared),CX w [] H s (λ_ _ _=>False) e s'->False):W.WalkO q loose XP YP l.row.toRowW d [] (λf vs=>PySem.call f vs):=by
 refine Att.vi hn PB λw cq aD mg mb fa o pm cd doc a vs ns G Y ho hd ack Pq LA hints hlen hg=>?_;have KX:=hY w _ Y;obtain⟨fd,hb,hF⟩:=F w mg fa _ KX G.T.g Pq;exact A6 (tabs:=[(c0,P0)]) KX G.T.g G.T.b G.T.builtins G.T.nolimit hg LA hints (aaM hlen Pp) hr (λq hq=>by rw[aaA.mp hq];exact⟨W.codeHd_of_K KX (gW w),Ox w _ Y⟩) (Po w) G.T.bmain
  (λbase kb nb m=>hF base kb nb (m (c0,P0) (aaA.mpr rfl))) hb (λH hO hS=>oi w H a ns hlen (hO (c0,P0) (aaA.mpr rfl)) hS) λH e s'=>US w H aD e s'
theorem Ob{w:List Bool}{i j:Int}(h0:0<=i)(h1:i<=j)(h2:j<=w.length):Txt.slice (bs w) (some i) (some j)=bs ((w.drop i.toNat).take (j-i).toNat):=by
 have e:(bs w).cps.toList=w.map sg:=by show(w.map sg).toArray.toList=_;simp
 have:=ac2 (x:=bs w) (i:=i) (j:=j) ⟨h0,h1,by rw[e,aaa];exact h2⟩;refine adM (show Txt.slice (bs w) (some i) (some j)=StrLaws.sliceText (bs w) (some i) (some j)from rfl) (this.trans ?_);rw[e];simp[bs,acF,acW]
def tk(u:List Bool):Key:=Sum.inr (bs u)
theorem tU(z:Str)(l u:Option Int):Txt.slice z l u=StrLaws.sliceText z l u:=rfl
theorem IP(l:Option Int)(len:Nat){j:Int}(h:(len:Int)<=j):Builtin.Str.strSliceIndices l (some j) 1 len=Builtin.Str.strSliceIndices l (some (len:Int)) 1 len:=by
 have a:¬((len:Int)<0):=by omega
 have b:¬(j<0):=by omega
 have c:min j (len:Int)=(len:Int):=by omega
 simp[Builtin.Str.strSliceIndices,a,b,c]
theorem Oa{w:List Bool}{j:Int}(h0:0<=j):Txt.slice (bs w) none (some j)=bs (w.take j.toNat):=by
 have e:Txt.slice (bs w) none (some j)=Txt.slice (bs w) (some 0) (some (min j (w.length:Int))):=by
  rw[tU,tU];unfold StrLaws.sliceText;rw[StrLaws.sliceIdx_none_lo,bg];by_cases hj:j<=w.length
  ·rw[show min j (w.length:Int)=j by omega]
  ·rw[show min j (w.length:Int)=w.length by omega,IP _ _ (by omega)]
 rw[e,Ob (by decide) (by omega) (by omega)];congr 1;rw[Int.toNat_zero,acb];by_cases hj:j<=w.length
 ·rw[show(min j (w.length:Int)-0).toNat=j.toNat by omega]
 ·rw[show(min j (w.length:Int)-0).toNat=w.length by omega,aaY,aaq (by omega)]
def Vz(ws:List Bool):It:=⟨λi _=>i<ws.length,λi H x H'=>H'=H/\∃b,ws[i]? = some b/\x = .str (bs [b]),λi _=>ws.length<=i⟩
theorem El{P:Program}{w:World}{K:W.Frag}{tg:Expr}(it:Addr)(ws:List Bool)(t:Tok):Turn P w K tg (Vz ws) [it] it (λi h=>h.IsStrIter it "str_ascii_iterator" (bs ws) t i) where
 mem:=by simp
 obj:=λi h st b hb=>by
  have e:b=it:=by simpa using hb
  subst e;obtain⟨o,e,c,d⟩:=st;exact⟨o,e,λv z=>by rw[d]at z;cases z⟩
 keep:=λi h h' st k=>by obtain⟨o,e,c,d⟩:=st;exact⟨o,k it (by simp) o e,c,d⟩
 item:=by intro X hP hw hK hc i pins s σ H E I hf st hg;subst hP hw hK;obtain⟨f0,f1,f2,f3,f4,f5⟩:=hf it (by simp);have hg:i<ws.length:=hg;have hb:ws[i]? = some ws[i]:=aab hg;refine wpAny_pyNext_ascii_item st (Oc hb) λh' pN sb=>?_;have I1:Inv X pins σ H { s with heap:=h',toks:=s.toks+1 }:=I.turned (λb o hb e=>(sb.2 b hb).trans e) f0 f1 f3 f4 f5;obtain⟨o,e,c,d⟩:=id pN;exact⟨_,rfl,yw (s:={ s with heap:=h',toks:=s.toks+1 }) e c d (by decide) ⟨.str (bs [ws[i]]),H,I1,⟨_,rfl⟩,⟨rfl,_,hb,rfl⟩,pN,λb hb=>(hf b hb).1⟩⟩
 done:=by
  intro X hP hw hK hc i pins s σ H E I hf st hg;subst hP hw hK;obtain⟨f0,f1,f2,f3,f4,f5⟩:=hf it (by simp);have hg:ws.length<=i:=hg;refine wpAny_pyNext_ascii_end (I.ok.hd hc) st ?_ λh' eb=>⟨rfl,I.turned (t':=s.toks) (λb o hb e=>eb b o hb e) f0 f1 f3 f4 f5⟩
  unfold bs;rw[List.getElem?_toArray];exact List.getElem?_eq_none (by rw[aaa];exact hg)
 self:=λ_ _ _ _ _ st h=>wpAny_pyIter_striter_ascii st h
section
variable{X:Cx}{tg:Expr}
def V8(tl:TE):TI:=λσ H R=>tl σ H λx H1=>∃ws:List Bool,x = .str (bs ws)/\R (Vz ws) H1
theorem Mj{l:Expr}{tl:TE}(hl:PE X l tl):PI X tg l (V8 tl):=by
 intro pins s σ H R I h;refine ba (hl pins s σ H _ I h) λv s1 ⟨x,H1,I1,r1,q1⟩=>?_;obtain⟨ws,rfl,q⟩:=q1;obtain⟨t,rfl⟩:=r1;refine wpAny_pyIter_ascii (by unfold bs;rw[List.all_toArray,aaZ];intro c hc;obtain⟨b,_,rfl⟩:=aan.mp hc;cases b<;>decide) ?_
 refine⟨s1.heap.objs.size,[s1.heap.objs.size],_,_,H1,rfl,I1.kept (t':=s1.toks) λb o e=>aad _ e,El _ ws t,⟨_,aap _ rfl,rfl,rfl⟩,λb hb=>?_,q⟩;have e:b=s1.heap.objs.size:=by simpa using hb
 subst e;exact I1.pV (aae _) (I1.au.fresh (aae _))
theorem Ny(ws:List Bool):tB (Vz ws) (ws.map λb=>V.str (bs [b])) λ_=>True:=
 ⟨λH _=>by show ws.length<=_;rw[aaa];exact aae _,λi H _ hi=>by show i<ws.length;rw[aaa]at hi;exact hi,λi H x H' _ hi y=>⟨y.1,by obtain⟨b,h1,h2⟩:=y.2;rw[aak,h1,h2];rfl⟩⟩
end
end L2
namespace Om
def KO(b:Bool):Int:=if b then 1 else -1
end Om
namespace L2
open PySem PySem.StrLaws Builtin Builtin.Str
abbrev ch(c:Nat):Str:=⟨#[c]⟩
theorem mJ(x:Str)(c:Nat):∀(l:List Nat)(st:Array Nat×Nat),l.Pairwise (· < ·)->(∀i∈l,st.2<=i)->st.1.size+l.length<=x.length+1 → (forIn l st (occBody x (ch c) x.length (x.length+1))).run.fst.toList=st.1.toList++l.filter λi=>decide (x.cps.toList[i]? = some c)
 | [],st,_,_,_=>by simp
 | a::l,st,hp,hs,hz=>by
  rw[ado];unfold occBody;have h1:=abD.mp hp;have Ov:st.1.size+(l.length+1)<=x.length+1:=hz;by_cases hc:x.cps.toList[a]? = some c
  ·have sR:=(subAt_one x c a).mpr hc;rw[aaz ⟨⟨⟨by omega,hs a aah⟩,sR.1⟩,sR.2⟩];have ih:=mJ x c l (st.1.push a,a+(ch c).length) h1.2 (λi hi=>by have:=h1.1 i hi;show a+1<=i;omega) (by simp;omega)
   refine adM ih ?_;rw[abw,aaz (by simpa using hc)];simp
  ·rw[aar λh=>hc ((subAt_one x c a).mp ⟨h.1.2,h.2⟩)];have ih:=mJ x c l (st.1,st.2) h1.2 (λi hi=>hs i (aaf _ hi)) (by simp;omega);refine adM ih ?_;rw[abw,aar (by simpa using hc)]
theorem ze(x:Str)(c:Nat):occurrences x (ch c) 0 x.length (x.length+1)=(List.range' 0 (x.length+1)).filter λi=>decide (x.cps.toList[i]? = some c):=by rw[occ_eq];have:=mJ x c (List.range' 0 (x.length+1-0)) (#[],0) List.pairwise_lt_range' (λ_ _=>aaO _) (by simp);simpa using this
def om(c:Nat)(p:Str):Prop:=c ∉ p.cps.toList
theorem yJ{x:Str}{c a b:Nat}(h:∀i,a<=i->i<b->x.cps.toList[i]?≠some c):om c (strSub x a b):=by intro hm;rw[strSub_toList]at hm;obtain⟨i,hi⟩:=abS.mp hm;have cT:=(aaB.mp hi).1;simp only[aas,abC]at cT;rw[ab2 (by omega),List.getElem?_drop]at hi;exact h (a+i) (by omega) (by omega) hi
theorem jU(x:Str)(c:Nat):∀(m a b:Nat),a<=b->b+m=x.length+1->(∀i,a<=i->i<b->x.cps.toList[i]?≠some c) → ∀p∈partsFrom x 1 a ((List.range' b m).filter λi=>decide (x.cps.toList[i]? = some c)),om c p
 | 0,a,b,PD,hm,hn,p,hp=>by
  have:p=strSub x a x.length:=by simpa[partsFrom]using hp
  rw[this];exact yJ λi h1 h2=>hn i h1 (by omega)
 | m+1,a,b,PD,hm,hn,p,hp=>by
  rw[List.range'_succ,abw]at hp;by_cases hc:x.cps.toList[b]? = some c
  ·rw[aaz (by simpa using hc)]at hp;have hp:p∈strSub x a b::partsFrom x 1 (b+1) _:=hp;rcases aau.mp hp with rfl|hp
   ·exact yJ hn
   ·exact jU x c m (b+1) (b+1) (aae _) (by omega) (λi h1 h2=>by omega) p hp
  ·rw[aar (by simpa using hc)]at hp;exact jU x c m a (b+1) (by omega) (by omega) (λi h1 h2=>by
    by_cases e:i=b
    ·rw[e];exact hc
    ·exact hn i h1 (by omega)) p hp
theorem IU{x:Str}{c:Nat}(h:x.length<1):om c x:=λhm=>by
 have:x.cps.toList.length=0:=by simp[Str.length]at h ⊢;exact h
 rw[abH]at this;rw[this]at hm;cases hm
theorem gf(x:Str){c:Nat}(hc:c<256):(∀p∈Txt.split x (ch c),om c p)/\Txt.split x (ch c)≠[]/\Str.join (ch c) (Txt.split x (ch c))=x:=by
 unfold Txt.split;split
 ·rename_i h;have h1:PySem.Builtin.Str.strKind (ch c)=1:=by simp[PySem.Builtin.Str.strKind,hc]
  have h2:1<=PySem.Builtin.Str.strKind x:=by unfold PySem.Builtin.Str.strKind;split;exact aae _;split<;>decide
  have hl:x.length<1:=by rw[acA,aaH,aaH,h1]at h;have:(ch c).length=1:=rfl;omega
  exact⟨λp hp=>by rw[aaA.mp hp];exact IU hl,by simp,rfl⟩
 ·split
  ·rename_i h;refine⟨λp hp=>?_,by simp,rfl⟩;rw[aaA.mp hp];intro hm;rw[ze,List.isEmpty_iff,List.filter_eq_nil_iff]at h;obtain⟨i,hi⟩:=abS.mp hm;have cT:=(aaB.mp hi).1;refine h i ?_ (by simpa using hi);rw[List.mem_range'_1];simp[Str.length]at cT ⊢;omega
  ·refine⟨λp hp=>?_,?_,?_⟩
   ·rw[partsBetween_eq,ze]at hp;exact jU x c (x.length+1) 0 0 (aae _) (by omega) (λi h1 h2=>by omega) p hp
   ·rw[partsBetween_eq];obtain⟨p,r,e⟩:=partsFrom_ne x (ch c).length 0 (occurrences x (ch c) 0 x.length (x.length+1));rw[e];simp
   ·rw[<-ada];exact glued_between_self x (ch c) _
theorem mR{c:Nat}:∀{p q A B:List Nat},c ∉ p->c ∉ q->p++c::A=q++c::B->p=q/\A=B
 | [],[],A,B,_,_,h=>⟨rfl,(adK h).2⟩
 | [],b::q,A,B,_,hq,h=>by have:=(adK h).1;exact absurd (by rw[<-this];exact aah) hq
 | a::p,[],A,B,hp,_,h=>by have:=(adK h).1;exact absurd (by rw[this];exact aah) hp
 | a::p,b::q,A,B,hp,hq,h=>by obtain⟨h1,h2⟩:=adK h;obtain⟨e1,e2⟩:=mR (λz=>hp (aaf _ z)) (λz=>hq (aaf _ z)) h2;exact⟨by rw[h1,e1],e2⟩
theorem cg(c:Nat)(p q:Str)(r:List Str):(Str.join (ch c) (p::q::r)).cps.toList=p.cps.toList++c::(Str.join (ch c) (q::r)).cps.toList:=by show(p++ch c++Str.join (ch c) (q::r)).cps.toList=_;simp only[Str.cps_append,Array.toList_append];simp
theorem iL{p q:Str}(h:p.cps.toList=q.cps.toList):p=q:=Str.ext' (Array.toList_inj.mp h)
theorem pf{c:Nat}:∀{ps qs:List Str},(∀p∈ps,om c p)->(∀p∈qs,om c p)->ps≠[]->qs≠[]->Str.join (ch c) ps=Str.join (ch c) qs->ps=qs
 | [],_,_,_,h,_,_=>absurd rfl h
 | _,[],_,_,_,h,_=>absurd rfl h
 | [p],[q],_,_,_,_,h=>by have h:p=q:=h;rw[h]
 | [p],q::q2::r,hp,hq,_,_,h=>by have e:p.cps.toList=_:=(aaX (λs:Str=>s.cps.toList) h).trans (cg c q q2 r);exact absurd (by rw[e];simp) (hp p aah)
 | p::p2::r,[q],hp,hq,_,_,h=>by have e:q.cps.toList=_:=(aaX (λs:Str=>s.cps.toList) h.symm).trans (cg c p p2 r);exact absurd (by rw[e];simp) (hq q aah)
 | p::p2::r,q::q2::r2,hp,hq,_,_,h=>by have e:(Str.join (ch c) (p::p2::r)).cps.toList=(Str.join (ch c) (q::q2::r2)).cps.toList:=aaX (λs:Str=>s.cps.toList) h;rw[cg,cg]at e;obtain⟨e1,e2⟩:=mR (hp p aah) (hq q aah) e;have ih:=pf (ps:=p2::r) (qs:=q2::r2) (λx hx=>hp x (aaf _ hx)) (λx hx=>hq x (aaf _ hx)) (by simp) (by simp) (iL e2);rw[iL e1,ih]
theorem eT{c:Nat}(hc:c<256){ps:List Str}(hp:∀p∈ps,om c p)(hn:ps≠[]):Txt.split (Txt.join (ch c) ps) (ch c)=ps:=by obtain⟨h1,h2,h3⟩:=gf (Txt.join (ch c) ps) hc;refine pf h1 hp h2 hn (h3.trans ?_);exact ada _ _
end L2
namespace L2
open PySem PySem.Spec PyProof.Rows Builtin Builtin.Str
theorem jI:∀(ps:List Str)(tk:Nat),Vals (ps.map V.str) (strsFrom tk ps)
 | [],_=>.nil
 | x::r,tk=>.cons ⟨_,rfl⟩ (jI r (tk+1))
section
variable{X:Cx}{p pos apos:Pos}{a b c e o:Expr}{es:List Expr}{t:TA}{to:TE}
def qk:V->List V->Hp->VK->Prop:=λx vs H Q=>match x,vs with
 | .str z,[.str y]=>(y.length == 0)=false/\z.length+2<=sizeLine/\∀l,H l=none->Q (.ref l) (upd H l (.lst ((Txt.split z y).map V.str)))
 | _,_=>False
theorem oZ:nM X "str.split" qk:=by
 intro pins s σ H x vs v us Q I rx rv h;unfold qk at h;split at h
 ·rename_i z y;obtain⟨hy,hz,q⟩:=h;obtain⟨t,rfl⟩:=rx;obtain⟨u,rfl,t',rfl⟩:=rv.one;have q:=q _ (I.au.fresh (aae _));have alone:Txt.split z y=[z]->EP X pins σ Q (.ref s.heap.objs.size) { s with heap:=s.heap.push { cls:=.type "list",data:=.seq [Value.str z t].toArray } }:=λe=>by rw[e]at q;exact⟨.ref s.heap.objs.size,upd H s.heap.objs.size (.lst [.str z]),I.laid (t':=s.toks) (o:=.lst [.str z]) (λb u e=>aad _ e) (aae _) ⟨by show 1<=sizeLine;decide,[Value.str z t],0,.cons ⟨_,rfl⟩ .nil,aap _ rfl⟩,rfl,q⟩
  have hn:(partsBetween z (occurrences z y 0 z.length (z.length+1)) y.length).length<=sizeLine:=by have:=acI z y 0 z.length (z.length+1);rw[length_partsBetween];omega
  have hT:=typeIs_str s z t;cases h1:(decide (z.length<y.length) || decide (PySem.Builtin.Str.strKind z<PySem.Builtin.Str.strKind y))with
  | true=>exact ab3 acn hT abZ (F.args_str_split_2 _ _) (meets_str_split_cannot_occur z y t t' h1) (alone (aaz h1))
  | false=>
   have n1:¬(decide (z.length<y.length) || decide (PySem.Builtin.Str.strKind z<PySem.Builtin.Str.strKind y))=true:=by rw[h1];decide
   cases h2:(occurrences z y 0 z.length (z.length+1)).isEmpty with
   | true=>exact ab3 acn hT abZ (F.args_str_split_2 _ _) (meets_str_split_not_found z y t t' h1 hy h2) (alone ((aar n1).trans (aaz h2)))
   | false=>
    have n2:¬(occurrences z y 0 z.length (z.length+1)).isEmpty=true:=by rw[h2];decide
    refine ab3 acn hT abZ (F.args_str_split_2 _ _) (meets_str_split_sep z y t t' h1 hy h2 (by omega) hn) ?_;have e:Txt.split z y=partsBetween z (occurrences z y 0 z.length (z.length+1)) y.length:=(aar n1).trans (aar n2);rw[e]at q;exact⟨.ref s.heap.objs.size,upd H s.heap.objs.size (.lst ((partsBetween z (occurrences z y 0 z.length (z.length+1)) y.length).map V.str)),I.laid (o:=.lst ((partsBetween z (occurrences z y 0 z.length (z.length+1)) y.length).map V.str)) (λb u e=>aad _ e) (aae _) ⟨by rw[aaa];exact hn,_,0,jI _ _,aap _ rfl⟩,rfl,q⟩
 ·exact h.elim
theorem m_split{ax:Pos}(ho:PE X o to)(ha:PA X (e::es) t)(bw:attributeBase o "split" X.env (eval o X.env)=eval o X.env:=by kernel_rfl)(eP:((backTo ax (starEach (e::es) X.env)).all (λx=>!x.1)&&(backToKw ax (keywordEach [] X.env)).all (λx=>x.1.isSome) && decide ((e::es).length+([]:List Keyword).length+(if([]:List Keyword).isEmpty then 0 else 1)<30))=true:=by kernel_rfl)(bG:(apos.endLine == ax.line)=true:=by kernel_rfl)(hs:starEach (e::es) X.env=(false,eval e X.env)::starEach es X.env:=by kernel_rfl)(bB:(backTo ax (starEach es X.env)).any (·.1)=false:=by kernel_rfl):PE X (.Call (.Attribute o "split" apos) (e::es) [] ax) (zF "str" qk to t):=iG abo PySem.F.slot_str_split PySem.F.type_str_split oZ ho ha bw eP bG hs bB
def CM:V->List V->Hp->VK->Prop:=λx vs H Q=>match x,vs with
 | .str z,[.str y]=>Q (.int (Txt.find z y)) H
 | _,_=>False
theorem E9:nM X "str.find" CM:=by
 intro pins s σ H x vs v us Q I rx rv h;unfold CM at h;split at h
 ·obtain⟨t,rfl⟩:=rx;obtain⟨u,rfl,t',rfl⟩:=rv.one;exact SC.find ⟨.int _,H,I.tok _,⟨_,rfl⟩,h⟩
 ·exact h.elim
theorem m_find{ax:Pos}(ho:PE X o to)(ha:PA X (e::es) t)(bw:attributeBase o "find" X.env (eval o X.env)=eval o X.env:=by kernel_rfl)(eP:((backTo ax (starEach (e::es) X.env)).all (λx=>!x.1)&&(backToKw ax (keywordEach [] X.env)).all (λx=>x.1.isSome) && decide ((e::es).length+([]:List Keyword).length+(if([]:List Keyword).isEmpty then 0 else 1)<30))=true:=by kernel_rfl)(bG:(apos.endLine == ax.line)=true:=by kernel_rfl)(hs:starEach (e::es) X.env=(false,eval e X.env)::starEach es X.env:=by kernel_rfl)(bB:(backTo ax (starEach es X.env)).any (·.1)=false:=by kernel_rfl):PE X (.Call (.Attribute o "find" apos) (e::es) [] ax) (zF "str" CM to t):=iG abo PySem.F.slot_str_find PySem.F.type_str_find E9 ho ha bw eP bG hs bB
def Lp:V->List V->Hp->VK->Prop:=λx vs H Q=>match x,vs with
 | .ref l,[]=>∃xs,H l=some (.lst xs)/\Q .bj (upd H l (.lst []))
 | _,_=>False
theorem A3:nM X "list.clear" Lp:=Fd.of λx xs H Q q=>by
 unfold Lp at q;split at q
 ·obtain⟨ys,h,q⟩:=q;exact⟨_,ys,rfl,rfl,h,q⟩
 ·exact q.elim
theorem IE{ax:Pos}(ho:PE X o to)(bw:attributeBase o "clear" X.env (eval o X.env)=eval o X.env:=by kernel_rfl)(bG:(apos.endLine == ax.line)=true:=by kernel_rfl):PE X (.Call (.Attribute o "clear" apos) [] [] ax) (zF "list" Lp to gY):=DD ac0 PySem.F.slot_list_clear PySem.F.type_list_clear A3 ho bw bG
theorem qq{x:Str}{z:Str}{aI:Str->Option Value}(hm:∃tk,aI x=some (.str z tk))(hX:X.mg=aI)(hg:gB X x=true:=by kernel_rfl)(hd:(x == ("__debug__" : Str))=false:=by kernel_rfl):PE X (.Name x pos) (tC (.str z)):=by obtain⟨tk,hm⟩:=hm;exact lr (aK hg) (by rw[hX];exact hm) ⟨tk,rfl⟩ hd
def CJ:List V->Hp->VK->Prop:=λvs H Q=>match vs with
 | [.ref p]=>∃xs,H p=some (.lst xs)/\∀l,H l=none->Q (.ref l) (upd H l (.tup xs))
 | _=>False
theorem Bk:aH X (.type "tuple") CJ:=oh.of λxs H Q q=>by
 unfold CJ at q;split at q
 ·obtain⟨ys,h,q⟩:=q;exact⟨_,ys,rfl,.inl ⟨aN.of h,q⟩⟩
 ·exact q.elim
theorem zp{aI:Str->Option Value}(hm:aI "tuple" = none)(hX:X.mg=aI)(ha:PA X (e::es) t)(hg:gB X "tuple" = true:=by kernel_rfl)(he:starEach (e::es) X.env=(false,eval e X.env)::starEach es X.env:=by kernel_rfl)(hpl:(backTo pos (starEach es X.env)).any (·.1)=false:=by kernel_rfl):PE X (.Call (.Name "tuple" p) (e::es) [] pos) (kP CJ t):=eJ Bk (aK hg) (by rw[hX];exact hm) PyProof.Rows.boot_tuple ha (he:=he) (hpl:=hpl)
end
end L2
namespace L2
open PySem PySem.Spec PyProof.Rows
theorem lG(xs:List V)(a h:Nat):dm xs (some (a:Int)) (some (h:Int))=(xs.drop a).take (h-a):=by
 unfold dm;rw[HT.dO,HT.dO];by_cases h1:a<=xs.length
 ·rw[acB h1];by_cases h2:h<=xs.length
  ·rw[acB h2]
  ·rw[Nat.min_eq_right (by omega),aaq (by simp),aaq (by simp;omega)]
 ·rw[Nat.min_eq_right (by omega:xs.length<=a),acu (aae _),acu (by omega)];simp
end L2
namespace L2
theorem zj{c A B:Prop}[Decidable c](hc:¬c)(h:B):if c then A else B:=by rw[aar hc];exact h
end L2
namespace L2
open PySem PySem.Spec PyProof.Rows
section
variable{X:Cx}{p pos:Pos}
def Dy:List V->Hp->VK->Prop:=λvs H Q=>(∃(a:Addr)(ag:List (Key×V)),vs=[.ref a]/\Rd H a (.dK ag)/\∀l,H l=none->Q (.ref l) (upd H l (.lst (ag.map λp=>kV p.1))))\/wR vs H Q
theorem x6(hc:X.calm=true):aH X (.type "list") Dy:=by
 intro pins s σ H xs us Q I r h;rcases h with⟨a,ag,rfl,rd,q⟩|h
 ·obtain⟨u,rfl,rx⟩:=vals1 r;cases rx;refine az λak=>?_;obtain⟨z,hd,vs,kv,o,es,ep,h1,h2,h3,h4,h5,h6⟩:=fw I.au rd;refine ak ?_;clear ak;have hT:s.TypeIs (.ref a) "dict" := ⟨o,h1,h2.1⟩
  have rel:=eG kv h5;have le:es.size<=sizeLine:=by have e1:=rel.length;simp at e1;omega
  refine dj (I.ok.hd hc) hd hT h1 h3 le λh' tk dn c' kp e' it=>?_;have hl:(ag.map λp=>kV p.1).length<=sizeLine:=by have:=rel.length;simp at this ⊢;omega
  exact⟨.ref s.heap.objs.size,_,I.laid (t':=tk) kp (aae _) (show aS X.prog X.w _ h' _ (.lst _)from⟨hl,dn.toList,c',eX it rel,by simpa using e'⟩),rfl,q _ (I.au.fresh (aae _))⟩
 ·exact x8 hc pins s σ H _ _ Q I r h
theorem FD{e:Expr}{es:List Expr}{t:TA}{aI:Str->Option Value}(hm:aI "list" = none)(hX:X.mg=aI)(ha:PA X (e::es) t)(hc:X.calm=true:=by kernel_rfl)(hg:gB X "list" = true:=by kernel_rfl)(he:starEach (e::es) X.env=(false,eval e X.env)::starEach es X.env:=by kernel_rfl)(hpl:(backTo pos (starEach es X.env)).any (·.1)=false:=by kernel_rfl):PE X (.Call (.Name "list" p) (e::es) [] pos) (kP Dy t):=eJ (x6 hc) (aK hg) (by rw[hX];exact hm) PyProof.Rows.boot_list ha (he:=he) (hpl:=hpl)
end
def vA(a:Addr)(H:Hp):Hp:=λx=>if x=a then none else H x
theorem vA.same{a:Addr}{H:Hp}:ah (vA a H) H:=λx u e=>by
 unfold vA at e;split at e
 ·cases e
 ·exact e
theorem vA.at{a x:Addr}{H:Hp}{u:HO}(h:H x=some u)(n:x≠a):vA a H x=some u:=by unfold vA;rw[aar n];exact h
section
variable{X:Cx}{pos apos:Pos}{o e:Expr}{to:TE}{t:TA}{es:List Expr}
theorem NS{x:Str}{a:Addr}{aI:Str->Option Value}(hm:aI x=some (.ref a))(hX:X.mg=aI)(hg:gB X x=true:=by kernel_rfl)(hd:(x == ("__debug__" : Str))=false:=by kernel_rfl):PE X (.Name x pos) (tC (.ref a)):=
 lr (aK hg) (by rw[hX];exact hm) rfl hd
end
end L2
namespace L2
open PySem PySem.Spec PyProof.Rows PySem.W
def J1(h base:Heap)(e:Addr)(c a0:Value)(dd:Option Addr)(fl:Value):Prop:=
 ∃(oe:Obj)(vs:Array Value)(T:Addr)(oT:Obj)(ts:Array Value),h.get? e=some oe/\oe.cls=c/\oe.dict=dd/\vs[0]? = some a0/\oe.data = .fields vs/\vs[1]? = some (.ref T)/\base.get? T=none/\T≠e/\h.get? T=some oT/\oT.data = .fields ts/\ts[3]? = some fl
def n5(base:Heap)(l:List Env)(e:Addr)(c a0:Value)(dd:Option Addr)(h:Heap):Prop:=base.StaysIn h/\base.get? e=none/\h.FunFrames base l/\J1 h base e c a0 dd .none
def QF(base:Heap)(l:List Env)(e:Addr)(c a0:Value)(dd:Option Addr)(L:Addr)(h:Heap):Prop:=base.StaysIn h/\base.get? e=none/\h.FunFrames base l/\J1 h base e c a0 dd (rawInt L)
theorem nE(f:Array Value->Array Value)(o:Obj):(Obj.mapFields f o).dict=o.dict:=by unfold Obj.mapFields;split<;>rfl
section
variable{M:Model}{A:Around}{E:Value->Shared->Prop}{s:Shared}{base:Heap}{env:Env}{outer:List Env}{L e:Addr}{a0:Value}{Q:Unit->Shared->Prop}
theorem zt{oe:Obj}{vs:Array Value}{UE:Value}{had:Bool}(fr:A.frames=some (env::outer))(ff:s.heap.FunFrames base (env::outer))(lf:env.frame=some L)(ge:s.heap.get? e=some oe)(bs:base.StaysIn s.heap)(be:base.get? e=none)(dv:oe.data = .fields vs)(sz:1<vs.size)(v0:vs[0]? = some a0)(k:∀h',base.StaysIn h'->h'.FunFrames base (env::outer)->J1 h' base e oe.cls a0 oe.dict (rawInt L)->s.heap.UpToSlots h'->Q () { s with heap:=h' }):wpAny M A (do let x <-frameOf env;let y <-entryPlaceOf L had;let z <-EntryCells.newEntry UE x .none (rawInt L) .none y;setField (.ref e) 1 z) Q E s:=by
 have ne:e ∉ (env::outer).filterMap (·.frame):=λm=>by obtain⟨_,o,ho,nf⟩:=ff.mem m;rw[ge]at ho;cases ho;exact nf vs dv
 refine aac (wpAny_frameOf_fun fr ff lf λh1 so=>aac (wpAny_entryPlaceOf λpl ip=>?_));unfold EntryCells.newEntry newFields;refine aac (acJ ?_ (ip.sizeOk5 _ _ _ _ _));have e1:h1.get? e=some oe:=(so.2.1 e ne).trans ge;have b1:base.StaysIn h1:=λb o q=>(so.2.1 b λm=>by rw[(ff.mem m).1]at q;cases q).trans (bs b o q);have t3:([UE,.ref L,.none,rawInt L,.none]++(if pl.isEmpty then List.replicate 6 Value.none else pl)).toArray[3]? = some (rawInt L):=by
  first|(simp;done)|(rcases ip with rfl|⟨_,_,_,_,_,_,_,rfl⟩<;>simp)
 generalize([UE,.ref L,.none,rawInt L,.none]++(if pl.isEmpty then List.replicate 6 Value.none else pl)).toArray=arr at t3 ⊢;have e2:=aad (h:=h1) { cls:=.type "traceback",dict:=none,data:=.fields arr } e1;have Te:h1.objs.size≠e:=acQ (aam e1);have d3:=acv dv (·.setIfInBounds 1 (Value.ref h1.objs.size));have e3:=aba (Obj.mapFields (·.setIfInBounds 1 (Value.ref h1.objs.size))) e2 (ac9 d3);have T3:=(aaU (h1.push { cls:=.type "traceback",dict:=none,data:=.fields arr }) (Obj.mapFields (·.setIfInBounds 1 (Value.ref h1.objs.size))) (aa5 Te)).trans (aap h1 rfl);have kb:∀b o,b≠e->h1.get? b=some o->((h1.push { cls:=.type "traceback",dict:=none,data:=.fields arr }).update e (Obj.mapFields (·.setIfInBounds 1 (Value.ref h1.objs.size)))).get? b=some o:=λb o n q=>by rw[aaU _ _ (aa5 n)];exact aad _ q
 have nr:∀b o,s.heap.get? b=some o->(∀ws,o.data≠.fields ws)->b≠e:=λb o q nf z=>by rw[z,ge]at q;cases q;exact nf vs dv
 refine acN e2 dv sz (k _ (λb o q=>kb b o (λz=>by rw[z,be]at q;cases q) (b1 b o q)) (ff.of_keeps λb o q nf=>?_) ⟨_,_,h1.objs.size,_,arr,e3,Obj.cls_mapFields _ _,?_,by rw[Array.getElem?_setIfInBounds_ne (by decide)];exact v0,d3,by simp[sz],b1.fresh,Te,T3,rfl,t3⟩ λb o q nf=>?_)
 ·obtain⟨sl,q1⟩:=so.2.2 b o q;exact⟨_,kb b _ (nr b o q nf) q1,rfl⟩
 ·exact nE _ _
 ·obtain⟨sl,q1⟩:=so.2.2 b o q;exact⟨sl,kb b _ (nr b o q nf) q1⟩
theorem wU{oe:Obj}{vs:Array Value}(fr:A.frames=some (env::outer))(ff:s.heap.FunFrames base (env::outer))(lf:env.frame=some L)(ge:s.heap.get? e=some oe)(bs:base.StaysIn s.heap)(be:base.get? e=none)(dv:oe.data = .fields vs)(v0:vs[0]? = some a0)(v1:vs[1]? = some .none\/∃(T:Addr)(oT:Obj)(ts:Array Value),vs[1]? = some (.ref T)/\base.get? T=none/\T≠e/\s.heap.get? T=some oT/\oT.data = .fields ts/\ts[3]? = some .none)(k:∀h',base.StaysIn h'->h'.FunFrames base (env::outer)->J1 h' base e oe.cls a0 oe.dict (rawInt L)->s.heap.UpToSlots h'->Q () { s with heap:=h' }):wpAny M A (noteFrame (.ref e) env) Q E s:=by
 unfold noteFrame;simp only[lf];rcases v1 with v1|⟨T,oT,ts,v1,bT,Te,gT,dT,t3⟩
 ·refine aac (wpAny_field ge dv v1 ?_);rw[aar (show ¬((Value.none != Value.none)=true)by decide)];exact zt fr ff lf ge bs be dv (abz.mp v1).1 v0 k
 ·refine aac (wpAny_field ge dv v1 ?_);rw[aaz (show(Value.ref T != Value.none)=true by simp)];refine aac (wpAny_field gT dT t3 ?_);rw[aar (show ¬((Value.none == rawInt (L:Int))=true)by simp[rawInt])];refine aac (acN gT dT (abz.mp t3).1 ?_);have ot:∀b,b≠T->(s.heap.update T (Obj.mapFields (·.setIfInBounds 3 Value.none))).get? b=s.heap.get? b:=λb n=>aaU _ _ (aa5 n);have nr:∀b o,s.heap.get? b=some o->(∀ws,o.data≠.fields ws)->b≠T:=λb o q nf z=>by rw[z,gT]at q;cases q;exact nf ts dT
  refine zt fr (ff.of_keeps λb o q nf=>⟨o,(ot b (nr b o q nf)).trans q,rfl⟩) lf ((ot e (aa5 Te)).trans ge) (λb o q=>(ot b λz=>by rw[z,bT]at q;cases q).trans (bs b o q)) be dv (abz.mp v1).1 v0 λh' k1 k2 k3 k4=>k h' k1 k2 k3 λb o q nf=>k4 b o ((ot b (nr b o q nf)).trans q) nf
theorem i9{c fl:Value}{dd:Option Addr}{l:List Env}(bs:base.StaysIn s.heap)(ff:s.heap.FunFrames base l)(tr:J1 s.heap base e c a0 dd fl)(k:∀h',base.StaysIn h'->h'.FunFrames base l->J1 h' base e c a0 dd .none->s.heap.UpToSlots h'->Q () { s with heap:=h' }):wpAny M A (setFlight (.ref e) none) Q E s:=by
 refine az λak=>?_;obtain⟨oe,vs,T,oT,ts,ge,hc,hd,v0,dv,v1,bT,Te,gT,dT,t3⟩:=tr;refine ak ?_;clear ak;have s3:3<ts.size:=(abz.mp t3).1;have ot:∀b,b≠T->(s.heap.update T (Obj.mapFields (·.setIfInBounds 3 ((none:Option Addr).elim Value.none λf=>rawInt f)))).get? b=s.heap.get? b:=λb n=>aaU _ _ (aa5 n);have nr:∀b o,s.heap.get? b=some o->(∀ws,o.data≠.fields ws)->b≠T:=λb o q nf z=>by rw[z,gT]at q;cases q;exact nf ts dT
 unfold setFlight;refine aac (wpAny_field ge dv v1 ?_);rw[aaz (show(Value.ref T != Value.none)=true by simp)];refine acN gT dT s3 (k _ (λb o q=>(ot b λz=>by rw[z,bT]at q;cases q).trans (bs b o q)) (ff.of_keeps λb o q nf=>⟨o,(ot b (nr b o q nf)).trans q,rfl⟩) ?_ λb o q nf=>⟨o.slots,(ot b (nr b o q nf)).trans q⟩);exact⟨oe,vs,T,_,_,(ot e (aa5 Te)).trans ge,hc,hd,v0,dv,v1,bT,Te,aba _ gT (ac9 (acv dT _)),acv dT _,by simp[s3]⟩
theorem J1.note{h:Heap}{c:Value}{dd:Option Addr}(tr:J1 h base e c a0 dd .none):∃(oe:Obj)(vs:Array Value),h.get? e=some oe/\oe.cls=c/\oe.dict=dd/\oe.data = .fields vs/\vs[0]? = some a0/\∃(T:Addr)(oT:Obj)(ts:Array Value),vs[1]? = some (.ref T)/\base.get? T=none/\T≠e/\h.get? T=some oT/\oT.data = .fields ts/\ts[3]? = some .none:=by refine az λak=>?_;obtain⟨oe,vs,T,oT,ts,h1,h2,h3,h4,h5,h6⟩:=tr;refine ak ?_;clear ak;exact⟨oe,vs,h1,h2,h3,h5,h4,T,oT,ts,h6⟩
theorem leave_new{oe:Obj}{vs:Array Value}(fr:A.frames=some (env::outer))(ff:s.heap.FunFrames base (env::outer))(lf:env.frame=some L)(ge:s.heap.get? e=some oe)(bs:base.StaysIn s.heap)(be:base.get? e=none)(dv:oe.data = .fields vs)(v0:vs[0]? = some a0)(v1:vs[1]? = some .none)(k:∀h',n5 base outer e oe.cls a0 oe.dict h'->s.heap.UpToSlots h'->Q () { s with heap:=h' }):wpAny M A (leaving env (.ref e)) Q E s:=by unfold leaving;refine aac (wU fr ff lf ge bs be dv v0 (.inl v1) λh1 k1 k2 k3 k4=>?_);refine i9 k1 k2 k3 λh2 g1 g2 g3 g4=>k h2 ⟨g1,be,?_,g3⟩ (k4.trans g4);obtain⟨_,_,g2⟩:=g2;exact g2
theorem Fp{c:Value}{dd:Option Addr}(fr:A.frames=some (env::outer))(lf:env.frame=some L)(fl:n5 base (env::outer) e c a0 dd s.heap)(k:∀h',n5 base outer e c a0 dd h'->s.heap.UpToSlots h'->Q () { s with heap:=h' }):wpAny M A (leaving env (.ref e)) Q E s:=by obtain⟨bs,be,ff,tr⟩:=fl;refine az λak=>?_;obtain⟨oe,vs,ge,rfl,rfl,dv,v0,more⟩:=tr.note;refine ak ?_;clear ak;unfold leaving;refine aac (wU fr ff lf ge bs be dv v0 (.inr more) λh1 k1 k2 k3 k4=>?_);refine i9 k1 k2 k3 λh2 g1 g2 g3 g4=>k h2 ⟨g1,be,?_,g3⟩ (k4.trans g4);obtain⟨_,_,g2⟩:=g2;exact g2
theorem Ng{c:Value}{dd:Option Addr}(fr:A.frames=some (env::outer))(lf:env.frame=some L)(fl:n5 base (env::outer) e c a0 dd s.heap)(k:∀h',QF base (env::outer) e c a0 dd L h'->s.heap.UpToSlots h'->Q () { s with heap:=h' }):wpAny M A (noteFrame (.ref e) env) Q E s:=by obtain⟨bs,be,ff,tr⟩:=fl;refine az λak=>?_;obtain⟨oe,vs,ge,rfl,rfl,dv,v0,more⟩:=tr.note;refine ak ?_;clear ak;exact wU fr ff lf ge bs be dv v0 (.inr more) λh1 k1 k2 k3 k4=>k h1 ⟨k1,be,k2,k3⟩ k4
theorem Ni{c:Value}{dd:Option Addr}{l:List Env}(hh:QF base l e c a0 dd L s.heap)(k:∀h',n5 base l e c a0 dd h'->s.heap.UpToSlots h'->Q () { s with heap:=h' }):wpAny M A (setFlight (.ref e) none) Q E s:=by obtain⟨bs,be,ff,tr⟩:=hh;exact i9 bs ff tr λh1 k1 k2 k3 k4=>k h1 ⟨k1,be,k2,k3⟩ k4
theorem IG{c:Value}{dd:Option Addr}{l:List Env}(hh:n5 base l e c a0 dd s.heap)(k:∀h',n5 base l e c a0 dd h'->s.heap.UpToSlots h'->Q () { s with heap:=h' }):wpAny M A (setFlight (.ref e) none) Q E s:=by obtain⟨bs,be,ff,tr⟩:=hh;exact i9 bs ff tr λh1 k1 k2 k3 k4=>k h1 ⟨k1,be,k2,k3⟩ k4
end
end L2
namespace PySem.W
open PySem PySem.Spec PySem.Calls PyProof.Rows Builtin Builtin.ObjectAttr Builtin.Getset_descriptor
abbrev kh:List Value:=[.type "ValueError",.type "Exception",.type "BaseException",.type "object"]
section
variable{prog:Program}{w:World}{A:Around}{E:Value->Shared->Prop}{h:Heap}{g:Array GenState}{dr:Drawn}{t:Nat}{os:OsState}{K:Frag}
variable{nm q:Str}{C N B x:Addr}{bs:List Value}{sn:List Str}{sub:List Value}{ab:Bool}{col:Option Bool}{dd:Option Addr}{k0 k1 k2 k3 k5:Option Value}{name:Str}{v:Value}{o:Obj}
theorem Ao{tk:Tok}{Q:PySem.Fin->Shared->Prop}(X:K.In h)(hC:h.get? C=some (excClassObj nm q C N bs (.ref B::kh) true sn sub ab col dd k0 k1 k2 k3 k5 "ValueError.__new__"))(na:findIn K (.ref C) name=some none)(hx:h.get? x=some o)(hc:o.cls = .ref C)(hn:o.dict=none)(Uv:∀c,o.data≠.cls c)(k:∀h' d JN,h.get? d=none->d≠x->h'.Ns1 d (λy=>if y=name then some v else none)->h'.get? x=some { o with dict:=some d }->(∀b ob,b≠x->h.get? b=some ob->h'.get? b=some ob)->Q (.done (.ret .none)) ⟨h',g,dr,JN,os⟩):wpAny (model prog w) A (Builtin.«object.__setattr__» ⟨[.ref x,.str name tk,v],[]⟩) Q E ⟨h,g,dr,t,os⟩:=by
 have RC:=F.store_ValueError.passes (.ref x);have lk:=looks_findIn (M:=model prog w) X na;unfold Builtin.«object.__setattr__»
 repeat(first|rw[refuse_eq]|(rw[refuseLoop_ref,refuseLoop_ref,RC])|(with_reducible refine abA hx ?_;rw[hc])|with_reducible refine wpAny_mroOf_exc hC ?_|(with_reducible refine lk.at ?_)|wp_step)
 rw[hn];dsimp only;rw[aar (show ¬((!true || !typeHasDict (Value.ref C))=true)by simp[typeHasDict])];have x1:(h.push { cls:=.type "dict",data:=.dict #[] }).get? x=some o:=aad _ hx;have xs:x≠h.objs.size:=aaD (aam hx);split
 ·rename_i c gW;exact absurd gW (Uv c)
 ·refine aac (wpAny_alloc' (aac (wpAny_update' x1 (aaj ?_))));have gd:((h.push { cls:=.type "dict",data:=.dict #[] }).update x λo=>{ cls:=o.cls,dict:=some h.objs.size,data:=o.data,slots:=o.slots }).get? h.objs.size=some { cls:=.type "dict",data:=.dict #[] }:=(Heap.get?_update_ne _ _ _ _ xs.symm).trans (Heap.get?_push_at rfl rfl);have nd:((h.push { cls:=.type "dict",data:=.dict #[] }).update x λo=>{ cls:=o.cls,dict:=some h.objs.size,data:=o.data,slots:=o.slots }).Ns h.objs.size (λ_=>none):=⟨_,#[],_,gd,rfl,λe he=>absurd he (by simp),λ_=>rfl⟩
  show wpAny _ _ (storeInDict h.objs.size (.str name tk) name v) _ _ _;unfold storeInDict newKeyGuard;refine aac (aaj (aac (wpAny_nsSet1 (Heap.Ns1.of_empty nd) λh' n' hs=>?_)));obtain⟨oD,eD,pD,gD,dD,cD⟩:=n'.count (Within.cons name v Within.nil);refine aac (wpAny_lookBehind gD (by rw[dD];exact pastItsLine_dict (aaM cD (by rw[aax,List.length_nil,abv];omega))) ?_)
  wp_walk
  refine k h' h.objs.size _ (acM (aae _)) xs.symm n' ((hs.2 x xs).trans (aba _ x1 ?_)) λb ob n1 e1=>(hs.2 b (aaD (aam e1))).trans ((Heap.get?_update_ne _ _ _ _ n1).trans (aad _ e1));have UB:=(Heap.get?_some_iff.mp hx).2;obtain⟨oc,od,Xa,fW⟩:=o;cases Xa<;>first|rfl|exact UB
theorem C9(T:String)(hT:kh.contains (.type T)=true):(Value.ref C :: .ref B::kh).contains (.type T)=true:=by rw[List.contains_cons,List.contains_cons,hT,Bool.or_true,Bool.or_true]
theorem sk{M:Model}{Kw:Value}{Q:Unit->Shared->Prop}(hC:h.get? C=some (excClassObj nm q C N bs (.ref B::kh) true sn sub ab col dd k0 k1 k2 k3 k5 "ValueError.__new__"))(hx:h.get? x=some o)(hc:o.cls = .ref C)(hq:Q () ⟨h,g,dr,t,os⟩):wpAny M A (checkBuiltinCall "object.__setattr__" ⟨[.ref x,Kw,v],[]⟩) Q E ⟨h,g,dr,t,os⟩:=by
 have SF:=F.store_ValueError;have co:(Value.ref C :: .ref B::kh).contains (.type "object")=true:=C9 "object" (by decide);have ha:=SF.args (.ref x) Kw v;simp only[checkBuiltinCall,SF.kind,SF.split];refine aac ?_;unfold isInstance
 repeat(first|(with_reducible refine abA hx ?_;rw[hc])|(with_reducible refine wpAny_isSubtype_exc hC ?_;rw[co])|wp_step)
 exact hq
theorem uU{Q:Unit->Shared->Prop}(X:K.In h)(hC:h.get? C=some (excClassObj nm q C N bs (.ref B::kh) true sn sub ab col dd k0 k1 k2 k3 k5 "ValueError.__new__"))(sa:findIn K (.ref C) "__setattr__" = some (some (.builtin "object.__setattr__")))(na:findIn K (.ref C) name=some none)(hx:h.get? x=some o)(hc:o.cls = .ref C)(hn:o.dict=none)(Uv:∀c,o.data≠.cls c)(k:∀h' d JN,h.get? d=none->d≠x->h'.Ns1 d (λy=>if y=name then some v else none)->h'.get? x=some { o with dict:=some d }->(∀b ob,b≠x->h.get? b=some ob->h'.get? b=some ob)->Q () ⟨h',g,dr,JN,os⟩):wpAny (model prog w) A (setAttr (.ref x) name v) Q E ⟨h,g,dr,t,os⟩:=by
 have SF:=F.store_ValueError;have f3:=SF.slot.bind (.ref x);have lk:=looks_findIn (M:=model prog w) X sa;unfold setAttr callSpecial? specialOf
 repeat(any_goals (first|assumption|(with_reducible refine abA hx ?_;rw[hc])|(with_reducible refine lk.at ?_)|wp_step))
 refine abY SF.slot.plain SF.entry (sk hC hx hc (Ao X hC na hx hc hn Uv λh' d JN a1 a2 a3 a4 a5=>?_))
 repeat(any_goals (first|assumption|wp_step))
 exact k h' d _ a1 a2 a3 a4 a5
theorem init_exc{y:Value}{ta:Addr}{vs:Array Value}{Q:Value->Shared->Prop}(T:OwnTail h kh (.ref B::kh))(hC:h.get? C=some (excClassObj nm q C N bs (.ref B::kh) true sn sub ab col dd k0 k1 k2 k3 k5 "ValueError.__new__"))(hx:h.get? x=some o)(hc:o.cls = .ref C)(hd:o.data = .fields vs)(v0:vs[0]? = some (.ref ta))(k:Q .none ⟨(h.push { cls:=.type "tuple",data:=.seq #[y] }).update x (Obj.mapFields (·.setIfInBounds 0 (.ref h.objs.size))),g,dr,t,os⟩):wpAny (model prog w) A (call (.builtin "ValueError.__init__") [.ref x,y]) Q E ⟨h,g,dr,t,os⟩:=by
 have Fb:=F.excBase_ValueError;refine abP (abY Fb.init.plain Fb.initEntry (wpAny_check_init_subT Fb T hC hx hc ?_));have x1:=aad { cls:=.type "tuple",data:=.seq #[y] } hx
 wp_walk
 rw[hd];refine aaj ?_;dsimp only;rw[v0];refine aaj (aac (acN x1 hd (abz.mp v0).1 ?_));dsimp only
 wp_walk
 exact k
theorem Ai{mN:Str->Option Value}{rest:List Value}{fI:Addr}{oI:Obj}{Q:PySem.Fin->Shared->Prop}(T:OwnTail h kh (.ref B::kh))(hC:h.get? C=some (excClassObj nm q C N bs (.ref B::kh) true sn sub ab col dd k0 k1 k2 k3 k5 "ValueError.__new__"))(hn:h.Ns N mN)(hi:mN "__init__" = some (.ref fI))(gI:h.get? fI=some oI)(cI:oI.cls = .type "function")(k:∀h' e,Heap.MadeExcOf h h' e (.ref C) rest->h.objs.size<=e->wpAny (model prog w) A (call (.ref fI) (.ref e::rest)) (λr s'=>r = .none/\Q (.done (.ret (.ref e))) s') E ⟨h',g,dr,t,os⟩)(hz:rest.length<=sizeLine):wpAny (model prog w) A (Builtin.«type.__call__» ⟨.ref C::rest,[]⟩) Q E ⟨h,g,dr,t,os⟩:=by
 have Fb:=F.excBase_ValueError
 repeat(first|with_reducible refine abA hC ?_|with_reducible refine wpAny_madeBy_exc hC ?_|wp_step)
 refine codeAny_call_builtin_code (acw _ Fb.quiet) (wpAny_check_new_subT Fb T hC (codeAny_exc_new_subT Fb T hC ?_ hz));show wpAny _ _ _ _ _ _;have kp:∀b o,h.get? b=some o->((h.push { cls:=.type "tuple",data:=.seq rest.toArray }).push { cls:=.ref C,data:=.fields #[.ref h.objs.size,.none,.none,.none,.bool false,.none] }).get? b=some o:=λb o e=>aad _ (aad _ e);have gx:((h.push { cls:=.type "tuple",data:=.seq rest.toArray }).push { cls:=.ref C,data:=.fields #[.ref h.objs.size,.none,.none,.none,.bool false,.none] }).get? (h.objs.size+1)=some { cls:=.ref C,data:=.fields #[.ref h.objs.size,.none,.none,.none,.bool false,.none] }:=by heap_get
 have cC:(Value.ref C :: .ref B::kh).contains (.ref C)=true:=by simp
 have XO:=kp _ _ hC;have T1:=T.keeps kp;unfold isInstance
 repeat(first|with_reducible refine abA gx ?_|(with_reducible refine wpAny_isSubtype_exc XO ?_;rw[cC])|wp_step)
 show wpAny _ _ (typeLookup (.ref C) _) _ _ _;refine wpAny_typeLookup_tail XO (hn.keeps kp) T1 Fb.mroIs Fb.init.lookup ?_;rw[hi];refine aa0 (aac ?_);unfold bindSpecial;refine aac (wpAny_typeOf (T:= "function") ⟨_,kp _ _ gI,cI⟩ ?_);rw[aaz (show(Value.type "function" == Value.type "function" || Value.type "function" == Value.type "method_descriptor" || Value.type "function" == Value.type "wrapper_descriptor")=true by decide)];refine aaj (aac (abd (k _ (h.objs.size+1) ⟨kp,acM (abW _),h.objs.size,gx,acM (aae _),aad _ (Heap.get?_push_at rfl rfl)⟩ (abW _)) (λr s' hr=>?_) λ_ _ z=>z));obtain⟨rfl,hQ⟩:=hr
 wp_walk
 exact hQ
theorem FQ{mN:Str->Option Value}{rest:List Value}{fI:Addr}{oI:Obj}{Q:Value->Shared->Prop}(T:OwnTail h kh (.ref B::kh))(hC:h.get? C=some (excClassObj nm q C N bs (.ref B::kh) true sn sub ab col dd k0 k1 k2 k3 k5 "ValueError.__new__"))(hn:h.Ns N mN)(hi:mN "__init__" = some (.ref fI))(gI:h.get? fI=some oI)(cI:oI.cls = .type "function")(k:∀h' e,Heap.MadeExcOf h h' e (.ref C) rest->h.objs.size<=e->wpAny (model prog w) (A.under (.builtin "type.__call__" ⟨.ref C::rest,[]⟩)) (call (.ref fI) (.ref e::rest)) (λr s'=>r = .none/\Q (.ref e) s') E ⟨h',g,dr,t,os⟩)(hz:rest.length<=sizeLine):wpAny (model prog w) A (call (.ref C) rest) Q E ⟨h,g,dr,t,os⟩:=by
 have f1:=tc_lookup;have f2:=tc_bind (.ref C);have hT:(⟨h,g,dr,t,os⟩ : Shared).TypeIs (.ref C) "type" := ⟨_,hC,rfl⟩
 refine abP (codeAny_of_tree ?_);show wpAny _ _ (callAny (.ref C) _) _ _ _
 repeat(any_goals (first|assumption|with_reducible refine abA hC ?_|wp_step))
 refine⟨rfl,codeAny_call_builtin_at (acw _ (by decide +kernel)) entry_typeCall (wpAny_check_type_call_sub hC (Ai T hC hn hi gI cI (λh' e hm le=>?_) hz))⟩;exact k h' e hm le
theorem xA{M:Model}{env:Env}{s:Shared}{y:Sem Value}{Q:Flow->Shared->Prop}(hh:A.handled=none)(k:wpAny M A y (λv aD=>∃(e ta:Addr)(dc:Option Addr)(sl:Array (Option Value)),v = .ref e/\aD.heap.get? C=some (excClassObj nm q C N bs (.ref B::kh) true sn sub ab col dd k0 k1 k2 k3 k5 "ValueError.__new__")/\aD.heap.get? e=some { cls:=.ref C,dict:=dc,data:=.fields #[.ref ta,.none,.none,.none,.bool false,.none],slots:=sl }/\E (.ref e) aD) E s):wpAny M A (raiseStmt env (some y) none) Q E s:=by
 have cB:(Value.ref C :: .ref B::kh).contains (.type "BaseException")=true:=C9 "BaseException" (by decide);unfold raiseStmt;refine aac (abd k (λv aD fe=>?_) λ_ _ x=>x);refine az λak=>?_;obtain⟨e,ta,dc,sl,rfl,hC,he,hE⟩:=fe;obtain⟨hp,gg,J0,tk,oss⟩:=aD;refine ak ?_;clear ak
 repeat(first|with_reducible refine abA he ?_|with_reducible refine abA hC ?_|(with_reducible refine wpAny_isSubtype_exc hC ?_;rw[cB])|wp_step)
 exact wpAny_raiseNew_none hh hE
end
end PySem.W
namespace L2
open PySem PySem.Spec PyProof.Rows PySem.W
theorem eM.has{P:Program}{w:World}{H:Hp}{h:Heap}(x:eM P w H h){a:Addr}{u:HO}(e:H a=some u):∃o,h.get? a=some o:=by
 have lt:=x.lt e;cases q:h.get? a with
 | some o=>exact⟨o,rfl⟩
 | none=>
  exfalso;have y:=x a u e;cases u with
  | lst xs=>obtain⟨_,_,_,_,z⟩:=y;rw[q]at z;cases z
  | tup xs=>obtain⟨_,_,_,ob,z,_⟩:=y;rw[q]at z;cases z
  | dK ag=>obtain⟨_,_,_,_,o,_,_,z,_⟩:=y;rw[q]at z;cases z
  | dT ag=>obtain⟨_,_,_,_,o,_,_,z,_⟩:=y;rw[q]at z;cases z
  | set S n=>obtain⟨o,_,_,_,z,_⟩:=y;rw[q]at z;cases z
  | ins C dx fs=>obtain⟨_,_,_,z,_⟩:=y;rw[q]at z;cases z
  | own y'=>obtain⟨_,z⟩:=y;rw[q]at z;cases z
  | xd fs=>obtain⟨_,⟨_,_,_,z,_⟩,_⟩:=y;rw[q]at z;cases z
  | Oo lo hi=>obtain⟨_,_,_,z⟩:=y;rw[q]at z;cases z
  | eA ob u=>obtain⟨z,_⟩:=y;rw[q]at z;cases z
  | eL ps=>have z:h.get? a=some _:=y;rw[q]at z;cases z
  | met f y'=>have z:h.get? a=some _:=y;rw[q]at z;cases z
  | ext φ=>obtain⟨_,⟨_,z⟩,_⟩:=y;rw[q]at z;cases z
abbrev kh:List Value:=[.type "ValueError",.type "Exception",.type "BaseException",.type "object"]
def gR(K:W.Frag)(C:Addr):Prop:=∃(nm q:Str)(N:Addr)(bs bm:List Value)(hdct:Bool)(sn:List Str)(sub:List Value)(ab:Bool)(col:Option Bool)(dd:Option Addr)(k0 k1 k2 k3 k5:Option Value)(mN:Str->Option Value),mN "__init__" = none ∧
 ∀h:Heap,K.In h->h.get? C=some (excClassObj nm q C N bs bm hdct sn sub ab col dd k0 k1 k2 k3 k5 "ValueError.__new__")/\h.Ns N mN/\OwnTail h kh bm
def Df(E:XK)(C:Addr)(t:TA):TS:=λ_ σ H=>t σ H λvs H1=>vs.length<=1000/\E (.ref C) none H1
abbrev Cx.held(X:Cx)(x:Addr):Cx:={ X with A:=X.A.mark (some (.ref x)),calm:=false,xe:=λ_ _=>False }
section
variable{X:Cx}{pins:List (Addr×Obj)}{σ:St}{H H':Hp}{s s':Shared}
theorem Cx.Ok.held{x:Addr}(ok:X.Ok):(X.held x).Ok:=
 ⟨ok.mod,ok.kind,ok.glob,ok.blt,ok.above,ok.inj,ok.has,ok.La,λz=>Bool.noConfusion z,ok.frames,ok.O7,ok.PR,ok.bs,ok.BI,ok.zS,ok.Aa,ok.gG,ok.Gb⟩
theorem Inv.held{x:Addr}(I:Inv X pins σ H s):Inv (X.held x) pins σ H s:=⟨I.ok.held,I.os,I.bare,I.base,I.loc,I.cell,I.free,I.dE,I.pin,I.au,I.len⟩
theorem Inv.LU{x:Addr}(ok:X.Ok)(I:Inv (X.held x) pins σ H s):Inv X pins σ H s:=⟨ok,I.os,I.bare,I.base,I.loc,I.cell,I.free,I.dE,I.pin,I.au,I.len⟩
theorem name_goes{M:Model}{A:Around}{E:Value->Shared->Prop}{i:Nat}{x:Str}{pos:Pos}{Q:Unit->Shared->Prop}(I:Inv X pins σ H s)(hN:X.N.Nodup)(hi:X.N[i]? = some x)(hk:X.env.scope.names.lookup x=some .local)(h:∀s',Inv X pins (σ.set i none) H s'->Q () s'):wpAny M A (do bindName X.env x .none;unbindBehindTheSuite X.env x pos) Q E s:=by
 obtain⟨m,hn,hl⟩:=id I.loc;have LF:(X.env.scope.kind == .class || (X.env.scope.kind == .module&&X.env.locals != X.env.globals))=false:=by rw[I.ok.kind];rfl
 have BH:=I.BH;refine wpAny_nameGoes_keeps hk hn LF λh' v Gq hs=>?_;obtain⟨oL,_,_,Ga,_⟩:=id hn;refine h _ ⟨I.ok,I.os,I.bare,⟨λb o e n hb hx=>?_,λb o e n hb hx=>?_,I.base.free,λb o e hx=>?_,I.base.jk,I.base.iE,I.base.iC⟩,⟨_,Gq,λj y v' e1 e2 e3=>?_⟩,λy c e=>?_,I.free,I.dE,λp hp=>?_,λb ob e=>?_,by simpa using I.len⟩
 ·exact(hs.2 b (aaD (aaG (aam e) I.ok.above))).trans (I.base.keep b o e n hb hx)
 ·obtain⟨sl,e1⟩:=I.base.slot b o e n hb hx;exact⟨sl,(hs.2 b (aaD (aaG (aam e) I.ok.above))).trans e1⟩
 ·obtain⟨o',e1⟩:=I.base.there b o e hx;exact⟨o',(hs.2 b (aaD (aaG (aam e) I.ok.above))).trans e1⟩
 ·by_cases hj:j=i
  ·subst hj;have GX:j<σ.length:=by rw[I.len];exact(aaB.mp hi).1
   rw[ac3 GX]at e2;cases e2
  ·rw[adj (aa5 hj)]at e2;obtain⟨u',r',q⟩:=hl j y v' e1 e2 e3;refine⟨u',r',?_⟩;rcases q with⟨k,e⟩|⟨k,c,e,z⟩
   ·refine .inl ⟨k,?_⟩;have:y≠x:=λe=>hj (mL hN e1 (e▸hi));simp[this,e]
   ·exact .inr ⟨k,c,e,z.sameBut hs (BH y c e)⟩
 ·obtain⟨w',z⟩:=I.cell y c e;exact⟨w',z.sameBut hs (BH y c e)⟩
 ·obtain⟨e,n,ne,nf,d⟩:=I.pin p hp;exact⟨(hs.2 p.1 ne).trans e,n,ne,nf,d⟩
 ·refine(I.au b ob e).dR (λc w' hc q=>(hs.2 c ?_).trans q) (λ_ q=>q) λ_ _ q=>q;rintro rfl;rcases hc with rfl|hc
  ·rw[I.free]at e;cases e
  ·rw[I.free]at hc;cases hc
end
end L2
namespace PySem.W
open PySem PySem.Spec PySem.Calls PyProof.Rows Builtin Builtin.ObjectAttr Builtin.Getset_descriptor
section
variable{prog:Program}{w:World}{A:Around}{E:Value->Shared->Prop}{s:Shared}{K:Frag}{x C:Addr}
structure gU(K:Frag)(C:Addr):Prop where
 ga:findIn K (.ref C) "__getattribute__" = some (some (.builtin "BaseException.__getattribute__"))
 gh:findIn K (.ref C) "__getattr__" = some none
 be:mroIn K C (.type "BaseException")=some true
 cls:(clsIn K C).isSome=true
 at_:findIn K (.ref C) "__class__" = some (some (.builtin "object.__class__"))
 sp:specialIn K (.builtin "object.__class__") "__get__" = some (some (.builtin "getset_descriptor.__get__"))
 tk:takesIn K (.builtin "object.__class__")=some true
 ob:mroIn K C (.type "object")=some true
theorem FH{M:Model}{h:Heap}(Z:gU K C)(X:K.In h):Looks M h (find (.ref x) (.ref C) "__class__") (.bind (.builtin "getset_descriptor.__get__") (.builtin "object.__class__")):=
 (looks_findIn X Z.at_).andThen (Looks.andThen (looks_specialIn X Z.sp) (Looks.andThen (a:=some (Value.builtin "getset_descriptor.__get__",Value.builtin "object.__class__")) ((looks_takesIn X Z.tk).andThen .now) (Looks.tag .now)))
theorem FI{Q:Option Value->Shared->Prop}(Z:gU K C)(X:K.In s.heap)(T:∀M,Looks M s.heap (typeOf (.ref x)) (.ref C))(q:Q (some (.ref C)) { s with toks:=s.toks+1 }):wpAny (model prog w) A (getAttr? (.ref x) "__class__") Q E s:=by
 obtain⟨hh,gg,dd,tt,oo⟩:=s;have t0:=T (model prog w);have t1:=looks_findIn (M:=model prog w) X Z.ga;have t2:=FH (M:=model prog w) (x:=x) Z X;have t3:=looks_findIn (M:=model prog w) X Z.gh;have t4:=looks_mroIn (M:=model prog w) X Z.ob;have t5:=looks_mroIn (M:=model prog w) X Z.be;have ZA:(onTheHeap (Value.ref C)&&Value.builtin "BaseException.__getattribute__" == Value.builtin "object.__getattribute__")=false:=by
  have:(Value.builtin "BaseException.__getattribute__" == Value.builtin "object.__getattribute__")=false:=by decide +kernel
  rw[this,ac5]
 have hk:builtinKind "BaseException.__getattribute__" = some .slot:=by decide +kernel
 have NA:splitId "BaseException.__getattribute__" = some ("BaseException","__getattribute__"):=by decide +kernel
 unfold getAttr? getAttrBy? getAttrBy;refine aac (wpAny_mkText (aac (wpAny_attempt (aa0 (aac (t0.at (aac (t1.at ?_))))))));show wpAny _ _ (if(onTheHeap (Value.ref C)&&Value.builtin "BaseException.__getattribute__" == Value.builtin "object.__getattribute__")=true then _ else getAttrByItsOwn _ _ _ _ _ _) _ _ _;rw[ZA,aar (by decide)];unfold getAttrByItsOwn;refine aac ?_;show wpAny _ _ (typeLookup (.ref C) "__getattr__") _ _ _;refine t3.at (aac (wpAny_attempt (aa0 ?_)))
 show wpAny _ _ (boundAndCalled _ _ _) _ _ _;unfold boundAndCalled;rw[F.excAttr_ValueError.ga.bind (.ref x)];refine aac (aaj ?_);show wpAny _ _ (call (.builtin "BaseException.__getattribute__") [.ref x,_]) _ _ _;refine abP (abY F.excAttr_ValueError.ga.plain F.entry_bexc_ga ?_);have ha:=F.args_bexc_ga (.ref x) (.str "__class__" tt);simp only[checkBuiltinCall,hk,NA];unfold isInstance
 repeat((fail_if_success with_reducible refine abP ?_);lk)
 refine abP ?_;refine abY KF.slot_gs.plain KF.entry_gs (KF.slot_gs.check _ _ _ _ _ _ _ _ KF.type_class (KF.args_gs _ _ _) ?_);unfold Builtin.«getset_descriptor.__get__» descrGet;rw[dga_obj];refine aac (aaj ?_);unfold descrGetter descrCheckInstance descrNameAndClass isInstance;simp only[KF.owner_class]
 repeat lk
 refine⟨acw _ (by decide +kernel),abU KF.entry_class ?_⟩;unfold Builtin.«object.__class__» shownTypeOf
 repeat lk
 exact q
theorem mO(Z:gU K C):KitX K (.ref x) (.ref C) (λh=>∃o,h.get? x=some o/\o.cls = .ref C) where
 ty:=λM h _ p=>by obtain⟨o,e,c⟩:=p;exact c▸(Looks.ld e).andThen .now
 it:=λ_ _ X _=>by
  obtain⟨cd,hc⟩:=ab1.mp Z.cls;unfold clsIn at hc;split at hc
  ·rename_i ho;intro A' Q' E' s' k q;unfold isType loadHead;exact aac (wpAny_loadPart (k _ _ (X _ _ ho)) (aaj q))
  ·cases hc
 ne:=λh tp dd its n sl X Up=>by
  refine abq.mpr λq=>?_;obtain rfl:C=tp:=Value.ref.inj (acp.mp q);obtain⟨cd,hc⟩:=ab1.mp Z.cls;unfold clsIn at hc;split at hc
  ·rename_i ho;have z:=(X _ _ ho).symm.trans Up;cases z
  ·cases hc
 ca:=λX p k=>FI Z X (λM=>by obtain⟨o,e,c⟩:=p;exact c▸(Looks.ld e).andThen .now) k
end
end PySem.W
namespace L2
open PySem PySem.Spec PyProof.Rows PySem.W
section
variable{X:Cx}{p pos:Pos}{e:Expr}{es:List Expr}{t:TA}
theorem fC(x:Str){a:Addr}{aI:Str->Option Value}(hm:aI x=some (.ref a))(hX:X.mg=aI)(hg:gB X x=true:=by kernel_rfl)(hd:(x == ("__debug__" : Str))=false:=by kernel_rfl):PE X (.Name x pos) (tC (.ref a)):=
 lr (aK hg) (by rw[hX];exact hm) rfl hd
theorem NP{aI:Str->Option Value}(hm:aI "ValueError" = none)(hX:X.mg=aI)(hg:gB X "ValueError" = true:=by kernel_rfl):PE X (.Name "ValueError" pos) (tC (.ty "ValueError")):=
 zb (aK hg) (by rw[hX];exact hm) (u:=.type "ValueError") (by first|rfl|kernel_rfl|exact PyProof.Rows.Boot.«ValueError») rfl
end
def lO(a:Addr)(c:Value)(dd:Option Addr):HO:=.ext λh=>∃o,h.get? a=some o/\o.cls=c/\o.dict=dd/\∃vs,o.data = .fields vs
theorem lO.mk{P:Program}{w:World}{H:Hp}{h:Heap}{a:Addr}{c:Value}{dd:Option Addr}{o:Obj}{vs:Array Value}(e:h.get? a=some o)(hc:o.cls=c)(hd:o.dict=dd)(hv:o.data = .fields vs):aS P w H h a (lO a c dd):=
 ⟨⟨o,e,hc,hd,vs,hv⟩,⟨o,e⟩,λh1 h2 ⟨o1,e1,c1⟩ k=>⟨o1,k o1 e1,c1⟩⟩
def fb(P:Program)(w:World):zL:=λouter H s E e s'=>∃(x:Addr)(c a0:Value)(dd:Option Addr)(B:Heap)(H':Hp),e = .ref x/\s'.os=s.os/\AllBare s'.gens/\Un (cj outer) [] H H' s.heap s'.heap/\eM P w H' s'.heap/\n5 B outer x c a0 dd s'.heap ∧
 (∀b o,s.heap.get? b=some o->H b=none->b ∉ cj outer->B.get? b=some o)/\(∀b o,s.heap.get? b=some o->b ∉ cj outer->∃o',B.get? b=some o')/\(∀b u,H' b=some u->∀o,s'.heap.get? b=some o->B.get? b=some o)/\E c dd H'
section
variable{P:Program}{w:World}{K:W.Frag}{mg:Str->Option Value}{base:Heap}{N:List Str}{qual:Str}{scope:Scope}{f:Addr}{cd:Value}{A:Around}{outer:List Env}{s:Shared}{H:Hp}{E:XK}
def cn(x C:Addr)(dd:Option Addr):HO:=.ext λh=>∃(ta:Addr)(sl:Array (Option Value)),h.get? x=some { cls:=.ref C,dict:=dd,data:=.fields #[.ref ta,.none,.none,.none,.bool false,.none],slots:=sl }
theorem cn.mk{P:Program}{w:World}{H:Hp}{h:Heap}{x C:Addr}{dd:Option Addr}{ta:Addr}{sl:Array (Option Value)}(e:h.get? x=some { cls:=.ref C,dict:=dd,data:=.fields #[.ref ta,.none,.none,.none,.bool false,.none],slots:=sl }):aS P w H h x (cn x C dd):=
 ⟨⟨ta,sl,e⟩,⟨_,e⟩,λh1 h2 ⟨t1,s1,e1⟩ k=>⟨t1,s1,k _ e1⟩⟩
theorem Qy{pins:List (Addr×Obj)}{σ:St}{H3:Hp}{s3:Shared}{x C:Addr}{dd:Option Addr}(I:Inv (br (fb P w) P w K mg base N qual scope f cd A outer s H E) pins σ H3 s3)(hx:H3 x=some (cn x C dd))(nx:∀b o,s.heap.get? b=some o->b≠x)(q:E (.ref C) dd (λb=>if b=x then none else H3 b)):(br (fb P w) P w K mg base N qual scope f cd A outer s H E).xe (.ref x) s3:=by
 obtain⟨⟨ta,sl,gx⟩,_⟩:=I.au x _ hx;have fr:s3.heap.FunFrames base (envOfC qual scope s.heap.objs.size f cd::outer):=I.stack;have free:∀b∈cj (envOfC qual scope s.heap.objs.size f cd::outer),H3 b=none:=I.iM;have un:Un (cj outer) [] H H3 s.heap s3.heap:=I.base;have zR:∀b o,s.heap.get? b=some o->b ∉ cj outer->b ∉ cj (envOfC qual scope s.heap.objs.size f cd::outer):=λb o e n hm=>by
  have zI:b∈s.heap.objs.size::cj outer:=hm;rcases aau.mp zI with z|z
  ·exact absurd (aam e) (by rw[z];exact abm _)
  ·exact n z
 have wo:∀b u,H3 b=some u->b≠x->(λb=>if b=x then none else H3 b) b=some u:=λb u e n=>by show(if b=x then none else H3 b)=some u;rw[aar n];exact e
 have WR:∀b u,(λb=>if b=x then none else H3 b) b=some u->b≠x/\H3 b=some u:=λb u e=>by
  have e:(if b=x then none else H3 b)=some u:=e;by_cases z:b=x
  ·rw[aaz z]at e;cases e
  ·rw[aar z]at e;exact⟨z,e⟩
 have K2:∀b o,s3.heap.get? b=some o->b≠x->b ∉ cj (envOfC qual scope s.heap.objs.size f cd::outer)->(hideAll s3.heap (x::cj (envOfC qual scope s.heap.objs.size f cd::outer))).get? b=some o:=λb o e n m=>hideAll_get _ e λz=>(aau.mp z).elim n m;refine leave_new (base:=hideAll s3.heap (x::cj (envOfC qual scope s.heap.objs.size f cd::outer))) (L:=s.heap.objs.size) I.ok.frames (funFrames_hide fr λenv he b hb=>aaf _ (adD.mpr ⟨env,he,hb⟩)) rfl gx (λb o z=>of_hideAll _ z) (hideAll_none _ (aah ..)) rfl rfl rfl λh3 fl up=>?_;have dR:∀b o,s3.heap.get? b=some o->b≠x->b ∉ cj (envOfC qual scope s.heap.objs.size f cd::outer)->h3.get? b=some o:=λb o e n m=>fl.1 b o (K2 b o e n m);have vB:∀b u,H3 b=some u->b ∉ cj (envOfC qual scope s.heap.objs.size f cd::outer):=λb u e hm=>by rw[free b hm]at e;cases e
 refine⟨x,_,_,_,_,(λb=>if b=x then none else H3 b),rfl,I.os,I.bare,⟨λb o e n nf _=>?_,λb o e n hf _=>?_,λb o e n hb=>?_,λb o e hb=>?_,λb xs e=>?_,λb o u e=>?_,λb ps e=>?_⟩,λb u e=>?_,fl,λb o e n nf=>?_,λb o e nf=>?_,λb u e o ho=>?_,q⟩
 ·exact dR b o (un.keep b o e n nf (by simp)) (nx b o e) (zR b o e nf)
 ·obtain⟨sl,e1⟩:=un.slot b o e n hf (by simp);have hm:b∈cj (envOfC qual scope s.heap.objs.size f cd::outer):=aaf _ hf;obtain⟨_,o',nJ,nd⟩:=fr.mem hm;rw[e1]at nJ;cases nJ;obtain⟨BQ,e2⟩:=up b _ e1 nd;exact⟨BQ,e2⟩
 ·show(if b=x then none else H3 b)=none;rw[un.free b o e n hb];split<;>rfl
 ·obtain⟨o',e1⟩:=un.there b o e hb;by_cases hm:b∈cj (envOfC qual scope s.heap.objs.size f cd::outer)
  ·obtain⟨_,o2,JU,nd⟩:=fr.mem hm;obtain⟨BQ,e2⟩:=up b _ JU nd;exact⟨_,e2⟩
  ·exact⟨o',dR b o' e1 (nx b o e) hm⟩
 ·have e':=un.jk b xs e;exact wo b _ e' λz=>by rw[z,hx]at e';cases e'
 ·have e':=un.iE b o u e;exact wo b _ e' λz=>by rw[z,hx]at e';cases e'
 ·obtain⟨m,e'⟩:=un.iC b ps e;exact⟨m,wo b _ e' λz=>by rw[z,hx]at e';cases e'⟩
 ·obtain⟨nb,e⟩:=WR b u e;refine(I.au b u e).dR (λb' u' sY e'=>?_) (λb' z=>?_) λb' xs z=>?_
  ·rcases sY with rfl|z
   ·exact dR _ u' e' nb (vB _ _ e)
   ·exact dR _ u' e' (λy=>by rw[y,hx]at z;cases z) (vB _ _ z)
  ·exact wo _ _ z λy=>by rw[y,hx]at z;cases z
  ·exact wo _ _ z λy=>by rw[y,hx]at z;cases z
 ·exact K2 b o (un.keep b o e n nf (by simp)) (nx b o e) (zR b o e nf)
 ·obtain⟨o',e1⟩:=un.there b o e (by simp);exact⟨o',K2 b o' e1 (nx b o e) (zR b o e nf)⟩
 ·obtain⟨nb,e⟩:=WR b u e;obtain⟨o1,e1⟩:=I.au.has e;have:=dR b o1 e1 nb (vB b u e);rw[ho]at this;cases this;exact K2 b o e1 nb (vB b u e)
theorem Q8{E':XK}(hE:∀c dd H',E' c dd H'->E c dd H'):Passes (fb P w) (br (fb P w) P w K mg base N qual scope f cd A outer s H E) E':=by
 intro pins σ H1 s1 e s' I bP;refine az λak=>?_;obtain⟨x,c,a0,dd,B,H',rfl,os,bare,un,W9,fl,k1,k3,k2,q⟩:=bP;refine ak ?_;clear ak;refine Fp (L:=s.heap.objs.size) I.ok.frames rfl fl λh3 K9 up=>?_;obtain⟨f1,f2,f3,f4⟩:=id fl;have GL:x ∉ cj (envOfC qual scope s.heap.objs.size f cd::outer):=λhm=>by obtain⟨_,o,ho,nd⟩:=f3.mem hm;refine az λak=>?_;obtain⟨oe,vs,_,_,_,he,_,_,_,hd,_⟩:=f4;refine ak ?_;clear ak;rw[he]at ho;cases ho;exact nd vs hd
 have Gj:Un (cj outer) [] H H1 s.heap s1.heap:=I.base;have O6:Un (cj (envOfC qual scope s.heap.objs.size f cd::outer)) [] H1 H' s1.heap s'.heap:=un;have zR:∀b o,s.heap.get? b=some o->b ∉ cj outer->b ∉ cj (envOfC qual scope s.heap.objs.size f cd::outer):=λb o e n hm=>by
  have zI:b∈s.heap.objs.size::cj outer:=hm;rcases aau.mp zI with z|z
  ·exact absurd (aam e) (by rw[z];exact abm _)
  ·exact n z
 have yx:∀b∈cj (envOfC qual scope s.heap.objs.size f cd::outer),H1 b=none:=I.iM;have Xo:∀b o,s.heap.get? b=some o->H b=none->b ∉ cj outer->B.get? b=some o:=λb o e n nf=>k1 b o (Gj.keep b o e n nf (by simp)) (Gj.free b o e n (by simp)) (zR b o e nf);have Qn:∀b o,s.heap.get? b=some o->b ∉ cj outer->∃o',B.get? b=some o':=λb o e nf=>by obtain⟨o',e1⟩:=Gj.there b o e (by simp);exact k3 b o' e1 (zR b o e nf)
 refine⟨x,c,a0,dd,B,H',rfl,os.trans I.os,bare,⟨λb o e n nf _=>K9.1 b o (Xo b o e n nf),λb o e n hf _=>?_,λb o e n hb=>?_,λb o e hb=>?_,λb xs e=>O6.jk b xs (Gj.jk b xs e),λb o u e=>O6.iE b o u (Gj.iE b o u e),λb ps e=>?_⟩,λb u e=>?_,K9,Xo,Qn,λb u e o ho=>?_,hE _ _ _ q⟩
 ·have hm:b∈cj (envOfC qual scope s.heap.objs.size f cd::outer):=aaf _ hf;obtain⟨sl,e1⟩:=Gj.slot b o e n hf (by simp);obtain⟨BQ,e2⟩:=O6.slot b _ e1 (yx b hm) hm (by simp);obtain⟨_,o',nJ,nd⟩:=f3.mem hm;rw[e2]at nJ;cases nJ;obtain⟨YE,e3⟩:=up b _ e2 nd;exact⟨YE,e3⟩
 ·obtain⟨o',e1⟩:=Gj.there b o e hb;exact O6.free b o' e1 (Gj.free b o e n hb) (by simp)
 ·by_cases hm:b∈cj (envOfC qual scope s.heap.objs.size f cd::outer)
  ·obtain⟨_,o2,JU,nd⟩:=f3.mem hm;obtain⟨BQ,e2⟩:=up b _ JU nd;exact⟨_,e2⟩
  ·obtain⟨o',q'⟩:=Qn b o e λz=>hm (aaf _ z);exact⟨o',K9.1 b o' q'⟩
 ·obtain⟨m1,e1⟩:=Gj.iC b ps e;obtain⟨m2,e2⟩:=O6.iC b _ e1;exact⟨m1++m2,by rw[e2,Array.append_assoc]⟩
 ·refine(W9 b u e).dR (λb' u' sY e'=>?_) (λ_ z=>z) λ_ _ z=>z;rcases sY with rfl|z
  ·exact K9.1 _ u' (k2 _ _ e u' e')
  ·exact K9.1 _ u' (k2 _ _ z u' e')
 ·obtain⟨o1,e1⟩:=W9.has e;have b1:=k2 b u e o1 e1;have:=K9.1 b o1 b1;rw[ho]at this;cases this;exact b1
end
def vW(K:W.Frag)(C fI:Addr):Prop:=∃(nm q:Str)(N B:Addr)(bs:List Value)(sn:List Str)(sub:List Value)(ab:Bool)(col:Option Bool)(dd:Option Addr)(k0 k1 k2 k3 k5:Option Value)(mN:Str->Option Value)(oI:Obj),mN "__init__" = some (.ref fI)/\oI.cls = .type "function" ∧
 ∀h:Heap,K.In h->h.get? C=some (excClassObj nm q C N bs (.ref B::W.kh) true sn sub ab col dd k0 k1 k2 k3 k5 "ValueError.__new__")/\h.Ns N mN/\OwnTail h W.kh (.ref B::W.kh)/\h.get? fI=some oI
def dZ(C:Addr):Sp:=λvs H Q _=>match vs with
 | [.ref x,.int n]=>(0<=n/\n<2048)/\H x=some (cn x C none)/\∀d,H d=none->d≠x->Q .bj (upd (upd H x (cn x C (some d))) d (.xd [("at",.int n)]))
 | _=>False
section
variable{X:Cx}{pins:List (Addr×Obj)}{σ:St}{H:Hp}{s:Shared}{C fI:Addr}{fd:FuncData}{k:Nat}
theorem AA{n:Int}{u:Value}{Q:Value->Shared->Prop}(Z:vW X.K C fI)(F:cU X.prog X.w X.K X.mg X.base kR k fI fd ["self","at"] (dZ C))(hr:av (k+1) X.A)(hb:Binds X.K fd ["self","at"] [])(I:Inv X pins σ H s)(ru:RelV (.int n) u)(hn:0<=n/\n<2048)(q:∀x d s',Inv X pins σ (upd (upd H x (cn x C (some d))) d (.xd [("at",.int n)])) s'->s.heap.get? x=none->H x=none->H d=none->d≠x->Q (.ref x) s'):wpAny (model X.prog X.w) X.A (call (.ref C) [u]) Q X.xe s:=by
 refine az λak=>?_;obtain⟨nm,q',N,B,bs,sn,sub,ab,col,dd,k0,k1,k2,k3,k5,mN,oI,hi,cI,hK⟩:=Z;obtain⟨hC,hN,hT,gI⟩:=hK s.heap I.fj;obtain⟨hp,gg,dr,tk,os⟩:=s;refine ak ?_;clear ak;refine FQ hT hC hN hi gI cI (λh' e hm le=>?_) (by show 1<=sizeLine;decide);obtain⟨ta,ge,_,_⟩:=hm.there;have nH:H e=none:=I.au.fresh le;have I2:Inv X pins σ (upd H e (cn e C none)) ⟨h',gg,dr,tk,os⟩:=I.laid (a:=e) (o:=cn e C none) (t':=tk) hm.keeps le (cn.mk ge);have r2:Vals [V.ref e,V.int n] [Value.ref e,u]:=.cons rfl (.cons ru .nil);have sp:dZ C [V.ref e,V.int n] (upd H e (cn e C none)) (λv H3=>v = .bj/\∃d,H d=none/\d≠e/\H3=upd (upd H e (cn e C (some d))) d (.xd [("at",.int n)])) E0:=⟨hn,aa,λd hd ne=>⟨rfl,d,by rw[af ne]at hd;exact hd,ne,by rw[dI]⟩⟩
 refine abP (abN (F.run _ X.stack _ _ ⟨[Value.ref e,u],[]⟩ [Value.ref e,u] _ _ E0 (hr.make C [u] []) (I2.Cm.make C [u] []) (hb _ [Value.ref e,u] I2.fj rfl) r2 sp) λr s' BR=>?_);cases r with
 | error z=>exact False.elim BR
 | ok fl=>
  cases fl with
  | ret v=>
   refine az λak=>?_;obtain⟨v',H',I3,rv,ev,d,hd,ne,eH⟩:=I2.after BR;refine ak ?_;clear ak;subst ev;subst eH;exact⟨rv,q e d s' I3 hm.new nH hd ne⟩
  | next=>exact False.elim BR
  | brk=>exact False.elim BR
  | cont=>exact False.elim BR
end
def Hk(E:XK)(C:Addr)(t:TA):TS:=λ_ σ H=>t σ H λvs H1=>∃n:Int,vs=[.int n]/\(0<=n/\n<2048)/\∀d,H1 d=none->E (.ref C) (some d) (upd H1 d (.xd [("at",.int n)]))
section
variable{P:Program}{w:World}{K:W.Frag}{mg:Str->Option Value}{base:Heap}{N:List Str}{qual:Str}{scope:Scope}{f:Addr}{cd:Value}{A:Around}{outer:List Env}{s:Shared}{H:Hp}{E:XK}
theorem Et{x:Str}{C fI:Addr}{fd:FuncData}{k:Nat}{np ax pos:Pos}{e:Expr}{t:TA}(Z:vW K C fI)(F:cU P w K mg base kR k fI fd ["self","at"] (dZ C))(hb:Binds K fd ["self","at"] [])(hm:mg x=some (.ref C))(hk:W.keepIn K (.ref C)=true)(hr:av (k+1) (br (fb P w) P w K mg base N qual scope f cd A outer s H E).A)(ha:PA (br (fb P w) P w K mg base N qual scope f cd A outer s H E) [e] t)(hg:gB (br (fb P w) P w K mg base N qual scope f cd A outer s H E) x=true:=by kernel_rfl)(gE:(x == ("__debug__" : Str))=false:=by kernel_rfl)(he:starEach [e] (br (fb P w) P w K mg base N qual scope f cd A outer s H E).env=(false,eval e (br (fb P w) P w K mg base N qual scope f cd A outer s H E).env)::starEach [] (br (fb P w) P w K mg base N qual scope f cd A outer s H E).env:=by kernel_rfl)(hpl:(backTo ax (starEach [] (br (fb P w) P w K mg base N qual scope f cd A outer s H E).env)).any (·.1)=false:=by kernel_rfl):PS (br (fb P w) P w K mg base N qual scope f cd A outer s H E) (.Raise (some (.Call (.Name x np) [e] [] ax)) none pos) (Hk E C t):=by
 intro pins s1 σ H1 D I h;refine az λak=>?_;obtain⟨nm,q',Nn,B,bs,sn,sub,ab,col,dd,k0,k1,k2,k3,k5,mN,oI,hi,cI,hK⟩:=id Z;refine ak ?_;clear ak;rw[arm_exec_Raise];refine aac (acV ?_);refine xA (C:=C) (nm:=nm) (q:=q') (N:=Nn) (B:=B) (bs:=bs) (sn:=sn) (sub:=sub) (ab:=ab) (col:=col) (dd:=dd) (k0:=k0) (k1:=k1) (k2:=k2) (k3:=k3) (k5:=k5) (I.ok.hd rfl) (aac ?_);refine abu (cM I (aK hg) hm ?_ gE);refine ady (h₀:=base) I.ok.mod.zG hk (ba (ha ax pins s1 σ H1 _ I h) λus s2 z=>?_) he hpl;refine az λak=>?_;obtain⟨vs,H2,I2,r,n,rfl,hn,q⟩:=z;refine ak ?_;clear ak;refine⟨I2.fj,?_⟩;obtain⟨u,rfl,ru⟩:=vals1 r;refine AA Z F hr hb I2 ru hn λy d s3 I3 ny Hy Hd ne=>aac (acV (aaj ?_));have hy:upd (upd H2 y (cn y C (some d))) d (.xd [("at",.int n)]) y=some (cn y C (some d)):=by rw[af (aa5 ne),aa]
 obtain⟨⟨ta,sl,gy⟩,_⟩:=I3.au y _ hy;refine⟨y,ta,some d,sl,rfl,(hK s3.heap I3.fj).1,gy,Qy I3 hy (λb o eb z=>?_) ?_⟩
 ·have un:Un (cj outer) [] H H2 s.heap s2.heap:=I2.base;obtain⟨o',e'⟩:=un.there b o eb (by simp);rw[z,ny]at e';cases e'
 ·have eH:(λb=>if b=y then none else upd (upd H2 y (cn y C (some d))) d (.xd [("at",.int n)]) b)=upd H2 d (.xd [("at",.int n)]):=by
   funext b;by_cases z:b=y
   ·rw[aaz z,z,af (aa5 ne),Hy]
   ·rw[aar z];by_cases z2:b=d
    ·rw[z2,aa,aa]
    ·rw[af z2,af z2,af z]
  rw[eH];exact q d Hd
end
structure Cp(K:W.Frag)(B:Addr):Prop where
 ga:W.specialIn K (.ref B) "__getattribute__" = some (some (.builtin "type.__getattribute__"))
 rd:W.readsIn K B (.type "type")=true
 fc:W.findCls K (.ref B) (.type "type") "__init__" = some (.val (.builtin "ValueError.__init__"))
structure Cn(K:W.Frag)(C:Addr):Prop where
 sa:W.findIn K (.ref C) "__setattr__" = some (some (.builtin "object.__setattr__"))
 na:W.findIn K (.ref C) "at" = some none
section
variable{X:Cx}{p pos apos Ab:Pos}{b:Str}{B C fI:Addr}{e:Expr}{es:List Expr}{t:TA}{aI:Str->Option Value}
def L1(C:Addr)(t:TA):TE:=λσ H Q=>t σ H λvs H1=>∃x z,vs=[.ref x,.str z]/\H1 x=some (cn x C none)/\Q .bj H1
theorem Ek{H:Hp}{x:Addr}{o:HO}(h:H x=some o):upd H x o=H:=by
 funext b;by_cases z:b=x
 ·rw[z,aa,h]
 ·rw[af z]
theorem Jd{pl:Sem Bool}(Z:vW X.K C fI)(W:Cp X.K B)(hm:aI b=some (.ref B))(hX:X.mg=aI)(ha:PA X (e::es) t)(hg:gB X b=true:=by kernel_rfl)(gE:(b == ("__debug__" : Str))=false:=by kernel_rfl)(cF:starEach (e::es) X.env=(false,eval e X.env)::starEach es X.env:=by kernel_rfl)(hpl:(backTo pos (starEach es X.env)).any (·.1)=false:=by kernel_rfl)(ht:eval (.Call (.Attribute (.Name b p) "__init__" apos) (e::es) [] pos) X.env=(do
   let ov <-eval (.Name b p) X.env
   standAt apos.atName
   let(f,first) <-holding [ov] (getMethod ov "__init__" pl)
   callWith pos f first (backTo pos (starEach (e::es) X.env)) (backToKw pos (keywordEach [] X.env))):=by rfl):PE X (.Call (.Attribute (.Name b p) "__init__" apos) (e::es) [] pos) (L1 C t):=by refine az λak=>?_;obtain⟨nm,q',Nn,B',bs,sn,sub,ab,col,dd,k0,k1,k2,k3,k5,mN,oI,hi,cI,hK⟩:=Z;refine ak ?_;clear ak;intro pins s σ H Q I h;refine PySem.W.methodCall_KW (pl:=pl) (cM I (aK hg) (by rw[hX];exact hm) ?_ gE) ht;refine PySem.W.method_cls I.fj W.ga (PySem.W.cls_value I.fj W.rd W.fc rfl ?_);refine PyProof.Rows.callWith_builtin1 (ba (ha pos pins _ σ H _ (I.tok _) h) λus s2 z=>?_) cF hpl;refine az λak=>?_;obtain⟨vs,H1,I1,r,x,z,rfl,hx,q⟩:=z;obtain⟨u,v,rfl,r1,r2⟩:=vals2 r;refine ak ?_;clear ak;cases r1;obtain⟨⟨ta,sl,gx⟩,_⟩:=I1.au x _ hx;obtain⟨hC,hN,hT,gI⟩:=hK s2.heap I1.fj;obtain⟨hp,gg,dr,tk,os⟩:=s2;show wpAny _ _ (call (.builtin "ValueError.__init__") [.ref x,v]) _ _ _;refine init_exc hT hC gx rfl rfl rfl ?_;have gx2:=aad { cls:=.type "tuple",data:=.seq #[v] } gx;have I2:Inv X pins σ H1 ⟨hp.push { cls:=.type "tuple",data:=.seq #[v] },gg,dr,tk,os⟩:=I1.kept λb o e=>aad _ e;have PN:=aba (Obj.mapFields (·.setIfInBounds 0 (.ref hp.objs.size))) gx2 rfl;have I3:=I2.write (x:=x) (e:=x) (o:=cn x C none) (t':=tk) (by rw[hx];exact True.intro) (.inl rfl) (h':=(hp.push { cls:=.type "tuple",data:=.seq #[v] }).update x (Obj.mapFields (·.setIfInBounds 0 (.ref hp.objs.size)))) (λb o n e=>(aaU _ _ (aa5 n)).trans e) ⟨_,PN⟩ (cn.mk (ta:=hp.objs.size) (sl:=sl) PN);rw[Ek hx]at I3;exact⟨.bj,H1,I3,rfl,q⟩
end
section
variable{X:Cx}{pos pos':Pos}{C fI:Addr}{o value:Expr}{ta tv:TE}
def YG(C:Addr)(ta tv:TE):TS:=λD σ H=>tv σ H λy H1=>ta σ H1 λx H2=>∃a,x = .ref a/\H2 a=some (cn a C none)/\∀d,H2 d=none->d≠a->D.nx σ (upd (upd H2 a (cn a C (some d))) d (.xd [("at",y)]))
theorem VQ(Z:vW X.K C fI)(S:Cn X.K C)(ha:PE X o ta)(hv:PE X value tv)(hs:swapsWith value (some (.Attribute o "at" pos')) pos.line X.env=pure false:=by kernel_rfl):PS X (.Assign [.Attribute o "at" pos'] value pos) (YG C ta tv):=by
 refine az λak=>?_;obtain⟨nm,q',Nn,B',bs,sn,sub,ab,col,dd,k0,k1,k2,k3,k5,mN,oI,hi,cI,hK⟩:=Z;refine ak ?_;clear ak;intro pins s σ H D I h;refine plainObj_wpAny_Assign_Attribute (ba (hv pins s σ H _ I h) λu s1 z=>?_) hs;obtain⟨y,H1,I1,ry,q⟩:=z;refine ba (ha pins s1 σ H1 _ I1 q) λov s2 z=>?_;refine az λak=>?_;obtain⟨x,H2,I2,rx,a,rfl,hx,q2⟩:=z;refine ak ?_;clear ak;cases rx;obtain⟨⟨tt,sl,gx⟩,_⟩:=I2.au a _ hx;obtain⟨hC,hN,hT,gI⟩:=hK s2.heap I2.fj;have zG:=I2.fj;obtain⟨hp,gg,dr,tk,os⟩:=s2;refine uU zG hC S.sa S.na gx rfl rfl (λc z=>nomatch z) λh' d JN nd ne ns XR kp=>?_;have Hd:H2 d=none:=by
  cases e:H2 d with
  | none=>rfl
  | some u'=>
   obtain⟨o',e'⟩:=I2.au.has e;have e':hp.get? d=some o':=e';rw[nd]at e';cases e'
 have tn:∀b u',H2 b=some u'->b≠a->upd (upd H2 a (cn a C (some d))) d (.xd [("at",y)]) b=some u':=λb u' e n=>by rw[af (λz=>by rw[z,Hd]at e;cases e),af n];exact e
 have un:Un (cj X.stack) [] H2 (upd (upd H2 a (cn a C (some d))) d (.xd [("at",y)])) hp h':=by
  have na:∀b,H2 b=none->b≠a:=λb n z=>by rw[z,hx]at n;cases n
  refine⟨λb o' e n _ _=>kp b o' (na b n) e,λb o' e n _ _=>⟨o'.slots,kp b o' (na b n) e⟩,λb o' e n _=>?_,λb o' e _=>?_,λb xs e=>?_,λb o' u' e=>?_,λb ps e=>?_⟩
  ·rw[af (λz=>by rw[z,nd]at e;cases e),af (na b n)];exact n
  ·by_cases z:b=a
   ·rw[z];exact⟨_,XR⟩
   ·exact⟨o',kp b o' z e⟩
  ·exact tn b _ e λz=>by rw[z,hx]at e;cases e
  ·exact tn b _ e λz=>by rw[z,hx]at e;cases e
  ·exact⟨#[],by rw[Array.append_empty];exact tn b _ e λz=>by rw[z,hx]at e;cases e⟩
 have ok:eM X.prog X.w (upd (upd H2 a (cn a C (some d))) d (.xd [("at",y)])) h':=λb u' e=>by
  by_cases z1:b=d
  ·subst z1;rw[aa]at e;cases e;refine⟨_,ns,λf=>?_⟩;show fq (List.lookup f [("at",y)]) (if f=("at" : Str)then some u else none);by_cases z:f=("at" : Str)
   ·subst z;rw[aaz rfl];exact ry
   ·rw[aar z,abn,beq_false_of_ne z];exact True.intro
  ·rw[af z1]at e;by_cases z2:b=a
   ·subst z2;rw[aa]at e;cases e;exact cn.mk XR
   ·rw[af z2]at e;refine(I2.au b u' e).dR (λb' o' sY e'=>?_) (λb' z=>tn b' _ z λy=>by rw[y,hx]at z;cases z) λb' xs z=>tn b' _ z λy=>by rw[y,hx]at z;cases z
    rcases sY with rfl|z
    ·exact kp _ o' z2 e'
    ·exact kp _ o' (λy=>by rw[y,hx]at z;cases z) e'
 exact⟨σ,_,I2.yB (s':=⟨h',gg,dr,JN,os⟩) (ch:=[]) rfl un ok I2.bare (λb z=>absurd z (by simp)),q2 d Hd ne⟩
end
section
variable{X:Cx}{p pos:Pos}{e:Expr}{es:List Expr}{t:TA}{ta:TE}
def GG(K:W.Frag):List V->Hp->VK->Prop:=λvs H Q=>match vs with
 | [.ref x,.ref D]=>∃C dd b,W.gU K C/\H x=some (lO x (.ref C) dd)/\(W.kitOne K (.ref C) (.ref D)=some b\/∃ds:List Addr,H D=some (.tup (ds.map V.ref))/\W.kitAny K (.ref C) (ds.map Value.ref)=some b)/\Q (.bl b) H
 | [.ref x,.ty T]=>∃C dd b,W.gU K C/\H x=some (lO x (.ref C) dd)/\W.kitOne K (.ref C) (.type T)=some b/\Q (.bl b) H
 | _=>False
theorem oE:∀{ds:List Addr}{us:List Value},Vals (ds.map V.ref) us->us=ds.map Value.ref
 | [],_,r=>by cases r;rfl
 | d::ds,_,r=>by
  cases r with
  | cons r1 r2=>
   cases r1;rw[oE r2];rfl
theorem FR:aH X (.builtin "isinstance") (GG X.K):=by
 intro pins s σ H vs us Q I r h;unfold GG at h;split at h
 ·rename_i x D;obtain⟨C,dd,b,Z,hx,k,q⟩:=h;obtain⟨u,w',rfl,r1,r2⟩:=vals2 r;cases r1;cases r2;obtain⟨⟨o,gx,hc,_⟩,_⟩:=I.au x _ hx;rcases k with k|⟨ds,hD,k⟩
  ·exact kia_one (mO Z) I.fj ⟨o,gx,hc⟩ k (by intro z;cases z) λtk=>⟨.bl b,H,I.tok _,rfl,q⟩
  ·refine az λak=>?_;obtain⟨_,its,rv,o2,g2,c2,n2,d2⟩:=I.au D _ hD;refine ak ?_;clear ak;have ei:=oE rv;subst ei;obtain⟨oc,od,Xa,fW⟩:=o2;dsimp only at c2 d2;subst c2;subst d2;exact kia_tup (mO Z) I.fj ⟨o,gx,hc⟩ g2 k (by intro z;cases z) λtk=>⟨.bl b,H,I.tok _,rfl,q⟩
 ·rename_i x T;obtain⟨C,dd,b,Z,hx,k,q⟩:=h;obtain⟨u,w',rfl,r1,r2⟩:=vals2 r;cases r1;obtain rfl:w' = .type T:=r2;obtain⟨⟨o,gx,hc,_⟩,_⟩:=I.au x _ hx;exact kia_one (mO Z) I.fj ⟨o,gx,hc⟩ k (by intro z;cases z) λtk=>⟨.bl b,H,I.tok _,rfl,q⟩
 ·exact h.elim
theorem NL{aI:Str->Option Value}(hm:aI "isinstance" = none)(hX:X.mg=aI)(ha:PA X (e::es) t)(hg:gB X "isinstance" = true:=by kernel_rfl)(he:starEach (e::es) X.env=(false,eval e X.env)::starEach es X.env:=by kernel_rfl)(hpl:(backTo pos (starEach es X.env)).any (·.1)=false:=by kernel_rfl):PE X (.Call (.Name "isinstance" p) (e::es) [] pos) (kP (GG X.K) t):=bR FR (aK hg) (by rw[hX];exact hm) PyProof.Rows.boot_isinstance ha (he:=he) (hpl:=hpl)
end
def iF(P:Program)(w:World)(K:W.Frag)(mg:Str->Option Value)(base:Heap)(x:Str)(k:Nat)(ps:List Str)(sp:Sp):Prop:=
 ∃f fd,cU P w K mg base (fb P w) k f fd ps sp/\mg x=some (.ref f)/\W.keepIn K (.ref f)=true/\Binds K fd ps []
section
variable{P:Program}{w:World}{K:W.Frag}{mg:Str->Option Value}{base:Heap}{N:List Str}{qual:Str}{scope:Scope}{f:Addr}{cd:Value}{A:Around}{outer:List Env}{s:Shared}{H:Hp}{E:XK}
theorem iU{x:Str}{st:Stmt}{N ps:List Str}{k:Nat}{sp:Sp}(D:bX K mg x st ps)(S:ao N ps (ae st))(len:∀vs H Q E,sp vs H Q E->vs.length=ps.length)(cx:∀(f:Addr)(aA:Value)(A:Around)(outer:List Env)(s:Shared)(H:Hp)(vs:List V)(Q:VK)(E:XK),av k (A.deeper (envOfC x (ae st) s.heap.objs.size f aA))->sp vs H Q E → ∃t,nL (br (fb P w) P w K mg base N x (ae st) f aA A outer s H E) (ay st) t/\t { nx:=λ_ H'=>Q .bj H',rt:=Q } (start N vs) H):iF P w K mg base x (k+1) ps sp:=by obtain⟨f,fd,F,hm,hb⟩:=D;refine az λak=>?_;obtain⟨oc,od,kV,doc,pm,an,aA,ct,fW,rfl,lk,gW⟩:=F.ex;refine ak ?_;clear ak;exact⟨f,_,yA lk gW S len λA outer s H vs Q E hr oi=>cx f aA A outer s H vs Q E hr oi,hm,F.kp,hb⟩
theorem iT(x:Str){p pos:Pos}{e:Expr}{es:List Expr}{t:TA}{k:Nat}{ps:List Str}{sp:Sp}(C:iF P w K mg base x k ps sp)(hr:av k (br (fb P w) P w K mg base N qual scope f cd A outer s H E).A)(ha:PA (br (fb P w) P w K mg base N qual scope f cd A outer s H E) (e::es) t)(hg:gB (br (fb P w) P w K mg base N qual scope f cd A outer s H E) x=true:=by kernel_rfl)(gE:(x == ("__debug__" : Str))=false:=by kernel_rfl)(he:starEach (e::es) (br (fb P w) P w K mg base N qual scope f cd A outer s H E).env=(false,eval e (br (fb P w) P w K mg base N qual scope f cd A outer s H E).env)::starEach es (br (fb P w) P w K mg base N qual scope f cd A outer s H E).env:=by kernel_rfl)(hpl:(backTo pos (starEach es (br (fb P w) P w K mg base N qual scope f cd A outer s H E).env)).any (·.1)=false:=by kernel_rfl):PE (br (fb P w) P w K mg base N qual scope f cd A outer s H E) (.Call (.Name x p) (e::es) [] pos) (oq sp [] E t):=by obtain⟨g,fd,F,hm,hk,hb⟩:=C;exact rD (X:=br (fb P w) P w K mg base N qual scope f cd A outer s H E) F hr (aK hg) hm hk hb .nil (Q8 λ_ _ _ q=>q) ha gE he hpl
end
def Vt(X:Cx)(st:List Stmt)(t:XK->TS):Prop:=
 ∀(pins:List (Addr×Obj))(s:Shared)(σ:St)(H:Hp)(D:Ends)(E:XK),Inv X pins σ H s->t E D σ H →
  wpAny (model X.prog X.w) X.A (execs st X.env) (SP X pins D) (λe s'=>∃H1 s1,Inv X pins σ H1 s1/\fb X.prog X.w X.stack H1 s1 E e s') s
section
variable{X:Cx}{pins:List (Addr×Obj)}{σ:St}{H H':Hp}{s s':Shared}
theorem Kx{x:Addr}{c a0:Value}{dd:Option Addr}{B h6:Heap}(I:Inv X pins σ H s)(os:s'.os=s.os)(bare:AllBare s'.gens)(un:Un (cj X.stack) [] H H' s.heap s'.heap)(au:eM X.prog X.w H' s'.heap)(fl:n5 B X.stack x c a0 dd s'.heap)(k1:∀b o,s.heap.get? b=some o->H b=none->b ∉ cj X.stack->B.get? b=some o)(k3:∀b o,s.heap.get? b=some o->b ∉ cj X.stack->∃o',B.get? b=some o')(k2:∀b u,H' b=some u->∀o,s'.heap.get? b=some o->B.get? b=some o)(st:B.StaysIn h6)(up:s'.heap.UpToSlots h6){ox:Obj}{vx:Array Value}(hx:h6.get? x=some ox)(hc:ox.cls=c)(hd:ox.dict=dd)(hv:ox.data = .fields vx):Inv X pins σ (upd H' x (lO x c dd)) { s' with heap:=h6 }:=by
 obtain⟨f1,f2,f3,f4⟩:=fl;have xH:H' x=none:=by
  cases q:H' x with
  | none=>rfl
  | some u=>
   obtain⟨o,ho⟩:=au.has q;rw[k2 x u q o ho]at f2;cases f2
 have GL:x ∉ cj X.stack:=λhm=>by obtain⟨_,o,ho,nd⟩:=f3.mem hm;refine az λak=>?_;obtain⟨oe,vs,T,oT,ts,he,_,_,_,hd,_⟩:=f4;refine ak ?_;clear ak;rw[he]at ho;cases ho;exact nd vs hd
 have old:∀b o,s.heap.get? b=some o->b≠x:=λb o e z=>by
  by_cases hm:b∈cj X.stack
  ·exact GL (z▸hm)
  ·obtain⟨o',q⟩:=k3 b o e hm;rw[z,f2]at q;cases q
 have vB:∀b u,H b=some u->b≠x:=λb u e=>by obtain⟨o,ho⟩:=I.au.has e;exact old b o ho
 have Yp:Un (cj X.stack) [] H (upd H' x (lO x c dd)) s.heap h6:=by
  refine⟨λb o e n nf _=>st b o (k1 b o e n nf),λb o e n hf hb=>?_,λb o e n hb=>?_,λb o e hb=>?_,λb xs e=>?_,λb o u e=>?_,λb ps e=>?_⟩
  ·obtain⟨sl,e1⟩:=un.slot b o e n hf hb;obtain⟨_,o',nJ,nd⟩:=f3.mem hf;rw[e1]at nJ;cases nJ;obtain⟨BQ,e2⟩:=up b _ e1 nd;exact⟨BQ,e2⟩
  ·rw[af (old b o e)];exact un.free b o e n hb
  ·by_cases hm:b∈cj X.stack
   ·obtain⟨_,o2,JU,nd⟩:=f3.mem hm;obtain⟨BQ,e2⟩:=up b _ JU nd;exact⟨_,e2⟩
   ·obtain⟨o',q⟩:=k3 b o e hm;exact⟨o',st b o' q⟩
  ·rw[af (vB b _ e)];exact un.jk b xs e
  ·rw[af (vB b _ e)];exact un.iE b o u e
  ·rw[af (vB b _ e)];exact un.iC b ps e
 have GW:eM X.prog X.w (upd H' x (lO x c dd)) h6:=λb u e=>by
  by_cases hb:b=x
  ·subst hb;rw[aa]at e;cases e;exact lO.mk hx hc hd hv
  ·rw[af hb]at e;refine(au b u e).dR (λb' u' sY e'=>?_) (λb' z=>by rw[af (aj z xH)];exact z) λb' xs z=>by rw[af (aj z xH)];exact z
   rcases sY with rfl|z
   ·exact st b' u' (k2 b' u e u' e')
   ·exact st b' u' (k2 b' _ z u' e')
 exact I.yB (s':={ s' with heap:=h6 }) (ch:=[]) os Yp GW bare (λb z=>absurd z (by simp))
end
section
variable{X:Cx}{np Wf pos:Pos}{body Kc:List Stmt}{QC:Stmt}{tb:XK->TS}{ts:TS}
def QP(K:W.Frag)(B:Addr)(i:Nat)(tb:XK->TS)(ts:TS):TS:=λD σ H=>tb (λc dd H'=>exmOne K c (.ref B)=some true/\∀x,H' x=none->ts { nx:=λBM H2=>D.nx (BM.set i none) H2,rt:=λ_ _=>False } (σ.set i (some (.ref x))) (upd H' x (lO x c dd))) D σ H
theorem L8(x n:Str)(i:Nat){B:Addr}{aI:Str->Option Value}(hm:aI x=some (.ref B))(hX:X.mg=aI)(hN:X.N.Nodup)(hb:Vt X body tb)(hs:∀a,nL (X.held a) (QC::Kc) ts)(cF:X.stack=X.env::X.outer/\X.env.frame=some X.env.locals:=by exact⟨rfl,rfl⟩)(hi:X.N[i]? = some n:=by with_unfolding_all rfl)(hk:(X.env.scope.names.lookup n == some .local)=true:=by kernel_rfl)(hg:gB X x=true:=by kernel_rfl)(gE:(x == ("__debug__" : Str))=false:=by kernel_rfl):PS X (.Try body [.ExceptHandler (some (.Name x np)) (some n) (QC::Kc) Wf] [] [] pos) (QP X.K B i tb ts):=by
 have hk:X.env.scope.names.lookup n=some .local:=eq_of_beq hk;intro pins s σ H D I h;refine wpAny_Try_except (abd (hb pins s σ H D _ I h) (λfl s1 z=>?_) λe s1 z=>?_)
 ·cases fl with
  | next=>exact acz z
  | _=>exact z
 ·refine az λak=>?_;obtain⟨H1,s1',I1,y,c,a0,dd,Bs,H2,rfl,os,bare,un,au,fl,k1,k3,k2,hx,q⟩:=z;refine ak ?_;clear ak;have frm:X.A.frames=some (X.env::X.outer):=by rw[I1.ok.frames,cF.1]
  have fl':n5 Bs (X.env::X.outer) y c a0 dd s1.heap:=by rw[<-cF.1];exact fl
  have xH:H2 y=none:=by
   cases z:H2 y with
   | none=>rfl
   | some u=>
    obtain⟨o,ho⟩:=au.has z;have:=fl.2.1;rw[k2 y u z o ho]at this;cases this
  refine Ng frm cF.2 fl' λh4 RG WW=>?_;refine Ni RG λh5 UX WV=>?_;refine az λak=>?_;obtain⟨o5,v5,_,_,_,Xs,PC,hd5,_,ZH,_⟩:=id UX.2.2.2;refine ak ?_;clear ak;have I5:=Kx I1 os bare un au fl k1 k3 k2 UX.1 (WW.trans WV) Xs PC hd5 ZH;refine wpAny_handleBy_cons (codeAny_handlers_test (wpAny_noRaise (cM (I5.held (x:=y)) (aK (X:=X.held y) hg) (by show X.mg x=_;rw[hX];exact hm) ?_ gE))) (by intro z;cases z);refine wpAny_noRaise ((exm_one (I5.fj) (by have:=(Looks.ld (part:=none) Xs).andThen (f:=λo=>pure o.cls) (M:=model X.prog X.w) Looks.now;rw[PC]at this;exact this) hx).here ?_);refine codeAny_handlers_suite_as ?_;refine IG UX λh6 XW Yn=>?_;refine az λak=>?_;obtain⟨o6,v6,_,_,_,Zz,hc6,hd6,_,ZG,_⟩:=id XW.2.2.2;refine ak ?_;clear ak;have I6:=Kx I1 os bare un au fl k1 k3 k2 XW.1 ((WW.trans WV).trans Yn) Zz hc6 hd6 ZG;refine iX (X:=X.held y) (v:=.ref y) I6.held hN hi (.inl hk) rfl (λs7 I7=>?_) (.inr hk);refine abd (hs y pins s7 _ _ _ I7 (q y xH)) (λfl8 s8 z8=>?_) λ_ _ z8=>z8.elim;cases fl8 with
  | next=>
   obtain⟨σ8,H8,I8,q8⟩:=z8;exact name_goes (I8.LU I1.ok) hN hi hk λs9 I9=>⟨_,H8,I9,q8⟩
  | brk=>obtain⟨_,_,_,q8⟩:=z8;exact q8.elim
  | cont=>obtain⟨_,_,_,q8⟩:=z8;exact q8.elim
  | ret u=>obtain⟨_,_,_,_,_,q8⟩:=z8;exact q8.elim
end
def Hc(P:Program)(w:World)(K:W.Frag)(mg:Str->Option Value)(base:Heap)(x:Str)(k:Nat)(ps:List Str)(sp:Sp):Prop:=
 ∃f fd,(∀vs H Q E,sp vs H Q E->vs.length=ps.length)/\(∀(y:Addr)(A:Around)(outer:List Env)(s:Shared)(H:Hp)(args:Args)(us:List Value)(vs:List V)(Q:VK),av k A->lP P w K mg base A outer s H->BindsTo s fd args (ps.zip us)->Vals vs us->sp vs H Q E0 →
  codeAny (model P w) (A.mark (some (.ref y))) (.call (.ref f) args) (CR kR outer P w H s Q E0) s)/\mg x=some (.ref f)/\W.keepIn K (.ref f)=true/\Binds K fd ps []
section
variable{P:Program}{w:World}{K:W.Frag}{mg:Str->Option Value}{base:Heap}
theorem Jo{x:Str}{st:Stmt}{N ps:List Str}{k:Nat}{sp:Sp}(D:bX K mg x st ps)(S:ao N ps (ae st))(len:∀vs H Q E,sp vs H Q E->vs.length=ps.length)(cx:∀(y f:Addr)(aA:Value)(A:Around)(outer:List Env)(s:Shared)(H:Hp)(vs:List V)(Q:VK),av k (A.deeper (envOfC x (ae st) s.heap.objs.size f aA))->sp vs H Q E0 → ∃t,nL ((br kR P w K mg base N x (ae st) f aA A outer s H E0).held y) (ay st) t/\t { nx:=λ_ H'=>Q .bj H',rt:=Q } (start N vs) H):Hc P w K mg base x (k+1) ps sp:=by
 obtain⟨f,fd,F,hm,hbd⟩:=D;refine az λak=>?_;obtain⟨oc,od,kV,doc,pm,an,aA,ct,fW,rfl,lk,gW⟩:=F.ex;refine ak ?_;clear ak;refine⟨f,_,len,λy A outer s H args us vs Q hr e0 hb r oi=>?_,hm,F.kp,hbd⟩;have hl:=len _ _ _ _ oi;have KX:K.In s.heap:=e0.mod.zG.keeps λb o e=>(e0.bs b o e).1;have lim:s.heap.NoLimit:=e0.mod.nolimit.keeps λb o e=>(e0.bs b o e).1;have CY:∀z∈ps.zip us,(ae st).names.lookup z.1=some .local\/((ae st).names.lookup z.1=some .cell/\((cellsFrom (s.heap.objs.size+1) (ae st).names []).lookup z.1).isSome=true):=λ⟨n,v⟩ hy=>by
  rcases S.par n (adn hy).1 with q|q
  ·exact .inl q
  ·exact .inr ⟨q,W.cellsFrom_some _ _ _ (.inl q)⟩
 refine codeAny_call_function (A:=A.mark (some (.ref y))) hr.depth (KX _ _ lk) rfl S.co S.gen rfl (W.codeRec_of KX gW) (hb _ _ _ _ ?_);refine wpAny_newFunctionEnv_cells S.kind CY λenv he s1 xx=>?_;subst he;refine⟨lim.keeps xx.toInCall.keep,codeAny_func ?_⟩;obtain⟨t,ht,hq⟩:=cx y f aA A outer s H vs Q (hr.deeper _) oi;have I:Inv (br kR P w K mg base N x (ae st) f aA A outer s H E0) [] (start N vs) H s1:=pj S hr.hd e0 hl r xx;refine abd (ht [] s1 (start N vs) H _ I.held hq) (λfl s' hs=>?_) λe s' hs=>hs.elim;have fin:∀{aX:St}{H':Hp}{v:V}{u:Value},Inv ((br kR P w K mg base N x (ae st) f aA A outer s H E0).held y) [] aX H' s'->RelV v u->Q v H'->CE outer P w H s Q u s':=
  λ{aX H' v u} J rv q=>⟨v,H',J.os,J.bare,J.base,J.au,rv,q⟩
 cases fl with
 | ret u=>
  obtain⟨v,aX,H',J,rv,q⟩:=hs;exact fin J rv q
 | next=>
  obtain⟨aX,H',J,q⟩:=hs;exact fin (v:=V.bj) (u:=Value.none) J rfl q
 | brk=>
  obtain⟨_,_,_,q⟩:=hs;exact False.elim q
 | cont=>
  obtain⟨_,_,_,q⟩:=hs;exact False.elim q
end
section
variable{X:Cx}{y:Addr}{p pos:Pos}{e:Expr}{es:List Expr}{t:TA}{k:Nat}{ps:List Str}{sp:Sp}
theorem IZ(x:Str){P':Program}{w':World}{K':W.Frag}{aI:Str->Option Value}{aW:Heap}(C:Hc P' w' K' aI aW x k ps sp)(hX:X.prog=P'/\X.w=w'/\X.K=K'/\X.mg=aI/\X.base=aW)(hr:av k X.A)(ha:PA (X.held y) (e::es) t)(hg:gB (X.held y) x=true:=by kernel_rfl)(gE:(x == ("__debug__" : Str))=false:=by kernel_rfl)(he:starEach (e::es) X.env=(false,eval e X.env)::starEach es X.env:=by kernel_rfl)(hpl:(backTo pos (starEach es X.env)).any (·.1)=false:=by kernel_rfl):PE (X.held y) (.Call (.Name x p) (e::es) [] pos) (jm sp t):=by
 obtain⟨rfl,rfl,rfl,rfl,rfl⟩:=hX;obtain⟨f,fd,len,run,hm,hk,hb⟩:=C;intro pins s σ H Q I h;refine abu (cM I (aK hg) hm ?_ gE);refine ady (h₀:=X.base) I.ok.mod.zG hk (ba (ha pos pins s σ H _ I h) λus s1 z=>?_) he hpl;obtain⟨vs,H1,I1,r,q⟩:=z;refine⟨I1.fj,?_⟩;have hl:us.length=ps.length:=by rw[<-r.length];exact len _ _ _ _ q
 have K4:BindsTo s1 fd ⟨us,[]⟩ (ps.zip us):=by have:=hb s1 us I1.fj (by rw[aa1];exact hl);rw[aa1]at this;exact this
 have e1:=I1.Cm;have e0:lP X.prog X.w X.K X.mg X.base X.A X.stack s1 H1:=⟨e1.frames,e1.mod,e1.bs,e1.BI,e1.gG,e1.Gb,e1.au,e1.bare⟩
 refine abP (abN (run y X.A X.stack s1 H1 ⟨us,[]⟩ us vs _ hr e0 K4 r q) λrr s' hq=>?_);cases rr with
 | error e=>exact False.elim hq
 | ok fl=>
  cases fl with
  | ret u=>exact I1.after hq
  | next=>exact False.elim hq
  | brk=>exact False.elim hq
  | cont=>exact False.elim hq
end
def Jl:Stmt->Nat->Stmt
 | .ClassDef _ _ _ body _ _ _ _ _ _ _,i=>body.getD i (.Pass ⟨0,0,0,0⟩)
 | s,_=>s
section
variable{X:Cx}{p pos:Pos}{e:Expr}{es:List Expr}{t:TA}{k:Nat}{ps:List Str}{sp:Sp}
theorem FE(x:Str){P':Program}{w':World}{K':W.Frag}{aI:Str->Option Value}{aW:Heap}(C:iF P' w' K' aI aW x k ps sp)(hX:X.prog=P'/\X.w=w'/\X.K=K'/\X.mg=aI/\X.base=aW)(hr:av k X.A)(ha:PA X (e::es) t)(hg:gB X x=true:=by kernel_rfl)(gE:(x == ("__debug__" : Str))=false:=by kernel_rfl)(he:starEach (e::es) X.env=(false,eval e X.env)::starEach es X.env:=by kernel_rfl)(hpl:(backTo pos (starEach es X.env)).any (·.1)=false:=by kernel_rfl):PE X (.Call (.Name x p) (e::es) [] pos) (jm sp t):=by
 obtain⟨rfl,rfl,rfl,rfl,rfl⟩:=hX;obtain⟨f,fd,F,hm,hk,hb⟩:=C;have hx:Passes (fb X.prog X.w) X E0:=λpins σ H s e s' I ⟨_,_,_,_,_,_,_,_,_,_,_,_,_,_,_,q⟩=>False.elim q;have h:=rD (pos:=pos) (p:=p) F hr (aK hg) hm hk hb .nil hx ha gE he hpl;intro pins s σ H Q I q;refine ba (h pins s σ H Q I ?_) λ_ _ z=>z;have ee:oq sp [] E0 t=jm sp t:=by funext σ H Q;unfold oq jm;simp only[aa1]
 rw[ee];exact q
end
end L2
namespace L2
open PySem PySem.Spec PyProof.Rows
theorem xp:∀i,i<2048->(bJ ((i:Nat):Int)).length<=4:=by decide +kernel
def cp(l:List Nat):Str:=⟨l.toArray⟩
theorem lC(l:List Nat):(cp l).length=l.length:=by show l.toArray.size=_;simp
theorem aY(l:List Nat):(cp l).cps.toList=l:=by show l.toArray.toList=l;simp
theorem lE(a b:List Nat):cp a++cp b=cp (a++b):=by
 show(⟨a.toArray++b.toArray⟩ : Str)=⟨(a++b).toArray⟩
 simp
theorem d0(z:Str):z=cp z.cps.toList:=by cases z;simp[cp]
theorem xa(w:List Bool):bs w=cp (w.map sg):=rfl
theorem Au(xs:List Nat){a n:Nat}(ha:a<=xs.length):Txt.slice (cp xs) (some (a:Int)) (some ((a:Int)+(n:Int)))=cp ((xs.drop a).take n):=by
 refine adM (show Txt.slice (cp xs) (some (a:Int)) (some ((a:Int)+(n:Int)))=StrLaws.sliceText (cp xs) (some (a:Int)) (some ((a:Int)+(n:Int)))from rfl) ?_;have hl:=lC xs;by_cases h:a+n<=xs.length
 ·have:=ac2 (x:=cp xs) (i:=(a:Int)) (j:=(a:Int)+(n:Int)) ⟨by omega,by omega,by rw[aY];omega⟩;rw[this,aY,abh,show((a:Int)+(n:Int)-(a:Int)).toNat=n by omega];rfl
 ·have e:StrLaws.sliceText (cp xs) (some (a:Int)) (some ((a:Int)+(n:Int)))=StrLaws.sliceText (cp xs) (some (a:Int)) (some (xs.length:Int)):=by
   unfold StrLaws.sliceText;have:Builtin.Str.strSliceIndices (some (a:Int)) (some ((a:Int)+(n:Int))) 1 (cp xs).length=Builtin.Str.strSliceIndices (some (a:Int)) (some (xs.length:Int)) 1 (cp xs).length:=by
    rw[hl];have h1:¬((a:Int)+(n:Int)<0):=by omega
    have h2:¬((xs.length:Int)<0):=by omega
    have h3:min ((a:Int)+(n:Int)) (xs.length:Int)=xs.length:=by omega
    simp[Builtin.Str.strSliceIndices,h1,h2,h3]
   rw[this]
  rw[e];have:=ac2 (x:=cp xs) (i:=(a:Int)) (j:=(xs.length:Int)) ⟨by omega,by omega,by rw[aY];omega⟩;rw[this,aY,abh];unfold cp;rw[aaq (by rw[abC];omega),aaq (by rw[abC];omega)]
def Sf(n:Nat)(xs:List Nat)(i:Nat):List Nat:=(xs.drop (i*n)).take n
def BE(n:Nat)(xs:List Nat):Nat:=(xs.length+n-1) / n
theorem DG{n:Nat}{xs:List Nat}{i:Nat}(hn:1<=n)(h:i<BE n xs):i*n<xs.length:=by unfold BE at h;have h1:=(Nat.le_div_iff_mul_le (by omega)).mp h;rw[aby]at h1;omega
theorem DH{n:Nat}{xs:List Nat}(hn:1<=n):BE n xs<=xs.length:=by
 unfold BE;rcases Nat.eq_zero_or_pos xs.length with e|e
 ·rw[e,Nat.zero_add];exact ac4 (Nat.div_eq_of_lt (by omega))
 ·refine Nat.le_of_lt_succ ((Nat.div_lt_iff_lt_mul (by omega)).mpr ?_);have:=Nat.mul_le_mul_left xs.length hn;rw[aby];omega
theorem Hu{n:Nat}(xs:List Nat)(h1:1<=n)(h6:n<=6):(Builtin.Range.rangeSize 0 ((xs.length:Nat):Int) (n:Int)).toNat=BE n xs:=by
 unfold Builtin.Range.rangeSize BE;generalize xs.length=L;rw[aaz (by omega)];by_cases h:(0:Int)<((L:Nat):Int)
 ·rw[aaz h];have:n=1\/n=2\/n=3\/n=4\/n=5\/n=6:=by omega
  rcases this with rfl|rfl|rfl|rfl|rfl|rfl<;>omega
 ·rw[aar h];have:L=0:=by omega
  subst this;rw[Nat.zero_add,Nat.div_eq_of_lt (by omega)];rfl
end L2
namespace L2
open PySem PySem.Spec PyProof.Rows PySem.W
section
variable{X:Cx}{pins:List (Addr×Obj)}{σ:St}{H:Hp}{s:Shared}{h':Heap}
theorem Inv.Rp{a:Addr}{o:HO}(I:Inv X pins σ H s)(k:∀b u,s.heap.get? b=some u->h'.get? b=some u)(hp:s.heap.get? a=none)(new:aS X.prog X.w (upd H a o) h' a o):Inv X pins σ (upd H a o) { s with heap:=h' }:=by
 have Ha:H a=none:=by
  cases e:H a with
  | none=>rfl
  | some u=>
   obtain⟨o',e'⟩:=I.au.has e;rw[hp]at e';cases e'
 have ne:∀b u,H b=some u->upd H a o b=some u:=λb u e=>by rw[af (λz=>by rw[z,Ha]at e;cases e)];exact e
 have un:Un (cj X.stack) [] H (upd H a o) s.heap h':=by refine⟨λb u e n _ _=>k b u e,λb u e n _ _=>⟨u.slots,k b u e⟩,λb u e n _=>?_,λb u e _=>⟨u,k b u e⟩,λb xs e=>ne b _ e,λb u v e=>ne b _ e,λb ps e=>⟨#[],by rw[Array.append_empty];exact ne b _ e⟩⟩;rw[af (λz=>by rw[z,hp]at e;cases e)];exact n
 refine I.yB (s':={ s with heap:=h' }) (ch:=[]) rfl un (λb u e=>?_) I.bare (λb z=>absurd z (by simp));by_cases z:b=a
 ·subst z;rw[aa]at e;cases e;exact new
 ·rw[af z]at e;exact(I.au b u e).dR (λb' u' sY e'=>k b' u' e') (λb' z=>ne b' _ z) λb' xs z=>ne b' _ z
end
section
variable{P:Program}{w:World}{K:W.Frag}{mg:Str->Option Value}{base:Heap}{N:List Str}{qual:Str}{scope:Scope}{f:Addr}{cd:Value}{A:Around}{outer:List Env}{s:Shared}{H:Hp}{E:XK}
theorem i0{x:Str}{C:Addr}{np ax pos:Pos}{e:Expr}{es:List Expr}{t:TA}(hC:gR K C)(hm:mg x=some (.ref C))(ha:PA (br (fb P w) P w K mg base N qual scope f cd A outer s H E) (e::es) t)(hg:gB (br (fb P w) P w K mg base N qual scope f cd A outer s H E) x=true:=by kernel_rfl)(gE:(x == ("__debug__" : Str))=false:=by kernel_rfl)(he:starEach (e::es) (br (fb P w) P w K mg base N qual scope f cd A outer s H E).env=(false,eval e (br (fb P w) P w K mg base N qual scope f cd A outer s H E).env)::starEach es (br (fb P w) P w K mg base N qual scope f cd A outer s H E).env:=by kernel_rfl)(hpl:(backTo ax (starEach es (br (fb P w) P w K mg base N qual scope f cd A outer s H E).env)).any (·.1)=false:=by kernel_rfl):PS (br (fb P w) P w K mg base N qual scope f cd A outer s H E) (.Raise (some (.Call (.Name x np) (e::es) [] ax)) none pos) (Df E C t):=by
 refine az λak=>?_;obtain⟨nm,q,Nn,bs,bm,hdct,sn,sub,ab,col,dd,k0,k1,k2,k3,k5,mN,OA,hK⟩:=hC;refine ak ?_;clear ak;generalize PH:br (fb P w) P w K mg base N qual scope f cd A outer s H E=X at *
 intro pins s1 σ H1 D I h;have bw:bm.contains (.type "BaseException")=true:=(hK s1.heap (by have:=I.fj;rw[<-PH]at this;exact this)).2.2.hasType (by decide);have Wg:(backTo ax (starEach (e::es) X.env)).any (·.1)=false:=by rw[he];show(false || (backTo ax (starEach es X.env)).any (·.1))=false;rw[hpl];rfl
 refine wpAny_Raise_call_subT (F:=PySem.F.excBase_ValueError) (mN:=mN) (nm:=nm) (q:=q) (C:=C) (N:=Nn) (bs:=bs) (bm:=bm) (hdct:=hdct) (sn:=sn) (sub:=sub) (ab:=ab) (col:=col) (dd:=dd) (k0:=k0) (k1:=k1) (k2:=k2) (k3:=k3) (k5:=k5) bw (I.ok.hd (by rw[<-PH];rfl)) Wg OA ?_;refine cM I (aK hg) (by rw[<-PH];exact hm) ⟨rfl,?_⟩ gE;have hx:=ha ax pins s1 σ H1 _ I h;rw[he]at hx ⊢;refine PySem.Calls.evalArgs_plain (ba hx λus s2 z=>?_);obtain⟨vs,H2,I2,r,q2⟩:=z;have zG:K.In s2.heap:=by have:=I2.fj;rw[<-PH]at this;exact this
 obtain⟨c1,c2,c3⟩:=hK s2.heap zG;refine⟨rfl,?_,c1,c2,c3,λh' x' mx=>?_⟩
 ·show us.length<=sizeLine;rw[<-r.length];exact ai q2.1
 ·subst PH;obtain⟨ta,ge,_,_⟩:=mx.there;have nH:H2 x'=none:=by
   cases e:H2 x' with
   | none=>rfl
   | some u=>
    obtain⟨o',e'⟩:=I2.au.has e;rw[mx.new]at e';cases e'
  obtain⟨hp,gg,dr,tk,os⟩:=s2;have I3:Inv (br (fb P w) P w K mg base N qual scope f cd A outer s H E) pins σ (upd H2 x' (cn x' C none)) ⟨h',gg,dr,tk,os⟩:=I2.Rp (a:=x') (o:=cn x' C none) mx.keeps mx.new (cn.mk ge);refine Qy I3 aa (λb o eb z=>?_) ?_
  ·have un:Un (cj outer) [] H H2 s.heap hp:=I2.base;obtain⟨o',e'⟩:=un.there b o eb (by simp);have:=mx.new;rw[z]at e';have this:hp.get? x'=none:=this;rw[this]at e';cases e'
  ·have eH:(λb=>if b=x' then none else upd H2 x' (cn x' C none) b)=H2:=by
    funext b;by_cases z:b=x'
    ·rw[aaz z,z,nH]
    ·rw[aar z,af z]
   rw[eH];exact q2.2
end
section
variable{X:Cx}{p pos apos ax p1 p2:Pos}{a b e o:Expr}{es:List Expr}{t:TA}{to ta:TE}{y z:Str}{j j1 j2:Nat}{i:Int}
theorem Be(zs:List Str):(zs.map V.str).all iI=true:=by rw[adB,aaZ];intro x _;rfl
theorem Fw(z:Str)(zs:List Str):Sl (.str z) (zs.map V.str)=decide (z∈zs):=by
 unfold Sl;rw[List.any_map,abB,List.any_eq_true,aaH];constructor
 ·rintro⟨y,hy,e⟩;have e:(y == z)=true:=e;exact(eq_of_beq e)▸hy
 ·intro h;exact⟨z,h,show(z == z)=true by simp⟩
def CL:List V->Hp->VK->Prop:=λvs H Q=>match vs with
 | [.str z]=>∃d:Nat,d<10/\z=bJ (d:Int)/\Q (.int (d:Nat)) H
 | [.bl k]=>Q (.int (if k then 1 else 0)) H
 | _=>False
theorem WB{d:Nat}(h:d<10):bJ (d:Int)=(["0","1","2","3","4","5","6","7","8","9"]:List Str).getD d "":= by
 have:d=0\/d=1\/d=2\/d=3\/d=4\/d=5\/d=6\/d=7\/d=8\/d=9:=by omega
 rcases this with rfl|rfl|rfl|rfl|rfl|rfl|rfl|rfl|rfl|rfl<;>decide +kernel
theorem Bv:aH X (.type "int") CL:=by
 intro pins s σ H xs us Q I r h;unfold CL at h;split at h
 ·rename_i z;obtain⟨d,hd,rfl,q⟩:=h;obtain⟨u,rfl,t,rfl⟩:=vals1 r;rw[WB hd];have:d=0\/d=1\/d=2\/d=3\/d=4\/d=5\/d=6\/d=7\/d=8\/d=9:=by omega
  rcases this with rfl|rfl|rfl|rfl|rfl|rfl|rfl|rfl|rfl|rfl
  ·exact abf (x:=("0" : Str)) (n:=0) (by decide +kernel) (by decide +kernel) ⟨.int 0,H,I.tok _,⟨_,rfl⟩,q⟩
  ·exact abf (x:=("1" : Str)) (n:=1) (by decide +kernel) (by decide +kernel) ⟨.int 1,H,I.tok _,⟨_,rfl⟩,q⟩
  ·exact abf (x:=("2" : Str)) (n:=2) (by decide +kernel) (by decide +kernel) ⟨.int 2,H,I.tok _,⟨_,rfl⟩,q⟩
  ·exact abf (x:=("3" : Str)) (n:=3) (by decide +kernel) (by decide +kernel) ⟨.int 3,H,I.tok _,⟨_,rfl⟩,q⟩
  ·exact abf (x:=("4" : Str)) (n:=4) (by decide +kernel) (by decide +kernel) ⟨.int 4,H,I.tok _,⟨_,rfl⟩,q⟩
  ·exact abf (x:=("5" : Str)) (n:=5) (by decide +kernel) (by decide +kernel) ⟨.int 5,H,I.tok _,⟨_,rfl⟩,q⟩
  ·exact abf (x:=("6" : Str)) (n:=6) (by decide +kernel) (by decide +kernel) ⟨.int 6,H,I.tok _,⟨_,rfl⟩,q⟩
  ·exact abf (x:=("7" : Str)) (n:=7) (by decide +kernel) (by decide +kernel) ⟨.int 7,H,I.tok _,⟨_,rfl⟩,q⟩
  ·exact abf (x:=("8" : Str)) (n:=8) (by decide +kernel) (by decide +kernel) ⟨.int 8,H,I.tok _,⟨_,rfl⟩,q⟩
  ·exact abf (x:=("9" : Str)) (n:=9) (by decide +kernel) (by decide +kernel) ⟨.int 9,H,I.tok _,⟨_,rfl⟩,q⟩
 ·exact Bu pins s σ H _ us Q I r h
 ·exact h.elim
theorem IX{aI:Str->Option Value}(hm:aI "int" = none)(hX:X.mg=aI)(ha:PA X (e::es) t)(hg:gB X "int" = true:=by kernel_rfl)(he:starEach (e::es) X.env=(false,eval e X.env)::starEach es X.env:=by kernel_rfl)(hpl:(backTo pos (starEach es X.env)).any (·.1)=false:=by kernel_rfl):PE X (.Call (.Name "int" p) (e::es) [] pos) (kP CL t):=eJ Bv (aK hg) (by rw[hX];exact hm) PyProof.Rows.boot_int ha (he:=he) (hpl:=hpl)
end
end L2
namespace L2
open PySem PySem.Spec PyProof.Rows Builtin Builtin.Str
theorem lF{c:Nat}{p q:Str}(h1:om c p)(h2:om c q):om c (p++q):=λh=>by
 have e:(p++q).cps.toList=p.cps.toList++q.cps.toList:=by simp only[Str.cps_append,Array.toList_append]
 rw[e]at h;exact(aay.mp h).elim h1 h2
theorem D8{c:Nat}(h0:c≠48)(h1:c≠49)(w:List Bool):om c (bs w):=λh=>by
 have e:(bs w).cps.toList=w.map sg:=by show(w.map sg).toArray.toList=_;simp
 rw[e]at h;obtain⟨b,_,rfl⟩:=aan.mp h;cases b
 ·exact h0 rfl
 ·exact h1 rfl
theorem Ep{d:Nat}(h:d<10):(bJ (d:Int)).cps.toList=[48+d]:=by
 have:d=0\/d=1\/d=2\/d=3\/d=4\/d=5\/d=6\/d=7\/d=8\/d=9:=by omega
 rcases this with rfl|rfl|rfl|rfl|rfl|rfl|rfl|rfl|rfl|rfl<;>decide +kernel
theorem i8{c d:Nat}(h:d<10)(hc:c<48\/57<c):om c (bJ (d:Int)):=λhm=>by rw[Ep h]at hm;have:=aaA.mp hm;omega
theorem DZ{c d:Nat}(h:c≠d):om c (ch d):=λhm=>h (aaA.mp hm)
theorem yv:(">" : Str)=ch 62:=by decide +kernel
theorem mS:("," : Str)=ch 44:=by decide +kernel
theorem df:(" " : Str)=ch 32:=by decide +kernel
theorem uI{c:Nat}{r:List Bool×Nat}(h:r.2<10)(hc:c<48):om c (dU r):=by unfold dU;rw[yv];exact lF (lF (D8 (by omega) (by omega) _) (DZ (by omega))) (i8 h (.inl hc))
theorem DY{c d:Nat}(h:c≠d):∀{ps:List Str},(∀p∈ps,om c p)->om c (Str.join (ch d) ps)
 | [],_=>λhm=>by cases hm
 | [p],h1=>h1 p aah
 | p::q::r,h1=>by show om c (p++ch d++Str.join (ch d) (q::r));exact lF (lF (h1 p aah) (DZ h)) (DY h λx hx=>h1 x (aaf _ hx))
theorem tF(sep:Str)(ps:List Str):Txt.join sep ps=Str.join sep ps:=ada _ _
theorem xV{c:Nat}{st:List (List Bool×Nat)}(h:∀r∈st,r.2<10)(hc:c<44):om c (bK st):=by unfold bK;rw[mS,tF];refine DY (by omega) λp hp=>?_;obtain⟨r,hr,rfl⟩:=aan.mp hp;exact uI (h r hr) (by omega)
theorem Aq{r:List Bool×Nat}(h:r.2<10):Txt.split (dU r) (">" : Str)=[bs r.1,bJ (r.2:Int)]:=by
 have e:dU r=Txt.join (ch 62) [bs r.1,bJ (r.2:Int)]:=by rw[tF,dU,yv];rfl
 rw[e,yv];refine eT (by decide) (λp hp=>?_) (by simp);rcases aau.mp hp with rfl|hp
 ·exact D8 (by decide) (by decide) _
 ·rw[aaA.mp hp];exact i8 h (.inr (by decide))
theorem ku{st:List (List Bool×Nat)}(h:∀r∈st,r.2<10)(hn:st≠[]):Txt.split (bK st) ("," : Str)=st.map dU:=by unfold bK;rw[mS];refine eT (by decide) (λp hp=>?_) (by simpa using hn);obtain⟨r,hr,rfl⟩:=aan.mp hp;exact uI (h r hr) (by decide)
theorem xq{k n:Nat}{rows:Om.Rows}(hk:k<10)(hn:n<10)(h:∀st∈rows,∀r∈st,r.2<10):Txt.split (eB k n rows) (" " : Str)=bJ (k:Int)::bJ (n:Int)::rows.map bK:=by
 unfold eB;rw[df];refine eT (by decide) (λp hp=>?_) (by simp);rcases aau.mp hp with rfl|hp
 ·exact i8 hk (.inl (by decide))
 rcases aau.mp hp with rfl|hp
 ·exact i8 hn (.inl (by decide))
 ·obtain⟨st,cF,rfl⟩:=aan.mp hp;exact xV (h st cF) (by decide)
def Ck:Str:= "0123456789"
theorem FF{d:Nat}(h:d<10):Txt.find Ck (bJ (d:Int))=(d:Int):=by
 have:d=0\/d=1\/d=2\/d=3\/d=4\/d=5\/d=6\/d=7\/d=8\/d=9:=by omega
 rcases this with rfl|rfl|rfl|rfl|rfl|rfl|rfl|rfl|rfl|rfl<;>decide +kernel
end L2
namespace L2
open PySem PySem.Spec PyProof.Rows PySem.W
theorem uF(c:Nat):∀(ps:List Str),ps≠[]->(∀p∈ps,p.length<=(Str.join (ch c) ps).length)/\ps.length<=(Str.join (ch c) ps).length+1
 | [],h=>absurd rfl h
 | [p],_=>by have e:Str.join (ch c) [p]=p:=rfl;rw[e];exact⟨λq hq=>by rw[aaA.mp hq];exact aae _,by simp⟩
 | p::q::r,_=>by
  obtain⟨h1,h2⟩:=uF c (q::r) (by simp);have e:(Str.join (ch c) (p::q::r)).length=p.length+1+(Str.join (ch c) (q::r)).length:=by have:=aaX List.length (cg c p q r);rw[aal,aax,abg,abg,abg]at this;show(Str.join (ch c) (p::q::r)).cps.size=p.cps.size+1+(Str.join (ch c) (q::r)).cps.size;omega
  rw[e];refine⟨λx hx=>?_,by rw[aax];omega⟩;rcases aau.mp hx with rfl|hx
  ·omega
  ·have:=h1 x hx;omega
theorem split_len(z:Str){c:Nat}(hc:c<256):Txt.split z (ch c)≠[]/\(∀p∈Txt.split z (ch c),p.length<=z.length)/\(Txt.split z (ch c)).length<=z.length+1:=by obtain⟨_,h2,h3⟩:=gf z hc;have:=uF c _ h2;rw[h3]at this;exact⟨h2,this.1,this.2⟩
def yf(z:Str):List Str:=Txt.split z (">" : Str)
def sM(z:Str):List Str:=Txt.split z ("," : Str)
def iz(z:Str):List Str:=Txt.split z (" " : Str)
theorem yK(z:Str):yf z≠[]/\(∀p∈yf z,p.length<=z.length)/\(yf z).length<=z.length+1:=by unfold yf;rw[yv];exact split_len z (by decide)
theorem qS(z:Str):sM z≠[]/\(∀p∈sM z,p.length<=z.length)/\(sM z).length<=z.length+1:=by unfold sM;rw[mS];exact split_len z (by decide)
theorem kZ(z:Str):iz z≠[]/\(∀p∈iz z,p.length<=z.length)/\(iz z).length<=z.length+1:=by unfold iz;rw[df];exact split_len z (by decide)
def eO(z:Str):Int:=if z.length=1 then Txt.find Ck z else -1
def Ll(z:Str):List V:=(yf z).dropLast.map V.str++[.int (eO ((yf z).getLast?.getD ("" : Str)))]
def vN(z:Str):PyData:=.tuple ((yf z).dropLast.map PyData.str++[.int (eO ((yf z).getLast?.getD ("" : Str)))])
def stateT(z:Str):PyData:=.list ((sM z).map vN)
def cV(ps:List Str):PyData:=.tuple ((ps.take 2).map (λp=>PyData.int (eO p))++[.list ((ps.drop 2).map stateT)])
theorem GZ{H:Hp}:∀zs:List Str,bO H (zs.map V.str) (zs.map PyData.str)
 | []=>.nil
 | z::zs=>.cons (.str z) (GZ zs)
theorem Ht{H:Hp}{l:Addr}{z:Str}(h:H l=some (.tup (Ll z))):DV H (.ref l) (vN z):=.tup h ((GZ _).app (.cons (.int _) .nil))
theorem xy{z:Str}(h:z.length<=900):bf (vN z)=true:=by
 obtain⟨h1,h2,h3⟩:=yK z;unfold vN;rw[bf,aaJ,aaH,bF];refine⟨by rw[aal,aaa,adl];simp;omega,λd hd=>?_⟩;rcases aay.mp hd with hd|hd
 ·obtain⟨p,hp,rfl⟩:=aan.mp hd;have:=h2 p (List.dropLast_subset _ hp);rw[bf];exact aaI (by omega)
 ·rw[aaA.mp hd];rfl
theorem rV{z:Str}(h:z.length<=900):bf (stateT z)=true:=by obtain⟨h1,h2,h3⟩:=qS z;unfold stateT;rw[bf,aaJ,aaH,bF];refine⟨by rw[aaa];omega,λd hd=>?_⟩;obtain⟨p,hp,rfl⟩:=aan.mp hd;exact xy (by have:=h2 p hp;omega)
theorem vf{z:Str}(h:z.length<=900):bf (cV (iz z))=true:=by
 obtain⟨h1,h2,h3⟩:=kZ z;unfold cV;rw[bf,aaJ,aaH,bF];refine⟨by rw[aal,aaa,aas];simp;omega,λd hd=>?_⟩;rcases aay.mp hd with hd|hd
 ·obtain⟨p,hp,rfl⟩:=aan.mp hd;rfl
 ·rw[aaA.mp hd,bf,aaJ,aaH,bF];refine⟨by rw[aaa,abC];omega,λd hd=>?_⟩;obtain⟨p,hp,rfl⟩:=aan.mp hd;exact rV (by have:=h2 p (List.mem_of_mem_drop hp);omega)
def OQ(K:W.Frag)(C:Addr)(m qn:Str)(st:Stmt)(ps:List Str):Prop:=∃f fd,BX K m qn st f fd/\Meth K C m f/\Binds K fd ps []
def tE(P:Program)(w:World)(K:W.Frag)(mg:Str->Option Value)(base:Heap)(C:Addr)(m:Str)(k:Nat)(ps:List Str)(sp:Sp):Prop:=
 ∃f fd,cU P w K mg base (fb P w) k f fd ps sp/\Meth K C m f/\Binds K fd ps []
def lW(P:Program)(w:World)(K:W.Frag)(mg:Str->Option Value)(base:Heap)(C:Addr)(m:Str)(k:Nat)(ps:List Str)(sp:Sp):Prop:=
 ∃f fd,cU P w K mg base kR k f fd ps sp/\Meth K C m f/\Binds K fd ps []
section
variable{P:Program}{w:World}{K:W.Frag}{mg:Str->Option Value}{base:Heap}
theorem Jn{C:Addr}{m qn:Str}{st:Stmt}{N ps:List Str}{k:Nat}{sp:Sp}(D:OQ K C m qn st ps)(S:ao N ps (ae st))(len:∀vs H Q E,sp vs H Q E->vs.length=ps.length)(cx:∀(f:Addr)(aA:Value)(A:Around)(outer:List Env)(s:Shared)(H:Hp)(vs:List V)(Q:VK)(E:XK),av k (A.deeper (envOfC qn (ae st) s.heap.objs.size f aA))->sp vs H Q E → ∃t,nL (br (fb P w) P w K mg base N qn (ae st) f aA A outer s H E) (ay st) t/\t { nx:=λ_ H'=>Q .bj H',rt:=Q } (start N vs) H):tE P w K mg base C m (k+1) ps sp:=by obtain⟨f,fd,F,hm,hb⟩:=D;refine az λak=>?_;obtain⟨oc,od,kV,doc,pm,an,aA,ct,fW,rfl,lk,gW⟩:=F.ex;refine ak ?_;clear ak;exact⟨f,_,yA lk gW S len λA outer s H vs Q E hr oi=>cx f aA A outer s H vs Q E hr oi,hm,hb⟩
theorem uN{C:Addr}{m qn:Str}{st:Stmt}{N ps:List Str}{k:Nat}{sp:Sp}(D:OQ K C m qn st ps)(S:ao N ps (ae st))(len:∀vs H Q E,sp vs H Q E->vs.length=ps.length)(cx:∀(f:Addr)(aA:Value)(A:Around)(outer:List Env)(s:Shared)(H:Hp)(vs:List V)(Q:VK)(E:XK),av k (A.deeper (envOfC qn (ae st) s.heap.objs.size f aA))->sp vs H Q E → ∃t,nL (br kR P w K mg base N qn (ae st) f aA A outer s H E).vp (ay st) t/\t { nx:=λ_ H'=>Q .bj H',rt:=Q } (start N vs) H):lW P w K mg base C m (k+1) ps sp:=by obtain⟨f,fd,F,hm,hb⟩:=D;exact⟨f,fd,F.ok S len λaA A outer s H vs Q E hr h=>cx f aA A outer s H vs Q E hr h,hm,hb⟩
end
def zN(C:Addr)(m:Str)(sp:Sp)(ta:TE)(t:TA):TE:=λσ H Q=>ta σ H λx H1=>∃a dx fs,x = .ref a/\H1 a=some (.ins C dx fs)/\fs.lookup m=none/\t σ H1 λvs H2=>sp (x::vs) H2 Q E0
section
variable{X:Cx}{p pos apos Ab:Pos}{e o:Expr}{es:List Expr}{t:TA}{ta:TE}{k:Nat}{ps:List Str}{sp:Sp}{C:Addr}{P':Program}{w':World}{K':W.Frag}{aI:Str->Option Value}{aW:Heap}
theorem DO{m:Str}:yo C m sp [] E0 ta t=zN C m sp ta t:=by funext σ H Q;unfold yo zN;simp only[aa1]
theorem RP(m:Str){pl:Sem Bool}(M:tE P' w' K' aI aW C m k ps sp)(c:pR K' C)(hX:X.prog=P'/\X.w=w'/\X.K=K'/\X.mg=aI/\X.base=aW)(hr:av k X.A)(he:PE X o ta)(ha:PA X (e::es) t)(cF:starEach (e::es) X.env=(false,eval e X.env)::starEach es X.env:=by kernel_rfl)(hpl:(backTo pos (starEach es X.env)).any (·.1)=false:=by kernel_rfl)(ht:eval (.Call (.Attribute o m apos) (e::es) [] pos) X.env=(do
   let ov <-eval o X.env
   standAt apos.atName
   let(f,first) <-holding [ov] (getMethod ov m pl)
   callWith pos f first (backTo pos (starEach (e::es) X.env)) (backToKw pos (keywordEach [] X.env))):=by rfl):PE X (.Call (.Attribute o m apos) (e::es) [] pos) (zN C m sp ta t):=by obtain⟨rfl,rfl,rfl,rfl,rfl⟩:=hX;obtain⟨f,fd,F,hm,hb⟩:=M;have hx:Passes (fb X.prog X.w) X E0:=λpins σ H s e s' I ⟨_,_,_,_,_,_,_,_,_,_,_,_,_,_,_,q⟩=>False.elim q;have h:=HP (pl:=pl) (kH:=[]) he c hm F hr hb .nil hx ha cF hpl ht;rw[DO]at h;exact h
theorem NR(m:Str){pl:Sem Bool}(M:lW P' w' K' aI aW C m k ps sp)(c:pR K' C)(hX:X.prog=P'/\X.w=w'/\X.K=K'/\X.mg=aI/\X.base=aW)(hr:av k X.A)(he:PE X o ta)(ht:eval (.Call (.Attribute o m apos) [] [] pos) X.env=(do
   let ov <-eval o X.env
   standAt apos.atName
   let(f,first) <-holding [ov] (getMethod ov m pl)
   callWith pos f first (backTo pos (starEach [] X.env)) (backToKw pos (keywordEach [] X.env))):=by rfl):PE X (.Call (.Attribute o m apos) [] [] pos) (zN C m sp ta gY):=by obtain⟨rfl,rfl,rfl,rfl,rfl⟩:=hX;obtain⟨f,fd,F,hm,hb⟩:=M;have h:=EE (pl:=pl) (kH:=[]) he c hm F hr hb .nil yt ht;rw[DO]at h;exact h
def Yt(C:Addr)(sp:Sp):TE:=λσ H Q=>∀x dx,H x=none->H dx=none->dx≠x->sp [.ref x] (upd (upd H dx (.own x)) x (.ins C dx [])) (λv H2=>v = .bj/\Q (.ref x) H2) E0
theorem WD(x:Str){f:Addr}{fd:FuncData}(F:cU P' w' K' aI aW kR k f fd ps sp)(M:Mk K' C f)(hb:Binds K' fd ps [])(hm:aI x=some (.ref C))(hX:X.prog=P'/\X.w=w'/\X.K=K'/\X.mg=aI/\X.base=aW)(hr:av (k+1) X.A)(hg:gB X x=true:=by kernel_rfl)(gE:(x == ("__debug__" : Str))=false:=by kernel_rfl):PE X (.Call (.Name x p) [] [] pos) (Yt C sp):=by obtain⟨rfl,rfl,rfl,rfl,rfl⟩:=hX;have h:=EF (pos:=pos) (p:=p) (kH:=[]) M F hr (aK hg) hm hb .nil yt gE;intro pins s σ H Q I q;exact h pins s σ H Q I λx dx a b c=>q x dx a b c
def J8(C:Addr)(m:Str)(sp:Sp)(ta:TE)(t:TA):XK->TS:=λE D σ H=>ta σ H λx H1=>∃a dx fs,x = .ref a/\H1 a=some (.ins C dx fs)/\fs.lookup m=none/\t σ H1 λvs H2=>sp (x::vs) H2 (λ_ H3=>D.nx σ H3) E
theorem MB(m:Str){pl:Sem Bool}(M:tE P' w' K' aI aW C m k ps sp)(c:pR K' C)(hX:X.prog=P'/\X.w=w'/\X.K=K'/\X.mg=aI/\X.base=aW)(hr:av k X.A)(ho:PE X.vp o ta)(ha:PA X.vp (e::es) t)(he:starEach (e::es) X.env=(false,eval e X.env)::starEach es X.env:=by kernel_rfl)(hpl:(backTo pos (starEach es X.env)).any (·.1)=false:=by kernel_rfl)(hs:swapsWith (.Call (.Attribute o m apos) (e::es) [] pos) none Ab.line X.env=pure false:=by kernel_rfl)(ht:eval (.Call (.Attribute o m apos) (e::es) [] pos) X.env=(do
   let ov <-eval o X.env
   standAt apos.atName
   let(f,first) <-holding [ov] (getMethod ov m pl)
   callWith pos f first (backTo pos (starEach (e::es) X.env)) (backToKw pos (keywordEach [] X.env))):=by rfl):Vt X [.Expr (.Call (.Attribute o m apos) (e::es) [] pos) Ab] (J8 C m sp ta t):=by
 obtain⟨rfl,rfl,rfl,rfl,rfl⟩:=hX;obtain⟨f,fd,F,hm,hb⟩:=M;intro pins s σ H D E I h;refine wpAny_execs_cons (wpAny_Expr_any ?_ I.quiet hs);refine W.methodCall_KW (pl:=pl) (abd (ho pins s σ H _ (I.jj _) h) (λu s1 z=>?_) λ_ _ z=>z.elim) ht;refine az λak=>?_;obtain⟨x,H1,I1,rx,a,dx,fs,ex,ea,l,q⟩:=z;refine ak ?_;clear ak;have I1:=I1.cW;subst ex;obtain rfl:u=Value.ref a:=rx;refine iu I1 ea c hm l ?_;refine ady (first:=[.ref a]) (h₀:=X.base) I.ok.mod.zG hm.kp (abd (ha pos pins s1 σ H1 _ (I1.jj _) q) (λus s2 z=>?_) λ_ _ z=>z.elim) he hpl;obtain⟨vs,H2,I2,r,q2⟩:=z;have I2:=I2.cW;refine⟨I2.fj,?_⟩;have r2:Vals (V.ref a::vs) (Value.ref a::us):=.cons rfl r;have hl:(Value.ref a::us).length=ps.length:=by rw[<-r2.length];exact F.len _ _ _ _ q2
 have K4:BindsTo s2 fd ⟨Value.ref a::us,[]⟩ (ps.zip (Value.ref a::us)):=by have:=hb s2 (Value.ref a::us) I2.fj (by rw[aa1];exact hl);rw[aa1]at this;exact this
 refine abP (abN (F.run X.A X.stack s2 H2 ⟨Value.ref a::us,[]⟩ (Value.ref a::us) (V.ref a::vs) _ E hr I2.Cm K4 r2 q2) λrr s' hq=>?_);cases rr with
 | error e=>exact⟨H2,s2,I2,hq⟩
 | ok fl=>
  cases fl with
  | ret u=>
   obtain⟨v,H3,I3,_,q3⟩:=I2.after hq;exact acz ⟨σ,H3,I3,q3⟩
  | next=>exact False.elim hq
  | brk=>exact False.elim hq
  | cont=>exact False.elim hq
end
end L2
namespace L2
open PySem PySem.Spec PyProof.Rows
section
variable{X:Cx}{p pos:Pos}{e:Expr}{es:List Expr}{t:TA}
theorem oO:∀{vs:List Value}{ys:List Str},StrsAre vs ys->Vals (ys.map V.str) vs
 | _,_,.nil=>.nil
 | _,_,.cons z tk h=>.cons ⟨tk,rfl⟩ (oO h)
end
end L2
namespace L2
open PySem PySem.Spec PyProof.Rows Builtin Builtin.Str
section
variable{X:Cx}{p pos apos:Pos}{a b c e o:Expr}{es:List Expr}{t:TA}{to:TE}
def rz:V->List V->Hp->VK->Prop:=λx vs H Q=>match x,vs with
 | .str z,[.str y,.int k]=>0<=k/\k<1000/\(y.length == 0)=false/\z.length+2000<=sizeLine/\∀l,H l=none->Q (.ref l) (upd H l (.lst ((Txt.splitMax z y k).map V.str)))
 | x,vs=>qk x vs H Q
theorem A1:nM X "str.split" rz:=by
 intro pins s σ H x vs v us Q I rx rv h;unfold rz at h;split at h
 ·rename_i z y k;obtain⟨k0,k1,hy,hz,q⟩:=h;obtain⟨t,rfl⟩:=rx;obtain⟨u,w',rfl,r1,r2⟩:=vals2 rv;obtain⟨t',rfl⟩:=r1;obtain⟨TB,rfl⟩:=r2;have q:=q _ (I.au.fresh (aae _));have hk:(decide (k < -(2 ^ 63:Int)) || decide (k ≥ 2 ^ 63))=false:=by rw[Bool.or_eq_false_iff];exact⟨aaT (by omega),aaT (by omega)⟩
  have alone:Txt.splitMax z y k=[z]->EP X pins σ Q (.ref s.heap.objs.size) { s with heap:=s.heap.push { cls:=.type "list",data:=.seq [Value.str z t].toArray } }:=λe=>by rw[e]at q;exact⟨.ref s.heap.objs.size,upd H s.heap.objs.size (.lst [.str z]),I.laid (t':=s.toks) (o:=.lst [.str z]) (λb u e=>aad _ e) (aae _) ⟨by show 1<=sizeLine;decide,[Value.str z t],0,.cons ⟨_,rfl⟩ .nil,aap _ rfl⟩,rfl,q⟩
  have hn:(partsBetween z (occurrences z y 0 z.length (limitOf z k)) y.length).length<=sizeLine:=by
   have:=acI z y 0 z.length (limitOf z k);rw[length_partsBetween];have l2:limitOf z k<=z.length+1000:=by unfold limitOf;split<;>omega
   omega
  have hT:=typeIs_str s z t;cases h1:(decide (z.length<y.length) || decide (PySem.Builtin.Str.strKind z<PySem.Builtin.Str.strKind y))with
  | true=>exact ab3 acn hT abZ (F.args_str_split_3 _ _ _) (meets_str_split_max_cannot_occur z y k t t' TB hk h1) (alone (aaz h1))
  | false=>
   have n1:¬(decide (z.length<y.length) || decide (PySem.Builtin.Str.strKind z<PySem.Builtin.Str.strKind y))=true:=by rw[h1];decide
   cases h2:(occurrences z y 0 z.length (limitOf z k)).isEmpty with
   | true=>exact ab3 acn hT abZ (F.args_str_split_3 _ _ _) (meets_str_split_max_not_found z y k t t' TB hk h1 hy h2) (alone ((aar n1).trans (aaz h2)))
   | false=>
    have n2:¬(occurrences z y 0 z.length (limitOf z k)).isEmpty=true:=by rw[h2];decide
    refine ab3 acn hT abZ (F.args_str_split_3 _ _ _) (meets_str_split_sep_max z y k t t' TB hk h1 hy h2 (by omega) hn) ?_;have e:Txt.splitMax z y k=partsBetween z (occurrences z y 0 z.length (limitOf z k)) y.length:=(aar n1).trans (aar n2);rw[e]at q;exact⟨.ref s.heap.objs.size,upd H s.heap.objs.size (.lst ((partsBetween z (occurrences z y 0 z.length (limitOf z k)) y.length).map V.str)),I.laid (o:=.lst ((partsBetween z (occurrences z y 0 z.length (limitOf z k)) y.length).map V.str)) (λb u e=>aad _ e) (aae _) ⟨by rw[aaa];exact hn,_,0,jI _ _,aap _ rfl⟩,rfl,q⟩
 ·exact oZ pins s σ H _ _ _ _ Q I rx rv h
theorem Fh{ax:Pos}(ho:PE X o to)(ha:PA X (e::es) t)(bw:attributeBase o "split" X.env (eval o X.env)=eval o X.env:=by kernel_rfl)(eP:((backTo ax (starEach (e::es) X.env)).all (λx=>!x.1)&&(backToKw ax (keywordEach [] X.env)).all (λx=>x.1.isSome) && decide ((e::es).length+([]:List Keyword).length+(if([]:List Keyword).isEmpty then 0 else 1)<30))=true:=by kernel_rfl)(bG:(apos.endLine == ax.line)=true:=by kernel_rfl)(hs:starEach (e::es) X.env=(false,eval e X.env)::starEach es X.env:=by kernel_rfl)(bB:(backTo ax (starEach es X.env)).any (·.1)=false:=by kernel_rfl):PE X (.Call (.Attribute o "split" apos) (e::es) [] ax) (zF "str" rz to t):=iG abo PySem.F.slot_str_split PySem.F.type_str_split A1 ho ha bw eP bG hs bB
def Qj(K:W.Frag):R2:=λx y H Q=>match x,y with
 | .str z,.ref p=>∃zs:List Str,(aN K H p (zs.map V.str)\/pQ K H p (zs.map V.str))/\Q (.bl (decide (z∈zs))) H
 | _,_=>False
theorem DK:ck X (compareOp .In) (Qj X.K):=AJ.of λx y H Q q=>by
 unfold Qj at q;split at q
 ·obtain⟨zs,h,q⟩:=q;refine⟨_,_,rfl,h,rfl,Be zs,?_⟩;simp only[aa9,abX];rw[Fw];exact q
 ·exact q.elim
def Dx:List V->Hp->VK->Prop:=λvs H Q=>∃(a:Addr)(ag:List (Key×V))(zs:List Str),vs=[.ref a]/\Rd H a (.dK ag)/\ag.map (λp=>kV p.1)=zs.map V.str/\zs.length<64/\∀l ys,H l=none->ys.Perm zs->sortedS ys=true->Q (.ref l) (upd H l (.lst (ys.map V.str)))
theorem xY(hc:X.calm=true):aH X (.builtin "sorted") Dx:=by
 intro pins s σ H vs us Q I r h;refine az λak=>?_;obtain⟨a,ag,zs,rfl,rd,ek,JY,q⟩:=h;obtain⟨u,rfl,rx⟩:=vals1 r;refine ak ?_;clear ak;cases rx;refine az λak=>?_;obtain⟨z,hd,vs,kv,o,es,ep,h1,h2,h3,h4,h5,h6⟩:=fw I.au rd;refine ak ?_;clear ak;have hT:s.TypeIs (.ref a) "dict" := ⟨o,h1,h2.1⟩
 have rel:=eG kv h5;have kl:ag.length=zs.length:=by have:=aaX List.length ek;simpa using this
 have el:es.size=zs.length:=by have e1:=rel.length;simp at e1;omega
 refine acS kind_sorted plain_sorted entry_sorted (args_sorted1 _) ?_;unfold Builtin.«sorted»;refine aac (m:=checkCount "sorted" 1 1 _) (aaj ?_);refine aac (je (I.ok.hd hc) hd hT h1 h3 (by rw[el,abv];omega) λvt tk acc kp lt it=>?_);have rv:=eX it rel;rw[ek]at rv;have hS:=jH rv;have Ym:acc.toList.length<64:=by rw[<-rv.length,aaa];exact JY
 refine aac (wpAny_newList ?_ (by rw[abv];omega));have Ga:(vt.push (seqObj "list" acc.toList.toArray 0)).get? vt.objs.size=some (seqObj "list" acc.toList.toArray 0):=aap _ rfl;refine aac (aa0 (acd slot_list_sort ⟨_,Ga,rfl⟩ entry_list_sort (list_sort_treeK strKind_oneLt Ga hS.keysOf (λv1 v2 rest e=>keyKind_strs (by rw[<-e];exact hS)) Ym λpN p1 p2=>⟨_,rfl,?_⟩) (args_list_sort _)));obtain⟨ys,y1,y2,y3⟩:=sorted_out_str hS p1 p2;obtain⟨e,he⟩:=sortedHeap_at (out:=(arrOf pN).map (·.2)) Ga;have Zr:∀b o,s.heap.get? b=some o->(sortedHeap (vt.push (seqObj "list" acc.toList.toArray 0)) vt.objs.size acc.toList ((arrOf pN).map (·.2))).get? b=some o:=λb o hb=>by have vC:=kp b o hb;have bl:=aam vC;rw[sortedHeap_old (aaD bl) (by rw[size_push'];exact acL bl)];exact aad _ vC
 have yl:ys.length=zs.length:=y2.length_eq;have ok:aS X.prog X.w (upd H vt.objs.size (.lst (ys.map V.str))) (sortedHeap (vt.push (seqObj "list" acc.toList.toArray 0)) vt.objs.size acc.toList ((arrOf pN).map (·.2))) vt.objs.size (.lst (ys.map V.str)):=⟨by rw[aaa,yl,abv];omega,_,e,oO y1,he⟩
 refine aaj ⟨_,rfl,.ref vt.objs.size,upd H vt.objs.size (.lst (ys.map V.str)),I.laid (t':=tk) Zr (abV lt) ok,rfl,q _ _ (I.au.fresh (abV lt)) y2 y3⟩
theorem uK{aI:Str->Option Value}(hm:aI "sorted" = none)(hX:X.mg=aI)(ha:PA X (e::es) t)(hc:X.calm=true:=by kernel_rfl)(hg:gB X "sorted" = true:=by kernel_rfl)(he:starEach (e::es) X.env=(false,eval e X.env)::starEach es X.env:=by kernel_rfl)(hpl:(backTo pos (starEach es X.env)).any (·.1)=false:=by kernel_rfl):PE X (.Call (.Name "sorted" p) (e::es) [] pos) (kP Dx t):=bR (xY hc) (aK hg) (by rw[hX];exact hm) PyProof.Rows.boot_sorted ha (he:=he) (hpl:=hpl)
end
end L2
namespace L2
open PySem PySem.Spec PyProof.Rows
section
variable{H H':Hp}{v:V}{R R1:Om.X3}{E:Nat->Nat->Om.cL->Prop}
theorem Ot{L:Addr}{xs ys:List V}(hL:H L=some (.lst xs)){x:Addr}{u:HO}(h:H x=some u)(n:∀zs,u≠.lst zs):upd H L (.lst ys) x=some u:=by
 have:x≠L:=λz=>by subst z;rw[hL]at h;cases h;exact n _ rfl
 rw[af this];exact h
end
theorem fP{ag:List (List Key×V)}{p q:Nat×Nat}{v:V}(h:q≠p):aG (putK ag (kk p) v) (kk q)=aG ag (kk q):=by rw[cZ,aar (λz=>h (DR z))]
theorem fQ{ag:List (List Key×V)}{p:Nat×Nat}{v:V}:aG (putK ag (kk p) v) (kk p)=some v:=by rw[cZ,aaz rfl]
end L2
namespace Om
def BV(a b:Nat×Nat):Prop:=a.1<b.1\/(a.1=b.1/\a.2<b.2)
def yk(s t:cL):Prop:=BV s.1 t.1
theorem BV.as{a b:Nat×Nat}(h:BV a b):¬BV b a:=by unfold BV at *;omega
theorem yk.as{a b:cL}(h:yk a b):¬yk b a:=BV.as h
theorem oP{α:Type}{lt:α->α->Prop}(as:∀a b,lt a b->¬lt b a):∀{l m:List α},l.Pairwise lt->m.Pairwise lt->(∀x,x∈l↔x∈m)->l=m
 | [],[],_,_,_=>rfl
 | [],b::m,_,_,h=>absurd ((h b).mpr (aah ..)) (by simp)
 | a::l,[],_,_,h=>absurd ((h a).mp (aah ..)) (by simp)
 | a::l,b::m,hl,hm,h=>by
  obtain⟨l1,l2⟩:=abD.mp hl;obtain⟨m1,m2⟩:=abD.mp hm;have e:a=b:=by
   rcases aau.mp ((h a).mp (aah ..))with e|e
   ·exact e
   ·rcases aau.mp ((h b).mpr (aah ..))with e'|e'
    ·exact e'.symm
    ·exact absurd (l1 _ e') (as _ _ (m1 _ e))
  subst e;rw[oP as l2 m2 λx=>?_];constructor
  ·intro hx;rcases aau.mp ((h x).mp (aaf _ hx))with rfl|e
   ·exact absurd (l1 _ hx) (as _ _ (l1 _ hx))
   ·exact e
  ·intro hx;rcases aau.mp ((h x).mpr (aaf _ hx))with rfl|e
   ·exact absurd (m1 _ hx) (as _ _ (m1 _ hx))
   ·exact e
theorem pw_app{α:Type}{lt:α->α->Prop}{l:List α}{x:α}(h:l.Pairwise lt)(g:∀a∈l,lt a x):(l++[x]).Pairwise lt:=
 List.pairwise_append.mpr ⟨h,List.pairwise_singleton ..,λa ha b hb=>by rw[aaA.mp hb];exact g a ha⟩
noncomputable def canon{α:Type}(lt:α->α->Prop)(P:α->Prop):List α:=
 open Classical in if h:∃l:List α,l.Pairwise lt/\∀x,x∈l↔P x then Classical.choose h else[]
theorem ja{α:Type}{lt:α->α->Prop}{P:α->Prop}(as:∀a b,lt a b->¬lt b a){l:List α}(h1:l.Pairwise lt)(h2:∀x,x∈l↔P x):canon lt P=l:=by
 have h:∃l:List α,l.Pairwise lt/\∀x,x∈l↔P x:=⟨l,h1,h2⟩
 unfold canon;rw[dif_pos h];obtain⟨c1,c2⟩:=Classical.choose_spec h;exact oP as c1 h1 λx=>by rw[c2,h2]
end Om
namespace L2
open PySem PySem.Spec PyProof.Rows
def Tb(c:Nat)(lt:Om.cL->Om.cL->Prop)(H:Hp)(v:V)(R:Om.X3)(E:Nat->Nat->Om.cL->Prop):Prop:=∃a o ag ks,v = .ref a/\H a=some (.eA o (.dT ag))/\KD ks ag/\(∀x y,(x,y)∈ks↔R x y)/\ks.Pairwise Om.BV ∧
 ∀p∈ks,∃l ss,aG ag (kk p)=some (.ref l)/\Gy H l ss/\ss.length<=c/\ss.Pairwise lt/\∀s,s∈ss↔E p.1 p.2 s
def kq(G:Hp)(ag:List (List Key×V))(ks:List (Nat×Nat))(E:Nat->Nat->Om.cL->Prop):Prop:=
 ∀p∈ks,∃l ss,aG ag (kk p)=some (.ref l)/\Gy G l ss/\ss.length<=64/\ss.Pairwise Om.yk/\∀s,s∈ss↔E p.1 p.2 s
theorem kq.mono{G G':Hp}{ag:List (List Key×V)}{ks:List (Nat×Nat)}{E:Nat->Nat->Om.cL->Prop}(h:kq G ag ks E)(s:ah G G'):kq G' ag ks E:=λp hp=>by obtain⟨l,ss,q1,q2,q3⟩:=h p hp;exact⟨l,ss,q1,q2.mono s,q3⟩
theorem kq.put{G:Hp}{ag:List (List Key×V)}{ks:List (Nat×Nat)}{E:Nat->Nat->Om.cL->Prop}{p:Nat×Nat}{l:Addr}{ss:List Om.cL}(h:kq G ag ks E)(n:p ∉ ks)(hl:Gy G l ss)(JY:ss.length<=64)(ho:ss.Pairwise Om.yk)(hs:∀s,s∈ss↔E p.1 p.2 s):kq G (putK ag (kk p) (.ref l)) (ks++[p]) E:=λq hq=>by
 rcases aay.mp hq with hq|hq
 ·obtain⟨l',YA,q1,q2⟩:=h q hq;exact⟨l',YA,by rw[fP (p:=p) (q:=q) (λz=>n (z▸hq))];exact q1,q2⟩
 ·have:q=p:=by simpa using hq
  subst this;exact⟨l,ss,fQ,hl,JY,ho,hs⟩
end L2
namespace Om
abbrev Ent:=(Nat×Nat)×((Nat×Nat)×(Nat×Nat))
def vP(q:Nat×Nat)(acc:List Ent)(s:cL):List Ent:=if s.2∈acc.map (·.1)then acc else acc++[(s.2,(q,s.1))]
def tK(g:Nat×Nat->List cL)(acc:List Ent)(q:Nat×Nat):List Ent:=(g q).foldl (vP q) acc
def G3(g:Nat×Nat->List cL)(ks:List (Nat×Nat)):List Ent:=ks.foldl (tK g) []
theorem gw{α β:Type}(f:β->α->β)(b:β){l:List α}{i:Nat}(h:i<l.length):(l.take (i+1)).foldl f b=f ((l.take i).foldl f b) l[i]:=by rw[aaL,aab h,List.foldl_append];rfl
theorem uo{q:Nat×Nat}{acc:List Ent}{s:cL}(h:s.2∈acc.map (·.1)):vP q acc s=acc:=aaz h
theorem uq{q:Nat×Nat}{acc:List Ent}{s:cL}(h:s.2 ∉ acc.map (·.1)):vP q acc s=acc++[(s.2,(q,s.1))]:=aar h
theorem Fu{q:Nat×Nat}{acc:List Ent}{s:cL}{p:Nat×Nat}:p∈(vP q acc s).map (·.1)↔p∈acc.map (·.1)\/p=s.2:=by
 by_cases c:s.2∈acc.map (·.1)
 ·rw[uo c];exact⟨.inl,λh=>h.elim id λe=>e▸c⟩
 ·rw[uq c,aao,aay];simp
theorem pd{q p:Nat×Nat}:∀{l:List cL}{acc:List Ent},p∈(l.foldl (vP q) acc).map (·.1)↔p∈acc.map (·.1)\/∃s∈l,s.2=p
 | [],acc=>by simp
 | s::l,acc=>by
  rw[List.foldl_cons,pd,Fu];constructor
  ·rintro((h|h)|⟨s',h1,h2⟩)
   ·exact .inl h
   ·exact .inr ⟨s,aah,h.symm⟩
   ·exact .inr ⟨s',aaf _ h1,h2⟩
  ·rintro(h|⟨s',h1,h2⟩)
   ·exact .inl (.inl h)
   ·rcases aau.mp h1 with rfl|h1
    ·exact .inl (.inr h2.symm)
    ·exact .inr ⟨s',h1,h2⟩
theorem zf{g:Nat×Nat->List cL}{p:Nat×Nat}:∀{ks:List (Nat×Nat)}{acc:List Ent},p∈(ks.foldl (tK g) acc).map (·.1)↔p∈acc.map (·.1)\/∃q∈ks,∃s∈g q,s.2=p
 | [],acc=>by simp
 | q::ks,acc=>by
  rw[List.foldl_cons,zf];unfold tK;rw[pd];constructor
  ·rintro((h|⟨s,h1,h2⟩)|⟨q',h1,h2⟩)
   ·exact .inl h
   ·exact .inr ⟨q,aah,s,h1,h2⟩
   ·exact .inr ⟨q',aaf _ h1,h2⟩
  ·rintro(h|⟨q',h1,h2⟩)
   ·exact .inl (.inl h)
   ·rcases aau.mp h1 with rfl|h1
    ·exact .inl (.inr h2)
    ·exact .inr ⟨q',h1,h2⟩
end Om
namespace L2
open PySem PySem.Spec PyProof.Rows
def oz(H:Hp)(ag:List (List Key×V))(e:Om.Ent):Prop:=∃t pa la,aG ag (kk e.1)=some (.ref t)/\H t=some (.tup [.ref pa,.ref la])/\H pa=some (.tup ((kk e.2.1).map kV))/\H la=some (.tup [.int (e.2.2.1:Nat),.int (e.2.2.2:Nat)])
def Vy(H:Hp)(v:V)(ks:List (Nat×Nat)):Prop:=∃a o ag,v = .ref a/\H a=some (.eA o (.dT ag))/\KD ks ag
def yj(H:Hp)(v:V)(acc:List Om.Ent):Prop:=∃a o ag,v = .ref a/\H a=some (.eA o (.dT ag))/\KD (acc.map (·.1)) ag/\∀e∈acc,oz H ag e
def Gg(c:Nat)(H:Hp)(v:V)(fX:List (Nat×Nat))(g:Nat×Nat->List Om.cL):Prop:=∃a o ag,v = .ref a/\H a=some (.eA o (.dT ag))/\KD fX ag/\∀p∈fX,∃l,aG ag (kk p)=some (.ref l)/\Gy H l (g p)/\(g p).length<=c
section
variable{H H':Hp}{v:V}{c:Nat}
theorem oz.mono{ag:List (List Key×V)}{e:Om.Ent}(h:oz H ag e)(s:ah H H'):oz H' ag e:=by obtain⟨t,pa,la,h1,h2,h3,h4⟩:=h;exact⟨t,pa,la,h1,s _ _ h2,s _ _ h3,s _ _ h4⟩
theorem yj.mono{acc:List Om.Ent}(h:yj H v acc)(s:ah H H'):yj H' v acc:=by obtain⟨a,o,ag,e,h1,h2,h3⟩:=h;exact⟨a,o,ag,e,s _ _ h1,h2,λe he=>(h3 e he).mono s⟩
theorem yj.k{acc:List Om.Ent}(h:yj H v acc):Vy H v (acc.map (·.1)):=by obtain⟨a,o,ag,e,h1,h2,h3⟩:=h;exact⟨a,o,ag,e,h1,h2⟩
theorem Gg.mono{fX:List (Nat×Nat)}{g:Nat×Nat->List Om.cL}(h:Gg c H v fX g)(s:ah H H'):Gg c H' v fX g:=by obtain⟨a,o,ag,e,h1,h2,h3⟩:=h;refine⟨a,o,ag,e,s _ _ h1,h2,λp hp=>?_⟩;obtain⟨l,q1,q2,q3⟩:=h3 p hp;exact⟨l,q1,q2.mono s,q3⟩
end
end L2
namespace Om
def lay(g:Nat×Nat->List cL)(ks:List (Nat×Nat)):Nat->List Ent
 | 0=>ks.map λp=>(p,((0,0),(0,0)))
 | i+1=>G3 g ((lay g ks i).map (·.1))
def iD(g:Nat×Nat->List cL)(ks:List (Nat×Nat))(i:Nat):List (Nat×Nat):=(lay g ks i).map (·.1)
theorem jY(g:Nat×Nat->List cL)(ks:List (Nat×Nat)):iD g ks 0=ks:=by show(ks.map λp=>(p,((0,0),(0,0)))).map (·.1)=ks;rw[aaC];exact List.map_id _
theorem jZ{g:Nat×Nat->List cL}{ks:List (Nat×Nat)}{i:Nat}{p:Nat×Nat}:p∈iD g ks (i+1)↔∃q∈iD g ks i,∃s∈g q,s.2=p:=by show p∈(G3 g (iD g ks i)).map (·.1)↔_;unfold G3;rw[zf];simp
theorem rJ{g:Nat×Nat->List cL}{ks fX:List (Nat×Nat)}(h:∀p∈ks,p∈fX)(c:∀p∈fX,∀s∈g p,s.2∈fX):∀i,∀p∈iD g ks i,p∈fX
 | 0,p,hp=>by rw[jY]at hp;exact h p hp
 | i+1,p,hp=>by obtain⟨q,h1,s,h2,rfl⟩:=jZ.mp hp;exact c q (rJ h c i q h1) s h2
end Om
namespace L2
open PySem PySem.Spec PyProof.Rows
section
variable{H H':Hp}{v:V}{g:Nat×Nat->List Om.cL}{ks:List (Nat×Nat)}
theorem yj.vK{L:Addr}{xs ys:List V}{acc:List Om.Ent}(hL:H L=some (.lst xs))(h:yj H v acc):yj (upd H L (.lst ys)) v acc:=by obtain⟨a,o,ag,e,h1,h2,h3⟩:=h;refine⟨a,o,ag,e,Ot hL h1 (λ_ z=>nomatch z),h2,λe he=>?_⟩;obtain⟨t,pa,la,k1,k2,k3,k4⟩:=h3 e he;exact⟨t,pa,la,k1,Ot hL k2 (λ_ z=>nomatch z),Ot hL k3 (λ_ z=>nomatch z),Ot hL k4 (λ_ z=>nomatch z)⟩
end
section
variable{X:Cx}{p pos apos:Pos}{a b c e o:Expr}{es:List Expr}{t:TA}{to:TE}
def rq:V->List V->Hp->VK->Prop:=λx vs H Q=>match x,vs with
 | .str z,[.str y]=>Q (.bl (Txt.startswith z y)) H
 | _,_=>False
theorem xN:nM X "str.startswith" rq:=by
 intro pins s σ H x vs v us Q I rx rv h;unfold rq at h;split at h
 ·obtain⟨t,rfl⟩:=rx;obtain⟨u,rfl,t',rfl⟩:=rv.one;exact SC.startswith ⟨.bl _,H,I,rfl,h⟩
 ·exact h.elim
theorem Fg{ax:Pos}(ho:PE X o to)(ha:PA X (e::es) t)(bw:attributeBase o "startswith" X.env (eval o X.env)=eval o X.env:=by kernel_rfl)(eP:((backTo ax (starEach (e::es) X.env)).all (λx=>!x.1)&&(backToKw ax (keywordEach [] X.env)).all (λx=>x.1.isSome) && decide ((e::es).length+([]:List Keyword).length+(if([]:List Keyword).isEmpty then 0 else 1)<30))=true:=by kernel_rfl)(bG:(apos.endLine == ax.line)=true:=by kernel_rfl)(hs:starEach (e::es) X.env=(false,eval e X.env)::starEach es X.env:=by kernel_rfl)(bB:(backTo ax (starEach es X.env)).any (·.1)=false:=by kernel_rfl):PE X (.Call (.Attribute o "startswith" apos) (e::es) [] ax) (zF "str" rq to t):=iG abo PySem.F.slot_str_startswith PySem.F.type_str_startswith xN ho ha bw eP bG hs bB
theorem uT{v w:List Bool}(h:v.map sg=w.map sg):v=w:=Eg (by unfold bs;rw[h])
theorem Ap(w u:List Bool):Txt.startswith (bs w) (bs u)=decide (u <+: w):=by
 unfold Txt.startswith;rw[abB,aaH,aaJ,aaH,StrLaws.subAt_eq,acp];have e1:(bs w).cps.toList=w.map sg:=by unfold bs;simp
 have e2:(bs u).cps.toList=u.map sg:=by unfold bs;simp
 rw[e1,e2,bg,bg,acb,<-acF];constructor
 ·rintro⟨h1,h2⟩;have:=uT h2;rw[<-this];exact adg _ _
 ·rintro⟨q,rfl⟩;refine⟨by rw[aal];omega,?_⟩;rw[adF]
end
def Ac(P:Program)(w:World)(a:Addr)(n:Nat):HO:=.ext λh=>∃M,h.SetOf (intKind P w) a M n
theorem Ac.mk{P:Program}{w:World}{H:Hp}{h:Heap}{a:Addr}{M:Int->Bool}{n:Nat}(x:h.SetOf (intKind P w) a M n):aS P w H h a (Ac P w a n):=by refine⟨⟨M,x⟩,?_,λh1 h2 ⟨M1,x1⟩ k=>⟨M1,fR x1 k⟩⟩;obtain⟨o,es,ep,t,e,_⟩:=x;exact⟨o,e⟩
section
variable{X:Cx}{p pos:Pos}{e:Expr}{es:List Expr}{t:TA}
def Ki(P:Program)(w:World):List V->Hp->VK->Prop:=λvs H Q=>∃(l:Addr)(xs:List Int),vs=[.ref l]/\H l=some (.lst (xs.map V.int))/\xs.length<=1000/\∀a,H a=none->Q (.ref a) (upd H a (Ac P w a (Om.once xs).length))
theorem Bm(hc:X.calm=true):aH X (.type "set") (Ki X.prog X.w):=by
 intro pins s σ H vs us Q I r h;obtain⟨l,xs,rfl,hl,hz,q⟩:=h;obtain⟨u,rfl,rx⟩:=vals1 r;cases rx;obtain⟨_,its,n,rv,e0⟩:=I.au l _ hl;have ln:=rv.length;rw[aaa]at ln;refine vg (knd:=intKind X.prog X.w) (ks:=xs) (I.ok.hd hc) ⟨_,e0,rfl,n,rfl⟩ (by simpa using ln) (λi v hv=>?_) (by simp;unfold scanBound;omega) λh' tk x k=>?_
 ·have JT:its[i]? = some v:=by simpa using hv
  have lt:i<its.length:=(aaB.mp JT).1;have lx:i<xs.length:=by omega
  obtain⟨u,hu,ru⟩:=rv.get (i:=i) (x:=.int xs[i]) (by rw[aak,aab lx];rfl);rw[JT]at hu;cases hu;obtain⟨tk,rfl⟩:=ru;exact⟨xs[i],aab lx,intKind_is _ _ _ _,rfl⟩
 ·exact⟨.ref s.heap.objs.size,upd H s.heap.objs.size (Ac X.prog X.w s.heap.objs.size (Om.once xs).length),I.laid (t':=tk) k (aae _) (Ac.mk x),rfl,q _ (I.au.fresh (aae _))⟩
def Kl(P:Program)(w:World):List V->Hp->VK->Prop:=λvs H Q=>(∃(a:Addr)(n:Nat),vs=[.ref a]/\H a=some (Ac P w a n)/\Q (.int (n:Nat)) H)\/zQ vs H Q
theorem Br:aH X (.builtin "len") (Kl X.prog X.w):=by
 intro pins s σ H vs us Q I r h;rcases h with⟨a,n,rfl,ha,q⟩|h
 ·obtain⟨u,rfl,rx⟩:=vals1 r;cases rx;refine az λak=>?_;obtain⟨M,o,es,ep,tb,e0,ex,ed,_,_,sb,ft,en⟩:=(I.au a _ ha).1;refine ak ?_;clear ak;refine call_len_set e0 ex ed ft (by unfold scanBound at sb;omega) ⟨.int (n:Nat),H,I.tok _,⟨_,by rw[en]⟩,q⟩
 ·exact j8 pins s σ H vs us Q I r h
theorem IV{aI:Str->Option Value}(hm:aI "set" = none)(hX:X.mg=aI)(ha:PA X (e::es) t)(hc:X.calm=true:=by kernel_rfl)(hg:gB X "set" = true:=by kernel_rfl)(he:starEach (e::es) X.env=(false,eval e X.env)::starEach es X.env:=by kernel_rfl)(hpl:(backTo pos (starEach es X.env)).any (·.1)=false:=by kernel_rfl):PE X (.Call (.Name "set" p) (e::es) [] pos) (kP (Ki X.prog X.w) t):=eJ (Bm hc) (aK hg) (by rw[hX];exact hm) PyProof.Rows.boot_set ha (he:=he) (hpl:=hpl)
theorem IW{aI:Str->Option Value}(hm:aI "len" = none)(hX:X.mg=aI)(ha:PA X (e::es) t)(hg:gB X "len" = true:=by kernel_rfl)(he:starEach (e::es) X.env=(false,eval e X.env)::starEach es X.env:=by kernel_rfl)(hpl:(backTo pos (starEach es X.env)).any (·.1)=false:=by kernel_rfl):PE X (.Call (.Name "len" p) (e::es) [] pos) (kP (Kl X.prog X.w) t):=bR Br (aK hg) (by rw[hX];exact hm) PySem.boot_len ha (he:=he) (hpl:=hpl)
end
end L2
namespace Om
def GT(rows:Rows)(k n:Nat)(wire:List Bool)(i:Nat)(t:List Nat):Prop:=(∀l∈t,l<2 ^ k)/\t.length=i/\wire.take (n*i) <+: (send rows 0 t).1
def tP(rows:Rows)(k d:Nat):Prop:=∀t t':List Nat,(∀l∈t,l<2 ^ k)->(∀l∈t',l<2 ^ k)->t.length=t'.length->(send rows 0 t).1=(send rows 0 t').1->t.take (t.length-d)=t'.take (t.length-d)
def OR(G:List Nat->Prop)(c:List Nat):Prop:=(∀t,G t->c <+: t)/\∀c',(∀t,G t->c' <+: t)->c'.length<=c.length
abbrev Gs:=Nat×List Nat
def gM(rows:Rows)(gl:List Gs)(word:List Bool):List Gs:=gl.flatMap λg=>((List.range (rows.getD g.1 []).length).filter λl=>decide (word <+: (step rows g.1 l).1)).map λl=>((step rows g.1 l).2,g.2++[l])
def iJ(c:Nat)(gl:List Gs):List Gs:=gl.map λg=>(g.1,g.2.drop c)
structure Vq(tl:List (List Nat))(c:Nat):Prop where
 le:∀t∈tl,c<=t.length
 al:∀t∈tl,∀u∈tl,t.take c=u.take c
 en:(∃t∈tl,t.length=c)\/∃t∈tl,∃u∈tl,t.getD c 0≠u.getD c 0
structure fh(rows:Rows)(k n:Nat)(wire:List Bool)(i:Nat)(c:List Nat)(gl:List Gs):Prop where
 ne:gl≠[]
 mem:∀g:Gs,g∈gl↔GT rows k n wire i (c++g.2)/\(send rows 0 (c++g.2)).2=g.1
 nd:(gl.map (·.2)).Nodup
 all:∀t,GT rows k n wire i t->c <+: t
 mx:∀c',(∀t,GT rows k n wire i t->c' <+: t)->c'.length<=c.length
theorem fh.Ug{rows:Rows}{k n i:Nat}{wire:List Bool}{c:List Nat}{gl:List Gs}(h:fh rows k n wire i c gl):OR (GT rows k n wire i) c:=⟨h.all,h.mx⟩
theorem IQ(rows:Rows)(k n:Nat)(wire:List Bool):fh rows k n wire 0 [] [(0,[])] where
 ne:=by simp
 mem:=λg=>by
  rw[aaA];constructor
  ·rintro rfl;exact⟨⟨by simp,rfl,by simp⟩,rfl⟩
  ·rintro⟨⟨_,h1,_⟩,h2⟩;rw[acX]at h1 h2;have e:g.2=[]:=List.eq_nil_of_length_eq_zero h1;rw[e]at h2;have:g.1=0:=h2.symm;exact ab8 this e
 nd:=by simp
 all:=λt _=>List.nil_prefix
 mx:=λc' h=>by have:=h [] ⟨by simp,rfl,by simp⟩;rw[List.prefix_nil]at this;rw[this];exact aae _
section
variable{rows:Rows}{k n:Nat}{wire:List Bool}
theorem pre_app{a b a' b':List Bool}(h:a.length=a'.length):a++b <+: a'++b'↔a=a'/\b <+: b':=by
 constructor
 ·rintro⟨q,e⟩;rw[abi]at e;obtain⟨h1,h2⟩:=List.append_inj e h;exact⟨h1,q,h2⟩
 ·rintro⟨rfl,q,rfl⟩;exact⟨q,by simp⟩
theorem za{a b:List Bool}(h:a <+: b)(hl:b.length<=a.length):a=b:=by obtain⟨q,rfl⟩:=h;have:q=[]:=List.eq_nil_of_length_eq_zero (by rw[aal]at hl;omega);rw[this,aa1]
theorem GT.full(ok:aq k n rows){i:Nat}{t:List Nat}(h:GT rows k n wire i t)(hi:n*i<=wire.length):(send rows 0 t).1=wire.take (n*i):=by obtain⟨h1,h2,h3⟩:=h;refine(za h3 ?_).symm;rw[(bt ok t 0 ok.s1 h1).1,h2,aas];omega
theorem GT.snoc(ok:aq k n rows){i:Nat}(hi:n*i<=wire.length)(t:List Nat)(l:Nat):GT rows k n wire (i+1) (t++[l])↔GT rows k n wire i t/\l<2 ^ k/\(wire.drop (n*i)).take n <+: (step rows (send rows 0 t).2 l).1:=by
 have e1:wire.take (n*(i+1))=wire.take (n*i)++(wire.drop (n*i)).take n:=by rw[Nat.mul_add,Nat.mul_one,List.take_add]
 have e2:(send rows 0 (t++[l])).1=(send rows 0 t).1++(step rows (send rows 0 t).2 l).1:=by rw[cA];simp[send]
 have el:t.length=i->(∀l∈t,l<2 ^ k)->(wire.take (n*i)).length=((send rows 0 t).1).length:=λh1 h2=>by rw[(bt ok t 0 ok.s1 h2).1,h1,aas];omega
 unfold GT;rw[e1,e2];constructor
 ·rintro⟨h1,h2,h3⟩;have ht:∀l∈t,l<2 ^ k:=λx hx=>h1 x (aa7 _ hx);have hn:t.length=i:=by rw[aal,List.length_singleton]at h2;omega
  obtain⟨q1,q2⟩:=(pre_app (el hn ht)).mp h3;exact⟨⟨ht,hn,by rw[q1];exact List.prefix_refl _⟩,h1 l (by simp),q2⟩
 ·rintro⟨⟨ht,hn,h3⟩,hl,h4⟩;refine⟨λx hx=>?_,by rw[aal,hn];rfl,(pre_app (el hn ht)).mpr ⟨za h3 (by rw[el hn ht];exact aae _),h4⟩⟩;rcases aay.mp hx with hx|hx
  ·exact ht x hx
  ·rw[aaA.mp hx];exact hl
theorem fF(ok:aq k n rows){s:Nat}(hs:s<rows.length):(rows.getD s []).length=2 ^ k:=by
 have e:rows.getD s []=rows[s]:=by rw[aag,aab hs];rfl
 rw[e,ok.len _ (aat hs)]
theorem rF{gl:List Gs}{word:List Bool}{g:Gs}:g∈gM rows gl word↔∃p∈gl,∃l,l<(rows.getD p.1 []).length/\word <+: (step rows p.1 l).1/\g=((step rows p.1 l).2,p.2++[l]):=by
 unfold gM;rw[List.mem_flatMap];constructor
 ·rintro⟨p,hp,h⟩;obtain⟨l,hl,rfl⟩:=aan.mp h;obtain⟨h1,h2⟩:=acy.mp hl;exact⟨p,hp,l,abx.mp h1,aaF h2,rfl⟩
 ·rintro⟨p,hp,l,h1,h2,rfl⟩;exact⟨p,hp,aan.mpr ⟨l,acy.mpr ⟨abx.mpr h1,aaI h2⟩,rfl⟩⟩
theorem DW(ok:aq k n rows){i:Nat}{c:List Nat}{gl:List Gs}(h:fh rows k n wire i c gl)(hi:n*i<=wire.length)(g:Gs):g∈gM rows gl ((wire.drop (n*i)).take n)↔c.length<i+1/\GT rows k n wire (i+1) (c++g.2)/\(send rows 0 (c++g.2)).2=g.1:=by
 rw[rF];constructor
 ·rintro⟨p,hp,l,h1,h2,rfl⟩;obtain⟨m1,m2⟩:=(h.mem p).mp hp;have hs:p.1<rows.length:=by rw[<-m2];exact(bt ok _ 0 ok.s1 m1.1).2
  have e:c++(p.2++[l])=(c++p.2)++[l]:=by simp
  refine⟨?_,?_,?_⟩
  ·have:=m1.2.1;rw[aal]at this;omega
  ·show GT rows k n wire (i+1) (c++(p.2++[l]));rw[e,GT.snoc ok hi];exact⟨m1,by rw[<-fF ok hs];exact h1,by rw[m2];exact h2⟩
  ·show(send rows 0 (c++(p.2++[l]))).2=_;rw[e,cR,m2]
 ·rintro⟨hc,m1,m2⟩;have hl:=m1.2.1;rw[aal]at hl;have e9:g.2≠[]:=λz=>by rw[z]at hl;simp at hl;omega
  have eg:g.2=g.2.dropLast++[g.2.getLast e9]:=(abt e9).symm;generalize g.2.getLast e9=l at eg;generalize g.2.dropLast=tl at eg;have e:c++g.2=(c++tl)++[l]:=by rw[eg];simp
  rw[e]at m1 m2;obtain⟨q1,q2,q3⟩:=(GT.snoc ok hi _ _).mp m1;have hs:(send rows 0 (c++tl)).2<rows.length:=(bt ok _ 0 ok.s1 q1.1).2;refine⟨((send rows 0 (c++tl)).2,tl),(h.mem _).mpr ⟨q1,rfl⟩,l,by rw[fF ok hs];exact q2,q3,?_⟩;rw[cR]at m2;exact ab8 m2.symm eg
theorem nodup_map_on{α β:Type}{f:α->β}:∀{l:List α},(∀x∈l,∀y∈l,f x=f y->x=y)->l.Nodup->(l.map f).Nodup
 | [],_,_=>by simp
 | a::l,h,nd=>by rw[abr]at nd;rw[aaR,abr];refine⟨λz=>?_,nodup_map_on (λx hx y hy=>h x (aaf _ hx) y (aaf _ hy)) nd.2⟩;obtain⟨b,hb,e⟩:=aan.mp z;exact nd.1 (h a aah b (aaf _ hb) e.symm▸hb)
theorem jW{α β:Type}{f:α->β}:∀{l:List α},(l.map f).Nodup->l.Nodup
 | [],_=>by simp
 | a::l,h=>by rw[aaR,abr]at h;exact abr.mpr ⟨λz=>h.1 (abc z),jW h.2⟩
theorem KC:∀{gl:List Gs}{word:List Bool},(gl.map (·.2)).Nodup->((gM rows gl word).map (·.2)).Nodup
 | [],_,_=>by simp[gM]
 | g::gl,word,nd=>by
  rw[aaR,abr]at nd;have e:gM rows (g::gl) word=(((List.range (rows.getD g.1 []).length).filter λl=>decide (word <+: (step rows g.1 l).1)).map λl=>((step rows g.1 l).2,g.2++[l]))++gM rows gl word:=by unfold gM;rw[List.flatMap_cons]
  rw[e,aao,ac6];refine⟨?_,KC nd.2,?_⟩
  ·rw[aaC];refine nodup_map_on (λx _ y _ e=>?_) (List.Pairwise.filter _ List.nodup_range);have:=(List.append_inj' (show g.2++[x]=g.2++[y]from e) rfl).2;simpa using this
  ·intro a ha b hb e;obtain⟨x,hx,rfl⟩:=aan.mp ha;obtain⟨l,_,rfl⟩:=aan.mp hx;obtain⟨y,hy,e2⟩:=aan.mp hb;obtain⟨p,hp,l',_,_,rfl⟩:=rF.mp hy;have:=(List.append_inj' (show p.2++[l']=g.2++[l]from e2.trans e.symm) rfl).1;exact nd.1 (this▸abc hp)
theorem fh.step(ok:aq k n rows){i:Nat}{c:List Nat}{gl:List Gs}(h:fh rows k n wire i c gl)(hi:n*i<=wire.length){m:Nat}{g0:Gs}(hg:(gM rows gl ((wire.drop (n*i)).take n))[0]? = some g0)(sh:Vq ((gM rows gl ((wire.drop (n*i)).take n)).map (·.2)) m):fh rows k n wire (i+1) (c++g0.2.take m) (iJ m (gM rows gl ((wire.drop (n*i)).take n))):=by
 have gm:=DW ok h hi;have gn:=KC (rows:=rows) (word:=(wire.drop (n*i)).take n) h.nd;have ci:c.length<=i:=by obtain⟨p,hp⟩:=abp _ h.ne;have:=((h.mem p).mp hp).1.2.1;rw[aal]at this;omega
 generalize gM rows gl ((wire.drop (n*i)).take n)=gb at *
 have h0:g0∈gb:=aaP hg;have Ui:∀g∈gb,g.2∈gb.map (·.2):=λg hg=>abc hg;have al:∀g∈gb,g.2.take m=g0.2.take m:=λg hg=>sh.al _ (Ui g hg) _ (Ui g0 h0);have le:∀g∈gb,m<=g.2.length:=λg hg=>sh.le _ (Ui g hg);have sp:∀g∈gb,g0.2.take m++g.2.drop m=g.2:=λg hg=>by rw[<-al g hg,adb]
 have ml:(g0.2.take m).length=m:=by rw[aas];have:=le g0 h0;omega
 have pre:∀t,GT rows k n wire (i+1) t->c <+: t:=λt ht=>by
  have e9:t≠[]:=λz=>by rw[z]at ht;exact absurd ht.2.1 (by simp)
  have et:=(abt e9).symm;rw[et]at ht;have:=h.all _ ((GT.snoc ok hi _ _).mp ht).1;rw[et];exact this.trans (adG _ _)
 have Yr:∀t,GT rows k n wire (i+1) t->∃g∈gb,t=c++g.2:=λt ht=>by obtain⟨q,rfl⟩:=pre t ht;exact⟨((send rows 0 (c++q)).2,q),(gm _).mpr ⟨by omega,ht,rfl⟩,rfl⟩
 refine⟨?_,λg=>?_,?_,λt ht=>?_,λc' sR=>?_⟩
 ·intro z;unfold iJ at z;rw[List.map_eq_nil_iff]at z;rw[z]at h0;cases h0
 ·constructor
  ·intro hm;obtain⟨p,hp,rfl⟩:=aan.mp hm;obtain⟨_,m1,m2⟩:=(gm p).mp hp;show GT rows k n wire (i+1) (c++g0.2.take m++p.2.drop m)/\(send rows 0 (c++g0.2.take m++p.2.drop m)).2=p.1;rw[abi,sp p hp];exact⟨m1,m2⟩
  ·rintro⟨m1,m2⟩;rw[abi]at m1 m2;refine aan.mpr ⟨(g.1,g0.2.take m++g.2),(gm _).mpr ⟨by omega,m1,m2⟩,?_⟩;show(g.1,(g0.2.take m++g.2).drop m)=g;rw[List.drop_append,ml,adC,acb,acu (by omega)];rfl
 ·unfold iJ;rw[aaC];have Y7:gb.Nodup:=jW gn;refine nodup_map_on (λx hx y hy e=>?_) Y7;have e1:x.2=y.2:=by rw[<-sp x hx,<-sp y hy];exact aaX _ e
  obtain⟨_,_,x2⟩:=(gm x).mp hx;obtain⟨_,_,y2⟩:=(gm y).mp hy;exact ab8 (by rw[<-x2,<-y2,e1]) e1
 ·obtain⟨g,hg,rfl⟩:=Yr t ht;rw[<-sp g hg,<-abi];exact adG _ _
 ·refine aa6 λno=>?_;have cT:c.length+m<c'.length:=by rw[aal,ml]at no;omega
  have ap:∀g∈gb,c' <+: c++g.2:=λg hg=>sR _ ((gm g).mp hg).2.1;have lg:∀g∈gb,m<g.2.length:=λg hg=>by have:=(ap g hg).length_le;rw[aal]at this;omega
  have at':∀g∈gb,g.2.getD m 0=c'.getD (c.length+m) 0:=λg hg=>by obtain⟨q,e⟩:=ap g hg;rw[aag,aag];congr 1;have e2:(c'++q)[c.length+m]? = c'[c.length+m]?:=aaV cT;rw[<-e2,e,aaS (by omega),show c.length+m-c.length=m by omega]
  rcases sh.en with⟨t,ht,e⟩|⟨t,ht,u,hu,e⟩
  ·obtain⟨g,hg,rfl⟩:=aan.mp ht;exact absurd e (acQ (lg g hg))
  ·obtain⟨g,hg,rfl⟩:=aan.mp ht;obtain⟨g',Py,rfl⟩:=aan.mp hu;exact e ((at' g hg).trans (at' g' Py).symm)
theorem fh.some(ok:aq k n rows){i:Nat}{c:List Nat}{gl:List Gs}(h:fh rows k n wire i c gl)(hi:n*i<=wire.length){t:List Nat}(ht:GT rows k n wire (i+1) t):gM rows gl ((wire.drop (n*i)).take n)≠[]:=by
 have e9:t≠[]:=λz=>by rw[z]at ht;exact absurd ht.2.1 (by simp)
 have et:=(abt e9).symm;generalize t.getLast e9=l at et;generalize t.dropLast=u at et;subst et;obtain⟨q1,q2,q3⟩:=(GT.snoc ok hi _ _).mp ht;obtain⟨q,rfl⟩:=h.all _ q1;intro z;have:((send rows 0 (c++q++[l])).2,q++[l])∈gM rows gl ((wire.drop (n*i)).take n):=(DW ok h hi _).mpr ⟨by have:=q1.2.1;rw[aal]at this;omega,by show GT rows k n wire (i+1) (c++(q++[l]));rw[<-abi];exact ht,by show(send rows 0 (c++(q++[l]))).2=_;rw[<-abi]⟩;rw[z]at this;cases this
theorem GT.take(ok:aq k n rows){m:Nat}{t:List Nat}(h1:∀l∈t,l<2 ^ k)(h2:t.length=m)(h3:wire <+: (send rows 0 t).1){i:Nat}(hi:i<=m):GT rows k n wire i (t.take i):=by
 refine⟨λl hl=>h1 l (abl hl),by rw[aas];omega,?_⟩;have e:(send rows 0 t).1=(send rows 0 (t.take i)).1++(send rows (send rows 0 (t.take i)).2 (t.drop i)).1:=by have:=cA rows (t.take i) (t.drop i) 0;rw[adb]at this;rw[this]
 have p1:wire.take (n*i) <+: (send rows 0 t).1:=(adg _ _).trans h3;have p2:(send rows 0 (t.take i)).1 <+: (send rows 0 t).1:=by rw[e];exact adG _ _
 refine List.prefix_of_prefix_length_le p1 p2 ?_;rw[(bt ok (t.take i) 0 ok.s1 (λl hl=>h1 l (abl hl))).1,aas,aas,h2,acB hi];exact abJ _ _
theorem tP.inj(ok:aq k n rows){d:Nat}(lb:tP rows k d){t t':List Nat}(h:∀l∈t,l<2 ^ k)(h':∀l∈t',l<2 ^ k)(hl:t.length=t'.length)(hw:(send rows 0 t).1=(send rows 0 t').1)(hs:(send rows 0 t).2=(send rows 0 t').2):t=t':=by
 have p:0<2 ^ k:=Nat.two_pow_pos k;have z:∀l∈List.replicate d 0,l<2 ^ k:=λl hl=>by rw[(List.mem_replicate.mp hl).2];exact p
 have:=lb (t++List.replicate d 0) (t'++List.replicate d 0) (λl hl=>(aay.mp hl).elim (h l) (z l)) (λl hl=>(aay.mp hl).elim (h' l) (z l)) (by simp[hl]) (by rw[cA,cA,hw,hs]);rw[aal,acG,Nat.add_sub_cancel,adF,hl,adF]at this;exact this
theorem fh.Zo(ok:aq k n rows){d i:Nat}(lb:tP rows k d){c:List Nat}{gl:List Gs}(h:fh rows k n wire i c gl)(hi:n*i<=wire.length):gl.length<=8:=by
 have inj:∀x∈gl,∀y∈gl,x.1=y.1->x=y:=λx hx y hy e=>by obtain⟨x1,x2⟩:=(h.mem x).mp hx;obtain⟨y1,y2⟩:=(h.mem y).mp hy;have:=lb.inj ok x1.1 y1.1 (by rw[x1.2.1,y1.2.1]) (by rw[x1.full ok hi,y1.full ok hi]) (by rw[x2,y2,e]);exact ab8 e (List.append_cancel_left this)
 have nd:=nodup_map_on (f:=λg:Gs=>g.1) inj (jW h.nd);have:=nd.length_le_of_subset (l₂:=List.range rows.length) λs hs=>by obtain⟨g,hg,rfl⟩:=aan.mp hs;obtain⟨g1,g2⟩:=(h.mem g).mp hg;rw[abx,<-g2];exact(bt ok _ 0 ok.s1 g1.1).2
 rw[aaa,aaK]at this;exact aaM this ok.s8
theorem fh.long(ok:aq k n rows){d i:Nat}(lb:tP rows k d){c:List Nat}{gl:List Gs}(h:fh rows k n wire i c gl)(hi:n*i<=wire.length):i-d<=c.length:=by
 obtain⟨p,hp⟩:=abp _ h.ne;have g0:=((h.mem p).mp hp).1;generalize c++p.2=t0 at g0;have:=h.mx (t0.take (i-d)) λt ht=>by have:=lb t0 t g0.1 ht.1 (by rw[g0.2.1,ht.2.1]) (by rw[g0.full ok hi,ht.full ok hi]);rw[g0.2.1]at this;rw[this];exact adg _ _
 rw[aas,g0.2.1]at this;omega
theorem fh.tail{i:Nat}{c:List Nat}{gl:List Gs}(h:fh rows k n wire i c gl):∀g∈gl,c.length+g.2.length=i:=λg hg=>by have:=((h.mem g).mp hg).1.2.1;rw[aal]at this;exact this
theorem ND(ok:aq k n rows){gl:List Gs}{word:List Bool}(h8:gl.length<=8)(hs:∀g∈gl,g.1<rows.length):(gM rows gl word).length<=64:=by
 have:∀gl:List Gs,(∀g∈gl,g.1<rows.length)->(gM rows gl word).length<=gl.length*8:=by
  intro gl
  induction gl with
  | nil=>intro _;simp[gM]
  | cons g gl ih=>
   intro hs;have ih:=ih λg hg=>hs g (aaf _ hg);have e:gM rows (g::gl) word=(((List.range (rows.getD g.1 []).length).filter λl=>decide (word <+: (step rows g.1 l).1)).map λl=>((step rows g.1 l).2,g.2++[l]))++gM rows gl word:=by unfold gM;rw[List.flatMap_cons]
   rw[e,aal,aaa,aax];have h1:=List.length_filter_le (λl=>decide (word <+: (step rows g.1 l).1)) (List.range (rows.getD g.1 []).length);have vt:=aaM h1 (ac4 aaK);rw[fF ok (hs g aah)]at vt ⊢;have h2:2 ^ k<=8:=by
    have:=ok.k1;have:=ok.k3;have:k=1\/k=2\/k=3:=by omega
    rcases this with rfl|rfl|rfl<;>decide
   rw[aby];omega
 have:=this gl hs;omega
end
end Om
namespace K64
open PySem L2
variable{P:Program}{w:World}{K:W.Frag}{mg:Str->Option Value}{base:Heap}
def top(i:Nat):Stmt:=PySem.Challenge.pw_ownbeat_k64_sent_and_read_at_a_desk.main.body.getD i (.Pass ⟨0,0,0,0⟩)
end K64
section
open PySem L2
local macro_rules|`(tactic|walk_at"v")=>`(tactic|with_reducible first|exact vn _ 0|exact vn _ 1|exact vn _ 2|exact vn _ 3|exact vn _ 4|exact vn _ 5|exact vn _ 6|exact vn _ 7|exact vn _ 8|exact vn _ 9|exact vn _ 10|exact vn _ 11)
local macro_rules|`(tactic|walk_at"b")=>`(tactic|first|(with_reducible exact MC)|((with_reducible refine' Of ?a1 ?a2);(case a1=>walk_at"a");(case a2=>walk_at"b")))
local macro_rules|`(tactic|walk_at"y")=>`(tactic|first|(with_reducible exact HH)|((with_reducible refine' EB ?a1);(case a1=>walk_at"a")))
local macro_rules|`(tactic|walk_at"l")=>`(tactic|first|(with_reducible first|exact WM|exact O0|exact ML|exact Ku.n0|exact Ra.n0|exact Rb.n0|exact Rc.n0)|((with_reducible first|refine' l6 ?a1|refine' DJ ?a1);(case a1=>exact av.units (by assumption))))
local macro_rules|`(tactic|walk_at"D")=>`(tactic|first|(with_reducible first|exact Ia|exact MD.n0|exact HY|exact MK.n|exact HZ.n|exact MH.n|exact MF.n|exact ME.n|exact MR.n0|exact WL.n0|exact Yd.n0))
local macro_rules|`(tactic|walk_at"n")=>`(tactic|first|((with_reducible first|refine' ty_int ?a1 ?a9|refine' ty_bool ?a1 ?a9|refine' ty_list ?a1 ?a9|refine' ty_tuple ?a1 ?a9|refine' ty_str ?a1 ?a9);(case a1=>walk_at"F");(case a9=>rfl)))
local macro_rules|`(tactic|walk_at"E")=>`(tactic|((with_reducible refine' NM _ ?a0 ?a9 ?a1 ?a2);(case a0=>walk_at"F");(case a9=>exact⟨rfl,rfl,rfl,rfl,rfl⟩);(case a1=>exact av.mono (by assumption) (by first|decide|exact aae _));(case a2=>walk_at"b")))
local macro_rules|`(tactic|walk_at"i")=>`(tactic|first|walk_at"E" |((with_reducible first|refine' NK ?a0 ?a9 ?a1|refine' j7 ?a0 ?a9 ?a1|refine' NN ?a0 ?a9 ?a1|refine' NJ ?a0 ?a9 ?a1|refine' NI ?a0 ?a9 ?a1|refine' NH ?a0 ?a9 ?a1);(case a0=>walk_at"F");(case a9=>rfl);(case a1=>walk_at"b")))
local macro_rules|`(tactic|walk_at"q")=>`(tactic|first|((with_reducible first|refine' uA ?a1 ?a2|refine' Fi ?a1 ?a2|refine' Nc ?a1 ?a2|refine' m_strip ?a1 ?a2|refine' ID ?a1 ?a2);(case a1=>walk_at"a");(case a2=>walk_at"b"))|((with_reducible refine' Nd ?a1);(case a1=>walk_at"a")))
local macro_rules|`(tactic|walk_at"h")=>`(tactic|fail "no comprehension's names")
local macro_rules|`(tactic|walk_at"a")=>`(tactic|first|(with_reducible first|exact DE|exact Mq|exact Q7|exact Mt)|walk_at"v" | walk_at"n" | ((with_reducible refine' Q6 ?a1 ?a2 ?a3);(case a1=>walk_at"D");(case a2=>walk_at"a");(case a3=>walk_at"a"))|((with_reducible refine' RS ?a1 ?a2 ?a3);(case a1=>walk_at"l");(case a2=>walk_at"a");(case a3=>walk_at"a"))|((with_reducible refine' Je ?a1 ?a2 ?a3 ?a4 ?a5);(case a1=>walk_at"l");(case a2=>walk_at"l");(case a3=>walk_at"a");(case a4=>walk_at"a");(case a5=>walk_at"a"))|((with_reducible refine' ED YC ?a1 ?a2 ?a3);(case a1=>walk_at"a");(case a2=>walk_at"y");(case a3=>walk_at"y"))|((with_reducible refine' Rq ?a1 ?a2);(case a1=>walk_at"a");(case a2=>walk_at"a"))|((with_reducible first|refine' Mp ?a1|refine' Mw ?a1);(case a1=>walk_at"b"))|((with_reducible first|refine' HV ?a1 ?a2|refine' Mr ?a1 ?a2);(case a1=>walk_at"a");(case a2=>walk_at"a"))|((with_reducible first|refine' Ms ?a1|refine' HN ?a1|refine' RO ?a1);(case a1=>walk_at"a"))|walk_at"i" | walk_at"q" | ((with_reducible refine' RQ ?a1);(case a1=>walk_at"a"))|((with_reducible refine' NU ?a1);(case a1=>walk_at"A"))|walk_at"h")
local macro_rules|`(tactic|walk_at"A")=>`(tactic|first|(with_reducible exact Mi)|((with_reducible refine' HI ?a1 ?a2);(case a1=>walk_at"a");(case a2=>walk_at"A")))
local macro_rules|`(tactic|walk_at"m")=>`(tactic|first|((with_reducible refine' QO ?a1 ?a2 ?a3);(case a1=>walk_at"l");(case a2=>walk_at"a");(case a3=>walk_at"a"))|((with_reducible refine' Md ?a1);(case a1=>walk_at"m"))|((with_reducible refine' PW.pt ?a1);(case a1=>walk_at"x"))|((with_reducible refine' QN ?a1);(case a1=>walk_at"a")))
local macro_rules|`(tactic|walk_at"x")=>`(tactic|first|((with_reducible first|refine' pw_and ?a1 ?a2|refine' pw_or ?a1 ?a2);(case a1=>walk_at"m");(case a2=>walk_at"x"))|((with_reducible first|refine' pw_and1 ?a1|refine' pw_or1 ?a1);(case a1=>walk_at"m")))
local macro_rules|`(tactic|walk_at"e")=>`(tactic|first|((with_reducible first|refine' Rt ?a0 ?a9 ?a1|refine' Rr ?a0 ?a9 ?a1|refine' IL ?a0 ?a9 ?a1);(case a0=>walk_at"F");(case a9=>rfl);(case a1=>walk_at"b"))|((with_reducible refine' Ml ?a1);(case a1=>walk_at"a")))
local macro_rules|`(tactic|walk_at"w")=>`(tactic|with_reducible first|exact gn _ 0 (by with_unfolding_all assumption)|exact gn _ 1 (by with_unfolding_all assumption)|exact gn _ 2 (by with_unfolding_all assumption)|exact gn _ 3 (by with_unfolding_all assumption)|exact gn _ 4 (by with_unfolding_all assumption)|exact gn _ 5 (by with_unfolding_all assumption)|exact gn _ 6 (by with_unfolding_all assumption)|exact gn _ 7 (by with_unfolding_all assumption)|exact gn _ 8 (by with_unfolding_all assumption)|exact gn _ 9 (by with_unfolding_all assumption)|exact gn _ 10 (by with_unfolding_all assumption)|exact gn _ 11 (by with_unfolding_all assumption))
local macro_rules|`(tactic|walk_at"d")=>`(tactic|first|walk_at"w" | ((with_reducible refine' RI ?a1 ?a2);(case a1=>walk_at"a");(case a2=>walk_at"a"))|((with_reducible refine' DX ?a1);(case a1=>walk_at"u"))|((with_reducible refine' NF ?a1);(case a1=>walk_at"u")))
local macro_rules|`(tactic|walk_at"u")=>`(tactic|first|(with_reducible exact HK)|((with_reducible refine' IS ?a1 ?a2);(case a1=>walk_at"d");(case a2=>walk_at"u")))
local macro_rules|`(tactic|walk_at"t")=>`(tactic|fail "no comprehension's names")
local macro_rules|`(tactic|walk_at"k")=>`(tactic|first|((with_reducible refine' DB ?a1);(case a1=>walk_at"a"))|walk_at"t" | ((with_reducible refine' QY ?a1 ?a2);(case a1=>walk_at"a");(case a2=>walk_at"d"))|((with_reducible refine' Dv ?a1);(case a1=>walk_at"a"))|((with_reducible refine' Q2 ?a1 ?a2 ?a3);(case a1=>walk_at"m");(case a2=>walk_at"p");(case a3=>walk_at"p"))|((with_reducible refine' Kg ?a1 ?a2 ?a3);(case a1=>walk_at"e");(case a2=>walk_at"d");(case a3=>walk_at"p"))|((with_reducible refine' Hr ?a1 ?a2);(case a1=>walk_at"m");(case a2=>walk_at"p"))|(with_reducible exact Hs))
local macro_rules|`(tactic|walk_at"p")=>`(tactic|first|(with_reducible exact HD)|((with_reducible refine' lq ?a1);(case a1=>walk_at"k"))|((with_reducible refine' mG ?a1 ?a2);(case a1=>walk_at"k");(case a2=>walk_at"p")))
local macro_rules|`(tactic|walk_at"f")=>`(tactic|first|(with_reducible exact Mn) )
local macro_rules|`(tactic|walk_at"j")=>`(tactic|((refine' lq ?a1);(case a1=>walk_at"k")))
local macro_rules|`(tactic|walk_at"c")=>`(tactic|((refine' mG ?a1 ?a2);(case a1=>walk_at"k");(case a2=>walk_at"p")))
namespace K64
open PySem L2
variable{P:Program}{w:World}{K:W.Frag}{mg:Str->Option Value}{base:Heap}
section
abbrev wm:Stmt:=top 11
theorem yL:ao ["thing"] ["thing"] (ae wm):=⟨rfl,rfl,rfl,by decide +kernel,rfl,by decide +kernel,by decide +kernel⟩
theorem EK(D:bX K mg "is_whole" wm ["thing"])(g1:mg "isinstance" = none)(g2:mg "int" = none)(g3:mg "bool" = none):aJ P w K mg base "is_whole" 1 ["thing"] iY:=by
 refine ar (k:=0) D yL (λvs H Q E h=>?_) (λf aA A outer s H vs Q E hr h=>?_)
 all_goals
  unfold iY at h;split at h
 ·rfl
 ·exact h.elim
 ·rename_i v;obtain⟨d,hd,q⟩:=h;have nd:=yL.nd;refine⟨_,(by walk_at"j"),?_⟩;refine⟨eN d,hd.ty,by decide,?_⟩;cases d with
  | int i=>exact fm rfl ⟨"int",hd.ty,by decide,q⟩
  | bool b=>exact fm rfl ⟨"bool",hd.ty,by decide,q⟩
  | _=>exact GR rfl q
 ·exact h.elim
abbrev qV:Stmt:=top 29
theorem tY:ao ["thing","least","greatest"] ["thing","least","greatest"] (ae qV):=⟨rfl,rfl,rfl,by decide +kernel,rfl,by decide +kernel,by decide +kernel⟩
theorem AK(D:bX K mg "is_within" qV ["thing","least","greatest"])(c1:aJ P w K mg base "is_whole" 1 ["thing"] iY):aJ P w K mg base "is_within" 2 ["thing","least","greatest"] eI:=by
 refine ar (k:=1) D tY (λvs H Q E h=>?_) (λf aA A outer s H vs Q E hr h=>?_)
 all_goals
  unfold eI at h;split at h
 ·rfl
 ·exact h.elim
 ·rename_i v a b;obtain⟨d,hd,q⟩:=h;have nd:=tY.nd;refine⟨_,(by walk_at"j"),?_⟩;refine⟨d,hd,?_⟩;cases d with
  | int i=>
   have e:=hd.int_inv;subst e;refine fm rfl ?_;dsimp only[Om.within]at q;refine aO (λh1=>?_) (λh1=>?_)
   ·rw[h1,aa4]at q;exact q
   ·rw[abq.mpr h1,abk]at q;exact q
  | _=>exact GR rfl q
 ·exact h.elim
abbrev Ct:Stmt:=top 32
theorem Di:ao ["thing","n"] ["thing","n"] (ae Ct):=⟨rfl,rfl,rfl,by decide +kernel,rfl,by decide +kernel,by decide +kernel⟩
theorem Ie(D:bX K mg "is_word" Ct ["thing","n"])(g1:mg "isinstance" = none)(g2:mg "str" = none)(g3:mg "len" = none):aJ P w K mg base "is_word" 1 ["thing","n"] kX:=by
 refine ar (k:=0) D Di (λvs H Q E h=>?_) (λf aA A outer s H vs Q E hr h=>?_)
 all_goals
  unfold kX at h;split at h
 ·rfl
 ·exact h.elim
 ·rename_i v n;obtain⟨d,hd,hs,q⟩:=h;have nd:=Di.nd;refine⟨_,(by walk_at"j"),?_⟩;refine⟨eN d,hd.ty,by decide,?_⟩;cases d with
  | str z=>
   have e:=hd.str_inv;subst e;have hz:=Al hs;refine fm rfl ?_;refine⟨_,ju (ai hz),?_⟩;dsimp only[Om.jq]at q;refine aO (λh1=>?_) (λh1=>?_)
   ·rw[h1,aa4]at q;exact⟨rfl,ai hz,q⟩
   ·rw[abq.mpr h1,abk]at q;exact q
  | _=>exact GR rfl q
 ·exact h.elim
abbrev Lj:Stmt:=top 31
theorem Kd:ao ["row","n","count"] ["row","n","count"] (ae Lj):=⟨rfl,rfl,rfl,by decide +kernel,rfl,by decide +kernel,by decide +kernel⟩
theorem MV(D:bX K mg "is_row" Lj ["row","n","count"])(g1:mg "isinstance" = none)(g2:mg "tuple" = none)(g3:mg "len" = none)(c1:aJ P w K mg base "is_word" 1 ["thing","n"] kX)(c2:aJ P w K mg base "is_within" 2 ["thing","least","greatest"] eI):aJ P w K mg base "is_row" 3 ["row","n","count"] wd:=by
 refine ar (k:=2) D Kd (λvs H Q E h=>?_) (λf aA A outer s H vs Q E hr h=>?_)
 all_goals
  unfold wd at h;split at h
 ·rfl
 ·exact h.elim
 ·rename_i v n count;obtain⟨d,hd,hs,q⟩:=h;have nd:=Kd.nd;refine⟨_,(by walk_at"c"),?_⟩;dsimp only[gX,fk,bu];by_cases h2:∃x y,d = .tuple [x,y]
  ·obtain⟨x,y,rfl⟩:=h2;obtain⟨r,xs,rfl,sP,hx⟩:=hd.dJ;obtain⟨vx,r1,rfl,dx,h1⟩:=hx.iP;obtain⟨vy,r2,rfl,dy,h2⟩:=h1.iP;have e:=h2.nil_inv;subst e;refine eR (c1:=false) (c2:=false) (λQ q=>⟨"tuple",(by simp[nR,sP]),by decide,q⟩) (λ_ Q q=>⟨_,GP sP,q⟩) ?_;refine dX ?_;refine⟨_,gt sP (by decide) rfl,?_⟩;refine⟨x,dx,(oQ hs).2 x (by simp),?_⟩;dsimp only[Om.kn]at q;refine aO (λh3=>?_) (λh3=>?_)
   ·rw[h3,aa4]at q;exact⟨_,gt sP (by decide) rfl,y,dy,q⟩
   ·rw[abq.mpr h3,abk]at q;exact q
  ·have e:Om.kn d n count=false:=by
    unfold Om.kn;split
    ·exact(h2 ⟨_,_,rfl⟩).elim
    ·rfl
   rw[e]at q;refine eR (c1:=!(eN d == "tuple")) (c2:=true) (λQ q=>⟨eN d,hd.ty,by decide,?_⟩) (λh4 Q q=>?_) ?_
   ·show Q (!(eN d == "tuple" || (eN d == "bool" && "tuple" == "int"))) H;have:(eN d == "tuple" || (eN d == "bool" && "tuple" == "int"))=(eN d == "tuple"):=by cases d<;>rfl
    rw[this];exact q
   ·cases d with
    | tuple ds=>
     obtain⟨r,xs,rfl,sP,hx⟩:=hd.dJ;refine⟨_,GP sP,?_⟩;have l:=hx.length;show Q (!decide (((xs.length:Nat):Int)=2)) H;rw[aaT]
     ·exact q
     ·intro h5
      match ds,l with
      | [x,y],_=>exact h2 ⟨_,_,rfl⟩
      | [],l=>simp at l;rw[l]at h5;simp at h5
      | [x],l=>simp at l;omega
      | x::y::z::r,l=>simp at l;omega
    | _=>simp[eN]at h4
   ·rw[Bool.or_true];exact fm rfl q
 ·exact h.elim
abbrev wt:Stmt:=top 30
theorem yO:ao ["rows","k","n","count"] ["rows","k","n","count"] (ae wt):=⟨rfl,rfl,rfl,by decide +kernel,rfl,by decide +kernel,by decide +kernel⟩
local macro_rules|`(tactic|walk_at"h")=>`(tactic|(have eu:(["row","n","count"]:List Str).Nodup:=(by decide +kernel));((with_reducible refine' bM ["row","n","count"] [2,3] ?b1 ?b2 (λcl C s H fp=>?b3) (λcl C s H fp=>?b4) (λcl C s H fp=>?b5));(case b1=>exact eu);(case b2=>walk_at"e");(case b3=>walk_at"d");(case b4=>walk_at"f");(case b5=>walk_at"a")))
theorem EN(D:bX K mg "is_state" wt ["rows","k","n","count"])(g1:mg "isinstance" = none)(g2:mg "list" = none)(g3:mg "all" = none)(g4:mg "len" = none)(c1:aJ P w K mg base "is_row" 3 ["row","n","count"] wd):aJ P w K mg base "is_state" 4 ["rows","k","n","count"] mh:=by
 refine ar (k:=3) D yO (λvs H Q E h=>?_) (λf aA A outer s H vs Q E hr h=>?_)
 all_goals
  unfold mh at h;split at h
 ·rfl
 ·exact h.elim
 ·rename_i v k n count;obtain⟨d,hd,hs,k1,k3,q⟩:=h;have nd:=yO.nd;refine⟨_,(by walk_at"c"),?_⟩;dsimp only[gX,fk,bu];by_cases hL:∃ds,d = .list ds
  ·obtain⟨ds,rfl⟩:=hL;obtain⟨r,rs,rfl,sP,hx⟩:=hd.lst_inv;obtain⟨sl,sd⟩:=mZ hs;have rl:rs.length=ds.length:=hx.length;have p2:((1:Int)*2 ^ k.toNat)=((2 ^ k.toNat:Nat):Int):=by push_cast;omega
   refine eR (c1:=false) (c2:=!decide (ds.length=2 ^ k.toNat)) (λQ q=>⟨"list",(by simp[nR,sP]),by decide,q⟩) (λ_ Q q=>⟨_,dW sP,⟨by omega,by omega,by decide⟩,?_⟩) ?_
   ·show Q (!decide (((rs.length:Nat):Int)=1*2 ^ k.toNat)) H;have e:decide (((rs.length:Nat):Int)=1*2 ^ k.toNat)=decide (ds.length=2 ^ k.toNat):=decide_eq_decide.mpr (by rw[p2,rl];exact Int.ofNat_inj);rw[e];exact q
   dsimp only[Om.dM]at q;rw[adI];refine aO (λh1=>?_) (λh1=>?_)
   ·have e:decide (ds.length=2 ^ k.toNat)=false:=by simpa using h1
    rw[e,abk]at q;exact q _ (ah.refl _)
   ·have e:decide (ds.length=2 ^ k.toNat)=true:=by simpa using h1
    rw[e,aa4]at q;refine⟨⟨_,aN.of sP⟩,λD1 ki=>?_⟩;have hD:∀o,bO (upd H D1 o) rs ds:=λo=>hx.mono (ah.upd ki);refine bE (aE _ r rs) (λi τ H2 ys=>(∃v,τ=[v,some (.int n),some (.int count)])/\ah H H2/\H2 D1=some (.lst ys)/\ys=(ds.take i).map λd=>V.bl (Om.kn d n count)) (by rw[rl];exact ai sl) ⟨⟨none,rfl⟩,ah.upd ki,aa,rfl⟩ ?_ ?_ ?_
    ·rintro i τ H2 ys hi ⟨_,s2,h2,rfl⟩;exact⟨aN.of (s2 _ _ sP),h2,by rw[aaa,aas];omega⟩
    ·rintro i x τ H2 ys hi BF ⟨⟨v,rfl⟩,s2,h2,rfl⟩;have bI:i<ds.length:=by rw[<-rl];exact hi
     obtain⟨x',e1,d1⟩:=hx.get (i:=i) (d:=ds[i]) (aab bI);rw[BF]at e1;cases e1;refine⟨ds[i],d1.mono s2,sd _ (aat bI),?_⟩;refine⟨h2,⟨_,rfl⟩,λx o e=>?_,aa,?_⟩
     ·rw[af (aj e ki)];exact s2 _ _ e
     ·rw[aaL,aab bI,aao];rfl
    ·rintro τ H2 ys ⟨_,s2,h2,rfl⟩;rw[rl,aaY]at h2;refine⟨ds.map λd=>Om.kn d n count,by rw[h2,aaC];rfl,?_⟩;rw[adB];exact q _ s2
  ·have e:Om.dM d k.toNat n count=false:=by
    unfold Om.dM;split
    ·exact(hL ⟨_,rfl⟩).elim
    ·rfl
   rw[e]at q;have ht:(eN d == "list" || (eN d == "bool" && "list" == "int"))=false:=by cases d<;>first|rfl|exact(hL ⟨_,rfl⟩).elim
   refine eR (c1:=true) (c2:=true) (λQ q=>⟨eN d,hd.ty,by decide,?_⟩) (λh4 Q q=>nomatch h4) ?_
   ·show Q (!(eN d == "list" || (eN d == "bool" && "list" == "int"))) H;rw[ht];exact q
   ·exact fm rfl (q _ (ah.refl _))
 ·exact h.elim
end
section
abbrev CG:Stmt:=top 28
theorem Dt:ao ["thing","k","n","states"] ["thing"] (ae CG):=⟨rfl,rfl,rfl,by decide +kernel,rfl,by decide +kernel,by decide +kernel⟩
local macro_rules|`(tactic|walk_at"h")=>`(tactic|(have eu:(["rows","k","n","states"]:List Str).Nodup:=(by decide +kernel));((with_reducible refine' bM ["rows","k","n","states"] [1,2,3] ?b1 ?b2 (λcl C s H fp=>?b3) (λcl C s H fp=>?b4) (λcl C s H fp=>?b5));(case b1=>exact eu);(case b2=>walk_at"e");(case b3=>walk_at"d");(case b4=>walk_at"f");(case b5=>walk_at"a")))
theorem Iq(D:bX K mg "is_code" CG ["thing"])(g1:mg "isinstance" = none)(g2:mg "list" = none)(g3:mg "all" = none)(g4:mg "len" = none)(g5:mg "tuple" = none)(c1:aJ P w K mg base "is_within" 2 ["thing","least","greatest"] eI)(c2:aJ P w K mg base "is_state" 4 ["rows","k","n","count"] mh):aJ P w K mg base "is_code" 5 ["thing"] qQ:=by
 refine ar (k:=4) D Dt (λvs H Q E h=>?_) (λf aA A outer s H vs Q E hr h=>?_)
 all_goals
  unfold qQ at h;split at h
 ·rfl
 ·exact h.elim
 ·rename_i v;obtain⟨d,hd,hs,q⟩:=h;have nd:=Dt.nd;refine⟨_,(by walk_at"c"),?_⟩;dsimp only[gX,fk,bu];by_cases h3:∃x y z,d = .tuple [x,y,z]
  ·obtain⟨x,y,z,rfl⟩:=h3;obtain⟨a,xs,rfl,ha,hx⟩:=hd.dJ;obtain⟨vx,r1,rfl,dx,h1⟩:=hx.iP;obtain⟨vy,r2,rfl,dy,h2⟩:=h1.iP;obtain⟨vz,r3,rfl,dz,h3⟩:=h2.iP;have e:=h3.nil_inv;subst e;refine eR (c1:=false) (c2:=false) (λQ q=>⟨"tuple",(by simp[nR,ha]),by decide,q⟩) (λ_ Q q=>⟨_,GP ha,q⟩) ?_;refine dX ?_;refine⟨_,gt ha (by decide) rfl,_,gt ha (by decide) rfl,_,gt ha (by decide) rfl,?_⟩;dsimp only[gX,fk,bu,aQ];have tz:(eN z == "list" || (eN z == "bool" && "list" == "int"))=(eN z == "list"):=by cases z<;>rfl
   refine eR (c1:=!Om.within x 1 3) (c2:=!Om.within y 1 6 || !(eN z == "list")) (λQ q=>⟨x,dx,q⟩) (λ_ Q q=>?_) ?_
   ·refine eR (c1:=!Om.within y 1 6) (c2:=!(eN z == "list")) (λQ q=>⟨y,dy,q⟩) (λ_ Q q=>⟨eN z,dz.ty,by decide,?_⟩) q;show Q (!(eN z == "list" || (eN z == "bool" && "list" == "int"))) H;rw[tz];exact q
   refine aO (λh5=>?_) (λh5=>?_)
   ·have e:Om.codeOk (.tuple [x,y,z])=false:=by
     cases z with
     | list ss=>
      dsimp only[Om.codeOk];have:(eN (.list ss) == "list")=true:=rfl;rw[this]at h5;cases e1:Om.within x 1 3 with
      | false=>rfl
      | true=>
       cases e2:Om.within y 1 6 with
       | false=>rfl
       | true=>rw[e1,e2]at h5;exact nomatch h5
     | _=>rfl
    rw[e]at q;exact q _ (ah.refl _)
   ·have h6:Om.within x 1 3=true/\Om.within y 1 6=true/\(eN z == "list")=true:=by revert h5;cases Om.within x 1 3<;>cases Om.within y 1 6<;>cases(eN z == "list")<;>simp
    obtain⟨w1,w2,w3⟩:=h6;obtain⟨k,rfl,k1,k3⟩:=Om.mV w1;obtain⟨n,rfl,n1,n6⟩:=Om.mV w2;have ex:=dx.int_inv;have ey:=dy.int_inv;subst ex;subst ey;obtain⟨ss,rfl⟩ : ∃ss,z = .list ss:=by cases z<;>first|exact⟨_,rfl⟩|exact absurd w3 (by decide)|(simp[eN]at w3)
    obtain⟨b,us,rfl,hb,hu⟩:=dz.lst_inv;have sl:us.length=ss.length:=hu.length;obtain⟨zl,zs⟩:=mZ ((oQ hs).2 (.list ss) (by simp));dsimp only[Om.codeOk]at q;rw[w1,w2,aa4,aa4]at q;refine⟨_,dW hb,.int ((us.length:Nat):Int),.int _,?_⟩;have e8:Om.within (.int ((us.length:Nat):Int)) 1 8=decide (1<=ss.length/\ss.length<=8):=by dsimp only[Om.within];rw[sl,<-Bool.decide_and];exact decide_eq_decide.mpr ⟨λh=>⟨by omega,by omega⟩,λh=>⟨by omega,by omega⟩⟩
    rw[e8];refine aO (λh7=>?_) (λh7=>?_)
    ·have e:decide (1<=ss.length/\ss.length<=8)=false:=by
      cases UH:decide (1<=ss.length/\ss.length<=8)with
      | false=>rfl
      | true=>rw[UH]at h7;exact nomatch h7
     rw[e,abk]at q;exact q _ (ah.refl _)
    ·have e:decide (1<=ss.length/\ss.length<=8)=true:=by
      cases UH:decide (1<=ss.length/\ss.length<=8)with
      | true=>rfl
      | false=>rw[UH]at h7;exact(h7 rfl).elim
     have l8:=aaF e;rw[e,aa4]at q;refine⟨⟨_,aN.of hb⟩,λD1 ki=>?_⟩;refine bE (aE _ b us) (λi τ H2 ys=>(∃v,τ=[v,some (.int k),some (.int n),some (.ref b)])/\ah H H2/\H2 D1=some (.lst ys)/\ys=(ss.take i).map λd=>V.bl (Om.dM d k.toNat n (ss.length:Nat))) (by rw[sl];exact ai (by omega)) ⟨⟨none,rfl⟩,ah.upd ki,aa,rfl⟩ ?_ ?_ ?_
     ·rintro i τ H2 ys hi ⟨_,s2,h2,rfl⟩;exact⟨aN.of (s2 _ _ hb),h2,by rw[aaa,aas];omega⟩
     ·rintro i x τ H2 ys hi BF ⟨⟨v,rfl⟩,s2,h2,rfl⟩;have bI:i<ss.length:=by rw[<-sl];exact hi
      obtain⟨x',e1,d1⟩:=hu.get (i:=i) (d:=ss[i]) (aab bI);rw[BF]at e1;cases e1;refine⟨_,dW (s2 _ _ hb),?_⟩;refine⟨ss[i],d1.mono s2,zs _ (aat bI),k1,k3,λH3 s3=>?_⟩;refine⟨s3 _ _ h2,⟨_,rfl⟩,λx o e=>?_,aa,?_⟩
      ·rw[af (aj e ki)];exact s3 _ _ (s2 _ _ e)
      ·rw[aaL,aab bI,aao,sl];rfl
     ·rintro τ H2 ys ⟨_,s2,h2,rfl⟩;rw[sl,aaY]at h2;refine⟨ss.map λd=>Om.dM d k.toNat n (ss.length:Nat),by rw[h2,aaC];rfl,?_⟩;rw[adB];exact q _ s2
  ·have e:Om.codeOk d=false:=by
    unfold Om.codeOk;split
    ·exact(h3 ⟨_,_,_,rfl⟩).elim
    ·rfl
   rw[e]at q;refine eR (c1:=!(eN d == "tuple")) (c2:=true) (λQ q=>⟨eN d,hd.ty,by decide,?_⟩) (λh4 Q q=>?_) ?_
   ·show Q (!(eN d == "tuple" || (eN d == "bool" && "tuple" == "int"))) H;have:(eN d == "tuple" || (eN d == "bool" && "tuple" == "int"))=(eN d == "tuple"):=by cases d<;>rfl
    rw[this];exact q
   ·cases d with
    | tuple ds=>
     obtain⟨r,xs,rfl,sP,hx⟩:=hd.dJ;refine⟨_,GP sP,?_⟩;have l:=hx.length;show Q (!decide (((xs.length:Nat):Int)=3)) H;rw[aaT]
     ·exact q
     ·intro h5
      match ds,l with
      | [x,y,z],_=>exact h3 ⟨_,_,_,rfl⟩
      | [],l=>simp at l;rw[l]at h5;simp at h5
      | [x],l=>simp at l;omega
      | [x,y],l=>simp at l;omega
      | x::y::z::u::r,l=>simp at l;omega
    | _=>simp[eN]at h4
   ·rw[Bool.or_true];exact fm rfl (q _ (ah.refl _))
 ·exact h.elim
end
section
open Classical in
noncomputable def vv(F:Addr->Prop)(H:Hp):Hp:=λb=>if F b then none else H b
theorem b7{F:Addr->Prop}{H:Hp}{b:Addr}(n:¬F b):vv F H b=H b:=aar n
theorem cY{F:Addr->Prop}{H:Hp}{b:Addr}(n:F b):vv F H b=none:=aaz n
theorem iV(F:Addr->Prop)(H:Hp):ah (vv F H) H:=λb u e=>by
 by_cases z:F b
 ·rw[cY z]at e;cases e
 ·rw[b7 z]at e;exact e
theorem iK{F:Addr->Prop}{H H':Hp}{B:Addr}{o:HO}(s:ah H H')(hB:F B):ah (vv F H) (vv F (upd H' B o)):=λx u e=>by
 by_cases z:F x
 ·rw[cY z]at e;cases e
 ·rw[b7 z]at e ⊢;rw[af (λc:x=B=>z (by rw[c];exact hB))];exact s _ _ e
def Nw(H:Hp)(B:Addr):Addr->Prop:=λb=>b=B\/∃u,H b=some u
theorem Rl{H H2 H3 G:Hp}{B:Addr}{o:HO}{v:V}{d:PyData}(s2:ah H H2)(hB:∃u,H2 B=some u)(sG:ah G H3)(gn:∀b u,H2 b=some u->G b=none)(dv:DV G v d):DV (vv (Nw H B) (upd H3 B o)) v d:=dv.mono λb u e=>by
 have b1:b≠B:=λz=>by obtain⟨u',hu⟩:=hB;rw[z,gn B u' hu]at e;cases e
 have b2:¬ ∃u,H b=some u:=λ⟨u',hu⟩=>by rw[gn b u' (s2 _ _ hu)]at e;cases e
 rw[b7 (λz=>z.elim b1 b2),af b1];exact sG _ _ e
abbrev Lk:Stmt:=top 78
def yq:Sp:=λvs H Q _=>match vs with
 | [.str z]=>z.length<=1000/\Q (.int (eO z)) H
 | _=>False
theorem Ke:ao ["part"] ["part"] (ae Lk):=⟨rfl,rfl,rfl,by decide +kernel,rfl,by decide +kernel,by decide +kernel⟩
local macro_rules|`(tactic|walk_at"n")=>`(tactic|((with_reducible refine' qq ?a0 ?a9);(case a0=>walk_at"F");(case a9=>rfl)))
local macro_rules|`(tactic|walk_at"q")=>`(tactic|((with_reducible refine' m_find ?a1 ?a2);(case a1=>walk_at"a");(case a2=>walk_at"b")))
local macro_rules|`(tactic|walk_at"h")=>`(tactic|((with_reducible refine' mH ?a1 ?a2 ?a3);(case a1=>walk_at"m");(case a2=>walk_at"a");(case a3=>walk_at"a")))
theorem MW(D:bX K mg "number_of" Lk ["part"])(g1:mg "len" = none)(g2:∃tk,mg "FIGURES" = some (.str Ck tk)):aJ P w K mg base "number_of" 1 ["part"] yq:=by
 refine ar (k:=0) D Ke (λvs H Q E h=>?_) (λf aA A outer s H vs Q E hr h=>?_)
 all_goals
  unfold yq at h;split at h
 ·rfl
 ·exact h.elim
 ·rename_i z;obtain⟨hz,q⟩:=h;have nd:=Ke.nd;refine⟨_,(by walk_at"j"),?_⟩;refine⟨_,ju (ai hz),?_⟩;dsimp only[tC,tj];unfold eO at q;refine aO (λh1=>?_) (λh1=>?_)
  ·have h1:z.length=1:=by have:=aaF h1;omega
   rw[aaz h1]at q;exact⟨rfl,q⟩
  ·have h1:¬z.length=1:=λe=>h1 (aaI (by omega));rw[aar h1]at q;exact q
 ·exact h.elim
end
section
abbrev wz:Stmt:=top 77
def qH:Sp:=λvs H Q _=>match vs with
 | [.str z]=>z.length<=900/\∀l H',ah H H'->H l=none->H' l=some (.tup (Ll z))->Q (.ref l) H'
 | _=>False
theorem yS:ao ["row","pieces"] ["row"] (ae wz):=⟨rfl,rfl,rfl,by decide +kernel,rfl,by decide +kernel,by decide +kernel⟩
local macro_rules|`(tactic|walk_at"q")=>`(tactic|((with_reducible refine' m_split ?a1 ?a2);(case a1=>walk_at"a");(case a2=>walk_at"b")))
local macro_rules|`(tactic|walk_at"i")=>`(tactic|((with_reducible refine' zp ?a0 ?a9 ?a1);(case a0=>walk_at"F");(case a9=>rfl);(case a1=>walk_at"b")))
theorem xR{ps:List Str}(h:ps≠[]):ps=ps.dropLast++[ps.getLast?.getD ("" : Str)]:=by rw[List.getLast?_eq_some_getLast h];exact(abt h).symm
theorem ET(D:bX K mg "row_of" wz ["row"])(g1:mg "tuple" = none)(c1:aJ P w K mg base "number_of" 1 ["part"] yq):aJ P w K mg base "row_of" 2 ["row"] qH:=by
 refine ar (k:=1) D yS (λvs H Q E h=>?_) (λf aA A outer s H vs Q E hr h=>?_)
 all_goals
  unfold qH at h;split at h
 ·rfl
 ·exact h.elim
 ·rename_i z;obtain⟨hz,q⟩:=h;have nd:=yS.nd;obtain⟨h1,h2,h3⟩:=yK z;refine⟨_,(by walk_at"c"),?_⟩;refine⟨rfl,by decide +kernel,ai (by omega),λp1 kF=>?_⟩;rw[show Txt.split z (">" : Str)=yf z from rfl];unfold Ll at q;have e0:=xR h1;have RE:((yf z).getLast?.getD ("" : Str)).length<=z.length:=h2 _ (by rw[e0];simp);have dl:(yf z).dropLast.length<=z.length:=by rw[adl];omega
  generalize(yf z).getLast?.getD ("" : Str)=lt at e0 q RE;generalize(yf z).dropLast=dr at e0 q dl;rw[e0];have em:(dr++[lt]).map V.str=dr.map V.str++[.str lt]:=by rw[aao];rfl
  rw[em];have u1:=ah.upd (o:=.lst (dr.map V.str++[.str lt])) kF;have k1:upd H p1 (.lst (dr.map V.str++[.str lt])) p1=some (.lst (dr.map V.str++[.str lt])):=aa;generalize upd H p1 (.lst (dr.map V.str++[.str lt]))=H1 at u1 k1 ⊢;dsimp only[aQ];refine⟨_,k1,λp2 nG=>?_⟩;rw[NY];have u2:=ah.upd (o:=.lst (dr.map V.str)) nG;have k2:upd H1 p2 (.lst (dr.map V.str)) p2=some (.lst (dr.map V.str)):=aa;generalize upd H1 p2 (.lst (dr.map V.str))=H2 at u2 k2 ⊢;refine⟨.str lt,by rw[uH (u2 _ _ k1)];exact F5 _ _,by omega,?_⟩;refine⟨ai (aai rfl),λp3 yh=>?_⟩;have u3:=ah.upd (o:=.lst [.int (eO lt)]) yh;refine⟨_,_,u3 _ _ k2,aa,ai (by rw[aaa];show _+1<=1000;omega),λp4 ZY=>?_⟩;have u4:=ah.upd (o:=.lst (dr.map V.str++[.int (eO lt)])) ZY;refine⟨_,aa,λp5 KY=>?_⟩;have u:=((u1.trans u2).trans u3).trans u4;exact q p5 _ (u.trans (ah.upd KY)) (u.free KY) aa
 ·exact h.elim
end
section
abbrev mz:Stmt:=top 76
def jL:Sp:=λvs H Q _=>match vs with
 | [.str z]=>z.length<=900/\∀v G H',ah H H'->ah G H'->(∀b u,H b=some u->G b=none)->DV G v (stateT z)->Q v H'
 | _=>False
theorem oS:ao ["part"] ["part"] (ae mz):=⟨rfl,rfl,rfl,by decide +kernel,rfl,by decide +kernel,by decide +kernel⟩
local macro_rules|`(tactic|walk_at"q")=>`(tactic|((with_reducible refine' m_split ?a1 ?a2);(case a1=>walk_at"a");(case a2=>walk_at"b")))
local macro_rules|`(tactic|walk_at"h")=>`(tactic|(have eu:(["row"]:List Str).Nodup:=(by decide +kernel));((with_reducible refine' bM ["row"] [] ?b1 ?b2 (λcl C s H fp=>?b3) (λcl C s H fp=>?b4) (λcl C s H fp=>?b5));(case b1=>exact eu);(case b2=>walk_at"e");(case b3=>walk_at"d");(case b4=>walk_at"f");(case b5=>walk_at"a")))
theorem xI(D:bX K mg "state_of" mz ["part"])(c1:aJ P w K mg base "row_of" 2 ["row"] qH):aJ P w K mg base "state_of" 3 ["part"] jL:=by
 refine ar (k:=2) D oS (λvs H Q E h=>?_) (λf aA A outer s H vs Q E hr h=>?_)
 all_goals
  unfold jL at h;split at h
 ·rfl
 ·exact h.elim
 ·rename_i z;obtain⟨hz,q⟩:=h;have nd:=oS.nd;obtain⟨h1,h2,h3⟩:=qS z;refine⟨_,(by walk_at"j"),?_⟩;refine⟨rfl,by decide +kernel,ai (by omega),λp1 kF=>?_⟩;rw[show Txt.split z ("," : Str)=sM z from rfl];have u1:=ah.upd (o:=.lst ((sM z).map V.str)) kF;have k1:upd H p1 (.lst ((sM z).map V.str)) p1=some (.lst ((sM z).map V.str)):=aa;generalize upd H p1 (.lst ((sM z).map V.str))=H1 at u1 k1 ⊢;refine⟨⟨_,aN.of k1⟩,λD1 ki=>?_⟩;refine bE (aE _ p1 ((sM z).map V.str)) (λi τ H2 ys=>(∃v,τ=[v])/\ah H1 H2/\H2 D1=some (.lst ys)/\bO (vv (Nw H1 D1) H2) ys (((sM z).take i).map vN)) (by rw[aaa];exact ai (by omega)) ⟨⟨none,rfl⟩,ah.upd ki,aa,.nil⟩ ?_ ?_ ?_
  ·rintro i τ H2 ys hi ⟨_,s2,K8,dg⟩;refine⟨aN.of (s2 _ _ k1),K8,?_⟩;rw[dg.length,aaa,aas];omega
  ·rintro i x τ H2 ys hi hx ⟨⟨v,rfl⟩,s2,k2,dg⟩;have bI:i<(sM z).length:=by simpa using hi
   rw[aak,aab bI]at hx;have ex:x = .str (sM z)[i]:=(aaw hx).symm;subst ex;have hlr:=h2 _ (aat bI);refine⟨by omega,λl H3 s3 nl hl=>?_⟩;have lD:l≠D1:=λz=>by rw[z,k2]at nl;cases nl
   refine⟨s3 _ _ k2,⟨_,rfl⟩,(s2.trans s3).own ki,aa,?_⟩;rw[aaL,aab bI,aao];refine(dg.mono (iK s3 (.inl rfl))).app (.cons (Ht ?_) .nil);rw[b7 (λz=>z.elim lD λ⟨u,hu⟩=>by rw[s2 _ _ hu]at nl;cases nl),af lD];exact hl
  ·rintro τ H2 ys ⟨_,s2,k2,dg⟩;rw[aaa,aaY]at dg;have nD:H D1=none:=u1.free ki;refine q (.ref D1) (vv (λb=>∃u,H b=some u) H2) H2 (u1.trans s2) (iV _ _) (λb u e=>cY ⟨u,e⟩) (.lst ?_ (dg.mono λb u e=>?_))
   ·rw[b7 (λ⟨u,hu⟩=>by rw[nD]at hu;cases hu)];exact k2
   ·by_cases z:Nw H1 D1 b
    ·rw[cY z]at e;cases e
    ·rw[b7 z]at e;rw[b7 (λ⟨u,hu⟩=>z (.inr ⟨u,u1 _ _ hu⟩))];exact e
 ·exact h.elim
end
section
abbrev rg:Stmt:=top 75
def mn:Sp:=λvs H Q _=>match vs with
 | [.ref p]=>∃ps:List Str,H p=some (.lst (ps.map V.str))/\ps.length<=901/\(∀z∈ps,z.length<=900)/\∀v H',ah H H'->DV H' v (cV ps)->Q v H'
 | _=>False
theorem ue:ao ["parts","states"] ["parts"] (ae rg):=⟨rfl,rfl,rfl,by decide +kernel,rfl,by decide +kernel,by decide +kernel⟩
local macro_rules|`(tactic|walk_at"i")=>`(tactic|((with_reducible refine' zp ?a0 ?a9 ?a1);(case a0=>walk_at"F");(case a9=>rfl);(case a1=>walk_at"b")))
local macro_rules|`(tactic|walk_at"t")=>`(tactic|(have eu:(["part"]:List Str).Nodup:=(by decide +kernel));((with_reducible refine' wk "states" 1 ["part"] [] ?b1 ?b0 ?b2 (λcl C s H fp=>?b3) (λcl C s H fp=>?b4) (λcl C s H fp=>?b5));(case b1=>exact eu);(case b0=>assumption);(case b2=>walk_at"e");(case b3=>walk_at"d");(case b4=>walk_at"f");(case b5=>walk_at"a")))
local macro_rules|`(tactic|walk_at"h")=>`(tactic|(have eu:(["part"]:List Str).Nodup:=(by decide +kernel));((with_reducible refine' bM ["part"] [] ?b1 ?b2 (λcl C s H fp=>?b3) (λcl C s H fp=>?b4) (λcl C s H fp=>?b5));(case b1=>exact eu);(case b2=>walk_at"e");(case b3=>walk_at"d");(case b4=>walk_at"f");(case b5=>walk_at"a")))
theorem N0(xs:List V)(a:Nat):dm xs (some (a:Int)) none=xs.drop a:=by have:=lG xs a xs.length;unfold dm at this ⊢;rw[show HT.jh xs.length xs.length none=HT.jh xs.length xs.length (some ((xs.length:Nat):Int))by rw[HT.i3,HT.dO];omega,this,aaq (by rw[abC];exact aae _)]
theorem NZ(xs:List V)(h:Nat):dm xs none (some (h:Int))=xs.take h:=by have:=lG xs 0 h;unfold dm at this ⊢;rw[show HT.jh xs.length 0 none=HT.jh xs.length 0 (some ((0:Nat):Int))by rw[HT.i3,HT.dO];omega,this,acb,Nat.sub_zero]
theorem AR(D:bX K mg "code_of" rg ["parts"])(g1:mg "tuple" = none)(c1:aJ P w K mg base "number_of" 1 ["part"] yq)(c2:aJ P w K mg base "state_of" 3 ["part"] jL):aJ P w K mg base "code_of" 4 ["parts"] mn:=by
 refine ar (k:=3) D ue (λvs H Q E h=>?_) (λf aA A outer s H vs Q E hr h=>?_)
 all_goals
  unfold mn at h;split at h
 ·rfl
 ·exact h.elim
 ·rename_i p;obtain⟨ps,hp,pl,pz,q⟩:=h;have nd:=ue.nd;refine⟨_,(by walk_at"c"),?_⟩;refine⟨_,hp,λp1 kF=>?_⟩;have ec:dm (ps.map V.str) (some 2) none=(ps.drop 2).map V.str:=by rw[acW];exact N0 _ 2
  rw[ec];have u1:=ah.upd (o:=.lst ((ps.drop 2).map V.str)) kF;have k1:upd H p1 (.lst ((ps.drop 2).map V.str)) p1=some (.lst ((ps.drop 2).map V.str)):=aa;generalize upd H p1 (.lst ((ps.drop 2).map V.str))=H1 at u1 k1 ⊢;have dz:∀z∈ps.drop 2,z.length<=900:=λz hz=>pz z (List.mem_of_mem_drop hz);have dl:(ps.drop 2).length<=901:=by rw[abC];omega
  unfold cV at q;generalize ps.drop 2=ds at *
  refine⟨⟨_,aN.of k1⟩,λD1 ki=>?_⟩;refine bE (aE _ p1 (ds.map V.str)) (λi τ H2 ys=>(∃v,τ=[v])/\ah H1 H2/\H2 D1=some (.lst ys)/\bO (vv (Nw H1 D1) H2) ys ((ds.take i).map stateT)) (by rw[aaa];exact ai (by omega)) ⟨⟨none,rfl⟩,ah.upd ki,aa,.nil⟩ ?_ ?_ ?_
  ·rintro i τ H2 ys hi ⟨_,s2,K8,dg⟩;refine⟨aN.of (s2 _ _ k1),K8,?_⟩;rw[dg.length,aaa,aas];omega
  ·rintro i x τ H2 ys hi hx ⟨⟨v,rfl⟩,s2,k2,dg⟩;have bI:i<ds.length:=by simpa using hi
   rw[aak,aab bI]at hx;have ex:x = .str ds[i]:=(aaw hx).symm;subst ex;refine⟨dz _ (aat bI),λv G H3 s3 sG gn dv=>?_⟩;refine⟨s3 _ _ k2,⟨_,rfl⟩,(s2.trans s3).own ki,aa,?_⟩;rw[aaL,aab bI,aao];exact(dg.mono (iK s3 (.inl rfl))).app (.cons (Rl s2 ⟨_,k2⟩ sG gn dv) .nil)
  rintro τ H2 ys ⟨_,s2,k2,dg⟩;rw[aaa,aaY]at dg;have dg2:=dg.mono (iV _ _);have W4:=u1.trans s2;refine⟨_,W4 _ _ hp,λp2 nG=>?_⟩;have ec2:dm (ps.map V.str) none (some 2)=(ps.take 2).map V.str:=by rw[acF];exact NZ _ 2
  rw[ec2];have u3:=ah.upd (o:=.lst ((ps.take 2).map V.str)) nG;have k3:upd H2 p2 (.lst ((ps.take 2).map V.str)) p2=some (.lst ((ps.take 2).map V.str)):=aa;generalize upd H2 p2 (.lst ((ps.take 2).map V.str))=H3 at u3 k3 ⊢;have tz:∀z∈ps.take 2,z.length<=900:=λz hz=>pz z (abl hz);have tl:(ps.take 2).length<=2:=by rw[aas];exact abJ _ _
  generalize ps.take 2=ts at *
  refine⟨⟨_,aN.of k3⟩,λD2 BS=>?_⟩;refine bE (aE _ p2 (ts.map V.str)) (λi τ H4 ys=>(∃v,τ=[v])/\H4=upd H3 D2 (.lst ys)/\ys=((ts.take i).map λp=>eO p).map V.int) (by rw[aaa];exact ai (by omega)) ⟨⟨none,rfl⟩,rfl,rfl⟩ ?_ ?_ ?_
  ·rintro i τ H4 WN hi ⟨_,rfl,rfl⟩;refine⟨aN.of (ah.upd BS _ _ k3),aa,?_⟩;rw[aaa,aaa,aas];omega
  ·rintro i x τ H4 WN hi hx ⟨⟨v,rfl⟩,rfl,rfl⟩;have bI:i<ts.length:=by simpa using hi
   rw[aak,aab bI]at hx;have ex:x = .str ts[i]:=(aaw hx).symm;subst ex;refine⟨by have:=tz _ (aat bI);omega,aa,⟨_,rfl⟩,dI,?_⟩;rw[aaL,aab bI,aao,aao];rfl
  rintro τ H4 WN ⟨_,rfl,rfl⟩;rw[aaa,aaY];have u4:=ah.upd (o:=.lst ((ts.map λp=>eO p).map V.int)) BS;have k4:upd H3 D2 (.lst ((ts.map λp=>eO p).map V.int)) D2=some (.lst ((ts.map λp=>eO p).map V.int)):=aa;generalize upd H3 D2 (.lst ((ts.map λp=>eO p).map V.int))=H4 at u4 k4 ⊢;refine⟨ai (aai rfl),λp5 KY=>?_⟩;have u5:=ah.upd (o:=.lst [.ref D1]) KY;refine⟨_,_,u5 _ _ k4,aa,ai (by rw[aaa,aaa];show _+1<=1000;omega),λp6 ZX=>?_⟩;have u6:=ah.upd (o:=.lst ((ts.map λp=>eO p).map V.int++[.ref D1])) ZX;refine⟨_,aa,λp7 ZW=>?_⟩;have u7:=ah.upd (o:=.tup ((ts.map λp=>eO p).map V.int++[.ref D1])) ZW;have uu:=(((u3.trans u4).trans u5).trans u6).trans u7;refine q (.ref p7) _ (W4.trans uu) (.tup aa ?_);have di:∀(l:List Int)(H:Hp),bO H (l.map V.int) (l.map PyData.int):=λl H=>by
   induction l with
   | nil=>exact .nil
   | cons x l ih=>exact .cons (.int x) ih
  have e:ts.map (λp=>PyData.int (eO p))=(ts.map λp=>eO p).map PyData.int:=by rw[aaC];rfl
  rw[e];exact(di _ _).app (.cons (.lst (uu _ _ k2) (dg2.mono uu)) .nil)
 ·exact h.elim
end
section
def Cl(K:W.Frag)(mg:Str->Option Value)(C:Addr)(x:Str)(b:Bool):Prop:=∃D,mg x=some (.ref D)/\W.kitOne K (.ref C) (.ref D)=some b
theorem Cl.at{K:W.Frag}{mg:Str->Option Value}{C D:Addr}{x:Str}{b:Bool}(h:Cl K mg C x b)(hm:mg x=some (.ref D)):W.kitOne K (.ref C) (.ref D)=some b:=by obtain⟨D',h1,h2⟩:=h;rw[hm]at h1;cases h1;exact h2
structure f6(K:W.Frag)(mg:Str->Option Value)(C:Addr)(m:Nat):Prop where
 z:W.gU K C
 k0:Cl K mg C "NoLetter" (decide (0=m))
 k1:Cl K mg C "NoCode" (decide (1=m))
 k2:Cl K mg C "NoWindow" (decide (2=m))
 k3:Cl K mg C "NoMark" (decide (3=m))
 k4:Cl K mg C "NoText" (decide (4=m))
 k5:Cl K mg C "NoName" (decide (5=m))
 k6:Cl K mg C "NoRow" (decide (6=m))
 k7:Cl K mg C "NoWire" (decide (7=m))
 k8:W.kitOne K (.ref C) (.type "ValueError")=some true
abbrev jP:Stmt:=top 74
def Lg(C0:Addr):Sp:=λvs H Q E=>match vs with
 | [.str z]=>z.length<=900/\(Om.codeOk (cV (iz z))=false->∀H',ah H H'->E (.ref C0) none H')/\(Om.codeOk (cV (iz z))=true->∀v H',ah H H'->DV H' v (cV (iz z))->Q v H')
 | [x]=>∃T,nR H x=some T/\T≠"str"/\E (.ref C0) none H
 | _=>False
theorem ir:ao ["text","code"] ["text"] (ae jP):=⟨rfl,rfl,rfl,by decide +kernel,rfl,by decide +kernel,by decide +kernel⟩
local macro_rules|`(tactic|walk_at"q")=>`(tactic|((with_reducible refine' m_split ?a1 ?a2);(case a1=>walk_at"a");(case a2=>walk_at"b")))
local macro_rules|`(tactic|walk_at"k")=>`(tactic|((with_reducible refine' i0 ?a0 ?a3 ?a6);(case a0=>walk_at"F");(case a3=>walk_at"F");(case a6=>walk_at"b")))
theorem uV{C0:Addr}(D:bX K mg "read_code" jP ["text"])(g1:mg "isinstance" = none)(g2:mg "str" = none)(c1:aJ P w K mg base "code_of" 4 ["parts"] mn)(c2:aJ P w K mg base "is_code" 5 ["thing"] qQ)(Z0:gR K C0)(m0:mg "NoText" = some (.ref C0)):iF P w K mg base "read_code" 6 ["text"] (Lg C0):=by
 refine iU (k:=5) D ir (λvs H Q E h=>?_) (λf aA A outer s H vs Q E hr h=>?_)
 all_goals
  unfold Lg at h;split at h
 ·rfl
 ·rfl
 ·exact h.elim
 ·rename_i z;obtain⟨hz,qe,q⟩:=h;have nd:=ir.nd;obtain⟨h1,h2,h3⟩:=kZ z;refine⟨_,(by walk_at"c"),?_⟩;refine⟨"str",rfl,by decide,dX ?_⟩;refine⟨rfl,by decide +kernel,ai (by omega),λp1 kF=>?_⟩;rw[show Txt.split z (" " : Str)=iz z from rfl];have u1:=ah.upd (o:=.lst ((iz z).map V.str)) kF;refine⟨iz z,aa,by omega,λp hp=>by have:=h2 p hp;omega,λv H1 s1 dv=>?_⟩;dsimp only[aQ];refine⟨_,dv,vf hz,λH2 s2=>?_⟩;have ss:=(u1.trans s1).trans s2;cases e:Om.codeOk (cV (iz z))with
  | false=>exact fm rfl ⟨by decide,qe e _ ss⟩
  | true=>exact dX (q e v _ ss (dv.mono s2))
 ·rename_i x _;obtain⟨T,ht,e9,q⟩:=h;have nd:=ir.nd;refine⟨_,(by walk_at"c"),?_⟩;refine⟨T,ht,by decide,?_⟩;have e:(T == "str" || (T == "bool" && "str" == "int"))=false:=by
   have h1:(T == "str")=false:=beq_false_of_ne e9;have h2:(("str" : String) == "int")=false:=by decide
   rw[h1,h2,ac5];rfl
  rw[e];exact fm (by decide) ⟨by decide,q⟩
 ·exact h.elim
end
section
abbrev qZ:Stmt:=top 12
def ltV(j:Nat):V->Bool
 | .int i=>decide (0<=i)&&decide (i<2 ^ j)
 | _=>false
theorem uP{i:Int}{k:Nat}(h0:0<=i):decide (((Builtin.Int.intBits i:Nat):Int)<=(k:Int))=decide (i<2 ^ k):=by
 rw[decide_eq_decide];refine⟨λh=>?_,λh=>bits_le h0 h⟩;unfold Builtin.Int.intBits at h;by_cases hi:i=0
 ·subst hi;exact Int.pow_pos (by decide)
 ·have hb:(i == 0)=false:=by simpa using hi
  rw[hb]at h;simp only[aa9,abX]at h;have hn:i.natAbs≠0:=by omega
  have h2:i.natAbs<2 ^ k:=(Nat.log2_lt hn).mp (by omega);have e:((i.natAbs:Nat):Int)=i:=by omega
  have:((i.natAbs:Nat):Int)<((2 ^ k:Nat):Int):=by exact_mod_cast h2
  rw[e]at this;simpa using this
def jN:Sp:=λvs H Q _=>match vs with
 | [.int k,v]=>∃(j:Nat)(d:PyData),k=(j:Int)/\DV H v d/\Q (.bl (ltV j v)) H
 | _=>False
theorem uc:ao ["k","thing"] ["k","thing"] (ae qZ):=⟨rfl,rfl,rfl,by decide +kernel,rfl,by decide +kernel,by decide +kernel⟩
theorem AO(D:bX K mg "is_letter" qZ ["k","thing"])(c1:aJ P w K mg base "is_whole" 1 ["thing"] iY):aJ P w K mg base "is_letter" 2 ["k","thing"] jN:=by
 refine ar (k:=1) D uc (λvs H Q E h=>?_) (λf aA A outer s H vs Q E hr h=>?_)
 all_goals
  unfold jN at h;split at h
 ·rfl
 ·exact h.elim
 ·rename_i k v;obtain⟨j,d,rfl,hd,q⟩:=h;have nd:=uc.nd;refine⟨_,(by walk_at"j"),?_⟩;refine⟨d,hd,?_⟩;cases hd with
  | int i=>
   refine fm rfl ?_;refine aO (λh1=>?_) (λh1=>?_)
   ·have h0:0<=i:=aaF h1;refine⟨rfl,?_⟩;show Q (.bl (decide (((Builtin.Int.intBits i:Nat):Int)<=(j:Int)))) H;rw[uP h0];have e:ltV j (.int i)=decide (i<2 ^ j):=by show(decide (0<=i)&&decide (i<2 ^ j))=_;rw[aaI h0,aa4]
    rw[e]at q;exact q
   ·have e:ltV j (.int i)=false:=by show(decide (0<=i)&&decide (i<2 ^ j))=_;rw[aaT (λz=>h1 (aaI z)),abk]
    rw[e]at q;exact q
  | _=>exact GR rfl q
 ·exact h.elim
abbrev mE:Stmt:=top 13
def gj:Sp:=λvs H Q _=>match vs with
 | [.int k,v]=>∃j:Nat,k=(j:Int)/\((∃T,nR H v=some T/\(T == "list")=false/\Q (.bl false) H)\/∃l xs ds,v = .ref l/\H l=some (.lst xs)/\bO H xs ds/\xs.length<=1000/\∀H',ah H H'->Q (.bl (xs.all (ltV j))) H')
 | _=>False
theorem oW:ao ["k","thing"] ["k","thing"] (ae mE):=⟨rfl,rfl,rfl,by decide +kernel,rfl,by decide +kernel,by decide +kernel⟩
local macro_rules|`(tactic|walk_at"h")=>`(tactic|(have eu:(["one","k"]:List Str).Nodup:=(by decide +kernel));((with_reducible refine' bM ["one","k"] [0] ?b1 ?b2 (λcl C s H fp=>?b3) (λcl C s H fp=>?b4) (λcl C s H fp=>?b5));(case b1=>exact eu);(case b2=>walk_at"e");(case b3=>walk_at"d");(case b4=>walk_at"f");(case b5=>walk_at"a")))
theorem xM(D:bX K mg "is_letter_list" mE ["k","thing"])(g1:mg "isinstance" = none)(g2:mg "list" = none)(g3:mg "all" = none)(c1:aJ P w K mg base "is_letter" 2 ["k","thing"] jN):aJ P w K mg base "is_letter_list" 3 ["k","thing"] gj:=by
 refine ar (k:=2) D oW (λvs H Q E h=>?_) (λf aA A outer s H vs Q E hr h=>?_)
 all_goals
  unfold gj at h;split at h
 ·rfl
 ·exact h.elim
 ·rename_i k v;obtain⟨j,rfl,h⟩:=h;have nd:=oW.nd;refine⟨_,(by walk_at"j"),?_⟩;rcases h with⟨T,hT,nT,q⟩|⟨l,xs,ds,rfl,hl,dv,hz,q⟩
  ·refine⟨T,hT,by decide,?_⟩;have e:(T == "list" || (T == "bool" && ("list" : String) == "int"))=false:=by rw[nT,adI];simp
   rw[e];exact dX q
  ·refine⟨"list",(by simp[nR,hl]),by decide,?_⟩;refine fm (by decide) ?_;refine⟨⟨_,aN.of hl⟩,λD hD=>?_⟩;refine eK (aE _ l xs) (λx=>.bl (ltV j x)) (ai hz) (λo=>aN.upd hl hD) (λi x ys hx C c=>?_) ?_
   ·have hi:=(aaB.mp hx).1;obtain⟨d,hd⟩ : ∃d,ds[i]? = some d:=⟨ds[i]'(by rw[<-dv.length];exact hi),aab _⟩
    obtain⟨x',BF,dx⟩:=dv.get hd;rw[hx]at BF;cases BF;exact⟨j,d,rfl,dx.mono (ah.upd hD),c⟩
   ·refine⟨xs.map (ltV j),by rw[aa,aaC];rfl,?_⟩;have e:(xs.map (ltV j)).all id=xs.all (ltV j):=by rw[adB];rfl
    rw[e];exact q _ (ah.upd hD)
 ·exact h.elim
end
section
theorem mQ{H:Hp}:∀ns:List Int,bO H (ns.map V.int) (ns.map PyData.int)
 | []=>.nil
 | n::ns=>.cons (.int n) (mQ ns)
theorem Od{k:Nat}{ls:List Nat}(h:∀l∈ls,l<2 ^ k):((ni ls).map V.int).all (ltV k)=true:=by rw[adB,aaZ];intro x hx;unfold ni at hx;obtain⟨l,hl,rfl⟩:=aan.mp hx;show(decide ((0:Int)<=(l:Int))&&decide ((l:Int)<2 ^ k))=true;rw[aaI (by omega),aaI (by exact_mod_cast h l hl)];rfl
abbrev Cv:Stmt:=top 33
def wc:Sp:=λvs H Q _=>match vs with
 | [cv,.int st,.ref t]=>∃(k n:Nat)(rows:Om.Rows)(s0:Nat)(ls:List Nat),DV H cv (aR k n rows)/\Om.aq k n rows/\st=(s0:Int)/\s0<rows.length/\H t=some (.lst ((ni ls).map V.int))/\ls.length<=750/\(∀l∈ls,l<2 ^ k) ∧
   ∀p H',ah H H'->H' p=some (.tup [.str (bs (Om.send rows s0 ls).1),.int ((Om.send rows s0 ls).2:Nat)])->Q (.ref p) H'
 | _=>False
theorem Dk:ao ["code","state","text","words","letter","row"] ["code","state","text"] (ae Cv):=⟨rfl,rfl,rfl,by decide +kernel,rfl,by decide +kernel,by decide +kernel⟩
theorem Ih(D:bX K mg "sent" Cv ["code","state","text"])(c1:aJ P w K mg base "is_letter_list" 3 ["k","thing"] gj):aJ P w K mg base "sent" 4 ["code","state","text"] wc:=by
 refine ar (k:=3) D Dk (λvs H Q E h=>?_) (λf aA A outer s H vs Q E hr h=>?_)
 all_goals
  unfold wc at h;split at h
 ·rfl
 ·exact h.elim
 ·rename_i cv st t;refine az λak=>?_;obtain⟨k,n,rows,s0,ls,hc,ok,rfl,Pm,ht,hlen,nV,q⟩:=h;refine ak ?_;clear ak;have nd:=Dk.nd;obtain⟨a,b,ss,rfl,ha,hb,sW⟩:=bH hc;refine⟨_,(by walk_at"c"),?_⟩;have hn:(ni ls).length=ls.length:=by unfold ni;simp
  refine⟨_,gt ha (by decide) rfl,?_⟩;refine⟨k,rfl,.inr ⟨t,_,_,rfl,ht,mQ (ni ls),by rw[aaa];omega,λH1 s1=>?_⟩⟩;rw[show((ni ls).map V.int).all (ltV k)=true from Od nV];refine dX ?_;refine⟨aaO _,λwl JS=>?_⟩;have s2:∀o,ah H (upd H1 wl o):=λo=>s1.trans (ah.upd JS);refine⟨⟨_,aN.of (s2 _ _ _ ht)⟩,bL (aE _ t ((ni ls).map V.int)) (λi σ H2=>(∃v4 v5,σ=[some (.ref a),some (.int ((Om.send rows s0 (ls.take i)).2:Nat)),some (.ref t),some (.ref wl),v4,v5])/\H2=upd H1 wl (.lst ((Om.words rows s0 (ls.take i)).map λw=>V.str (bs w)))/\(Om.send rows s0 (ls.take i)).2<rows.length)
   ⟨⟨none,none,rfl⟩,rfl,Pm⟩ (λi σ H2 _ ⟨_,e,_⟩=>aN.of (by rw[e];exact s2 _ _ _ ht)) ?_ ?_⟩
  ·rintro i x σ H2 hi hx ⟨⟨v4,v5,rfl⟩,rfl,cT⟩;rw[aak,ni,aak]at hx;obtain⟨n',Gq,rfl⟩:=aaN.mp hx;obtain⟨l,hl,rfl⟩:=aaN.mp Gq;obtain⟨st,e1,e2,e3,e4⟩:=Om.step_get ok cT (nV l (aaP hl));obtain⟨p,rs,f1,f2,f3⟩:=da sW e1;obtain⟨r,f4,f5⟩:=ia f3 e2;refine⟨_,gt (s2 _ _ _ ha) (by decide) rfl,_,gl (s2 _ _ _ hb) (by omega) (by simpa using f1),_,gl (s2 _ _ _ f2) (by omega) (by simpa using f4),?_⟩;refine⟨⟨_,rfl,aa⟩,?_⟩;refine⟨_,gt (s2 _ _ _ f5) (by decide) rfl,_,aa,?_,?_⟩
   ·rw[aaa,Om.oB,aas];exact bC (by omega)
   refine⟨_,gt (by rw[dI];exact s2 _ _ _ f5) (by decide) rfl,?_⟩;have ti:ls.take (i+1)=ls.take i++[l]:=by rw[aaL,hl];rfl
   refine⟨⟨some (.int l),some (.ref r),?_⟩,?_,?_⟩
   ·rw[ti,Om.cR];rfl
   ·rw[dI,ti,Om.mU,aao];rfl
   ·rw[ti,Om.cR];exact e4
  ·rintro σ H2 ⟨⟨v4,v5,rfl⟩,rfl,cT⟩;have tl:ls.take ((ni ls).map V.int).length=ls:=aaq (by rw[aaa,hn];exact aae _);rw[tl];have ws:(Om.words rows s0 ls).map (λw=>V.str (bs w))=((Om.words rows s0 ls).map bs).map V.str:=by rw[aaC];rfl
   refine⟨rfl,(Om.words rows s0 ls).map bs,by rw[aa,ws],?_,?_⟩
   ·have h1:(((Om.words rows s0 ls).map bs).map (·.length)).sum=((Om.words rows s0 ls).flatten).length:=by rw[acU,aaC];congr 1;apply aaW;intro x _;exact bg x
    have h2:((Om.words rows s0 ls).flatten).length<=4500:=by
     rw[Om.ig,(Om.bt ok ls s0 Pm nV).1];have h6:=ok.n6
     calc n*ls.length<=6*750:=ac7 h6 hlen
      _<=4500:=by decide
    have h3:(("" : Str)).length=0:=by decide +kernel
    rw[h1,h3];omega
   refine⟨ai (aai rfl),λp hp=>?_⟩;refine q p _ ((s2 _).trans (ah.upd hp)) ?_;rw[aa,rQ,Om.ig]
 ·exact h.elim
abbrev jQ:Stmt:=top 35
def ik:Sp:=λvs H Q _=>match vs with
 | [.ref b]=>∃c:List Int,H b=some (.lst (c.map V.int))/\Q (.int (Om.bq c)) H
 | _=>False
theorem ng:ao ["bits","letter","bit"] ["bits"] (ae jQ):=⟨rfl,rfl,rfl,by decide +kernel,rfl,by decide +kernel,by decide +kernel⟩
theorem uW(D:bX K mg "letter_of" jQ ["bits"]):aJ P w K mg base "letter_of" 1 ["bits"] ik:=by
 refine ar (k:=0) D ng (λvs H Q E h=>?_) (λf aA A outer s H vs Q E hr h=>?_)
 all_goals
  unfold ik at h;split at h
 ·rfl
 ·exact h.elim
 ·rename_i b;obtain⟨c,hb,q⟩:=h;have nd:=ng.nd;refine⟨_,(by walk_at"c"),?_⟩;refine⟨⟨_,aN.of hb⟩,bL (aE _ b (c.map V.int)) (λi σ H2=>H2=H/\∃v,σ=[some (.ref b),some (.int (Om.bq (c.take i))),v]) ⟨rfl,none,rfl⟩ (λi σ H2 _ ⟨e,_⟩=>aN.of (e.symm▸hb)) ?_ ?_⟩
  ·rintro i x σ H2 hi hx ⟨rfl,v,rfl⟩;rw[aak]at hx;obtain⟨n,hn,rfl⟩:=aaN.mp hx;refine⟨.inl ⟨by decide,by decide⟩,⟨rfl,some (.int n),?_⟩⟩;have e:Om.bq (c.take (i+1))=2*Om.bq (c.take i)+n:=by unfold Om.bq;rw[aaL,hn];simp
   rw[e];rfl
  ·rintro σ H2 ⟨rfl,v,rfl⟩;rw[aaa,aaY];exact q
 ·exact h.elim
abbrev mC:Stmt:=top 34
def jM:Sp:=λvs H Q _=>match vs with
 | [.int k,.ref b]=>∃(j:Nat)(cs:List (List Int)),k=(j:Int)/\(j=1\/j=2\/j=3)/\H b=some (.lst (cs.flatten.map V.int))/\(∀c∈cs,c.length=j)/\cs.length<=100/\(∀c∈cs,∀b∈c,Om.Bit b) ∧
    ∀p H',ah H H'->H p=none->H' p=some (.lst ((cs.map Om.bq).map V.int))->Q (.ref p) H'
 | _=>False
theorem oV:ao ["k","bits"] ["k","bits"] (ae mC):=⟨rfl,rfl,rfl,by decide +kernel,rfl,by decide +kernel,by decide +kernel⟩
local macro_rules|`(tactic|walk_at"h")=>`(tactic|(have eu:(["bit"]:List Str).Nodup:=(by decide +kernel));((with_reducible refine' bM ["bit"] [] ?b1 ?b2 (λcl C s H fp=>?b3) (λcl C s H fp=>?b4) (λcl C s H fp=>?b5));(case b1=>exact eu);(case b2=>walk_at"e");(case b3=>walk_at"d");(case b4=>walk_at"f");(case b5=>walk_at"a")))
local macro_rules|`(tactic|walk_at"h")=>`(tactic|(have eu:(["place","bits","k"]:List Str).Nodup:=(by decide +kernel));((with_reducible refine' bM ["place","bits","k"] [1,0] ?b1 ?b2 (λcl C s H fp=>?b3) (λcl C s H fp=>?b4) (λcl C s H fp=>?b5));(case b1=>exact eu);(case b2=>walk_at"e");(case b3=>walk_at"d");(case b4=>walk_at"f");(case b5=>walk_at"a")))
theorem xK(D:bX K mg "letters" mC ["k","bits"])(g1:mg "isinstance" = none)(g2:mg "list" = none)(g3:mg "all" = none)(g4:mg "len" = none)(g5:mg "range" = none)(c1:aJ P w K mg base "is_within" 2 ["thing","least","greatest"] eI)(c2:aJ P w K mg base "letter_of" 1 ["bits"] ik):aJ P w K mg base "letters" 3 ["k","bits"] jM:=by
 refine ar (k:=2) D oV (λvs H Q E h=>?_) (λf aA A outer s H vs Q E hr h=>?_)
 all_goals
  unfold jM at h;split at h
 ·rfl
 ·exact h.elim
 ·rename_i k b;refine az λak=>?_;obtain⟨j,cs,rfl,hj,hb,hc,hlen,Wt,q⟩:=h;refine ak ?_;clear ak;have nd:=oV.nd;have j3:1<=j/\j<=3:=Or.elim hj (λe=>by rw[e];decide) λz=>Or.elim z (λe=>by rw[e];decide) λe=>by rw[e];decide
  refine⟨_,(by walk_at"c"),?_⟩;have fl:cs.flatten.length=cs.length*j:=Om.mP cs hc;have K9:cs.flatten.length<=300:=by
   rw[fl]
   calc cs.length*j<=100*3:=ac7 hlen j3.2
    _<=300:=by decide
  refine⟨"list",(by simp[nR,hb]),by decide,?_⟩;refine V6 (by decide) ?_;refine⟨⟨_,aN.of hb⟩,λD1 ki=>?_⟩;refine eK (aE _ b (cs.flatten.map V.int)) (λ_=>.bl true) (by rw[aaa];exact ai (by omega)) (λo=>aN.upd hb ki) (λi x ys hx C c=>?_) ?_
  ·rw[aak]at hx;obtain⟨n,hn,rfl⟩:=aaN.mp hx;obtain⟨c',sR,Gq⟩:=List.mem_flatten.mp (aaP hn);have e:(decide ((0:Int)<=n)&&decide (n<=1))=true:=by rcases Wt c' sR n Gq with rfl|rfl<;>decide
   refine⟨_,.int n,?_⟩;show C (.bl (decide ((0:Int)<=n)&&decide (n<=1))) _;rw[e];exact c
  refine⟨(cs.flatten.map V.int).map λ_=>true,by rw[aa];exact aaX (λl=>some (HO.lst l)) (all_true _),?_⟩;rw[Oe 0 (by simp)];have s1:ah H (upd H D1 (HO.lst ((cs.flatten.map V.int).map λ_=>V.bl true))):=ah.upd ki;generalize upd H D1 (HO.lst ((cs.flatten.map V.int).map λ_=>V.bl true))=H1 at s1 ⊢;refine⟨_,s1 _ _ hb,aO (λh1=>?_) (λh1=>?_)⟩
  ·have e:cs.flatten=[]:=by simpa using h1
   have e0:cs=[]:=by
    cases cs with
    | nil=>rfl
    | cons c r=>
     have:=hc c aah;rw[aa8,List.append_eq_nil_iff]at e;rw[e.1]at this;simp at this;omega
   subst e0;exact⟨aaO _,λp hp=>q p _ (s1.trans (ah.upd hp)) (s1.free hp) aa⟩
  ·have hm:1<=cs.length:=by
    cases cs with
    | nil=>simp at h1
    | cons c r=>simp
   have Wj:((((cs.flatten.map V.int).length:Nat):Int) % (j:Int))=0:=by
    rw[aaa,fl]
    push_cast
    exact Int.mul_emod_left _ _
   dsimp only[gX,fk,bu];refine eR (c1:=false) (c2:=false) (λQ q=>?_) (λ_ Q q=>⟨_,dW (s1 _ _ hb),(by omega:(0:Int)<(j:Int)),?_⟩) ?_
   ·show Q (decide ((j:Int)<1)) H1;rw[aaT (by omega)];exact q
   ·show Q (!decide (((((cs.flatten.map V.int).length:Nat):Int) % (j:Int))=0)) H1;rw[aaI Wj];exact q
   refine dX ?_;have rs:(Builtin.Range.rangeSize 0 (((cs.flatten.map V.int).length:Nat):Int) (j:Int)).toNat=cs.length:=by
    unfold Builtin.Range.rangeSize;have hL:(0:Int)<(((cs.flatten.map V.int).length:Nat):Int):=by rw[aaa,fl];have:0<cs.length*j:=Nat.mul_pos hm j3.1;omega
    rw[aaz (by omega),aaz hL,aaa,fl]
    push_cast
    rcases hj with rfl|rfl|rfl<;>omega
   have hLb:(((cs.flatten.map V.int).length:Nat):Int)<=300:=by rw[aaa];omega
   refine⟨_,dW (s1 _ _ hb),⟨by omega,by omega,by omega,by omega,by omega,by omega,by omega⟩,λD2 BS=>?_⟩;rw[rs];have Xh:H D2=none:=s1.free BS;refine bE (j4 0 (j:Int) cs.length) (λi τ H2 ys=>(∃v,τ=[v,some (.ref b),some (.int j)])/\ah H H2/\H2 D2=some (.lst ys)/\ys=((cs.take i).map Om.bq).map V.int/\i<=cs.length) (by simp;exact ai (by omega)) ⟨⟨none,rfl⟩,s1.trans (ah.upd BS),aa,rfl,aaO _⟩ ?_ ?_ ?_
   ·rintro i τ H2 ys hi ⟨_,_,h2,rfl,_⟩;refine⟨trivial,h2,by simp[aas];omega⟩
   ·rintro i x τ H2 ys hi hx ⟨⟨v,rfl⟩,s2,h2,rfl,hi2⟩;have bI:i<cs.length:=by simpa using hi
    have ex:x = .int (0+(i:Nat)*(j:Int)):=by rw[aak,abL bI]at hx;exact(aaw hx).symm
    subst ex;refine⟨_,s2 _ _ hb,λp hp=>?_⟩;have zK:dm (cs.flatten.map V.int) (some (0+(i:Nat)*(j:Int))) (some (0+(i:Nat)*(j:Int)+(j:Int)))=(cs[i]).map V.int:=by
     have e1:(0+(i:Nat)*(j:Int))=((i*j:Nat):Int):=by push_cast;omega
     have e2:(0+(i:Nat)*(j:Int)+(j:Int))=((i*j+j:Nat):Int):=by push_cast;omega
     have e3:i*j+j<=(cs.flatten.map V.int).length:=by
      rw[aaa,fl]
      calc i*j+j=(i+1)*j:=by rw[aby]
       _<=cs.length*j:=Nat.mul_le_mul_right _ bI
     rw[e2,e1,Jj _ _ _ (by omega) e3,<-acW,<-acF,show i*j+j-i*j=j by omega,Om.zB cs i hc bI]
    refine⟨cs[i],by rw[aa,zK],?_⟩;have pD:D2≠p:=aj h2 hp;have ti:cs.take (i+1)=cs.take i++[cs[i]]:=by rw[aaL,aab bI];rfl
    refine⟨by rw[af pD];exact h2,⟨_,rfl⟩,λx o e=>?_,aa,?_,bI⟩
    ·rw[af (aj e Xh)];exact ah.upd hp _ _ (s2 _ _ e)
    ·rw[ti,aao,aao];rfl
   ·rintro τ H2 ys ⟨_,s2,h2,rfl,_⟩;rw[aaa,aaK,aaY]at h2;exact q _ _ s2 Xh h2
 ·exact h.elim
end
section
abbrev qh:Stmt:=top 16
def qC(f:Addr)(Se:Sp):Sp:=λvs H Q _=>match vs with
 | [.int s0,.ref f']=>s0=0/\f'=f/\∃(nx:Nat->List Nat)(m:Nat)(W:Hp->Prop),(∀H H',W H->ah H H'->W H')/\W H/\0<m/\m<=8/\(∀s,s<m->(nx s).length<=8/\∀t∈nx s,t<m) ∧
   (∀(s:Nat) H Q,s<m->W H->(∀l ps H',ah H H'->H l=none->H' l=some (.lst ps)->G5 H' ps (nx s)->Q (.ref l) H')->Se [.int (s:Nat)] H Q E0) ∧
   ∀d o (ag:List (Key×V)) (qs:List Nat) H',ah H H'->H d=none->H' d=some (.eA o (.dK ag))->ag.map (·.1)=qs.map nk->qs.Nodup->(∀s,s∈qs↔Om.vG nx s)->qs.length<=8->Q (.ref d) H'
 | _=>False
theorem yM:ao ["start","steps","texts","queue","place","node","letter","to"] ["start","steps"] (ae qh):=⟨rfl,rfl,rfl,by decide +kernel,rfl,by decide +kernel,by decide +kernel⟩
local macro_rules|`(tactic|walk_at"B")=>`(tactic|first|(with_reducible exact HF)|((with_reducible refine' EA ?a1 ?a2 ?a3);(case a1=>walk_at"a");(case a2=>walk_at"a");(case a3=>walk_at"B")))
local macro_rules|`(tactic|walk_at"a")=>`(tactic|first|((with_reducible refine' HQ ?a1 ?a2 ?a3 ?a4 ?a5);(case a1=>walk_at"B");(case a2=>kernel_rfl);(case a3=>kernel_rfl);(case a4=>exact λz=>nomatch z);(case a5=>decide))|((with_reducible refine' ma ?a0 ?a1 ?a2);(case a0=>exact av.units (by assumption));(case a1=>walk_at"a");(case a2=>walk_at"a")))
local macro_rules|`(tactic|walk_at"l")=>`(tactic|((with_reducible refine' cO ?a0);(case a0=>exact av.units (by assumption))))
local macro_rules|`(tactic|walk_at"i")=>`(tactic|((with_reducible refine' Jf "steps" 1 ?a0 ?a9 ?a1 ?a2);(case a0=>walk_at"F");(case a9=>exact⟨rfl,rfl,rfl,rfl,rfl⟩);(case a1=>exact av.mono (by assumption) (aae _));(case a2=>walk_at"b")))
local macro_rules|`(tactic|walk_at"d")=>`(tactic|((with_reducible refine' jx ?a0 ?a1 ?a2);(case a0=>exact av.units (by assumption));(case a1=>walk_at"a");(case a2=>walk_at"a")))
local macro_rules|`(tactic|walk_at"k")=>`(tactic|first|((with_reducible refine' qf ?a1);(case a1=>walk_at"a"))|((with_reducible refine' Kh "place" 4 ?b0 ?a1);(case b0=>with_unfolding_all assumption);(case a1=>walk_at"a")))
theorem EL{f:Addr}{k:Nat}{p:Str}{Se:Sp}(D:bX K mg "texts_from" qh ["start","steps"])(g1:mg "len" = none)(c1:Hb P w K mg base f k p Se):aJ P w K mg base "texts_from" (k+1) ["start","steps"] (qC f Se):=by
 refine ar (k:=k) D yM (λvs H Q E h=>?_) (λf0 aA A outer s H vs Q E hr h=>?_)
 all_goals
  unfold qC at h;split at h
 ·rfl
 ·exact h.elim
 ·rename_i s0 f';refine az λak=>?_;obtain⟨rfl,rfl,nx,m,W,Wm,hW,m0,m8,hn,hF,q⟩:=h;refine ak ?_;clear ak;have nd:=yM.nd;refine⟨_,(by walk_at"c"),?_⟩;refine λD hD=>⟨aaO _,λZ hZ=>⟨by rw[af (aa5 (lX hZ).1)];exact aa,[(nk 0,.ref Z)],rfl,aai rfl,?_⟩⟩
  refine⟨ai (aai rfl),λQa hQ=>?_⟩;have G0:=Tq.start hD hZ hQ;refine⟨λmm σ H2=>∃(v5 v6 v7:Option V)(ag:List (Key×V))(qs:List Nat)(c:Nat),σ=[some (.int 0),some (.ref f'),some (.ref D),some (.ref Qa),some (.int (c:Nat)),v5,v6,v7]/\mm+c=m/\Tq H H2 D Qa ag qs qs.length/\(∀s∈qs,s<m)/\0∈qs/\(∀s∈qs,Om.vG nx s)/\c<=qs.length/\∀(i s:Nat),i<c->qs[i]? = some s->∀t∈nx s,t∈qs,
   ⟨m,none,none,none,_,[0],0,rfl,rfl,G0.le (aaO _),by simpa using m0,by simp,(λs hs=>by rw[aaA.mp hs];exact .z),aaO _,λi s h=>absurd h (adt _)⟩,?_⟩
  intro mm σ H2 bP;refine az λak=>?_;obtain⟨v5,v6,v7,ag,qs,c,rfl,Xz,G,cT,h0,Ut,cl,Kz⟩:=bP;refine ak ?_;clear ak;have ql:=Om.jV m qs G.nd cT;refine⟨_,dW G.hQ,?_⟩;dsimp only[KQ];rw[aaa];refine aO (λlt=>?_) (λge=>?_)
  ·have lt:c<qs.length:=by simpa using lt
   obtain⟨s,hs⟩ : ∃s,qs[c]? = some s:=⟨_,aab lt⟩
   have sm:=aaP hs;have slt:=cT s sm;obtain⟨n8,Y4⟩:=hn s slt;refine⟨λaX H'=>∃(v6 v7:Option V)(ag:List (Key×V))(more:List Nat),aX=[some (.int 0),some (.ref f'),some (.ref D),some (.ref Qa),some (.int ((c:Nat)+1)),some (.int (s:Nat)),v6,v7]/\Tq H H' D Qa ag (qs++more) (qs++more).length/\(∀s∈more,s<m/\Om.vG nx s)/\∀t∈nx s,t∈qs++more,?_,?_⟩
   ·intro aX H' bP;refine az λak=>?_;obtain⟨v6,v7,ag,more,rfl,G',zI,JW⟩:=bP;refine ak ?_;clear ak;refine⟨mm-1,by omega,_,v6,v7,ag,qs++more,c+1,rfl,by omega,G',λx hx=>?_,aa7 _ h0,λx hx=>?_,by rw[aal];omega,λi x hi hx t ht=>?_⟩
    ·exact(aay.mp hx).elim (cT x) λz=>(zI x z).1
    ·exact(aay.mp hx).elim (Ut x) λz=>(zI x z).2
    ·rw[aaV (by omega)]at hx;by_cases e:i=c
     ·subst e;rw[hs]at hx;cases hx;exact JW t ht
     ·exact aa7 _ (Kz i x (by omega) hx t ht)
   ·refine .inl ⟨_,gl G.hQ (by omega) (by rw[aak,show((c:Nat):Int).toNat=c by omega,hs];rfl),?_⟩;refine⟨rfl,hF s _ _ slt (Wm _ _ hW G.s) λl ps H3 s3 nl hl st=>?_⟩;have lD:l≠D:=aa5 (aj G.hD nl);have lQ:l≠Qa:=aa5 (aj G.hQ nl);refine⟨⟨_,aN.of hl⟩,bL (aE _ l ps) (λi σ H4=>∃(v6 v7:Option V)(ag:List (Key×V))(more:List Nat),σ=[some (.int 0),some (.ref f'),some (.ref D),some (.ref Qa),some (.int ((c:Nat)+1)),some (.int (s:Nat)),v6,v7]/\Tq H H4 D Qa ag (qs++more) (qs++more).length/\(∀s∈more,s<m/\Om.vG nx s)/\H4 l=some (.lst ps)/\G5 H4 ps (nx s)/\∀(j t:Nat),j<i->(nx s)[j]? = some t->t∈qs++more)
     ⟨v6,v7,ag,[],rfl,by rw[aa1];exact G.mono s3,by simp,hl,st,λj t h=>absurd h (adt _)⟩ (λi σ H4 _ ⟨_,_,_,_,_,_,_,h,_⟩=>aN.of h) ?_ ?_⟩
    ·intro i x σ H4 hi hx bP;refine az λak=>?_;obtain⟨v6,v7,ag,more,rfl,G4,Pr,Su,lI,OE⟩:=bP;refine ak ?_;clear ak;have bI:i<(nx s).length:=by rw[<-lI.1];exact hi
     obtain⟨qa,e1,e2⟩:=lI.2 i (nx s)[i] (aab bI);rw[e1]at hx;cases hx;have tm:(nx s)[i]∈nx s:=aat bI;have WZ:=Y4 _ tm;generalize et:(nx s)[i]=t at e2 tm WZ;have ei:(nx s)[i]? = some t:=by rw[aab bI,et]
     refine⟨_,.inl e2,rfl,rfl,?_⟩;refine⟨D,_,rfl,gJ.k (k:=nk t) G4.hD,?_⟩;rw[G4.has t];have l4:(qs++more).length<=m:=Om.jV m _ G4.nd λx hx=>(aay.mp hx).elim (cT x) λz=>(Pr x z).1;refine aO (λc1=>?_) (λc1=>?_)
     ·have nt:t ∉ qs++more:=by simpa using c1
      obtain⟨t0,zs,w1,w2,w3,w4⟩:=G4.vl s (aa7 _ sm);refine .inr ⟨D,.ref t0,rfl,w1▸gJ.k (k:=nk s) G4.hD,?_⟩;refine⟨ai (aai rfl),λB hB=>?_⟩;have s5:ah H4 (upd H4 B (.lst [.int (i:Nat)])):=ah.upd hB;refine⟨zs,[.int (i:Nat)],s5 _ _ w2,aa,ai (by simp;omega),λU hU=>?_⟩;have s6:=s5.trans (ah.upd (o:=.lst (zs++[.int (i:Nat)])) hU);have G6:=G4.mono s6;have UQ:U≠Qa:=aa5 (aj (s5 _ _ G4.hQ) hU);have kl:=G6.V4;refine .inr ⟨D,_,rfl,vX.k (k:=nk t) G6.hD (bC (by omega)),?_⟩;have DQ:D≠Qa:=cc G6.hD G6.hQ (λz=>nomatch z);refine⟨⟨_,rfl,by rw[af (aa5 DQ)];exact G6.hQ⟩,_,by rw[af (aa5 DQ)];exact G6.hQ,bC (by rw[aaa];omega),?_⟩;have G7:=(G6.le (abW _)).put (u:=U) (zs:=zs++[.int (i:Nat)]) nt aa UQ (by rw[aal];exact Nat.add_le_add_right w3 1);rw[show(qs++more).length.succ=(qs++more++[t]).length from(aal (as:=qs++more) (bs:=[t])).symm,abi]at G7;refine⟨_,_,_,more++[t],rfl,G7,λx hx=>?_,Tq.DA (s6 _ _ Su) lD lQ,⟨lI.1,λj t' hj=>?_⟩,λj t' hj lJ=>?_⟩
      ·rcases aay.mp hx with z|z
       ·exact Pr x z
       ·have:x=t:=by simpa using z
        subst this;exact⟨WZ,.s (Ut s sm) tm⟩
      ·obtain⟨qb,a1,a2⟩:=lI.2 j t' hj;exact⟨qb,a1,Tq.DA (s6 _ _ a2) (cc (s6 _ _ a2) G6.hD (λz=>nomatch z)) (cc (s6 _ _ a2) G6.hQ (λz=>nomatch z))⟩
      ·rw[<-abi];by_cases e:j=i
       ·subst e;rw[ei]at lJ;cases lJ;exact aaQ _ (by simp)
       ·exact aa7 _ (OE j t' (by omega) lJ)
     ·have nt:t∈qs++more:=by
       by_cases z:t∈qs++more
       ·exact z
       ·exact absurd (by simpa using z) c1
      refine⟨_,_,ag,more,rfl,G4,Pr,Su,lI,λj t' hj lJ=>?_⟩;by_cases e:j=i
      ·subst e;rw[ei]at lJ;cases lJ;exact nt
      ·exact OE j t' (by omega) lJ
    ·intro σ H4 bP;refine az λak=>?_;obtain⟨v6,v7,ag,more,rfl,G4,Pr,Su,lI,OE⟩:=bP;refine ak ?_;clear ak;refine⟨v6,v7,ag,more,rfl,G4,Pr,λt ht=>?_⟩;obtain⟨j,hj⟩:=abS.mp ht;have lj:=(aaB.mp hj).1;exact OE j t (by rw[lI.1];exact lj) hj
  ·have ge:qs.length<=c:=by
    by_cases z:c<qs.length
    ·exact absurd (by simpa using z) ge
    ·omega
   refine .inl ⟨_,G.hD,trivial,λo=>?_⟩;refine q D o ag qs _ (λb u e=>?_) hD aa G.ks G.nd (λs=>⟨Ut s,Om.Ma h0 (λa ha b hb=>?_) s⟩) (by omega)
   ·rw[af (aj e hD)];exact G.s _ _ e
   ·obtain⟨i,hi⟩:=abS.mp ha;have li:=(aaB.mp hi).1;exact Kz i a (by omega) hi b hb
 ·exact h.elim
end
section
abbrev Cb:Stmt:=top 17
abbrev aP:Expr:=Jp 1 (VS (.Name "" ⟨0,0,0,0⟩) ((ay Cb).getD 0 (.Pass ⟨0,0,0,0⟩)))
abbrev fi:Str:=("state_texts"++".<locals>." : Str)++"<lambda>"
def kY(c:Addr)(gN:List V):Sp:=λvs H Q _=>match vs with
 | [.int s0]=>∃(k n:Nat)(rows:Om.Rows)(cv:V)(s:Nat),s0=(s:Nat)/\gN=[cv]/\DV H cv (aR k n rows)/\Om.aq k n rows/\s<rows.length/\H c=some (cK c fi) ∧
   ∀l ps H',ah H H'->H l=none->H' l=some (.lst ps)->G5 H' ps (Om.vm rows s)->Q (.ref l) H'
 | _=>False
local macro_rules|`(tactic|walk_at"h")=>`(tactic|(have eu:(["letter","row"]:List Str).Nodup:=(by decide +kernel));((with_reducible refine' bM ["letter","row"] [] ?b1 ?b2 (λcl C s H fp=>?b3) (λcl C s H fp=>?b4) (λcl C s H fp=>?b5));(case b1=>exact eu);(case b2=>walk_at"e");(case b3=>walk_at"d");(case b4=>walk_at"f");(case b5=>walk_at"a")))
theorem Nj{f c:Addr}{gN:List V}(L:yC base f (II aP) (IH aP) (uD aP) fi c ["code"] gN)(hl:["code"].length=gN.length)(g1:mg "enumerate" = none):Hb P w K mg base f 1 "state" (kY c gN):=by
 refine Nk (k:=0) L ⟨rfl,rfl,rfl,rfl,by decide +kernel,by decide +kernel⟩ hl (λ_ _ _ _=>rfl) (λvs H Q E h=>?_) (λbA A outer s H v Q E hr h=>?_)
 ·unfold kY at h;split at h
  ·rfl
  ·exact h.elim
 ·unfold kY at h;split at h
  ·rename_i s0 hv;cases hv;refine az λak=>?_;obtain⟨k,n,rows,cv,st,rfl,rfl,hc,ok,hs,gW,q⟩:=h;refine ak ?_;clear ak;refine⟨gW,?_⟩;have eu:(["letter","row"]:List Str).Nodup:=by decide +kernel
   refine⟨_,(by(refine' bM ["letter","row"] [] ?b1 ?b2 (λcl C s H fp=>?b3) (λcl C s H fp=>?b4) (λcl C s H fp=>?b5));(case b1=>exact eu);(case b2=>walk_at"e");(case b3=>walk_at"d");(case b4=>walk_at"f");(case b5=>walk_at"a")),?_⟩;obtain⟨a,b,ss,rfl,ha,hb,sW⟩:=bH hc;obtain⟨qx,rx,e1,e2,e3⟩:=da sW (s:=st) (st:=rows[st]) (aab hs);have lx:rows[st].length=2 ^ k:=ok.len _ (aat hs);have W5:rx.length=rows[st].length:=by rw[e3.length,aaa]
   have p8:rx.length<=8:=by rw[W5,lx];exact Om.Lr ok.k3
   have gx:Om.vm rows st=rows[st].map (·.2):=by unfold Om.vm;rw[aag,aab hs];rfl
   refine⟨_,gt ha (by decide) rfl,.ref qx,gl hb (by omega) (by simpa using e1),⟨_,aN.of e2⟩,λR hR=>?_⟩;refine Jk (fM _ qx rx) (λi τ H2 ys=>(∃v1 v2,τ=[v1,v2])/\ah H H2/\H2 R=some (.lst ys)/\G5 H2 ys ((Om.vm rows st).take i)) (ai (by omega)) ⟨⟨none,none,rfl⟩,ah.upd hR,aa,rfl,λi t h=>by simp at h⟩ ?_ ?_ ?_
   ·rintro i τ H2 ys hi ⟨_,s2,K7,nF⟩;exact⟨s2 _ _ e2,K7,by rw[nF.1,aas];exact abJ _ _⟩
   ·rintro i t τ H2 ys hi ⟨⟨v1,v2,rfl⟩,s2,K7,nF⟩ ht;have bI:i<rows[st].length:=by omega
    obtain⟨r,r1,r2⟩:=ia e3 (l:=i) (r:=rows[st][i]) (aab bI);have er:rx.getD i .bj = .ref r:=by rw[aag,r1];rfl
    rw[er];have s3:ah H2 (upd H2 t (.tup [.int (i:Nat),.ref r])):=ah.upd ht;refine⟨_,.inl aa,rfl,rfl,?_⟩;refine⟨_,gt (s3 _ _ (s2 _ _ r2)) (by decide) rfl,ai (aai rfl),λp hp=>?_⟩;have s4:=s3.trans (ah.upd (o:=.tup [.int (i:Nat),.int (rows[st][i].2:Nat)]) hp);refine⟨s4 _ _ K7,⟨_,_,rfl⟩,(s2.trans s4).own hR,aa,?_,λj t' hj=>?_⟩
    ·rw[aal,nF.1,aas,aas,gx,aaa];simp;omega
    ·have il:ys.length=i:=by rw[nF.1,aas,gx,aaa];omega
     have jl:j<i+1:=by have:=(aaB.mp hj).1;rw[aas]at this;omega
     rw[ab2 jl]at hj;by_cases e:j=i
     ·subst e;have et:t'=rows[st][j].2:=by rw[gx,aak,aab bI]at hj;exact(aaw hj).symm
      subst et;refine⟨p,by rw[aaS (by omega),il];simp,?_⟩;rw[af (cc (u:=.lst ys) aa (s4 _ _ K7) (λz=>nomatch z))];exact aa
     ·obtain⟨q',a1,a2⟩:=nF.2 j t' (by rw[ab2 (by omega)];exact hj);refine⟨q',by rw[aaV (by omega)];exact a1,?_⟩;rw[af (cc a2 K7 (λz=>nomatch z))];exact s4 _ _ a2
   ·rintro τ H2 ys ⟨_,s2,K7,nF⟩;rw[aaq (by rw[gx,aaa];omega)]at nF;exact q R ys _ s2 hR K7 nF
  ·rename_i hv;exact h.elim
end
section
def Cr(P0:Addr):Sp:=λvs H Q _=>match vs with
 | [cv]=>∃(k n:Nat)(rows:Om.Rows),DV H cv (aR k n rows)/\Om.aq k n rows/\Tab P0 (aC aP) fi H ∧
   ∀d o (ag:List (Key×V)) (qs:List Nat) H',aw P0 H H'->Tab P0 (aC aP) fi H'->H d=none->H' d=some (.eA o (.dK ag))->ag.map (·.1)=qs.map nk->qs.Nodup->(∀s,s∈qs↔Om.vG (Om.vm rows) s)->qs.length<=8->Q (.ref d) H'
 | _=>False
theorem QX:ao ["code"] ["code"] (ae Cb):=⟨rfl,rfl,rfl,by decide +kernel,rfl,by decide +kernel,by decide +kernel⟩
theorem MT{c P0:Addr}(D:PZ K mg "state_texts" Cb ["code"] c)(D2:bX K mg "texts_from" qh ["start","steps"])(g1:mg "len" = none)(g2:mg "enumerate" = none)(M:Maker mg base c P0):aJ P w K mg base "state_texts" 3 ["code"] (Cr P0):=by
 refine Jm (k:=2) D QX (λvs H Q E h=>?_) (λf A outer s H vs Q E hr h=>?_)
 all_goals
  unfold Cr at h;split at h
 ·rfl
 ·exact h.elim
 ·rename_i cv;obtain⟨k,n,rows,hc,ok,tb,q⟩:=h;have hm:∃f,mg "texts_from" = some (.ref f)/\W.keepIn K (.ref f)=true:=by obtain⟨f,fd,F,hm,_⟩:=D2;exact⟨f,hm,F.kp⟩
  have hf0:∀y∈(uD aP).names,y.2 = .free->(ae Cb).names.lookup y.1=some .cell:=by decide +kernel
  refine⟨_,(by
   refine' lq ?a1
   case a1=>
    refine' DB ?a2
    case a2=>
     refine' Bg "texts_from" (F:=["code"]) (js:=[0]) (k:=2) (ps:=["start","steps"]) (sp:=λf c gN=>qC f (kY c gN)) hm M rfl ?hF rfl ?UP (λ_=>rfl) ?oy ?hC hr ?ha ?hg rfl rfl ?he
     case hF=>
      intro i y h;cases i with
      | zero=>cases h;exact⟨0,rfl,rfl,by kernel_rfl⟩
      | succ i=>simp at h
     case UP=>decide +kernel
     case oy=>exact hf0
     case hC=>exact λB f c' gN m0 kb hl L=>EL D2 g1 (Nj L hl g2)
     case ha=>exact DE
     case hg=>kernel_rfl
     case he=>kernel_rfl),?_⟩
  refine⟨tb,[cv],rfl,λf' c' H2 sm e1 e2 nf=>?_⟩;have rl:∀s,s<rows.length->Om.vm rows s=(rows.getD s []).map (·.2):=λ_ _=>rfl;refine⟨rfl,rfl,Om.vm rows,rows.length,λH=>DV H cv (aR k n rows)/\H c'=some (cK c' fi),λH H' ⟨a,b⟩ s=>⟨a.mono s,s _ _ b⟩,⟨hc.dC tb sm,e2⟩,ok.s1,ok.s8,λs hs=>?_,λs H Q hs ⟨a,b⟩ h=>⟨k,n,rows,cv,s,rfl,rfl,a,ok,hs,b,h⟩,
   λd o ag qs H' s' nd hd ks TZ Oz hl=>q d o ag qs H' (sm.trans s'.t) (.inr ⟨c',s' _ _ e1,s' _ _ e2⟩) (sm.free nd λz=>by rw[z,e1]at nd;cases nd) hd ks TZ Oz hl⟩
  exact Om.Kv ok hs
 ·exact h.elim
abbrev mB:Stmt:=top 18
def gi(P0:Addr):Sp:=λvs H Q _=>match vs with
 | [cv]=>∃(k n:Nat)(rows:Om.Rows),DV H cv (aR k n rows)/\Om.aq k n rows/\Tab P0 (aC aP) fi H ∧
   ∀l (qs:List Nat) H',aw P0 H H'->Tab P0 (aC aP) fi H'->H l=none->H' l=some (.lst (qs.map λs=>V.int (s:Nat)))->qs.Pairwise (· < ·)->(∀s,s∈qs↔Om.vG (Om.vm rows) s)->qs.length<=8->Q (.ref l) H'
 | _=>False
theorem oU:ao ["code"] ["code"] (ae mB):=⟨rfl,rfl,rfl,by decide +kernel,rfl,by decide +kernel,by decide +kernel⟩
local macro_rules|`(tactic|walk_at"i")=>`(tactic|((with_reducible refine' xX ?a0 ?a9 ?a1);(case a0=>walk_at"F");(case a9=>rfl);(case a1=>walk_at"b")))
theorem xJ{P0:Addr}(D:bX K mg "reached" mB ["code"])(g1:mg "sorted" = none)(c1:aJ P w K mg base "state_texts" 3 ["code"] (Cr P0)):aJ P w K mg base "reached" 4 ["code"] (gi P0):=by
 refine ar (k:=3) D oU (λvs H Q E h=>?_) (λf aA A outer s H vs Q E hr h=>?_)
 all_goals
  unfold gi at h;split at h
 ·rfl
 ·exact h.elim
 ·rename_i cv;obtain⟨k,n,rows,hc,ok,tb,q⟩:=h;have nd:=oU.nd;refine⟨_,(by walk_at"j"),?_⟩;refine⟨k,n,rows,hc,ok,tb,λd o ag qs H' s1 t1 nd1 hd ks TZ ZT l8=>?_⟩;refine .inl ⟨d,ag,qs.map λs=>((s:Nat):Int),rfl,.inr ⟨o,hd⟩,by rw[ks,aaC];rfl,by rw[aaa];omega,λl ns hl pm YB=>?_⟩;obtain⟨nU,rfl,TM⟩:=Om.AG pm;refine q l nU _ (s1.trans (ah.upd hl).t) (t1.mono (ah.upd hl)) (s1.free hl λz=>by obtain⟨ps,e⟩:=t1.eL;rw[z,e]at hl;cases hl) ?_ ?_ (λs=>?_) (by rw[TM.length_eq];exact l8)
  ·rw[aa,aaC];rfl
  ·exact Om.uB (TM.nodup_iff.mpr TZ) YB
  ·rw[TM.mem_iff];exact ZT s
 ·exact h.elim
end
section
abbrev qY:Stmt:=top 21
def iZ:Sp:=λvs H Q _=>match vs with
 | [cv,.int x0,.int y0]=>∃(k n:Nat)(rows:Om.Rows)(x y:Nat),x0=(x:Nat)/\y0=(y:Nat)/\DV H cv (aR k n rows)/\Om.aq k n rows/\x<rows.length/\y<rows.length ∧
   ∀l (ss:List Om.cL) H',ah H H'->H l=none->Gy H' l ss->ss.length<=64->ss.Pairwise Om.yk->(∀s,s∈ss↔Om.St rows x y s)->Q (.ref l) H'
 | _=>False
theorem ub:ao ["code","one","other","steps","letter","row","another","beside"] ["code","one","other"] (ae qY):=⟨rfl,rfl,rfl,by decide +kernel,rfl,by decide +kernel,by decide +kernel⟩
theorem AN(D:bX K mg "pair_steps" qY ["code","one","other"])(g1:mg "enumerate" = none):aJ P w K mg base "pair_steps" 1 ["code","one","other"] iZ:=by
 refine ar (k:=0) D ub (λvs H Q E h=>?_) (λf aA A outer s H vs Q E hr h=>?_)
 all_goals
  unfold iZ at h;split at h
 ·rfl
 ·exact h.elim
 ·rename_i cv x0 y0;refine az λak=>?_;obtain⟨k,n,rows,x,y,rfl,rfl,hc,ok,hx,hy,q⟩:=h;refine ak ?_;clear ak;have nd:=ub.nd;obtain⟨a,b,st,rfl,ha,hb,cF⟩:=bH hc;obtain⟨qx,rx,e1,e2,e3⟩:=da cF (s:=x) (st:=rows[x]) (aab hx);obtain⟨qy,ry,f1,f2,f3⟩:=da cF (s:=y) (st:=rows[y]) (aab hy);have lx:rows[x].length=2 ^ k:=ok.len _ (aat hx);have ly:rows[y].length=2 ^ k:=ok.len _ (aat hy);have p8:2 ^ k<=8:=by
   have:=ok.k3;have:k=0\/k=1\/k=2\/k=3:=by omega
   rcases this with rfl|rfl|rfl|rfl<;>decide
  have gx:rows.getD x []=rows[x]:=by simp[aag,hx]
  have gy:rows.getD y []=rows[y]:=by simp[aag,hy]
  have stx:∀i (hi:i<rows[x].length),Om.step rows x i=rows[x][i]:=λi hi=>by unfold Om.step;rw[gx];simp[aag,hi]
  have Yy:∀i (hi:i<rows[y].length),Om.step rows y i=rows[y][i]:=λi hi=>by unfold Om.step;rw[gy];simp[aag,hi]
  have W5:rx.length=2 ^ k:=by rw[e3.length,aaa,lx]
  have ryl:ry.length=2 ^ k:=by rw[f3.length,aaa,ly]
  refine⟨_,(by walk_at"c"),?_⟩;refine⟨aaO _,λL hL=>?_⟩;have R0:=Gr.start hL;refine⟨_,gt (R0.all _ _ ha) (by decide) rfl,.ref qx,gl (R0.all _ _ hb) (by omega) (by simpa using e1),⟨_,aN.of (R0.all _ _ e2)⟩,?_⟩;refine qo (fM _ qx rx) (λi σ H2=>∃(v4 v5 v6 v7:Option V)(G:Hp)(vs:List V)(ss:List Om.cL),σ=[some (.ref a),some (.int (x:Nat)),some (.int (y:Nat)),some (.ref L),v4,v5,v6,v7]/\Gr G H H2 L vs/\bO G vs (ss.map sD)/\ss.length<=i*8/\ss.Pairwise Om.yk/\∀s,s∈ss↔s.1.1<i/\Om.St rows x y s)
   ⟨none,none,none,none,_,[],[],rfl,R0,.nil,by simp,List.Pairwise.nil,by simp⟩ (λi σ H2 _ ⟨_,_,_,_,_,_,_,_,R,_⟩=>R.all _ _ e2) ?_ ?_
  ·intro i t σ H2 hi bP ht;refine az λak=>?_;obtain⟨v4,v5,v6,v7,G,vs,ss,rfl,R,hd,hl,ho,vC⟩:=bP;refine ak ?_;clear ak;have bI:i<rows[x].length:=by omega
   obtain⟨r,r1,r2⟩:=ia e3 (l:=i) (r:=rows[x][i]) (aab bI);have er:rx.getD i .bj = .ref r:=by rw[aag,r1];rfl
   have R1:=R.new (o:=.tup [.int (i:Nat),.ref r]) ht;dsimp only;rw[er];refine⟨_,.inl aa,rfl,rfl,?_⟩;refine⟨_,gt (R1.all _ _ ha) (by decide) rfl,.ref qy,gl (R1.all _ _ hb) (by omega) (by simpa using f1),⟨_,aN.of (R1.all _ _ f2)⟩,?_⟩;refine qo (fM _ qy ry) (λj σ H2=>∃(v6 v7:Option V)(G:Hp)(vs:List V)(ss:List Om.cL),σ=[some (.ref a),some (.int (x:Nat)),some (.int (y:Nat)),some (.ref L),some (.int (i:Nat)),some (.ref r),v6,v7]/\Gr G H H2 L vs/\bO G vs (ss.map sD)/\ss.length<=i*8+j/\ss.Pairwise Om.yk/\∀s,s∈ss↔(s.1.1<i\/(s.1.1=i/\s.1.2<j))/\Om.St rows x y s)
    ⟨v6,v7,G,vs,ss,rfl,R1,hd,by omega,ho,λs=>by rw[vC];constructor<;>rintro⟨h1,h2⟩<;>exact⟨by omega,h2⟩⟩ (λi σ H2 _ ⟨_,_,_,_,_,_,R,_⟩=>R.all _ _ f2) ?_ ?_
   ·intro j t2 σ H3 hj bP ZN;refine az λak=>?_;obtain⟨v6,v7,G,vs,ss,rfl,R2,hd,hl,ho,vC⟩:=bP;refine ak ?_;clear ak;have iA:j<rows[y].length:=by omega
    obtain⟨r',s1,s2⟩:=ia f3 (l:=j) (r:=rows[y][j]) (aab iA);have er':ry.getD j .bj = .ref r':=by rw[aag,s1];rfl
    have R3:=R2.new (o:=.tup [.int (j:Nat),.ref r']) ZN;dsimp only;rw[er'];refine⟨_,.inl aa,rfl,rfl,?_⟩;refine⟨_,gt (R3.all _ _ r2) (by decide) rfl,_,gt (R3.all _ _ s2) (by decide) rfl,?_⟩;have key:∀s:Om.cL,s.1.1=i->s.1.2=j->(Om.St rows x y s↔rows[x][i].1=rows[y][j].1/\s=((i,j),(rows[x][i].2,rows[y][j].2))):=by
     rintro⟨⟨a1,a2⟩,a3⟩ h1 h2;dsimp only at h1 h2;subst h1 h2;unfold Om.St;dsimp only;rw[gx,gy,stx _ bI,Yy _ iA];constructor
     ·rintro⟨_,_,h3,h4⟩;exact⟨h3,by rw[h4]⟩
     ·rintro⟨h3,h4⟩;exact⟨bI,iA,h3,(Prod.mk.inj h4).2⟩
    refine aO (λh1=>?_) (λh1=>⟨_,_,G,vs,ss,rfl,R3,hd,by omega,ho,λs=>?_⟩)
    ·have vt:=Eg (aaF h1);refine⟨⟨_,rfl,R3.hL⟩,?_⟩;refine⟨ai (aai rfl),λz hz=>?_⟩;have R4:=R3.put (o:=.tup [.int (i:Nat),.int (j:Nat)]) hz;have U4:=R3.up (o:=.tup [.int (i:Nat),.int (j:Nat)]) hz;refine⟨_,gt (R4.all _ _ r2) (by decide) rfl,_,gt (R4.all _ _ s2) (by decide) rfl,?_⟩;refine⟨ai (aai rfl),λz1 KU=>?_⟩;have R5:=R4.put (o:=.tup [.int (rows[x][i].2:Nat),.int (rows[y][j].2:Nat)]) KU;have U5:=R4.up (o:=.tup [.int (rows[x][i].2:Nat),.int (rows[y][j].2:Nat)]) KU;refine⟨ai (aai rfl),λz2 Ph=>?_⟩;have R6:=R5.put (o:=.tup [.ref z,.ref z1]) Ph;have U6:=R5.up (o:=.tup [.ref z,.ref z1]) Ph;have vl:vs.length=ss.length:=by rw[hd.length,aaa]
     refine⟨_,R6.hL,by rw[vl];exact bC (by omega),?_⟩;refine⟨_,_,_,vs++[.ref z2],ss++[((i,j),(rows[x][i].2,rows[y][j].2))],rfl,R6.set,?_,by simp;omega,Om.pw_app ho (λa ha=>by have:=((vC a).mp ha).1;show a.1.1<i\/(a.1.1=i/\a.1.2<j);exact this),λu=>?_⟩
     ·rw[aao];refine(hd.mono ((U4.trans U5).trans U6)).app (.cons (.tup aa (.cons ?_ (.cons ?_ .nil))) .nil)
      ·exact(zc (x:=(i,j)) aa).mono (U5.trans U6)
      ·exact(zc (x:=(rows[x][i].2,rows[y][j].2)) aa).mono U6
     ·rw[aay,vC,aaA];constructor
      ·rintro(⟨g1,g2⟩|g)
       ·exact⟨by omega,g2⟩
       ·subst g;exact⟨.inr ⟨rfl,acR _⟩,(key _ rfl rfl).mpr ⟨vt,rfl⟩⟩
      ·rintro⟨g1,g2⟩;by_cases c:u.1.1=i/\u.1.2=j
       ·exact .inr ((key _ c.1 c.2).mp g2).2
       ·exact .inl ⟨by omega,g2⟩
    ·have vt:¬rows[x][i].1=rows[y][j].1:=λz=>by rw[z]at h1;simp at h1
     rw[vC];constructor
     ·rintro⟨g1,g2⟩;exact⟨by omega,g2⟩
     ·rintro⟨g1,g2⟩;by_cases c:s.1.1=i/\s.1.2=j
      ·exact absurd ((key _ c.1 c.2).mp g2).1 vt
      ·exact⟨by omega,g2⟩
   ·intro σ H3 bP;refine az λak=>?_;obtain⟨v6,v7,G,vs,ss,rfl,R2,hd,hl,ho,vC⟩:=bP;refine ak ?_;clear ak;refine⟨_,_,_,_,G,vs,ss,rfl,R2,hd,by omega,ho,λs=>?_⟩;rw[vC];constructor
    ·rintro⟨g1,g2⟩;exact⟨by omega,g2⟩
    ·rintro⟨g1,g2⟩;refine⟨?_,g2⟩;have:=g2.2.1;rw[gy]at this;omega
  ·intro σ H2 bP;refine az λak=>?_;obtain⟨v4,v5,v6,v7,G,vs,ss,rfl,R,hd,hl,ho,vC⟩:=bP;refine ak ?_;clear ak;refine q L ss _ R.all hL (.lst R.hL (hd.mono R.s)) (by omega) ho λs=>?_;rw[vC];constructor
   ·exact λh=>h.2
   ·intro h;refine⟨?_,h⟩;have:=h.1;rw[gx]at this;omega
 ·exact h.elim
abbrev wF:Stmt:=top 20
def qL:Sp:=λvs H Q _=>match vs with
 | [cv,.ref sl]=>∃(k n:Nat)(rows:Om.Rows)(qs:List Nat),DV H cv (aR k n rows)/\Om.aq k n rows/\H sl=some (.lst (qs.map λi=>V.int (i:Nat)))/\qs.Pairwise (· < ·)/\(∀s∈qs,s<rows.length)/\∀v H',ah H H'->Tb 64 Om.yk H' v (λx y=>x∈qs/\y∈qs) (Om.St rows)->Q v H'
 | _=>False
theorem yX:ao ["code","states","graph","one","other"] ["code","states"] (ae wF):=⟨rfl,rfl,rfl,by decide +kernel,rfl,by decide +kernel,by decide +kernel⟩
local macro_rules|`(tactic|walk_at"a")=>`(tactic|(with_reducible exact mI))
local macro_rules|`(tactic|walk_at"d")=>`(tactic|((with_reducible refine' jx ?a0 ?a1 ?a2);(case a0=>exact av.units (by assumption));(case a1=>walk_at"a");(case a2=>walk_at"a")))
local macro_rules|`(tactic|walk_at"k")=>`(tactic|((with_reducible refine' qf ?a1);(case a1=>walk_at"a")))
theorem Ks{qs:List Nat}{i:Nat}{z:V}(h:(qs.map λi=>V.int (i:Nat))[i]? = some z):∃s,qs[i]? = some s/\z = .int (s:Nat):=by rw[aak]at h;obtain⟨j,h1,rfl⟩:=aaN.mp h;exact⟨j,h1,rfl⟩
theorem iW{qs:List Nat}(h:qs.Pairwise (· < ·)){i s x:Nat}(hi:qs[i]? = some s)(hx:x∈qs.take i):x<s:=by
 obtain⟨il,rfl⟩:=aaB.mp hi;obtain⟨j,hj⟩:=abS.mp hx;rw[List.getElem?_take]at hj;split at hj
 ·rename_i ji;have:=List.pairwise_iff_getElem.mp h j i (by omega) il ji;rw[aab (by omega)]at hj;have:=aaw hj;omega
 ·cases hj
theorem pb{qs:List Nat}{i s x:Nat}(hi:qs[i]? = some s):x∈qs.take (i+1)↔x∈qs.take i\/x=s:=by rw[aaL,hi,aay];simp
theorem EY(D:bX K mg "pair_graph" wF ["code","states"])(c1:aJ P w K mg base "pair_steps" 1 ["code","one","other"] iZ):aJ P w K mg base "pair_graph" 2 ["code","states"] qL:=by
 refine ar (k:=1) D yX (λvs H Q E h=>?_) (λf aA A outer s H vs Q E hr h=>?_)
 all_goals
  unfold qL at h;split at h
 ·rfl
 ·exact h.elim
 ·rename_i cv sl;refine az λak=>?_;obtain⟨k,n,rows,qs,hc,ok,Gp,pw,lt,q⟩:=h;refine ak ?_;clear ak;have nd:=yX.nd;have s8:=ok.s8;refine⟨_,(by walk_at"c"),?_⟩;intro D hD;have M0:=Gd.start hD;refine⟨⟨_,aN.of (M0.all _ _ Gp)⟩,?_⟩;refine bL (aE _ sl _) (λi σ H2=>∃(v3 v4:Option V)(G:Hp)(ag:List (List Key×V))(ks:List (Nat×Nat)),σ=[some cv,some (.ref sl),some (.ref D),v3,v4]/\Gd G H H2 D ag/\KD ks ag/\kq G ag ks (Om.St rows) ∧
    ks.Pairwise Om.BV/\∀x y,(x,y)∈ks↔x∈qs.take i/\y∈qs)
   ⟨none,none,_,[],[],rfl,M0,KD.nil,(λp hp=>nomatch hp),List.Pairwise.nil,λx' y'=>by simp⟩ (λi σ H2 _ ⟨_,_,_,_,_,_,M,_⟩=>aN.of (M.all _ _ Gp)) ?_ ?_
  ·intro i z σ H2 hi hz bP;refine az λak=>?_;obtain⟨v3,v4,G,ag,ks,rfl,M,kd,hv,ho,hm⟩:=bP;refine ak ?_;clear ak;obtain⟨si,Sq,rfl⟩:=Ks hz;have Pf:=lt _ (aaP Sq);refine⟨⟨_,aN.of (M.all _ _ Gp)⟩,?_⟩;refine bL (aE _ sl _) (λj σ H2=>∃(v4:Option V)(G:Hp)(ag:List (List Key×V))(ks:List (Nat×Nat)),σ=[some cv,some (.ref sl),some (.ref D),some (.int (si:Nat)),v4]/\Gd G H H2 D ag/\KD ks ag/\kq G ag ks (Om.St rows) ∧
     ks.Pairwise Om.BV/\∀x y,(x,y)∈ks↔(x∈qs.take i/\y∈qs)\/(x=si/\y∈qs.take j))
    ⟨v4,G,ag,ks,rfl,M,kd,hv,ho,λx' y'=>by rw[hm];simp⟩ (λi σ H2 _ ⟨_,_,_,_,_,M,_⟩=>aN.of (M.all _ _ Gp)) ?_ ?_
   ·intro j z σ H3 hj hz bP;refine az λak=>?_;obtain⟨v4,G,ag,ks,rfl,M,kd,hv,ho,hm⟩:=bP;refine ak ?_;clear ak;obtain⟨sj,So,rfl⟩:=Ks hz;have Zd:=lt _ (aaP So);refine⟨k,n,rows,si,sj,rfl,rfl,hc.mono M.all,ok,Pf,Zd,λl ss H4 s4 Su cF JY Ur tq=>?_⟩;obtain⟨G1,M1,gg,he⟩:=M.call s4;have BP:Gy G1 l ss:=DV.lt (Lt.but M1.hD he) cF;have ZI:=hv.mono gg;refine⟨ai (aai rfl),λt ht=>?_⟩;have M2:=M1.put (o:=.tup [.int (si:Nat),.int (sj:Nat)]) ht;have U2:=M1.up (o:=.tup [.int (si:Nat),.int (sj:Nat)]) ht;have F8:(si,sj) ∉ ks:=λz=>by
     rcases(hm _ _).mp z with⟨h1,_⟩|⟨_,h1⟩
     ·exact absurd (iW pw Sq h1) (abm _)
     ·exact absurd (iW pw So h1) (abm _)
    refine .inr ⟨_,_,rfl,.inr ⟨ag,kk (si,sj),t,M2.hD,rfl,aa,kd.bC,rfl⟩,?_⟩;refine⟨_,_,_,_,rfl,M2.set,kd.put (v:=.ref l) F8 (by show si<8;omega) (by show sj<8;omega),(ZI.mono U2).put F8 (BP.mono U2) JY Ur tq,Om.pw_app ho (λa ha=>by
     rcases(hm a.1 a.2).mp ha with⟨h1,_⟩|⟨h1,h2⟩
     ·exact .inl (iW pw Sq h1)
     ·exact .inr ⟨h1,iW pw So h2⟩),λx' y'=>?_⟩
    rw[aay,hm,aaA,Prod.mk.injEq,pb So];constructor
    ·rintro((h|h)|h)
     ·exact .inl h
     ·exact .inr ⟨h.1,.inl h.2⟩
     ·exact .inr ⟨h.1,.inr h.2⟩
    ·rintro(h|⟨h,h2|h2⟩)
     ·exact .inl (.inl h)
     ·exact .inl (.inr ⟨h,h2⟩)
     ·exact .inr ⟨h,h2⟩
   ·intro σ H3 bP;refine az λak=>?_;obtain⟨v4,G,ag,ks,rfl,M,kd,hv,ho,hm⟩:=bP;refine ak ?_;clear ak;refine⟨_,_,G,ag,ks,rfl,M,kd,hv,ho,λx' y'=>?_⟩;rw[hm,aaa,aaY,pb Sq];constructor
    ·rintro(h|h)
     ·exact⟨.inl h.1,h.2⟩
     ·exact⟨.inr h.1,h.2⟩
    ·rintro⟨h|h,h2⟩
     ·exact .inl ⟨h,h2⟩
     ·exact .inr ⟨h,h2⟩
  ·intro σ H2 bP;refine az λak=>?_;obtain⟨v3,v4,G,ag,ks,rfl,M,kd,hv,ho,hm⟩:=bP;refine ak ?_;clear ak;refine .inl ⟨_,M.hD,trivial,λo=>?_⟩;refine q _ _ (M.s0.trans M.eA) ⟨D,o,ag,ks,rfl,aa,kd,λx' y'=>?_,ho,hv.mono M.eA⟩;rw[hm,aaa,aaY]
 ·exact h.elim
end
def gH(rows:Om.Rows)(qs:List Nat):Prop:=qs.Pairwise (· < ·)/\(∀s,s∈qs↔Om.vG (Om.vm rows) s)/\qs.length<=8
theorem uy:∀{l m:List Nat},l.Pairwise (· < ·)->m.Pairwise (· < ·)->(∀x,x∈l↔x∈m)->l=m
 | [],[],_,_,_=>rfl
 | [],b::m,_,_,h=>absurd ((h b).mpr (aah ..)) (by simp)
 | a::l,[],_,_,h=>absurd ((h a).mp (aah ..)) (by simp)
 | a::l,b::m,hl,hm,h=>by
  rw[abD]at hl hm;have e:a=b:=by
   rcases aau.mp ((h a).mp aah)with z|z
   ·exact z
   ·rcases aau.mp ((h b).mpr aah)with y|y
    ·exact y.symm
    ·have:=hm.1 a z;have:=hl.1 b y;omega
  subst e;rw[uy hl.2 hm.2 λx=>⟨λz=>?_,λz=>?_⟩]
  ·rcases aau.mp ((h x).mp (aaf _ z))with y|y
   ·have:=hl.1 x z;omega
   ·exact y
  ·rcases aau.mp ((h x).mpr (aaf _ z))with y|y
   ·have:=hm.1 x z;omega
   ·exact y
theorem gH.uniq{rows:Om.Rows}{qs nU:List Nat}(h:gH rows qs)(h':gH rows nU):qs=nU:=uy h.1 h'.1 λs=>(h.2.1 s).trans (h'.2.1 s).symm
abbrev cH:=(Nat×Nat)×(Nat×(Nat×Nat))
noncomputable def gS(rows:Om.Rows)(p:Nat×Nat):List Om.cL:=Om.canon Om.yk (Om.St rows p.1 p.2)
noncomputable def gK(qs:List Nat):List (Nat×Nat):=Om.canon Om.BV λp=>p.1∈qs/\p.2∈qs
def bW(s:Nat)(acc:List cH)(t:Om.cL):List cH:=if t.1.1=t.1.2\/t.2∈acc.map (·.1)then acc else acc++[(t.2,(s,t.1))]
noncomputable def JP(rows:Om.Rows)(acc:List cH)(s:Nat):List cH:=(gS rows (s,s)).foldl (bW s) acc
noncomputable def OO(rows:Om.Rows)(qs:List Nat):List cH:=qs.foldl (JP rows) []
theorem Ex{s:Nat}{acc:List cH}{t:Om.cL}{e:cH}(h:e∈bW s acc t):e∈acc\/(e=(t.2,(s,t.1))/\t.1.1≠t.1.2):=by
 unfold bW at h;by_cases c:t.1.1=t.1.2\/t.2∈acc.map (·.1)
 ·rw[aaz c]at h;exact .inl h
 ·rw[aar c,aay,aaA]at h;exact h.imp id λe=>⟨e,λz=>c (.inl z)⟩
theorem pq{s:Nat}:∀{l:List Om.cL}{acc:List cH}{e:cH},e∈l.foldl (bW s) acc->e∈acc\/∃t∈l,e=(t.2,(s,t.1))/\t.1.1≠t.1.2
 | [],_,_,h=>.inl h
 | t::l,acc,e,h=>by
  rcases pq (l:=l) h with h|⟨t',h1,h2⟩
  ·rcases Ex h with h|h
   ·exact .inl h
   ·exact .inr ⟨t,aah,h⟩
  ·exact .inr ⟨t',aaf _ h1,h2⟩
theorem zk{rows:Om.Rows}:∀{qs:List Nat}{acc:List cH}{e:cH},e∈qs.foldl (JP rows) acc->e∈acc\/∃s∈qs,∃t∈gS rows (s,s),e=(t.2,(s,t.1))/\t.1.1≠t.1.2
 | [],_,_,h=>.inl h
 | s::qs,acc,e,h=>by
  rcases zk (qs:=qs) h with h|⟨s',h1,h2⟩
  ·rcases pq h with h|⟨t,h1,h2⟩
   ·exact .inl h
   ·exact .inr ⟨s,aah,t,h1,h2⟩
  ·exact .inr ⟨s',aaf _ h1,h2⟩
theorem NG{rows:Om.Rows}{qs:List Nat}{e:cH}(h:e∈OO rows qs):∃s∈qs,∃t∈gS rows (s,s),e=(t.2,(s,t.1))/\t.1.1≠t.1.2:=(zk h).resolve_left (λz=>nomatch z)
def OU(H:Hp)(ag:List (List Key×V))(e:cH):Prop:=∃t la,aG ag (kk e.1)=some (.ref t)/\H t=some (.tup [.int (e.2.1:Nat),.ref la])/\H la=some (.tup [.int (e.2.2.1:Nat),.int (e.2.2.2:Nat)])
def BJ(H:Hp)(v:V)(fs:List cH):Prop:=∃a o ag,v = .ref a/\H a=some (.eA o (.dT ag))/\KD (fs.map (·.1)) ag/\∀e∈fs,OU H ag e
theorem OU.keep{H H':Hp}{ag:List (List Key×V)}{e:cH}(h:OU H ag e)(k:∀b ys,H b=some (.tup ys)->H' b=some (.tup ys)):OU H' ag e:=by obtain⟨t,la,h1,h2,h3⟩:=h;exact⟨t,la,h1,k _ _ h2,k _ _ h3⟩
theorem BJ.mono{H H':Hp}{v:V}{fs:List cH}(h:BJ H v fs)(s:ah H H'):BJ H' v fs:=by obtain⟨a,o,ag,e,h1,h2,h3⟩:=h;exact⟨a,o,ag,e,s _ _ h1,h2,λe he=>(h3 e he).keep λ_ _ x=>s _ _ x⟩
theorem Tab.V0{P0 D:Addr}{c:Pos}{q:Str}{H H':Hp}{kv:List (List Key×V)}(t:Tab P0 c q H)(n:P0≠D)(hD:H D=some (.dT kv))(s:aw D H H'):Tab P0 c q H':=by
 rcases t with e|⟨d,e1,e2⟩
 ·exact .inl (s _ _ n e)
 ·exact .inr ⟨d,s _ _ n e1,s _ _ (λz=>by rw[z,hD]at e2;cases e2) e2⟩
section
abbrev TK:Stmt:=top 53
def Lh(P0:Addr):Sp:=λvs H Q _=>match vs with
 | [cv]=>∃(k n:Nat)(rows:Om.Rows),DV H cv (aR k n rows)/\Om.aq k n rows/\Tab P0 (aC aP) fi H ∧
   ∀v (qs:List Nat) H',aw P0 H H'->Tab P0 (aC aP) fi H'->gH rows qs->BJ H' v (OO rows qs)->Q v H'
 | _=>False
theorem Qd:ao ["code","pairs","state","label","pair"] ["code"] (ae TK):=⟨rfl,rfl,rfl,by decide +kernel,rfl,by decide +kernel,by decide +kernel⟩
local macro_rules|`(tactic|walk_at"a")=>`(tactic|(with_reducible exact mI))
local macro_rules|`(tactic|walk_at"l")=>`(tactic|((with_reducible refine' cO ?a1);(case a1=>exact av.units (by assumption))))
local macro_rules|`(tactic|walk_at"d")=>`(tactic|((with_reducible refine' jx ?a0 ?a1 ?a2);(case a0=>exact av.units (by assumption));(case a1=>walk_at"a");(case a2=>walk_at"a")))
local macro_rules|`(tactic|walk_at"k")=>`(tactic|((with_reducible refine' qf ?a1);(case a1=>walk_at"a")))
theorem Rh{P0:Addr}(D:bX K mg "first_pairs" TK ["code"])(c1:aJ P w K mg base "reached" 4 ["code"] (gi P0))(c2:aJ P w K mg base "pair_steps" 1 ["code","one","other"] iZ):aJ P w K mg base "first_pairs" 5 ["code"] (Lh P0):=by
 refine ar (k:=4) D Qd (λvs H Q E h=>?_) (λf aA A outer s H vs Q E hr h=>?_)
 all_goals
  unfold Lh at h;split at h
 ·rfl
 ·exact h.elim
 ·rename_i cv;obtain⟨k,n,rows,hc,ok,tb,q⟩:=h;have nd:=Qd.nd;have s8:=ok.s8;refine⟨_,(by walk_at"c"),?_⟩;intro D hD;have u1:=ah.upd (o:=.dT []) hD;have ki:upd H D (.dT []) D=some (.dT []):=aa;have R8:=tb.mono u1;generalize upd H D (.dT [])=H1 at u1 ki R8;refine⟨k,n,rows,hc.mono u1,ok,R8,λsl qs H2 s2 t2 TV Gp pw mem q8=>?_⟩;have rc:gH rows qs:=⟨pw,mem,q8⟩
  have DP:D≠P0:=λz=>by obtain⟨ps,e⟩:=R8.eL;rw[<-z,ki]at e;cases e
  have BS:=s2 _ _ DP ki;have YD:sl≠D:=λz=>by rw[z,ki]at TV;cases TV
  have OF:=(hc.mono u1).dC R8 s2;have lt:∀s∈qs,s<rows.length:=λs hs=>Om.wM ok _ ((mem s).mp hs);refine⟨⟨_,aN.of Gp⟩,?_⟩;have SH:∀{Hx:Hp},aw D H2 Hx->aw P0 H Hx:=λ{Hx} s3 b o nb e=>s3 _ _ (aj e hD) (s2 _ _ nb (u1 _ _ e));refine bL (aE _ sl (qs.map λs=>V.int (s:Nat))) (λi σ H3=>∃(v2 v3 v4:Option V)(ag:List (List Key×V))(acc:List cH),σ=[some cv,some (.ref D),v2,v3,v4]/\aw D H2 H3/\H3 D=some (.dT ag)/\KD (acc.map (·.1)) ag/\(∀e∈acc,OU H3 ag e)/\acc=(qs.take i).foldl (JP rows) [])
   ⟨none,none,none,[],[],rfl,aw.refl _ _,BS,KD.nil,(λe he=>nomatch he),rfl⟩ (λi σ H3 _ ⟨_,_,_,_,_,_,s3,_⟩=>aN.of (s3 _ _ YD Gp)) ?_ ?_
  ·intro i v σ H3 hi hv bP;refine az λak=>?_;obtain⟨v2,v3,v4,ag,tx,rfl,s3,PM,kd,fa,ea⟩:=bP;refine ak ?_;clear ak;rw[aaa]at hi;rw[aak,aab hi]at hv;cases hv;have Pf:=lt _ (aat hi);have wX:=Om.gw (JP rows) [] hi;rw[<-ea]at wX;generalize qs[i]=st at Pf wX;have SE:DV H3 cv (aR k n rows):=hc.dC tb (SH s3);dsimp only[aQ];refine⟨k,n,rows,st,st,rfl,rfl,SE,ok,Pf,Pf,λl ss H4 s4 nl cF JY Ur tq=>?_⟩;have egs:gS rows (st,st)=ss:=Om.ja (λ_ _=>Om.yk.as) Ur tq;obtain⟨l',xs,e,hl,Pj⟩:=(show DV H4 (.ref l) (.list (ss.map sD))from cF).lst_inv;cases e;have xl:xs.length=ss.length:=by rw[Pj.length,aaa]
   have XN:=s4 _ _ PM;have lD:l≠D:=λz=>by rw[z,PM]at nl;cases nl
   refine⟨⟨_,aN.of hl⟩,?_⟩;refine bL (aE _ l xs) (λj σ H5=>∃(v3 v4:Option V)(ag:List (List Key×V))(acc:List cH),σ=[some cv,some (.ref D),some (.int (st:Nat)),v3,v4]/\aw D H4 H5/\H5 D=some (.dT ag)/\KD (acc.map (·.1)) ag/\(∀e∈acc,OU H5 ag e)/\acc=(ss.take j).foldl (bW st) tx)
    ⟨v3,v4,ag,tx,rfl,aw.refl _ _,XN,kd,(λe he=>(fa e he).keep λ_ _ x=>s4 _ _ x),rfl⟩ (λi σ H5 _ ⟨_,_,_,_,_,s5,_⟩=>aN.of (s5 _ _ lD hl)) ?_ ?_
   ·clear kd fa;intro j z σ H5 hj hz bP;refine az λak=>?_;obtain⟨v3,v4,ag,acc,rfl,s5,OL,kd,fa,ej⟩:=bP;refine ak ?_;clear ak;have iA:j<ss.length:=by rw[<-xl];exact hj
    have es:ss[j]? = some ss[j]:=aab iA;have gP:=Om.gw (bW st) tx iA;rw[<-ej]at gP;have sE:ss[j]∈ss:=aat iA;generalize ss[j]=sj at *
    obtain⟨z',Ov,dz⟩:=Pj.get (i:=j) (d:=sD sj) (by rw[aak,es];rfl);rw[hz]at Ov;cases Ov;obtain⟨p,a,c,rfl,h1,h2,h3⟩:=Dw dz;have tD:∀{b:Addr}{ys:List V},H4 b=some (.tup ys)->H5 b=some (.tup ys):=λ{b ys} e=>s5 _ _ (cc e XN (λz=>nomatch z)) e;have UI:=tD h2;have PC:H5 c=some (.tup ((kk sj.2).map kV)):=tD h3;refine⟨_,.inl (tD h1),rfl,rfl,?_⟩;refine⟨_,gt UI (by decide) rfl,_,gt UI (by decide) rfl,?_⟩;refine aO (λc1=>?_) (λc1=>?_)
    ·have ne:sj.1.1≠sj.1.2:=λz=>by rw[z]at c1;simp[Ln,tj]at c1
     refine⟨_,_,rfl,.inr ⟨ag,kk sj.2,c,.inl OL,rfl,PC,rfl⟩,?_⟩;refine aO (λc2=>?_) (λc2=>?_)
     ·have F8:sj.2 ∉ acc.map (·.1):=λz=>by have:=kd.mem.mpr z;rw[this]at c2;cases c2
      have hb:sj.2.1<8/\sj.2.2<8:=by obtain⟨g1,g2,_,g4⟩:=(tq sj).mp sE;rw[g4];exact⟨aaG (ok.KO g1).2.2 s8,aaG (ok.KO g2).2.2 s8⟩
      refine⟨ai (aai rfl),λt ht=>?_⟩;have u6:=ah.upd (o:=.tup [.int (st:Nat),.ref a]) ht;have Sn:upd H5 t (.tup [.int (st:Nat),.ref a]) t=some (.tup [.int (st:Nat),.ref a]):=aa;have UR:=u6 _ _ OL;generalize upd H5 t (.tup [.int (st:Nat),.ref a])=H6 at u6 Sn UR;refine .inr ⟨_,_,rfl,.inr ⟨ag,kk sj.2,c,UR,rfl,u6 _ _ PC,kd.bC,rfl⟩,?_⟩;have kt:∀{b:Addr}{ys:List V},H6 b=some (.tup ys)->upd H6 D (.dT (putK ag (kk sj.2) (.ref t))) b=some (.tup ys):=λ{b ys} e=>by rw[af (cc e UR (λz=>nomatch z))];exact e
      refine⟨_,_,_,acc++[(sj.2,(st,sj.1))],rfl,λb o nb e=>by rw[af nb];exact u6 _ _ (s5 _ _ nb e),aa,?_,λe he=>?_,?_⟩
      ·rw[aao];exact kd.put (v:=.ref t) F8 hb.1 hb.2
      ·rcases aay.mp he with he|he
       ·obtain⟨t',la,k1,k2,k3⟩:=fa e he;have Y6:e.1≠sj.2:=λz=>F8 (z▸abc he);exact⟨t',la,by rw[fP Y6];exact k1,kt (u6 _ _ k2),kt (u6 _ _ k3)⟩
       ·have:e=(sj.2,(st,sj.1)):=by simpa using he
        subst this;exact⟨t,a,fQ,kt Sn,kt (u6 _ _ UI)⟩
      ·rw[gP];unfold bW;rw[aar (λz=>z.elim ne F8)]
     ·have isin:sj.2∈acc.map (·.1):=kd.mem.mp (by
       cases hq:(aG ag (kk sj.2)).isSome with
       | true=>rfl
       | false=>rw[hq]at c2;exact absurd rfl c2)
      exact⟨_,_,ag,acc,rfl,s5,OL,kd,fa,by rw[gP];unfold bW;rw[aaz (.inr isin)]⟩
    ·have eq:sj.1.1=sj.1.2:=by
      by_cases e:sj.1.1=sj.1.2
      ·exact e
      ·exact absurd (by show(!decide (((sj.1.1:Nat):Int)=((sj.1.2:Nat):Int)))=true;rw[aaT (λz=>e (by omega))];rfl) c1
     exact⟨_,_,ag,acc,rfl,s5,OL,kd,fa,by rw[gP];unfold bW;rw[aaz (.inl eq)]⟩
   ·intro σ H5 bP;refine az λak=>?_;obtain⟨v3,v4,ag,acc,rfl,s5,OL,kd,fa,ej⟩:=bP;refine ak ?_;clear ak;refine⟨_,_,_,ag,acc,rfl,λb o nb e=>s5 _ _ nb (s4 _ _ (s3 _ _ nb e)),OL,kd,fa,?_⟩;rw[xl,aaY]at ej;rw[wX,ej];show _=(gS rows (st,st)).foldl (bW st) tx;rw[egs]
  ·intro σ H3 bP;refine az λak=>?_;obtain⟨v2,v3,v4,ag,acc,rfl,s3,PM,kd,fa,ea⟩:=bP;refine ak ?_;clear ak;rw[aaa,aaY]at ea;refine .inl ⟨_,PM,trivial,λo=>?_⟩;have kf:∀b ys,H3 b=some (.tup ys)->upd H3 D (.eA o (.dT ag)) b=some (.tup ys):=λb ys e=>by rw[af (cc e PM (λz=>nomatch z))];exact e
   have s4:aw D H2 (upd H3 D (.eA o (.dT ag))):=λb u nb e=>by rw[af nb];exact s3 _ _ nb e
   refine q _ qs _ (SH s4) (Tab.V0 t2 (aa5 DP) BS s4) rc ⟨D,o,ag,rfl,aa,by unfold OO;rw[<-ea];exact kd,λe he=>(fa e (by rw[ea];exact he)).keep kf⟩
 ·exact h.elim
end
section
abbrev wB:Stmt:=top 23
def qJ:Sp:=λvs H Q _=>match vs with
 | [lv,gv]=>∃(c:Nat)(kE fX:List (Nat×Nat))(g:Nat×Nat->List Om.cL),Vy H lv kE/\Gg c H gv fX g/\(∀p∈kE,p∈fX)/\(∀p∈fX,∀s∈g p,s.2∈fX)/\∀v H',ah H H'->yj H' v (Om.G3 g kE)->Q v H'
 | _=>False
theorem yU:ao ["layer","graph","behind","node","label","to"] ["layer","graph"] (ae wB):=⟨rfl,rfl,rfl,by decide +kernel,rfl,by decide +kernel,by decide +kernel⟩
local macro_rules|`(tactic|walk_at"a")=>`(tactic|first|(with_reducible exact mI)|((with_reducible refine' ma ?a0 ?a1 ?a2);(case a0=>exact av.units (by assumption));(case a1=>walk_at"a");(case a2=>walk_at"a")))
local macro_rules|`(tactic|walk_at"e")=>`(tactic|((with_reducible refine' HJ ?a1);(case a1=>walk_at"a")))
local macro_rules|`(tactic|walk_at"l")=>`(tactic|((with_reducible refine' cO ?a1);(case a1=>exact av.units (by assumption))))
local macro_rules|`(tactic|walk_at"d")=>`(tactic|((with_reducible refine' jx ?a0 ?a1 ?a2);(case a0=>exact av.units (by assumption));(case a1=>walk_at"a");(case a2=>walk_at"a")))
local macro_rules|`(tactic|walk_at"k")=>`(tactic|((with_reducible refine' qf ?a1);(case a1=>walk_at"a")))
theorem EV(D:bX K mg "layer_behind" wB ["layer","graph"]):aJ P w K mg base "layer_behind" 1 ["layer","graph"] qJ:=by
 refine ar (k:=0) D yU (λvs H Q E h=>?_) (λf aA A outer s H vs Q E hr h=>?_)
 all_goals
  unfold qJ at h;split at h
 ·rfl
 ·exact h.elim
 ·rename_i lv gv;refine az λak=>?_;obtain⟨cN,kE,fX,g,Ux,Sw,vT,nK,q⟩:=h;refine ak ?_;clear ak;have nd:=yU.nd;obtain⟨la,lo,GN,rfl,Ss,Ou⟩:=Ux;obtain⟨ga,go,vU,rfl,OC,ON,vD⟩:=Sw;refine⟨_,(by walk_at"c"),?_⟩;intro D hD;have M0:=Gd.start hD;refine .inr (.inl ⟨lo,GN,M0.all _ _ Ss,λbs K4=>?_⟩);have OG:=Ou.LM K4;have Ws:eh H GN bs:=Paired.zT K4 λx b e=>by
   have:b≠D:=λz=>by subst z;rw[aa]at e;cases e
   rw[af this]at e;exact e
  have le:kE.length<=64:=Ou.le;refine bL (IK la lo (bs.map V.ref)) (λi σ H2=>∃(v3 v4 v5:Option V)(G:Hp)(ag:List (List Key×V))(acc:List Om.Ent),σ=[some (.ref la),some (.ref ga),some (.ref D),v3,v4,v5]/\Gd G H H2 D ag/\eh H2 GN bs/\KD (acc.map (·.1)) ag/\(∀e∈acc,oz G ag e)/\acc=(kE.take i).foldl (Om.tK g) [])
   ⟨none,none,none,_,[],[],rfl,M0,K4,KD.nil,(λp hp=>nomatch hp),rfl⟩ (λi σ H2 _ ⟨_,_,_,_,_,_,_,M,_⟩=>⟨_,M.all _ _ Ss⟩) ?_ ?_
  ·intro i z σ H2 hi hz bP;refine az λak=>?_;obtain⟨v3,v4,v5,G,ag,tx,rfl,M,sX,kd,cF,Z4⟩:=bP;refine ak ?_;clear ak;have bI:i<kE.length:=by rw[<-OG];exact hi
   obtain⟨b,rfl,hb⟩:=Ou.key sX bI hz;have hbH:H b=some (.tup ((kk kE[i]).map kV)):=by obtain⟨b',e,h⟩:=Ou.key Ws bI hz;cases e;exact h
   have pg:kE[i]∈fX:=vT _ (aat bI);obtain⟨l,g1,g2,g3⟩:=vD kE[i] pg;obtain⟨l',xs,e,hl,Pj⟩:=g2.lst_inv;cases e;have Z9:gJ H2 ga (.ref b) (some (.ref l)):=.inr ⟨vU,kk kE[i],b,.inr ⟨go,M.all _ _ OC⟩,rfl,hb,g1.symm⟩;refine .inr ⟨_,_,rfl,Z9,?_⟩;refine .inl ⟨⟨_,aN.of (M.all _ _ hl)⟩,?_⟩;have xl:xs.length=(g kE[i]).length:=by rw[Pj.length,aaa]
   refine bL (aE _ l xs) (λj σ H3=>∃(v4 v5:Option V)(G:Hp)(ag:List (List Key×V))(acc:List Om.Ent),σ=[some (.ref la),some (.ref ga),some (.ref D),some (.ref b),v4,v5]/\Gd G H H3 D ag/\eh H3 GN bs/\KD (acc.map (·.1)) ag/\(∀e∈acc,oz G ag e)/\H3 b=some (.tup ((kk kE[i]).map kV))/\acc=((g kE[i]).take j).foldl (Om.vP kE[i]) tx)
    ⟨v4,v5,G,ag,tx,rfl,M,sX,kd,cF,hb,rfl⟩ (λi σ H2 _ ⟨_,_,_,_,_,_,M,_⟩=>aN.of (M.all _ _ hl)) ?_ ?_
   ·intro j z σ H3 hj hz bP;refine az λak=>?_;obtain⟨v4,v5,G,ag,acc,rfl,M,sX,kd,cF,hb,hm⟩:=bP;refine ak ?_;clear ak;have iA:j<(g kE[i]).length:=by rw[<-xl];exact hj
    have es:(g kE[i])[j]? = some (g kE[i])[j]:=aab iA;have gP:=Om.gw (Om.vP kE[i]) tx iA;rw[<-hm]at gP;have sE:(g kE[i])[j]∈g kE[i]:=aat iA;generalize(g kE[i])[j]=sj at *
    obtain⟨z',Ov,dz⟩:=Pj.get (i:=j) (d:=sD sj) (by rw[aak,es];rfl);rw[hz]at Ov;cases Ov;obtain⟨p,a,c,rfl,h1,h2,h3⟩:=Dw dz;refine⟨_,.inl (M.all _ _ h1),rfl,rfl,?_⟩;have SE:H3 c=some (.tup ((kk sj.2).map kV)):=M.all _ _ h3;refine⟨_,_,rfl,.inr ⟨ag,kk sj.2,c,.inl M.hD,rfl,SE,rfl⟩,?_⟩;refine aO (λc1=>?_) (λc1=>?_)
    ·have F8:sj.2 ∉ acc.map (·.1):=λz=>by have:=kd.mem.mpr z;rw[this]at c1;cases c1
     rw[Om.uq F8]at gP;refine⟨ai (aai rfl),λt ht=>?_⟩;have M1:=M.put (o:=.tup [.ref b,.ref a]) ht;have tD:D≠t:=aj M.hD ht;have b8:=ON.lt _ (nK _ pg _ sE);refine .inr ⟨_,_,rfl,.inr ⟨ag,kk sj.2,c,M1.hD,rfl,ah.upd ht _ _ SE,kd.bC,rfl⟩,?_⟩;have sm:ah H3 (upd H3 t (.tup [.ref b,.ref a])):=ah.upd ht;refine⟨_,_,_,_,acc++[(sj.2,(kE[i],sj.1))],rfl,M1.set,?_,?_,?_,?_,gP.symm⟩
     ·refine Paired.zT sX λp b' h=>?_;have:b'≠D:=cc h M.hD (λz=>nomatch z);rw[af this];exact sm _ _ h
     ·rw[aao];exact kd.put (v:=.ref t) F8 b8.1 b8.2
     ·intro e he;have U1:=M.up (o:=.tup [.ref b,.ref a]) ht;rcases aay.mp he with he|he
      ·obtain⟨t',pa,Zp,k1,k2,k3,k4⟩:=cF e he;have ne:e.1≠sj.2:=λz=>F8 (z▸abc he);exact⟨t',pa,Zp,by rw[fP ne];exact k1,U1 _ _ k2,U1 _ _ k3,U1 _ _ k4⟩
      ·have:e=(sj.2,(kE[i],sj.1)):=by simpa using he
       subst this;exact⟨t,b,a,fQ,aa,U1 _ _ (M.s0 _ _ hbH),U1 _ _ (M.s0 _ _ h2)⟩
     ·have:b≠D:=cc hb M.hD (λz=>nomatch z);rw[af this];exact sm _ _ hb
    ·have isin:sj.2∈acc.map (·.1):=kd.mem.mp (by
      cases hq:(aG ag (kk sj.2)).isSome with
      | true=>rfl
      | false=>rw[hq]at c1;exact absurd rfl c1)
     rw[Om.uo isin]at gP;exact⟨_,_,G,ag,acc,rfl,M,sX,kd,cF,hb,gP.symm⟩
   ·intro σ H3 bP;refine az λak=>?_;obtain⟨v4,v5,G,ag,acc,rfl,M,sX,kd,cF,hb,hm⟩:=bP;refine ak ?_;clear ak;refine⟨_,_,_,G,ag,acc,rfl,M,sX,kd,cF,?_⟩;rw[xl,aaY]at hm;rw[Om.gw _ _ bI,<-Z4];exact hm
  ·intro σ H2 bP;refine az λak=>?_;obtain⟨v3,v4,v5,G,ag,acc,rfl,M,sX,kd,cF,hm⟩:=bP;refine ak ?_;clear ak;rw[OG,aaY]at hm;refine .inl ⟨_,M.hD,trivial,λo=>?_⟩;refine q _ _ (M.s0.trans M.eA) ?_;show yj _ _ (kE.foldl (Om.tK g) []);rw[<-hm];exact⟨D,o,ag,rfl,aa,kd,λe he=>(cF e he).mono M.eA⟩
 ·exact h.elim
end
def fg(H:Hp)(v:V)(g:Nat×Nat->List Om.cL)(fs:List cH):Nat->Prop
 | 0=>BJ H v fs
 | i+1=>yj H v (Om.lay g (fs.map (·.1)) (i+1))
section
variable{H H':Hp}{v:V}{g:Nat×Nat->List Om.cL}{fs:List cH}
theorem fg.mono(s:ah H H'):∀{i:Nat},fg H v g fs i->fg H' v g fs i
 | 0,h=>BJ.mono h s
 | _+1,h=>yj.mono h s
theorem fg.k:∀{i:Nat},fg H v g fs i->Vy H v (Om.iD g (fs.map (·.1)) i)
 | 0,h=>by
  obtain⟨a,o,ag,e,h1,h2,h3⟩:=(show BJ H v fs from h)
  rw[Om.jY];exact⟨a,o,ag,e,h1,h2⟩
 | _+1,h=>yj.k h
theorem BJ.vK{L:Addr}{xs ys:List V}(hL:H L=some (.lst xs))(h:BJ H v fs):BJ (upd H L (.lst ys)) v fs:=by obtain⟨a,o,ag,e,h1,h2,h3⟩:=h;exact⟨a,o,ag,e,Ot hL h1 (λ_ z=>nomatch z),h2,λe he=>(h3 e he).keep λb ws x=>Ot hL x (λ_ z=>nomatch z)⟩
theorem fg.vK{L:Addr}{xs ys:List V}(hL:H L=some (.lst xs)):∀{i:Nat},fg H v g fs i->fg (upd H L (.lst ys)) v g fs i
 | 0,h=>BJ.vK hL h
 | _+1,h=>yj.vK hL h
end
section
abbrev rf:Stmt:=top 22
def mj:Sp:=λvs H Q _=>match vs with
 | [fv,.ref ga]=>∃(c:Nat)(fs:List cH)(fX:List (Nat×Nat))(g:Nat×Nat->List Om.cL),BJ H fv fs/\Gg c H (.ref ga) fX g/\(∀p∈fs.map (·.1),p∈fX)/\(∀p∈fX,∀s∈g p,s.2∈fX) ∧
   ∀l (vs:List V) H',ah H H'->H l=none->H' l=some (.lst vs)->(∀i v,vs[i]? = some v->fg H' v g fs i)->(∀i,i<vs.length->Om.iD g (fs.map (·.1)) i≠[])->vs.length<=fX.length+1->(vs.length=fX.length+1\/Om.iD g (fs.map (·.1)) vs.length=[])->Q (.ref l) H'
 | _=>False
theorem ud:ao ["first","graph","layers","layer"] ["first","graph"] (ae rf):=⟨rfl,rfl,rfl,by decide +kernel,rfl,by decide +kernel,by decide +kernel⟩
local macro_rules|`(tactic|walk_at"m")=>`(tactic|((with_reducible refine' LX ?a1);(case a1=>walk_at"v")))
local macro_rules|`(tactic|walk_at"i")=>`(tactic|((with_reducible refine' zr ?a0 ?a9 ?a1);(case a0=>walk_at"F");(case a9=>rfl);(case a1=>walk_at"b")))
theorem AQ(D:bX K mg "layers_of" rf ["first","graph"])(g1:mg "len" = none)(c1:aJ P w K mg base "layer_behind" 1 ["layer","graph"] qJ):aJ P w K mg base "layers_of" 2 ["first","graph"] mj:=by
 refine ar (k:=1) D ud (λvs H Q E h=>?_) (λf aA A outer s H vs Q E hr h=>?_)
 all_goals
  unfold mj at h;split at h
 ·rfl
 ·exact h.elim
 ·rename_i fv ga;refine az λak=>?_;obtain⟨c,fs,fX,g,Ux,Sw,vT,nK,q⟩:=h;refine ak ?_;clear ak;obtain⟨vU,YK,gsz,s64⟩ : ∃ag,Rd H ga (.dT ag)/\ag.length=fX.length/\fX.length<=64:=by obtain⟨a,o,ag,e,h1,h2,_⟩:=Sw;cases e;exact⟨ag,.inr ⟨o,h1⟩,h2.len,h2.le⟩
  have nd:=ud.nd;refine⟨_,(by walk_at"c"),?_⟩;refine⟨aaO _,λL hL=>?_⟩;have Zw:=Om.rJ vT nK;refine⟨λm σ H2=>∃(v:V)(vs:List V),σ=[some fv,some (.ref ga),some (.ref L),some v]/\m+vs.length=fX.length+1/\ah H H2/\H2 L=some (.lst vs)/\fg H2 v g fs vs.length/\(∀i v,vs[i]? = some v->fg H2 v g fs i)/\∀i,i<vs.length->Om.iD g (fs.map (·.1)) i≠[],
   ⟨fX.length+1,fv,[],rfl,rfl,ah.upd hL,aa,Ux.mono (ah.upd hL),(λi v h=>by simp at h),(λi h=>absurd h (adt _))⟩,?_⟩
  intro m σ H2 bP;refine az λak=>?_;obtain⟨v,vs,rfl,hm,s2,h2,l2,Ul,e9⟩:=bP;refine ak ?_;clear ak;have Xi:=l2;obtain⟨va,vo,Ld,rfl,ZF,Yk⟩:=l2.k;have YL:Rd H2 ga (.dT vU):=by
   rcases YK with h|⟨o,h⟩
   ·exact .inl (s2 _ _ h)
   ·exact .inr ⟨o,s2 _ _ h⟩
  have key:Om.iD g (fs.map (·.1)) vs.length≠[]↔Ld≠[]:=by
   have ln:=Yk.len;constructor
   ·intro h z;rw[z]at ln;exact h (abH.mp (by simpa using ln.symm))
   ·intro h z;rw[z]at ln;exact h (abH.mp (by simpa using ln))
  refine .inr (.inr ⟨Ld,.inr ⟨vo,ZF⟩,?_⟩);cases Xw:Ld with
  | nil=>
   refine dX (dX ?_);refine q L vs _ s2 hL h2 Ul e9 (by omega) (.inr ?_);by_cases z:Om.iD g (fs.map (·.1)) vs.length=[]
   ·exact z
   ·exact absurd Xw (key.mp z)
  | cons Xk kvr=>
   refine fm rfl ?_;have ne:Om.iD g (fs.map (·.1)) vs.length≠[]:=key.mpr (by rw[Xw];exact λz=>nomatch z);refine .inr ⟨_,dW h2,?_⟩;refine .inl ⟨ga,vU,rfl,YL,by omega,?_⟩;rw[gsz];dsimp only[KQ];by_cases le:vs.length<=fX.length
   ·rw[aaI (by omega)];refine fm rfl ?_;refine⟨λaX H'=>∃(v:V),aX=[some fv,some (.ref ga),some (.ref L),some v]/\ah H H'/\H' L=some (.lst (vs++[.ref va]))/\fg H' v g fs (vs.length+1)/\(∀i v,(vs++[.ref va])[i]? = some v->fg H' v g fs i),?_,?_⟩
    ·rintro aX H' ⟨v',rfl,s',h',l',JT⟩;refine⟨m-1,by omega,v',vs++[.ref va],rfl,by rw[aal];simp;omega,s',h',by rw[aal];exact l',JT,λi hi=>?_⟩;rw[aal]at hi;by_cases e:i=vs.length
     ·subst e;exact ne
     ·exact e9 i (by simp at hi;omega)
    ·refine⟨⟨_,rfl,h2⟩,_,h2,bC (by omega),?_⟩;have s3:ah H (upd H2 L (.lst (vs++[.ref va]))):=s2.own hL;refine⟨c,_,fX,g,(fg.vK h2 Xi).k,Sw.mono s3,Zw _,nK,λv' H4 s4 l4=>?_⟩;refine⟨v',rfl,s3.trans s4,s4 _ _ aa,l4,λi u hu=>?_⟩;by_cases e:i<vs.length
     ·rw[aaV e]at hu;exact fg.mono s4 (fg.vK h2 (Ul i u hu))
     ·rw[aaS (by omega)]at hu;have e2:i-vs.length=0:=by
       cases h:i-vs.length with
       | zero=>rfl
       | succ _=>rw[h]at hu;simp at hu
      rw[e2]at hu;have:u = .ref va:=by simpa using hu.symm
      subst this;have:i=vs.length:=by omega
      subst this;exact fg.mono s4 (fg.vK h2 Xi)
   ·rw[aaT (by omega)];refine dX ?_;exact q L vs _ s2 hL h2 Ul e9 (by omega) (.inl (by omega))
 ·exact h.elim
end
section
abbrev wI:Stmt:=top 24
def qO:Sp:=λvs H Q _=>match vs with
 | [.ref l,.ref ga]=>∃(xs:List V)(ag:List (List Key×V)),H l=some (.lst xs)/\Rd H ga (.dT ag)/\ag.length<=64/\Q (.bl (decide (ag.length<xs.length))) H
 | _=>False
theorem y4:ao ["layers","graph"] ["layers","graph"] (ae wI):=⟨rfl,rfl,rfl,by decide +kernel,rfl,by decide +kernel,by decide +kernel⟩
local macro_rules|`(tactic|walk_at"i")=>`(tactic|((with_reducible refine' zr ?a0 ?a9 ?a1);(case a0=>walk_at"F");(case a9=>rfl);(case a1=>walk_at"b")))
theorem E2(D:bX K mg "comes_back" wI ["layers","graph"])(g1:mg "len" = none):aJ P w K mg base "comes_back" 1 ["layers","graph"] qO:=by
 refine ar (k:=0) D y4 (λvs H Q E h=>?_) (λf aA A outer s H vs Q E hr h=>?_)
 all_goals
  unfold qO at h;split at h
 ·rfl
 ·exact h.elim
 ·rename_i l ga;obtain⟨xs,ag,hl,rd,k64,q⟩:=h;have nd:=y4.nd;refine⟨_,(by walk_at"j"),?_⟩;refine .inr ⟨_,dW hl,?_⟩;refine .inl ⟨ga,ag,rfl,rd,by omega,?_⟩;dsimp only[KQ];have e:decide (((xs.length:Nat):Int)>((ag.length:Nat):Int))=decide (ag.length<xs.length):=by rw[abB,aaH,aaH];omega
  rw[e];exact q
 ·exact h.elim
end
theorem fZ{c A B:Prop}[Decidable c](hc:¬c)(h:B):if c then A else B:=by rw[aar hc];exact h
def Kp(H H':Hp):Prop:=∀b o,(∀ps,o≠.eL ps)->H b=some o->H' b=some o
theorem aw.kp{P0:Addr}{c:Pos}{q:Str}{H H':Hp}(tb:Tab P0 c q H)(s:aw P0 H H'):Kp H H':=λb o n e=>s _ _ (λz=>by obtain⟨ps,e'⟩:=tb.eL;rw[z,e']at e;exact n ps (aaw e).symm) e
theorem Kp.lst{H H':Hp}(s:Kp H H'){b:Addr}{xs:List V}(h:H b=some (.lst xs)):H' b=some (.lst xs):=s _ _ (λps z=>nomatch z) h
theorem Kp.tup{H H':Hp}(s:Kp H H'){b:Addr}{xs:List V}(h:H b=some (.tup xs)):H' b=some (.tup xs):=s _ _ (λps z=>nomatch z) h
mutual
theorem DV.kp{H H':Hp}(s:Kp H H'):∀{v:V}{d:PyData},DV H v d->DV H' v d
 | _,_,.bj=>.bj
 | _,_,.bl b=>.bl b
 | _,_,.int i=>.int i
 | _,_,.str x=>.str x
 | _,_,.lst h r=>.lst (s.lst h) (bO.kp s r)
 | _,_,.tup h r=>.tup (s.tup h) (bO.kp s r)
 | _,_,.BU h=>.BU (s _ _ (λps z=>nomatch z) h)
theorem bO.kp{H H':Hp}(s:Kp H H'):∀{vs:List V}{ds:List PyData},bO H vs ds->bO H' vs ds
 | _,_,.nil=>.nil
 | _,_,.cons h r=>.cons (DV.kp s h) (bO.kp s r)
end
theorem Tb.xg{c:Nat}{H:Hp}{v:V}{qs:List Nat}{rows:Om.Rows}(h:Tb c Om.yk H v (λx y=>x∈qs/\y∈qs) (Om.St rows)):Gg c H v (gK qs) (gS rows)/\(∀p,p∈gK qs↔p.1∈qs/\p.2∈qs)/\∀p∈gK qs,∀s,s∈gS rows p↔Om.St rows p.1 p.2 s:=by
 refine az λak=>?_;obtain⟨a,o,ag,ks,e,h1,h2,h3,h5,h4⟩:=h;refine ak ?_;clear ak;have ek:gK qs=ks:=Om.ja (λ_ _=>Om.BV.as) h5 λp=>h3 p.1 p.2;rw[ek];refine⟨⟨a,o,ag,e,h1,h2,λp hp=>?_⟩,λp=>h3 p.1 p.2,λp hp=>?_⟩
 ·obtain⟨l,ss,q1,q2,q3,q5,q4⟩:=h4 p hp;have eb:gS rows p=ss:=Om.ja (λ_ _=>Om.yk.as) q5 q4;rw[eb];exact⟨l,q1,q2,q3⟩
 ·obtain⟨l,ss,q1,q2,q3,q5,q4⟩:=h4 p hp;have eb:gS rows p=ss:=Om.ja (λ_ _=>Om.yk.as) q5 q4;rw[eb];exact q4
theorem Gg.kp{c:Nat}{H H':Hp}{v:V}{fX:List (Nat×Nat)}{g:Nat×Nat->List Om.cL}(h:Gg c H v fX g)(s:Kp H H'):Gg c H' v fX g:=by obtain⟨a,o,ag,e,h1,h2,h3⟩:=h;refine⟨a,o,ag,e,s _ _ (λps z=>nomatch z) h1,h2,λp hp=>?_⟩;obtain⟨l,q1,q2,q3⟩:=h3 p hp;exact⟨l,q1,DV.kp s q2,q3⟩
noncomputable def Gn(rows:Om.Rows)(qs:List Nat)(i:Nat):List (Nat×Nat):=Om.iD (gS rows) ((OO rows qs).map (·.1)) i
def kr(rows:Om.Rows)(qs:List Nat):Prop:=Gn rows qs (gK qs).length≠[]
def DL(rows:Om.Rows)(qs:List Nat)(d:Nat):Prop:=(∀i,i<d->Gn rows qs i≠[])/\Gn rows qs d=[]
theorem rG{rows:Om.Rows}{qs:List Nat}{i:Nat}(h:Gn rows qs i=[]):∀j,Gn rows qs (i+j)=[]
 | 0=>h
 | j+1=>by have ih:=rG h j;refine List.eq_nil_iff_forall_not_mem.mpr λp hp=>?_;obtain⟨q,h1,_⟩:=Om.jZ.mp (show p∈Om.iD _ _ (i+j+1)from hp);have h1:q∈Gn rows qs (i+j):=h1;rw[ih]at h1;cases h1
section
theorem uG{k n:Nat}{rows:Om.Rows}(ok:Om.aq k n rows){qs:List Nat}(rc:gH rows qs)(gm:∀p,p∈gK qs↔p.1∈qs/\p.2∈qs)(vD:∀p∈gK qs,∀s,s∈gS rows p↔Om.St rows p.1 p.2 s):(∀p∈gK qs,∀s∈gS rows p,s.2∈gK qs)/\∀p∈(OO rows qs).map (·.1),p∈gK qs:=by
 have cl:∀p∈gK qs,∀s∈gS rows p,s.2∈gK qs:=λp hp s hs=>by
  obtain⟨g1,g2,_,g4⟩:=(vD p hp s).mp hs;have st:∀{x l:Nat},x∈qs->l<(rows.getD x []).length->(Om.step rows x l).2∈qs:=λ{x l} hx hl=>by refine(rc.2.1 _).mpr (.s ((rc.2.1 _).mp hx) (aan.mpr ⟨Om.step rows x l,?_,rfl⟩));unfold Om.step;rw[aag (l:=rows.getD x []),aab hl];exact aat hl
  obtain⟨m1,m2⟩:=(gm p).mp hp;rw[gm,g4];exact⟨st m1 g1,st m2 g2⟩
 refine⟨cl,λp hp=>?_⟩;obtain⟨e,he,rfl⟩:=aan.mp hp;obtain⟨s,hs,t,ht,rfl,_⟩:=NG he;exact cl (s,s) ((gm _).mpr ⟨hs,hs⟩) t ht
def VB(rows:Om.Rows)(qs:List Nat):Prop:=(∀p,p∈gK qs↔p.1∈qs/\p.2∈qs)/\∀p∈gK qs,∀s,s∈gS rows p↔Om.St rows p.1 p.2 s
abbrev CA:Stmt:=top 52
def p9(P0:Addr):Sp:=λvs H Q _=>match vs with
 | [cv]=>∃(k n:Nat)(rows:Om.Rows),DV H cv (aR k n rows)/\Om.aq k n rows/\Tab P0 (aC aP) fi H ∧
   (∀(qs:List Nat) H',aw P0 H H'->Tab P0 (aC aP) fi H'->gH rows qs->VB rows qs->kr rows qs->Q .bj H') ∧
   ∀(d:Nat)(qs:List Nat) H',aw P0 H H'->Tab P0 (aC aP) fi H'->gH rows qs->VB rows qs->¬kr rows qs->DL rows qs d->d<=64->Q (.int (d:Nat)) H'
 | _=>False
theorem Dp:ao ["code","graph","layers"] ["code"] (ae CA):=⟨rfl,rfl,rfl,by decide +kernel,rfl,by decide +kernel,by decide +kernel⟩
local macro_rules|`(tactic|walk_at"a")=>`(tactic|((with_reducible refine' mH ?a1 ?a2 ?a3);(case a1=>walk_at"m");(case a2=>walk_at"a");(case a3=>walk_at"a")))
theorem Il{P0:Addr}(D:bX K mg "late" CA ["code"])(g1:mg "len" = none)(c1:aJ P w K mg base "pair_graph" 2 ["code","states"] qL)(c2:aJ P w K mg base "reached" 4 ["code"] (gi P0))(c3:aJ P w K mg base "layers_of" 2 ["first","graph"] mj)(c4:aJ P w K mg base "first_pairs" 5 ["code"] (Lh P0))(c5:aJ P w K mg base "comes_back" 1 ["layers","graph"] qO):aJ P w K mg base "late" 6 ["code"] (p9 P0):=by
 refine ar (k:=5) D Dp (λvs H Q E h=>?_) (λf aA A outer s H vs Q E hr h=>?_)
 all_goals
  unfold p9 at h;split at h
 ·rfl
 ·exact h.elim
 ·rename_i cv;refine az λak=>?_;obtain⟨k,n,rows,hc,ok,tb,qn,qt⟩:=h;refine ak ?_;clear ak;have nd:=Dp.nd;refine⟨_,(by walk_at"c"),?_⟩;refine⟨k,n,rows,hc,ok,tb,λsl qs H1 s1 t1 TV Gp pw mem q8=>?_⟩;have rc:gH rows qs:=⟨pw,mem,q8⟩
  refine⟨k,n,rows,qs,hc.dC tb s1,ok,Gp,pw,λs hs=>Om.wM ok _ ((mem s).mp hs),λgv H2 s2 g0=>?_⟩;obtain⟨gx,gm,vD⟩:=Tb.xg g0;have t2:=t1.mono s2;have S2:aw P0 H H2:=s1.trans s2.t;dsimp only[aQ];refine⟨k,n,rows,hc.dC tb S2,ok,t2,λfv nU H3 s3 t3 Gm lf=>?_⟩;have qe:=Gm.uniq rc;subst qe;have PN:=Gg.kp gx (aw.kp t2 s3);obtain⟨cl,vT⟩:=uG ok rc gm vD;obtain⟨ga,go,vU,rfl,OC,ON,_⟩:=id PN;have Qv:vU.length<=64:=by rw[ON.len];exact ON.le
  refine⟨64,_,_,_,lf,PN,vT,cl,λl vs H4 s4 nl h4 hv e9 hle LC=>?_⟩;have S4:aw P0 H H4:=(S2.trans s3).trans s4.t;have t4:=t3.mono s4;refine⟨vs,vU,h4,.inr ⟨go,s4 _ _ OC⟩,Qv,?_⟩;rw[ON.len];by_cases e:(gK nU).length<vs.length
  ·rw[aaI e];refine fm rfl ?_;exact qn nU _ S4 t4 rc ⟨gm,vD⟩ (e9 _ e)
  ·rw[aaT e];refine dX ?_;have e0:Gn rows nU vs.length=[]:=LC.resolve_left (by omega);refine⟨_,dW h4,?_⟩;refine qt vs.length nU _ S4 t4 rc ⟨gm,vD⟩ (λz=>z ?_) ⟨e9,e0⟩ (by rw[ON.len]at Qv;omega);have:=rG e0 ((gK nU).length-vs.length);rwa [show vs.length+((gK nU).length-vs.length)=(gK nU).length by omega]at this
 ·exact h.elim
end
section
def WP(H:Hp)(v:V)(n:Nat)(xs:List Nat):Prop:=∃l,v = .ref l/\H l=some (.lst ((List.range (BE n xs)).map λi=>V.str (cp (Sf n xs i))))
abbrev mw:Stmt:=top 14
def jJ:Sp:=λvs H Q _=>match vs with
 | [.str z,.int n0]=>∃(xs:List Nat)(n:Nat),z=cp xs/\n0=(n:Nat)/\1<=n/\n<=6/\xs.length<=2000/\∀v H',ah H H'->WP H' v n xs->Q v H'
 | _=>False
theorem oR:ao ["wire","n"] ["wire","n"] (ae mw):=⟨rfl,rfl,rfl,by decide +kernel,rfl,by decide +kernel,by decide +kernel⟩
local macro_rules|`(tactic|walk_at"h")=>`(tactic|(have eu:(["place","wire","n"]:List Str).Nodup:=(by decide +kernel));((with_reducible refine' bM ["place","wire","n"] [0,1] ?b1 ?b2 (λcl C s H fp=>?b3) (λcl C s H fp=>?b4) (λcl C s H fp=>?b5));(case b1=>exact eu);(case b2=>walk_at"e");(case b3=>walk_at"d");(case b4=>walk_at"f");(case b5=>walk_at"a")))
theorem xF(D:bX K mg "words_of" mw ["wire","n"])(g1:mg "range" = none)(g2:mg "len" = none):aJ P w K mg base "words_of" 1 ["wire","n"] jJ:=by
 refine ar (k:=0) D oR (λvs H Q E h=>?_) (λf aA A outer s H vs Q E hr h=>?_)
 all_goals
  unfold jJ at h;split at h
 ·rfl
 ·exact h.elim
 ·rename_i z n0;refine az λak=>?_;obtain⟨xs,n,rfl,rfl,n1,n6,l2,q⟩:=h;refine ak ?_;clear ak;have nd:=oR.nd;have lx:=lC xs;have pl:=DH (xs:=xs) n1;refine⟨_,(by walk_at"j"),?_⟩;refine⟨_,ju (by rw[lx];exact fL (by omega)),?_⟩;rw[lx];refine⟨⟨by omega,by omega,by omega,by omega,by omega,by omega,by omega⟩,λC hC=>?_⟩;rw[Hu xs n1 n6];refine bE (j4 0 (n:Int) (BE n xs)) (λi τ H2 ys=>(∃v,τ=[v,some (.str (cp xs)),some (.int (n:Nat))])/\H2=upd H C (.lst ys)/\ys=(List.range i).map λi=>V.str (cp (Sf n xs i))) (by simp;exact fL (by omega)) ⟨⟨none,rfl⟩,rfl,rfl⟩ ?_ ?_ ?_
  ·rintro i τ H2 ys hi ⟨_,rfl,rfl⟩;exact⟨trivial,aa,by rw[aaa,aaK];exact aae _⟩
  ·rintro i x τ H2 ys hi hx ⟨⟨v,rfl⟩,rfl,rfl⟩;have bI:i<BE n xs:=by simpa using hi
   have ex:x = .int ((i*n:Nat):Int):=by rw[aak,abL bI]at hx;have:=(aaw hx).symm;rw[this];show V.int (0+(i:Int)*(n:Int))=_;rw[Int.zero_add,Int.natCast_mul]
   subst ex;have e3:=DG n1 bI;refine⟨by rw[lx];exact fL (by omega),?_⟩;rw[Au xs (abV e3)];refine⟨aa,⟨_,rfl⟩,dI,?_⟩;rw[List.range_succ,aao];rfl
  ·rintro τ H2 ys ⟨_,rfl,rfl⟩;rw[aaa,aaK];exact q _ _ (ah.upd hC) ⟨C,rfl,aa⟩
 ·exact h.elim
end
def sO(n:Nat)(wire:List Bool)(i:Nat):List Bool:=(wire.drop (n*i)).take n
def kQ(n:Nat)(wire:List Bool):Nat:=(wire.length+n-1) / n
theorem rE(n:Nat)(wire:List Bool):BE n (wire.map sg)=kQ n wire:=by unfold BE kQ;rw[aaa]
theorem MA(n:Nat)(wire:List Bool)(i:Nat):cp (Sf n (wire.map sg) i)=bs (sO n wire i):=by unfold Sf sO;rw[xa,adz i n,<-acW,<-acF]
theorem MY{n:Nat}{wire:List Bool}{i:Nat}(hn:1<=n)(h:i<kQ n wire):n*i<wire.length:=by rw[<-rE]at h;have:=DG hn h;rwa [aaa,adz]at this
theorem MZ{n:Nat}{wire:List Bool}(hn:1<=n):kQ n wire<=wire.length:=by rw[<-rE];have:=DH (xs:=wire.map sg) hn;rwa [aaa]at this
def WQ(H:Hp)(v:V)(n:Nat)(wire:List Bool):Prop:=∃l,v = .ref l/\H l=some (.lst ((List.range (kQ n wire)).map λi=>V.str (bs (sO n wire i))))
abbrev wG:Stmt:=top 51
def qM:Sp:=λvs H Q _=>match vs with
 | [cv,.str z]=>∃(wire:List Bool)(k n:Nat)(rows:Om.Rows),DV H cv (aR k n rows)/\Om.aq k n rows/\z=bs wire/\wire.length<=2000/\∀v H',ah H H'->WQ H' v n wire->Q v H'
 | _=>False
theorem yY:ao ["code","wire"] ["code","wire"] (ae wG):=⟨rfl,rfl,rfl,by decide +kernel,rfl,by decide +kernel,by decide +kernel⟩
theorem EZ(D:bX K mg "given_words" wG ["code","wire"])(g1:mg "isinstance" = none)(g2:mg "str" = none)(c1:aJ P w K mg base "words_of" 1 ["wire","n"] jJ):aJ P w K mg base "given_words" 2 ["code","wire"] qM:=by
 refine ar (k:=1) D yY (λvs H Q E h=>?_) (λf aA A outer s H vs Q E hr h=>?_)
 all_goals
  unfold qM at h;split at h
 ·rfl
 ·exact h.elim
 ·rename_i cv z;refine az λak=>?_;obtain⟨wire,k,n,rows,hc,ok,rfl,l2,q⟩:=h;refine ak ?_;clear ak;have nd:=yY.nd;obtain⟨a,b,ss,rfl,ha,hb,sW⟩:=bH hc;refine⟨_,(by walk_at"c"),?_⟩;refine⟨"str",rfl,by decide,dX ?_⟩;refine⟨_,gt ha (by decide) rfl,?_⟩;refine⟨wire.map sg,n,xa _,rfl,ok.n1,ok.n6,by rw[aaa];exact l2,λv H1 s1 ⟨l,e,hl⟩=>q v H1 s1 ⟨l,e,?_⟩⟩;rw[hl,rE];congr 2;exact aaW λi _=>by rw[MA]
 ·exact h.elim
theorem uh{k n:Nat}{rows:Om.Rows}(ok:Om.aq k n rows):∀{t:List Nat}{s:Nat},Om.vG (Om.vm rows) s->(∀l∈t,l<2 ^ k)->Om.vG (Om.vm rows) (Om.send rows s t).2
 | [],s,h,_=>h
 | l::t,s,h,ht=>by have hs:=Om.wM ok s h;obtain⟨st,e1,e2,_,_⟩:=Om.step_get ok hs (ht l aah);refine uh ok (t:=t) (s:=(Om.step rows s l).2) (.s h ?_) λx hx=>ht x (aaf _ hx);unfold Om.vm;rw[aag,e1];exact aan.mpr ⟨Om.step rows s l,aaP e2,rfl⟩
theorem tX{k n:Nat}{rows:Om.Rows}(ok:Om.aq k n rows){t:List Nat}(ht:∀l∈t,l<2 ^ k){i:Nat}(hi:i<t.length):sO n (Om.send rows 0 t).1 i=(Om.step rows (Om.send rows 0 (t.take i)).2 t[i]).1:=by
 have e0:t=t.take i++(t[i]::t.drop (i+1)):=by rw[<-List.drop_eq_getElem_cons hi,adb]
 have h1:∀l∈t.take i,l<2 ^ k:=λl hl=>ht l (abl hl);have l1:((Om.send rows 0 (t.take i)).1).length=n*i:=by rw[(Om.bt ok _ 0 ok.s1 h1).1,aas,acB (by omega)]
 have hs:=(Om.bt ok _ 0 ok.s1 h1).2;have l2:((Om.step rows (Om.send rows 0 (t.take i)).2 t[i]).1).length=n:=by obtain⟨_,_,_,h,_⟩:=Om.step_get ok hs (ht _ (aat hi));exact h
 have e1:(Om.send rows 0 t).1=(Om.send rows 0 (t.take i)).1++((Om.step rows (Om.send rows 0 (t.take i)).2 t[i]).1++(Om.send rows (Om.step rows (Om.send rows 0 (t.take i)).2 t[i]).2 (t.drop (i+1))).1):=by have:=Om.cA rows (t.take i) (t[i]::t.drop (i+1)) 0;rw[<-e0]at this;rw[this];rfl
 unfold sO;rw[e1,<-l1,List.drop_left,<-l2,adF]
theorem ix{s:Nat}:∀{l:List Om.cL}{acc:List cH}{p:Nat×Nat},p∈acc.map (·.1)->p∈(l.foldl (bW s) acc).map (·.1)
 | [],_,_,h=>h
 | t::l,acc,p,h=>by
  refine ix (l:=l) (acc:=bW s acc t) ?_;unfold bW;by_cases c:t.1.1=t.1.2\/t.2∈acc.map (·.1)
  ·rw[aaz c];exact h
  ·rw[aar c,aao];exact aa7 _ h
theorem uJ{s:Nat}:∀{l:List Om.cL}{acc:List cH}{t:Om.cL},t∈l->t.1.1≠t.1.2->t.2∈(l.foldl (bW s) acc).map (·.1)
 | u::l,acc,t,h,ne=>by
  rcases aau.mp h with h|h
  ·subst h;refine ix (l:=l) (acc:=bW s acc t) ?_;unfold bW;by_cases c:t.1.1=t.1.2\/t.2∈acc.map (·.1)
   ·rw[aaz c];exact c.resolve_left ne
   ·rw[aar c,aao];exact aaQ _ (by simp)
  ·exact uJ (l:=l) h ne
theorem zo{rows:Om.Rows}:∀{qs:List Nat}{acc:List cH}{p:Nat×Nat},p∈acc.map (·.1)->p∈(qs.foldl (JP rows) acc).map (·.1)
 | [],_,_,h=>h
 | s::qs,acc,p,h=>zo (qs:=qs) (acc:=JP rows acc s) (ix h)
theorem D9{rows:Om.Rows}:∀{qs:List Nat}{acc:List cH}{s:Nat}{t:Om.cL},s∈qs->t∈gS rows (s,s)->t.1.1≠t.1.2->t.2∈(qs.foldl (JP rows) acc).map (·.1)
 | u::qs,acc,s,t,hs,ht,ne=>by
  rcases aau.mp hs with h|h
  ·subst h;exact zo (qs:=qs) (acc:=JP rows acc s) (uJ ht ne)
  ·exact D9 (qs:=qs) h ht ne
theorem RK{rows:Om.Rows}{qs:List Nat}{s:Nat}{t:Om.cL}(hs:s∈qs)(ht:t∈gS rows (s,s))(ne:t.1.1≠t.1.2):t.2∈(OO rows qs).map (·.1):=D9 hs ht ne
theorem pv:∀{m:Nat}{t u:List Nat},t.length=u.length->t.take m≠u.take m->∃p,p<m/\p<t.length/\t.take p=u.take p/\t.getD p 0≠u.getD p 0
 | 0,t,u,_,h=>absurd (by simp) h
 | m+1,t,u,hl,h=>by
  by_cases c:t.take m=u.take m
  ·refine⟨m,acR m,?_,c,λz=>h ?_⟩
   ·refine aa6 λno=>h ?_;rw[aaq (by omega),aaq (by omega)];rwa [aaq (by omega),aaq (by omega)]at c
   ·by_cases hm:m<t.length
    ·rw[Om.take_succ_getD hm,Om.take_succ_getD (by omega),c,z]
    ·rw[aaq (by omega),aaq (by omega)];rwa [aaq (by omega),aaq (by omega)]at c
  ·obtain⟨p,h1,h2⟩:=pv hl c;exact⟨p,acL h1,h2⟩
theorem getD_at{t:List Nat}{i:Nat}(h:i<t.length):t.getD i 0=t[i]:=by rw[aag,aab h];rfl
theorem Dh{k n:Nat}{rows:Om.Rows}(ok:Om.aq k n rows){t u:List Nat}(ht:∀l∈t,l<2 ^ k)(hu:∀l∈u,l<2 ^ k)(hl:t.length=u.length)(hw:(Om.send rows 0 t).1=(Om.send rows 0 u).1){i:Nat}(hi:i<t.length):Om.St rows (Om.send rows 0 (t.take i)).2 (Om.send rows 0 (u.take i)).2 ((t.getD i 0,u.getD i 0),((Om.send rows 0 (t.take (i+1))).2,(Om.send rows 0 (u.take (i+1))).2)):=by
 have bI:i<u.length:=by omega
 have h1:=tX ok ht hi;have h2:=tX ok hu bI;have a1:(Om.send rows 0 (t.take i)).2<rows.length:=(Om.bt ok _ 0 ok.s1 λl hl=>ht l (abl hl)).2;have a2:(Om.send rows 0 (u.take i)).2<rows.length:=(Om.bt ok _ 0 ok.s1 λl hl=>hu l (abl hl)).2;rw[getD_at hi,getD_at bI];refine⟨?_,?_,?_,?_⟩
 ·show t[i]<_;rw[Om.fF ok a1];exact ht _ (aat hi)
 ·show u[i]<_;rw[Om.fF ok a2];exact hu _ (aat bI)
 ·show(Om.step rows (Om.send rows 0 (t.take i)).2 t[i]).1=(Om.step rows (Om.send rows 0 (u.take i)).2 u[i]).1;rw[<-h1,<-h2,hw]
 ·show(_,_)=(_,_)
  rw[Om.take_succ_getD hi,Om.take_succ_getD bI,Om.cR,Om.cR,getD_at hi,getD_at bI]
theorem Nh{k n:Nat}{rows:Om.Rows}(ok:Om.aq k n rows){qs:List Nat}(rc:gH rows qs)(go:VB rows qs){d:Nat}(dl:DL rows qs d):Om.tP rows k d:=by
 intro t u ht hu hl hw;refine aa6 λno=>?_;obtain⟨p,p1,p2,p3,p4⟩:=pv hl no;obtain⟨gm,vD⟩:=go;obtain⟨cl,vT⟩:=uG ok rc gm vD;have Zu:∀i,p+i<t.length->((Om.send rows 0 (t.take (p+i+1))).2,(Om.send rows 0 (u.take (p+i+1))).2)∈Gn rows qs i:=by
  intro i
  induction i with
  | zero=>
   intro hi;have st:=Dh ok ht hu hl hw p2;have hq:(Om.send rows 0 (t.take p)).2∈qs:=(rc.2.1 _).mpr (uh ok .z λl hl=>ht l (abl hl));rw[<-p3]at st;have hg:=(vD ((Om.send rows 0 (t.take p)).2,(Om.send rows 0 (t.take p)).2) ((gm _).mpr ⟨hq,hq⟩) _).mpr st;unfold Gn;rw[Om.jY];exact RK hq hg p4
  | succ i ih=>
   intro hi;have ih:=ih (by omega);have st:=Dh ok ht hu hl hw (i:=p+(i+1)) hi;have hk:=Om.rJ vT cl i _ ih;exact Om.jZ.mpr ⟨_,ih,_,(vD _ hk _).mpr st,rfl⟩
 have h1:=Zu (t.length-p-1) (by omega);have h2:=rG dl.2 (t.length-p-1-d);rw[show d+(t.length-p-1-d)=t.length-p-1 by omega]at h2;rw[h2]at h1;cases h1
section
theorem Ib{α:Type}[DecidableEq α](l:List α):(Om.once l).Nodup:=by
 refine Om.snocInd (P:=λl=>(Om.once l).Nodup) (by simp[Om.once]) (λl x ih=>?_) l;rw[Om.gr];by_cases h:x∈Om.once l
 ·rw[aaz h];exact ih
 ·rw[aar h,ac6];refine⟨ih,by simp,λa ha b hb e=>?_⟩;rw[aaA.mp hb]at e;exact h (e▸ha)
theorem EH{α:Type}[DecidableEq α]{l:List α}(ne:l≠[]):(Om.once l).length=1↔∀x∈l,∀y∈l,x=y:=by
 constructor
 ·intro h x hx y hy;obtain⟨z,e⟩:=List.length_eq_one_iff.mp h;have h1:=(Om.i5 l x).mpr hx;have h2:=(Om.i5 l y).mpr hy;rw[e,aaA]at h1 h2;rw[h1,h2]
 ·intro h;obtain⟨x,hx⟩:=abp _ ne;have nd:=Ib l;have Xv:=(Om.i5 l x).mpr hx;have al:∀y∈Om.once l,y=x:=λy hy=>h y ((Om.i5 l y).mp hy) x hx
  match e:Om.once l with
  | []=>rw[e]at Xv;cases Xv
  | [_]=>rfl
  | a::b::r=>
   rw[e]at nd al;have ea:=al a (by simp);have eb:=al b (by simp);rw[ea,eb]at nd;simp at nd
def J2(H:Hp)(vs:List V)(tl:List (List Nat)):Prop:=vs.length=tl.length/\∀(i:Nat) t,tl[i]? = some t->∃q,vs[i]? = some (.ref q)/\H q=some (.lst ((ni t).map V.int))
theorem J2.mono{H H':Hp}{vs:List V}{tl:List (List Nat)}(h:J2 H vs tl)(s:ah H H'):J2 H' vs tl:=⟨h.1,λi t e=>let⟨q,e1,e2⟩:=h.2 i t e;⟨q,e1,s _ _ e2⟩⟩
theorem J2.snoc{H:Hp}{vs:List V}{tl:List (List Nat)}{t:List Nat}{q:Addr}(h:J2 H vs tl)(e1:H q=some (.lst ((ni t).map V.int))):J2 H (vs++[.ref q]) (tl++[t]):=by
 refine⟨by simp[h.1],λi g' e=>?_⟩;by_cases c:i<tl.length
 ·rw[aaV c]at e;obtain⟨q',k1,k2⟩:=h.2 i g' e;exact⟨q',by rw[aaV (by rw[h.1];exact c)];exact k1,k2⟩
 ·rw[aaS (by omega)]at e;have lt:=(aaB.mp e).1;have ei:i=tl.length:=by simp at lt;omega
  subst ei;rw[adC]at e;cases e;exact⟨q,by rw[aaS (by rw[h.1];exact aae _),h.1,adC];rfl,e1⟩
theorem Ro{t:List Nat}{c:Nat}(h:c<t.length):((ni t).map V.int)[c]? = some (.int (t.getD c 0:Nat)):=by unfold ni;rw[aaC,aak,aab h,aag,aab h];rfl
theorem i4(t:List Nat):(ni t).length=t.length:=by unfold ni;rw[aaa]
abbrev qX:Stmt:=top 56
def mi:Sp:=λvs H Q _=>match vs with
 | [.ref a]=>∃(vs:List V)(tl:List (List Nat))(L:Nat),H a=some (.lst vs)/\J2 H vs tl/\tl≠[]/\tl.length<=64/\(∀t∈tl,t.length=L)/\L<=100/\∀(c:Nat) H',ah H H'->Om.Vq tl c->Q (.int (c:Nat)) H'
 | _=>False
theorem ua:ao ["tails","count"] ["tails"] (ae qX):=⟨rfl,rfl,rfl,by decide +kernel,rfl,by decide +kernel,by decide +kernel⟩
local macro_rules|`(tactic|walk_at"h")=>`(tactic|(have eu:(["tail","count"]:List Str).Nodup:=(by decide +kernel));((with_reducible refine' bM ["tail","count"] [1] ?b1 ?b2 (λcl C s H fp=>?b3) (λcl C s H fp=>?b4) (λcl C s H fp=>?b5));(case b1=>exact eu);(case b2=>walk_at"e");(case b3=>walk_at"d");(case b4=>walk_at"f");(case b5=>walk_at"a")))
local macro_rules|`(tactic|walk_at"i")=>`(tactic|first|((with_reducible first|refine' IW ?a0 ?a9 ?a1|refine' IV ?a0 ?a9 ?a1);(case a0=>walk_at"F");(case a9=>rfl);(case a1=>walk_at"b")))
local macro_rules|`(tactic|walk_at"k")=>`(tactic|((with_reducible refine' Kh "count" 1 ?b0 ?a1);(case b0=>with_unfolding_all assumption);(case a1=>walk_at"a")))
theorem AM(D:bX K mg "shared_count" qX ["tails"])(g1:mg "len" = none)(g2:mg "set" = none):aJ P w K mg base "shared_count" 1 ["tails"] mi:=by
 refine ar (k:=0) D ua (λvs H Q E h=>?_) (λf aA A outer s H vs Q E hr h=>?_)
 all_goals
  unfold mi at h;split at h
 ·rfl
 ·exact h.elim
 ·rename_i a;refine az λak=>?_;obtain⟨vs,tl,L,ha,ht,ne,l64,hL,acm,q⟩:=h;refine ak ?_;clear ak;have nd:=ua.nd;have lp:0<tl.length:=adx.mpr ne;obtain⟨q0,e0,ZV⟩:=ht.2 0 tl[0] (aab lp);have m0:tl[0]∈tl:=aat lp;have L0:((ni tl[0]).map V.int).length=L:=by rw[aaa,i4];exact hL _ m0
  refine⟨_,(by walk_at"c"),?_⟩;refine⟨λm σ H2=>∃c:Nat,σ=[some (.ref a),some (.int (c:Nat))]/\m+c=L/\ah H H2/\∀t∈tl,∀u∈tl,t.take c=u.take c,⟨L,0,rfl,rfl,ah.refl _,λt _ u _=>rfl⟩,?_⟩;rintro m σ H2 ⟨c,rfl,hm,s2,al⟩;refine⟨.ref q0,gl (s2 _ _ ha) (by decide) (by simpa using e0),.inr ⟨_,dW (s2 _ _ ZV),?_⟩⟩;dsimp only[KQ];rw[L0];refine aO (λlt=>?_) (λge=>?_)
  ·have lt:c<L:=by have:=aaF lt;omega
   refine⟨⟨_,aN.of (s2 _ _ ha)⟩,λM hM=>?_⟩;refine bE (aE _ a vs) (λj τ H3 ys=>(∃v,τ=[v,some (.int (c:Nat))])/\ah H2 H3/\H3 M=some (.lst ys)/\ys=((tl.take j).map λt=>((t.getD c 0:Nat):Int)).map V.int) (ai (by rw[ht.1];omega)) ⟨⟨none,rfl⟩,ah.upd hM,aa,rfl⟩ ?_ ?_ ?_
   ·rintro j τ H3 ys hj ⟨_,s3,h3,rfl⟩;exact⟨aN.of ((s2.trans s3) _ _ ha),h3,by rw[aaa,aaa,aas];exact abJ _ _⟩
   ·rintro j y τ H3 ys hj hy ⟨⟨v,rfl⟩,s3,h3,rfl⟩;have iA:j<tl.length:=by rw[<-ht.1];exact hj
    obtain⟨qj,ej,ZU⟩:=ht.2 j tl[j] (aab iA);rw[hy]at ej;cases ej;have lj:c<tl[j].length:=by rw[hL _ (aat iA)];exact lt
    refine⟨_,gl ((s2.trans s3) _ _ ZU) (by omega) (by rw[show((c:Nat):Int).toNat=c by omega];exact Ro lj),h3,⟨_,rfl⟩,s3.own hM,aa,?_⟩;rw[aaL,aab iA,aao,aao];rfl
   ·rintro τ H3 ys ⟨_,s3,h3,rfl⟩;rw[aaq (by rw[ht.1];exact aae _)]at h3;refine⟨M,_,rfl,h3,by rw[aaa];omega,λS hS=>.inl ⟨S,_,rfl,aa,?_⟩⟩;have s4:∀o,ah H (upd H3 S o):=λo=>(s2.trans s3).trans (ah.upd hS);have ne':(tl.map λt=>((t.getD c 0:Nat):Int))≠[]:=by simpa using ne
    have one:=EH ne';refine aO (λe1=>?_) (λe1=>?_)
    ·have e1:(Om.once (tl.map λt=>((t.getD c 0:Nat):Int))).length=1:=by have:=aaF e1;omega
     have al2:=one.mp e1;refine⟨λaX H'=>aX=[some (.ref a),some (.int ((c:Nat)+1))]/\ah H H',?_,?_⟩
     ·rintro aX H' ⟨rfl,s'⟩;refine⟨m-1,by omega,c+1,by push_cast;rfl,by omega,s',λt lJ u hu=>?_⟩;have lt':c<t.length:=by rw[hL t lJ];exact lt
      have lu:c<u.length:=by rw[hL u hu];exact lt
      have e2:=al2 _ (abc (f:=λt:List Nat=>((t.getD c 0:Nat):Int)) lJ) _ (abc (f:=λt:List Nat=>((t.getD c 0:Nat):Int)) hu);have e2:t.getD c 0=u.getD c 0:=by omega
      rw[aag,aag,aab lt',aab lu]at e2;have e2:t[c]=u[c]:=e2;rw[aaL,aaL,al t lJ u hu,aab lt',aab lu,e2]
     ·exact⟨rfl,s4 _⟩
    ·have e1:¬(Om.once (tl.map λt=>((t.getD c 0:Nat):Int))).length=1:=λz=>e1 (aaI (by omega));refine q c _ (s4 _) ⟨λt lJ=>by rw[hL t lJ];omega,al,.inr ?_⟩;refine aa6 λno=>e1 (one.mpr λx hx y hy=>?_);obtain⟨t,lJ,rfl⟩:=aan.mp hx;obtain⟨u,hu,rfl⟩:=aan.mp hy;refine aa6 λne2=>no ⟨t,lJ,u,hu,λz=>ne2 (by rw[z])⟩
  ·have ge:¬c<L:=λz=>ge (aaI (by omega));refine dX ?_;have ec:c=L:=by omega
   exact q c _ s2 ⟨λt lJ=>by rw[hL t lJ];omega,al,.inl ⟨tl[0],m0,by rw[hL _ m0,ec]⟩⟩
 ·exact h.elim
end
section
def oj(H:Hp)(vs:List V)(gl:List Om.Gs):Prop:=vs.length=gl.length/\∀(i:Nat) g,gl[i]? = some g->∃q l,vs[i]? = some (.ref q)/\H q=some (.tup [.int (g.1:Nat),.ref l])/\H l=some (.lst ((ni g.2).map V.int))
theorem oj.mono{H H':Hp}{vs:List V}{gl:List Om.Gs}(h:oj H vs gl)(s:ah H H'):oj H' vs gl:=⟨h.1,λi g e=>let⟨q,l,e1,e2,e3⟩:=h.2 i g e;⟨q,l,e1,s _ _ e2,s _ _ e3⟩⟩
theorem oj.snoc{H:Hp}{vs:List V}{gl:List Om.Gs}{g:Om.Gs}{q l:Addr}(h:oj H vs gl)(e1:H q=some (.tup [.int (g.1:Nat),.ref l]))(e2:H l=some (.lst ((ni g.2).map V.int))):oj H (vs++[.ref q]) (gl++[g]):=by
 refine⟨by simp[h.1],λi g' e=>?_⟩;by_cases c:i<gl.length
 ·rw[aaV c]at e;obtain⟨q',l',k1,k2,k3⟩:=h.2 i g' e;exact⟨q',l',by rw[aaV (by rw[h.1];exact c)];exact k1,k2,k3⟩
 ·rw[aaS (by omega)]at e;have lt:=(aaB.mp e).1;have ei:i=gl.length:=by simp at lt;omega
  subst ei;rw[adC]at e;cases e;exact⟨q,l,by rw[aaS (by rw[h.1];exact aae _),h.1,adC];rfl,e1,e2⟩
theorem oj.nil(H:Hp):oj H [] []:=⟨rfl,λi g e=>by simp at e⟩
open Classical in
theorem Eh{F:Addr->Prop}{H H':Hp}(s:ah H H'):ah (vv F H) (vv F H'):=λx u e=>by
 by_cases z:F x
 ·rw[cY z]at e;cases e
 ·rw[b7 z]at e ⊢;exact s _ _ e
theorem tQ{B:Addr}{H H':Hp}(s:ah H H'):ah (vA B H) (vA B H'):=λx u e=>by
 unfold vA at e ⊢;by_cases c:x=B
 ·rw[aaz c]at e;cases e
 ·rw[aar c]at e ⊢;exact s _ _ e
def zP(rows:Om.Rows)(word:List Bool)(g:Om.Gs)(j:Nat):List Om.Gs:=((List.range j).filter λl=>decide (word <+: (Om.step rows g.1 l).1)).map λl=>((Om.step rows g.1 l).2,g.2++[l])
theorem AB(rows:Om.Rows)(word:List Bool)(g:Om.Gs)(j:Nat):zP rows word g (j+1)=zP rows word g j++if word <+: (Om.step rows g.1 j).1 then[((Om.step rows g.1 j).2,g.2++[j])]else[]:=by
 unfold zP;rw[List.range_succ,acx,aao];congr 1;by_cases c:word <+: (Om.step rows g.1 j).1
 ·simp[abw,c]
 ·simp[abw,c]
theorem Fz(rows:Om.Rows)(word:List Bool){gl:List Om.Gs}{i:Nat}{g:Om.Gs}(h:gl[i]? = some g):Om.gM rows (gl.take (i+1)) word=Om.gM rows (gl.take i) word++zP rows word g (rows.getD g.1 []).length:=by rw[aaL,h];unfold Om.gM;rw[List.flatMap_append];show _++List.flatMap _ [g]=_;rw[List.flatMap_singleton];rfl
abbrev wC:Stmt:=top 55
def qK:Sp:=λvs H Q _=>match vs with
 | [cv,.ref ga,.str z]=>∃(k n:Nat)(rows:Om.Rows)(gl:List Om.Gs)(vs:List V)(word:List Bool),DV H cv (aR k n rows)/\Om.aq k n rows/\H ga=some (.lst vs)/\oj H vs gl/\gl.length<=8/\(∀g∈gl,g.1<rows.length/\g.2.length<=100)/\z=bs word ∧
   ∀l BO H',ah H H'->H l=none->H' l=some (.lst BO)->oj (vv (λb=>∃u,H b=some u) H') BO (Om.gM rows gl word)->Q (.ref l) H'
 | _=>False
theorem yW:ao ["code","guesses","word","behind","state","tail","letter","row"] ["code","guesses","word"] (ae wC):=⟨rfl,rfl,rfl,by decide +kernel,rfl,by decide +kernel,by decide +kernel⟩
local macro_rules|`(tactic|walk_at"q")=>`(tactic|first|((with_reducible first|refine' uA ?a1 ?a2|refine' Fg ?a1 ?a2);(case a1=>walk_at"a");(case a2=>walk_at"b")))
theorem EX(D:bX K mg "guesses_behind" wC ["code","guesses","word"])(g1:mg "enumerate" = none):aJ P w K mg base "guesses_behind" 1 ["code","guesses","word"] qK:=by
 refine ar (k:=0) D yW (λvs H Q E h=>?_) (λf aA A outer s H vs Q E hr h=>?_)
 all_goals
  unfold qK at h;split at h
 ·rfl
 ·exact h.elim
 ·rename_i cv ga z;refine az λak=>?_;obtain⟨k,n,rows,sZ,vs,word,hc,ok,OC,hg,g8,OB,rfl,q⟩:=h;refine ak ?_;clear ak;have nd:=yW.nd;obtain⟨a,b,ss,rfl,ha,hb,sW⟩:=bH hc;refine⟨_,(by walk_at"c"),?_⟩;refine⟨aaO _,λB hB=>?_⟩;have s1:=ah.upd (o:=.lst []) hB;have XQ:upd H B (.lst []) B=some (.lst []):=aa;generalize upd H B (.lst [])=H1 at s1 XQ ⊢;obtain⟨F,hF⟩ : ∃F:Addr->Prop,F=λb=>b=B\/∃u,H b=some u:=⟨_,rfl⟩
  have FB:F B:=by rw[hF];exact .inl rfl
  have Fn:∀{b},H b=none->b≠B->¬F b:=λ{b} h1 h2 z=>by
   rw[hF]at z;rcases z with z|⟨u,z⟩
   ·exact h2 z
   ·rw[h1]at z;cases z
  refine⟨⟨_,aN.of (s1 _ _ OC)⟩,bL (aE _ ga vs) (λi σ H2=>∃(v4 v5 v6 v7:Option V)(BO:List V),σ=[some (.ref a),some (.ref ga),some (.str (bs word)),some (.ref B),v4,v5,v6,v7]/\ah H H2/\H2 B=some (.lst BO)/\oj (vv F H2) BO (Om.gM rows (sZ.take i) word)/\BO.length<=i*8)
   ⟨none,none,none,none,[],rfl,s1,XQ,oj.nil _,aaO _⟩ (λi σ H2 _ ⟨_,_,_,_,_,_,s2,_⟩=>aN.of (s2 _ _ OC)) ?_ ?_⟩
  ·intro i x σ H2 hi hx bP;refine az λak=>?_;obtain⟨v4,v5,v6,v7,BO,rfl,s2,h2,hG,vl⟩:=bP;refine ak ?_;clear ak;have bI:i<sZ.length:=by rw[<-hg.1];exact hi
   obtain⟨qg,lg,e1,e2,e3⟩:=hg.2 i sZ[i] (aab bI);rw[hx]at e1;cases e1;obtain⟨cF,htl⟩:=OB _ (aat bI);have eg2:=Fz rows word (aab bI);generalize hgi:sZ[i]=g at *
   refine⟨_,.inl (s2 _ _ e2),rfl,rfl,?_⟩;obtain⟨qx,rs,f1,f2,f3⟩:=da sW (s:=g.1) (st:=rows[g.1]) (aab cF);have eg:rows.getD g.1 []=rows[g.1]:=by rw[aag,aab cF];rfl
   have rl:rs.length=rows[g.1].length:=by rw[f3.length,aaa]
   have rk:rows[g.1].length=2 ^ k:=ok.len _ (aat cF);have r8:rows[g.1].length<=8:=by rw[rk];exact Om.Lr ok.k3
   refine⟨_,gt (s2 _ _ ha) (by decide) rfl,.ref qx,gl (s2 _ _ hb) (by omega) (by simpa using f1),⟨_,aN.of (s2 _ _ f2)⟩,?_⟩;refine qo (fM _ qx rs) (λj σ H3=>∃(v6 v7:Option V)(JM:List V),σ=[some (.ref a),some (.ref ga),some (.str (bs word)),some (.ref B),some (.int (g.1:Nat)),some (.ref lg),v6,v7]/\ah H H3/\H3 B=some (.lst JM)/\oj (vv F H3) JM (Om.gM rows (sZ.take i) word++zP rows word g j)/\JM.length<=i*8+j)
    ⟨v6,v7,BO,rfl,s2,h2,by simpa[zP]using hG,vl⟩ (λj σ H3 _ ⟨_,_,_,_,s3,_⟩=>s3 _ _ f2) ?_ ?_
   ·intro j tt σ H3 hj bP Uo;refine az λak=>?_;obtain⟨v6,v7,JM,rfl,s3,h3,SJ,Yj⟩:=bP;refine ak ?_;clear ak;have iA:j<rows[g.1].length:=by omega
    obtain⟨r,r1,r2⟩:=ia f3 (l:=j) (r:=rows[g.1][j]) (aab iA);have es:Om.step rows g.1 j=rows[g.1][j]:=by unfold Om.step;rw[eg,aag,aab iA];rfl
    have er:rs.getD j .bj = .ref r:=by rw[aag,r1];rfl
    have Pa:=AB rows word g j;rw[es]at Pa;generalize rows[g.1][j]=sU at *
    dsimp only;rw[er];refine⟨_,.inl aa,rfl,rfl,?_⟩;have w4:=ah.upd (o:=.tup [.int (j:Nat),.ref r]) Uo;have s4:=s3.trans w4;have h4:=w4 _ _ h3;have XJ:=SJ.mono (Eh (F:=F) w4);generalize upd H3 tt (.tup [.int (j:Nat),.ref r])=H4 at *
    refine⟨_,gt (s4 _ _ r2) (by decide) rfl,?_⟩;refine⟨rfl,?_⟩;show(if Txt.startswith (bs sU.1) (bs word)=true then _ else _);rw[Ap];refine aO (λc=>?_) (λc=>?_)
    ·have c:word <+: sU.1:=aaF c;rw[aaz c]at Pa;refine⟨⟨_,rfl,h4⟩,?_⟩;refine⟨_,gt (s4 _ _ r2) (by decide) rfl,ai (aai rfl),λp1 kF=>?_⟩;have w5:=ah.upd (o:=.lst [.int (j:Nat)]) kF;have h5:upd H4 p1 (.lst [.int (j:Nat)]) p1=some (.lst [.int (j:Nat)]):=aa;generalize upd H4 p1 (.lst [.int (j:Nat)])=H5 at *
     refine⟨_,_,(s4.trans w5) _ _ e3,h5,ai (by rw[aaa,i4];show _+1<=1000;omega),λp2 nG=>?_⟩;have e6:(ni g.2).map V.int++[V.int (j:Nat)]=(ni (g.2++[j])).map V.int:=by unfold ni;simp
     rw[e6];have w6:=ah.upd (o:=.lst ((ni (g.2++[j])).map V.int)) nG;have h6:upd H5 p2 (.lst ((ni (g.2++[j])).map V.int)) p2=some (.lst ((ni (g.2++[j])).map V.int)):=aa;have o2:H p2=none:=(s4.trans w5).free nG;have n2:p2≠B:=λz=>by rw[z,w5 _ _ h4]at nG;cases nG
     generalize upd H5 p2 (.lst ((ni (g.2++[j])).map V.int))=H6 at *
     refine⟨ai (aai rfl),λp3 yh=>?_⟩;have w7:=ah.upd (o:=.tup [.int (sU.2:Nat),.ref p2]) yh;have h7:upd H6 p3 (.tup [.int (sU.2:Nat),.ref p2]) p3=some (.tup [.int (sU.2:Nat),.ref p2]):=aa;have Tj:=(w5.trans w6).trans w7;have o3:H p3=none:=(s4.trans (w5.trans w6)).free yh;have n3:p3≠B:=λz=>by rw[z,(w5.trans w6) _ _ h4]at yh;cases yh
     have h67:=w7 _ _ h6;generalize upd H6 p3 (.tup [.int (sU.2:Nat),.ref p2])=H7 at *
     refine⟨_,Tj _ _ h4,bC (by omega),?_⟩;refine⟨_,_,JM++[.ref p3],rfl,(s4.trans Tj).own hB,aa,?_,by rw[aal];simp;omega⟩;rw[Pa,<-abi];refine oj.snoc (l:=p2) (XJ.mono (iK Tj FB)) (by rw[b7 (Fn o3 n3),af n3];exact h7) (by rw[b7 (Fn o2 n2),af n2];exact h67)
    ·have c:¬word <+: sU.1:=λz=>c (aaI z);rw[aar c,aa1]at Pa;exact⟨_,_,JM,rfl,s4,h4,by rw[Pa];exact XJ,by omega⟩
   ·intro σ H3 bP;refine az λak=>?_;obtain⟨v6,v7,JM,rfl,s3,h3,SJ,Yj⟩:=bP;refine ak ?_;clear ak;refine⟨_,_,_,_,JM,rfl,s3,h3,?_,by omega⟩;rw[eg2,eg];rw[rl]at SJ;exact SJ
  ·intro σ H2 bP;refine az λak=>?_;obtain⟨v4,v5,v6,v7,BO,rfl,s2,h2,hG,vl⟩:=bP;refine ak ?_;clear ak;rw[aaq (by rw[hg.1];exact aae _)]at hG;refine q B BO _ s2 hB h2 (hG.mono λb u e=>?_);by_cases z:F b
   ·rw[cY z]at e;cases e
   ·rw[b7 z]at e;rw[b7 (λy=>z (by rw[hF];exact .inr y))];exact e
 ·exact h.elim
end
def NW(P:Program)(w:World)(K:W.Frag)(mg:Str->Option Value)(base:Heap)(C:Addr):Prop:=
 ∃(fI:Addr)(fd:FuncData),vW K C fI/\cU P w K mg base kR 1 fI fd ["self","at"] (dZ C)/\Binds K fd ["self","at"] []/\mg "NoWire" = some (.ref C)/\W.keepIn K (.ref C)=true
section
theorem fN{c A B:Prop}[Decidable c](hc:c)(h:A):if c then A else B:=by rw[aaz hc];exact h
theorem IT{k n:Nat}{rows:Om.Rows}{wire:List Bool}(ok:Om.aq k n rows){i:Nat}{c:List Nat}{gl:List Om.Gs}(h:Om.fh rows k n wire i c gl)(hi:n*i<=wire.length)(e:Om.gM rows gl ((wire.drop (n*i)).take n)=[])(t:List Nat):¬Om.GT rows k n wire (i+1) t:=λht=>h.some ok hi ht e
theorem Iv(ls:List Nat)(c:Nat):((ni ls).map V.int).take c=(ni (ls.take c)).map V.int:=by unfold ni;rw[acF,acF]
theorem Iw(ls:List Nat)(c:Nat):((ni ls).map V.int).drop c=(ni (ls.drop c)).map V.int:=by unfold ni;rw[acW,acW]
theorem Nb(ls ms:List Nat):(ni ls).map V.int++(ni ms).map V.int=(ni (ls++ms)).map V.int:=by unfold ni;rw[aao,aao]
theorem NX(xs:List V)(h:Nat):dm xs none (some (h:Int))=xs.take h:=by have:=lG xs 0 h;unfold dm at this ⊢;rw[show HT.jh xs.length 0 none=HT.jh xs.length 0 (some ((0:Nat):Int))by rw[HT.i3,HT.dO];omega,this,acb,Nat.sub_zero]
theorem FO(xs:List V)(a:Nat):dm xs (some (a:Int)) none=xs.drop a:=by have:=lG xs a xs.length;unfold dm at this ⊢;rw[show HT.jh xs.length xs.length none=HT.jh xs.length xs.length (some ((xs.length:Nat):Int))by rw[HT.i3,HT.dO];omega,this,aaq (by rw[abC];exact aae _)]
abbrev TJ:Stmt:=top 54
def GB(P0 C0 C:Addr):Sp:=λvs H Q E=>match vs with
 | [cv,.str z]=>∃(k n:Nat)(rows:Om.Rows)(wire:List Bool),DV H cv (aR k n rows)/\Om.aq k n rows/\Tab P0 (aC aP) fi H/\z=bs wire/\wire.length<=2000 ∧
   (∀qs H',aw P0 H H'->Tab P0 (aC aP) fi H'->gH rows qs->kr rows qs->E (.ref C0) none H') ∧
   ∀qs,gH rows qs->¬kr rows qs →
    (∀i d H',i<kQ n wire->(∃t,Om.GT rows k n wire i t)->(∀t,¬Om.GT rows k n wire (i+1) t)->aw P0 H H'->Tab P0 (aC aP) fi H'->H' d=none->E (.ref C) (some d) (upd H' d (.xd [("at",.int (i:Nat))]))) ∧
    ∀l (c:List Nat) H',aw P0 H H'->Tab P0 (aC aP) fi H'->H l=none->H' l=some (.lst ((ni c).map V.int))->Om.OR (Om.GT rows k n wire (kQ n wire)) c->(∀x∈c,x<2 ^ k)->c.length<=kQ n wire->Q (.ref l) H'
 | _=>False
theorem Qc:ao ["code","wire","certain","guesses","at","word","count"] ["code","wire"] (ae TJ):=⟨rfl,rfl,rfl,by decide +kernel,rfl,by decide +kernel,by decide +kernel⟩
local macro_rules|`(tactic|walk_at"t")=>`(tactic|(have eu:(["state","tail","count"]:List Str).Nodup:=(by decide +kernel));((with_reducible refine' wk "guesses" 3 ["state","tail","count"] [6] ?b1 ?b0 ?b2 (λcl C s H fp=>?b3) (λcl C s H fp=>?b4) (λcl C s H fp=>?b5));(case b1=>exact eu);(case b0=>assumption);(case b2=>walk_at"e");(case b3=>walk_at"d");(case b4=>walk_at"f");(case b5=>walk_at"a")))
local macro_rules|`(tactic|walk_at"h")=>`(tactic|(have eu:(["state","tail"]:List Str).Nodup:=(by decide +kernel));((with_reducible refine' bM ["state","tail"] [] ?b1 ?b2 (λcl C s H fp=>?b3) (λcl C s H fp=>?b4) (λcl C s H fp=>?b5));(case b1=>exact eu);(case b2=>walk_at"e");(case b3=>walk_at"d");(case b4=>walk_at"f");(case b5=>walk_at"a")))
local macro_rules|`(tactic|walk_at"k")=>`(tactic|first|((with_reducible refine' Kg (hp:=PassesOwn.leaving) ?a1 ?a2 ?a3);(case a1=>walk_at"e");(case a2=>walk_at"d");(case a3=>walk_at"p"))|((with_reducible refine' Et ?a0 ?a1 ?a2 ?a3 ?a4 ?a5 ?a6);(case a0=>walk_at"F");(case a1=>walk_at"F");(case a2=>walk_at"F");(case a3=>walk_at"F");(case a4=>walk_at"F");(case a5=>exact av.mono (by assumption) (by first|decide|exact aae _));(case a6=>walk_at"b"))|((with_reducible refine' i0 ?a0 ?a3 ?a6);(case a0=>walk_at"F");(case a3=>walk_at"F");(case a6=>walk_at"b")))
theorem Rg{P0 C0 C:Addr}(D:bX K mg "read" TJ ["code","wire"])(g1:mg "enumerate" = none)(c1:aJ P w K mg base "late" 6 ["code"] (p9 P0))(c2:aJ P w K mg base "given_words" 2 ["code","wire"] qM)(c3:aJ P w K mg base "guesses_behind" 1 ["code","guesses","word"] qK)(c4:aJ P w K mg base "shared_count" 1 ["tails"] mi)(Z:NW P w K mg base C)(Z0:gR K C0)(m0:mg "NoCode" = some (.ref C0)):iF P w K mg base "read" 7 ["code","wire"] (GB P0 C0 C):=by
 obtain⟨fI,fd,Z1,F1,B1,m1,k1⟩:=Z;refine iU (k:=6) D Qc (λvs H Q E h=>?_) (λf aA A outer s H vs Q E hr h=>?_)
 all_goals
  unfold GB at h;split at h
 ·rfl
 ·exact h.elim
 ·rename_i cv z;refine az λak=>?_;obtain⟨k,n,rows,wire,hc,ok,tb,rfl,QJ,qn,q⟩:=h;refine ak ?_;clear ak;have nd:=Qc.nd;refine⟨_,(by walk_at"c"),?_⟩;refine⟨k,n,rows,hc,ok,tb,λqs H1 s1 t1 rc go bk=>?_,λd qs H1 s1 t1 rc go nb dl d64=>?_⟩
  ·dsimp only[gX,fk,JO,sT,tV,tC,vO,bu];refine fN rfl ?_;exact⟨by decide,qn qs H1 s1 t1 rc bk⟩
  have lb:=Nh ok rc go dl;obtain⟨qe,q⟩:=q qs rc nb;clear qn dl go rc nb;have zK:=hc.dC tb s1;dsimp only[gX,fk,JO,sT,tV,tC,vO,bu];refine fZ (by simp) ?_;refine⟨aaO _,λL hL=>?_⟩;have w1:=ah.upd (o:=.lst []) hL;have SI:upd H1 L (.lst []) L=some (.lst []):=aa;have t2:=t1.mono w1;have LP:L≠P0:=λz=>by obtain⟨ps,e⟩:=t1.eL;rw[z,e]at hL;cases hL
  generalize upd H1 L (.lst [])=H2 at *
  refine⟨aaO _,λz1 KU=>?_⟩;have w2:=ah.upd (o:=.lst []) KU;have Ph:upd H2 z1 (.lst []) z1=some (.lst []):=aa;have Y2:z1≠L:=λz=>by rw[z,SI]at KU;cases KU
  generalize upd H2 z1 (.lst [])=H3 at *
  refine⟨ai (aai rfl),λz2 GU=>?_⟩;have w3:=ah.upd (o:=.tup [.int 0,.ref z1]) GU;have Xr:upd H3 z2 (.tup [.int 0,.ref z1]) z2=some (.tup [.int 0,.ref z1]):=aa;have Y1:z2≠L:=λz=>by rw[z,w2 _ _ SI]at GU;cases GU
  have Qp:=w3 _ _ Ph;generalize upd H3 z2 (.tup [.int 0,.ref z1])=H4 at *
  refine⟨ai (aai rfl),λz3 GS=>?_⟩;have w4:=ah.upd (o:=.lst [.ref z2]) GS;have Zy:upd H4 z3 (.lst [.ref z2]) z3=some (.lst [.ref z2]):=aa;have Y0:z3≠L:=λz=>by rw[z,(w2.trans w3) _ _ SI]at GS;cases GS
  have To:=(w2.trans w3).trans w4;have G4:oj (vA L (upd H4 z3 (.lst [.ref z2]))) [.ref z2] [(0,[])]:=by
   refine⟨rfl,λi g e=>?_⟩;have lt:=(aaB.mp e).1;have ei:i=0:=by simpa using lt
   subst ei;cases e;exact⟨z2,z1,rfl,vA.at (w4 _ _ Xr) Y1,vA.at (w4 _ _ Qp) Y2⟩
  generalize upd H4 z3 (.lst [.ref z2])=H5 at *
  clear Qp Ph Xr KU GU GS w3 w4;have OF:=(zK.mono w1).mono To;have hL5:=To _ _ SI;have s5:=w1.trans To;obtain⟨a,b,ss,rfl,ha,sY,sW⟩:=bH zK;have n1:=ok.n1;have nwl:=MZ (wire:=wire) n1;refine⟨wire,k,n,rows,OF,ok,rfl,QJ,λv H6 s6 wp=>?_⟩;obtain⟨l,rfl,hl⟩:=wp;refine⟨⟨_,aN.of hl⟩,?_⟩;refine qo (fM _ l _) (λi σ H7=>∃(v4 v5 v6:Option V)(g:Addr)(vs:List V)(sZ:List Om.Gs)(c:List Nat),σ=[some (.ref a),some (.str (bs wire)),some (.ref L),some (.ref g),v4,v5,v6]/\ah H1 H7/\H7 l=some (.lst ((List.range (kQ n wire)).map λi=>V.str (bs (sO n wire i))))/\H7 L=some (.lst ((ni c).map V.int))/\g≠L/\H7 g=some (.lst vs)/\oj (vA L H7) vs sZ/\Om.fh rows k n wire i c sZ)
   ⟨none,none,none,z3,[.ref z2],[(0,[])],[],rfl,s5.trans s6,hl,s6 _ _ hL5,Y0,s6 _ _ Zy,G4.mono (tQ s6),Om.IQ rows k n wire⟩ (λi σ H7 _ ⟨_,_,_,_,_,_,_,_,_,h,_⟩=>h) ?_ ?_
  ·intro i tt σ H7 hi bP Uo;refine az λak=>?_;obtain⟨v4,v5,v6,g,vs,sZ,c,rfl,s7,Pu,PK,Y5,Uz,UO,inv⟩:=bP;refine ak ?_;clear ak;have bI:i<kQ n wire:=by simpa using hi
   have er2:((List.range (kQ n wire)).map λi=>V.str (bs (sO n wire i))).getD i .bj = .str (bs (sO n wire i)):=by simp[aag,bI]
   have OA:n*i<=wire.length:=abV (MY n1 bI);have lL:l≠L:=λz=>by
    rw[z,PK]at Pu;have h1:=aaw Pu;injection h1 with h1;have h3:=aaX (λy:List V=>y[0]?) h1;have h5:0<kQ n wire:=by omega
    cases c with
    | nil=>simp[ni,h5]at h3
    | cons x c=>simp[ni,h5]at h3
   have g8:=inv.Zo ok lb OA;have glg:=inv.long ok lb OA;have UU:=inv.tail;have vD:∀g∈sZ,g.1<rows.length/\g.2.length<=64:=λg hg=>by obtain⟨m1,m2⟩:=(inv.mem g).mp hg;refine⟨by rw[<-m2];exact(Om.bt ok _ 0 ok.s1 m1.1).2,?_⟩;have:=UU g hg;omega
   have Wy:=Om.ND ok (word:=sO n wire i) g8 λg hg=>(vD g hg).1;have Qx:=IT (wire:=wire) ok inv OA;have KA:∀g∈Om.gM rows sZ (sO n wire i),g.2.length=i+1-c.length:=λg hg=>by obtain⟨p,hp,l',_,_,rfl⟩:=Om.rF.mp hg;have:=UU p hp;simp;omega
   have KO:=λ{m:Nat}{g0:Om.Gs}=>inv.step ok OA (m:=m) (g0:=g0);have ci:c.length<=i:=by obtain⟨p,hp⟩:=abp _ inv.ne;have:=UU p hp;omega
   rw[show(wire.drop (n*i)).take n=sO n wire i from rfl]at Qx;have KO:∀{m:Nat}{g0:Om.Gs},(Om.gM rows sZ (sO n wire i))[0]? = some g0->Om.Vq ((Om.gM rows sZ (sO n wire i)).map (·.2)) m->Om.fh rows k n wire (i+1) (c++g0.2.take m) (Om.iJ m (Om.gM rows sZ (sO n wire i))):=KO;dsimp only;rw[er2];refine⟨_,.inl aa,rfl,rfl,?_⟩;have w8:=ah.upd (o:=.tup [.int (i:Nat),.str (bs (sO n wire i))]) Uo;have s8:=s7.trans w8;have Z6:=w8 _ _ Pu;have UM:=w8 _ _ PK;have hg8:=w8 _ _ Uz;have hG8:=UO.mono (tQ (B:=L) w8);generalize upd H7 tt (.tup [.int (i:Nat),.str (bs (sO n wire i))])=H8 at *
   clear Pu PK Uz UO w8;refine⟨k,n,rows,sZ,vs,sO n wire i,zK.mono s8,ok,hg8,hG8.mono vA.same,g8,λg hg=>⟨(vD g hg).1,by have:=(vD g hg).2;omega⟩,rfl,λB Oj H9 w9 nB hB UN=>?_⟩;have PL:=UN.mono (iV _ _);have s9:=s8.trans w9;have Z5:=w9 _ _ Z6;have hL9:=w9 _ _ UM;have Y9:B≠L:=λz=>by rw[z,UM]at nB;cases nB
   generalize Om.gM rows sZ (sO n wire i)=gb at *
   by_cases LI:gb=[]
   ·subst LI;have v0:Oj=[]:=abH.mp PL.1;subst v0;refine⟨_,hB,aO (λ_=>?_) (λz=>absurd rfl z)⟩;obtain⟨g1,gm⟩:=abp _ inv.ne;exact⟨_,rfl,⟨by omega,by omega⟩,λd hd=>qe i d _ bI ⟨_,((inv.mem g1).mp gm).1⟩ (Qx rfl) (s1.trans s9.t) (t1.mono s9) hd⟩
   have lp:0<gb.length:=adx.mpr LI;obtain⟨g0,UA⟩ : ∃g0,gb[0]? = some g0:=⟨_,aab lp⟩
   have vl:=PL.1;refine⟨_,hB,aO (λz=>?_) (λ_=>?_)⟩
   ·have z:Oj.length=0:=by cases Oj with|nil=>rfl|cons x xs=>simp at z
    omega
   dsimp only[bu];refine⟨⟨_,aN.of hB⟩,λM hM=>?_⟩;refine bE (aE _ B Oj) (λj τ vH ys=>(∃v v',τ=[v,v'])/\ah H9 vH/\vH M=some (.lst ys)/\J2 H9 ys ((gb.take j).map (·.2))) (ai (by omega)) ⟨⟨none,none,rfl⟩,ah.upd hM,aa,rfl,λi t e=>by simp at e⟩ ?_ ?_ ?_
   ·rintro j τ vH ys hj ⟨_,JL,OM,hT⟩;exact⟨aN.of (JL _ _ hB),OM,by rw[hT.1,aaa,aas];exact abJ _ _⟩
   ·rintro j y τ vH ys hj hy ⟨⟨v,v',rfl⟩,JL,OM,hT⟩;have iA:j<gb.length:=by omega
    obtain⟨qj,lj,e1,e2,e3⟩:=PL.2 j gb[j] (aab iA);rw[hy]at e1;cases e1;refine⟨_,.inl (JL _ _ e2),rfl,rfl,?_⟩;refine⟨OM,⟨_,_,rfl⟩,JL.own hM,aa,?_⟩;rw[aaL,aab iA,aao];exact hT.snoc e3
   rintro τ vH ys ⟨_,JL,OM,hT⟩;rw[aaq (by omega)]at hT;refine⟨ys,gb.map (·.2),i+1-c.length,OM,hT.mono JL,by simpa using LI,by rw[aaa];exact Wy,λt ht=>?_,by omega,λcnt Lc O5 shr=>?_⟩
   ·obtain⟨g',Py,rfl⟩:=aan.mp ht;exact KA g' Py
   have V7:=KO UA shr;have vJ:=JL.trans O5;have LG:=vJ _ _ hL9;have Qq:=vJ _ _ Z5;have LH:=vJ _ _ hB;have Qt:=PL.mono vJ;have Ol:=s9.trans vJ;clear JL O5 OM hT hM;obtain⟨q0,Zq,e1,e2,e3⟩:=Qt.2 0 g0 UA;dsimp only[aQ,bu];refine⟨⟨_,rfl,LG⟩,.ref q0,gl LH (by decide) (by simpa using e1),.ref Zq,gt e2 (by decide) rfl,_,e3,λS hS=>?_⟩;rw[NX,Iv];have Oi:=ah.upd (o:=.lst ((ni (g0.2.take cnt)).map V.int)) hS;have Qs:upd Lc S (.lst ((ni (g0.2.take cnt)).map V.int)) S=some (.lst ((ni (g0.2.take cnt)).map V.int)):=aa;generalize upd Lc S (.lst ((ni (g0.2.take cnt)).map V.int))=OT at *
   have tk:(g0.2.take cnt).length<=66:=by have h1:=KA g0 (aaP UA);rw[aas];omega
   refine⟨_,_,Oi _ _ LG,Qs,fL (by rw[aaa,aaa,i4,i4];omega),?_⟩;rw[Nb];have GY:upd OT L (.lst ((ni (c++g0.2.take cnt)).map V.int)) L=some (.lst ((ni (c++g0.2.take cnt)).map V.int)):=aa;have YH:ah H1 (upd OT L (.lst ((ni (c++g0.2.take cnt)).map V.int))):=(Ol.trans Oi).own hL;have Wn:upd OT L (.lst ((ni (c++g0.2.take cnt)).map V.int)) l=_:=(af lL).trans (Oi _ _ Qq);have Qu:upd OT L (.lst ((ni (c++g0.2.take cnt)).map V.int)) B=_:=(af Y9).trans (Oi _ _ LH);have Wv:oj (upd OT L (.lst ((ni (c++g0.2.take cnt)).map V.int))) Oj gb:=(UN.mono (iK (vJ.trans Oi) ⟨_,UM⟩)).mono (iV _ _);generalize upd OT L (.lst ((ni (c++g0.2.take cnt)).map V.int))=H13 at *
   clear LG Qq LH Qt Ol Oi Qs UN PL vJ e1 e2 e3 hS;dsimp only[aQ,bu];refine⟨⟨_,aN.of Qu⟩,λC hC=>?_⟩;have Y8:C≠L:=λz=>by rw[z,GY]at hC;cases hC
   have VD:=ah.upd (o:=.lst []) hC;obtain⟨F,hF⟩ : ∃F:Addr->Prop,F=λb=>b=L\/b=C:=⟨_,rfl⟩
   have FC:F C:=by rw[hF];exact .inr rfl
   have Fn:∀{b},b≠L->b≠C->¬F b:=λ{b} h1 h2 z=>by rw[hF]at z;exact z.elim h1 h2
   refine bE (aE _ B Oj) (λj τ J5 ys=>(∃v v',τ=[v,v',some (.int (cnt:Nat))])/\ah H13 J5/\J5 C=some (.lst ys)/\oj (vv F J5) ys (Om.iJ cnt (gb.take j))) (ai (by omega)) ⟨⟨none,none,rfl⟩,VD,aa,oj.nil _⟩ ?_ ?_ ?_
   ·rintro j τ J5 ys hj ⟨_,BN,Gv,hD⟩;exact⟨aN.of (BN _ _ Qu),Gv,by rw[hD.1];unfold Om.iJ;rw[aaa,aas];exact abJ _ _⟩
   ·rintro j y τ J5 ys hj hy ⟨⟨v,v',rfl⟩,BN,Gv,hD⟩;have iA:j<gb.length:=by omega
    obtain⟨qj,lj,e1,e2,e3⟩:=Wv.2 j gb[j] (aab iA);rw[hy]at e1;cases e1;refine⟨_,.inl (BN _ _ e2),rfl,rfl,?_⟩;refine⟨_,BN _ _ e3,λp1 kF=>?_⟩;rw[FO,Iw];have Tn:=ah.upd (o:=.lst ((ni (gb[j].2.drop cnt)).map V.int)) kF;have SK:upd J5 p1 (.lst ((ni (gb[j].2.drop cnt)).map V.int)) p1=some (.lst ((ni (gb[j].2.drop cnt)).map V.int)):=aa;have m1:p1≠L:=λz=>by rw[z,BN _ _ GY]at kF;cases kF
    have m2:p1≠C:=λz=>by rw[z,Gv]at kF;cases kF
    generalize upd J5 p1 (.lst ((ni (gb[j].2.drop cnt)).map V.int))=X7 at *
    refine⟨ai (aai rfl),λp2 nG=>?_⟩;have WT:=ah.upd (o:=.tup [.int (gb[j].1:Nat),.ref p1]) nG;have h17:upd X7 p2 (.tup [.int (gb[j].1:Nat),.ref p1]) p2=some (.tup [.int (gb[j].1:Nat),.ref p1]):=aa;have m3:p2≠L:=λz=>by rw[z,(BN.trans Tn) _ _ GY]at nG;cases nG
    have m4:p2≠C:=λz=>by rw[z,Tn _ _ Gv]at nG;cases nG
    have Wx:=WT _ _ SK;generalize upd X7 p2 (.tup [.int (gb[j].1:Nat),.ref p1])=H17 at *
    have Cq:=Tn.trans WT;refine⟨Cq _ _ Gv,⟨_,_,rfl⟩,(BN.trans Cq).own hC,aa,?_⟩;have ed:Om.iJ cnt (gb.take (j+1))=Om.iJ cnt (gb.take j)++[(gb[j].1,gb[j].2.drop cnt)]:=by unfold Om.iJ;rw[aaL,aab iA,aao];rfl
    rw[ed];exact oj.snoc (l:=p1) (hD.mono (iK Cq FC)) (by rw[b7 (Fn m3 m4),af m4];exact h17) (by rw[b7 (Fn m1 m2),af m2];exact Wx)
   rintro τ J5 ys ⟨_,BN,Gv,hD⟩;rw[aaq (by omega)]at hD;refine⟨_,_,_,C,ys,_,_,rfl,YH.trans BN,BN _ _ Wn,BN _ _ GY,Y8,Gv,hD.mono λb u e=>?_,V7⟩;by_cases z:F b
   ·rw[cY z]at e;cases e
   ·rw[b7 z]at e;exact vA.at e λy=>z (by rw[hF];exact .inl y)
  ·intro σ H7 bP;refine az λak=>?_;obtain⟨v4,v5,v6,g,vs,sZ,c,rfl,s7,Pu,PK,Y5,Uz,UO,inv⟩:=bP;refine ak ?_;clear ak;rw[aaa,aaK]at inv;obtain⟨p,hp⟩:=abp _ inv.ne;refine q L c H7 (s1.trans s7.t) (t1.mono s7) (s1.free hL LP) PK inv.Ug (λx hx=>((inv.mem p).mp hp).1.1 x (aa7 _ hx)) ?_;have:=inv.tail p hp;omega
 ·exact h.elim
end
section
abbrev rj:Stmt:=top 36
def qT:Sp:=λvs H Q _=>match vs with
 | [.int k,.ref t]=>∃(j:Nat)(ls:List Int),k=(j:Int)/\1<=j/\j<=3/\H t=some (.lst (ls.map V.int))/\(∀l∈ls,0<=l/\l<2 ^ j)/\ls.length<=100/\∀p H',ah H H'->H p=none->H' p=some (.lst (((ls.map (Om.bN j)).flatten).map V.int))->Q (.ref p) H'
 | _=>False
theorem ug:ao ["k","text","bits","letter"] ["k","text"] (ae rj):=⟨rfl,rfl,rfl,by decide +kernel,rfl,by decide +kernel,by decide +kernel⟩
local macro_rules|`(tactic|walk_at"h")=>`(tactic|(have eu:(["place","letter"]:List Str).Nodup:=(by decide +kernel));((with_reducible refine' bM ["place","letter"] [3] ?b1 ?b2 (λcl C s H fp=>?b3) (λcl C s H fp=>?b4) (λcl C s H fp=>?b5));(case b1=>exact eu);(case b2=>walk_at"e");(case b3=>walk_at"d");(case b4=>walk_at"f");(case b5=>walk_at"a")))
theorem AU(D:bX K mg "bits_of" rj ["k","text"])(g5:mg "range" = none)(c1:aJ P w K mg base "is_letter_list" 3 ["k","thing"] gj):aJ P w K mg base "bits_of" 4 ["k","text"] qT:=by
 refine ar (k:=3) D ug (λvs H Q E h=>?_) (λf aA A outer s H vs Q E hr h=>?_)
 all_goals
  unfold qT at h;split at h
 ·rfl
 ·exact h.elim
 ·rename_i k t;refine az λak=>?_;obtain⟨j,ls,rfl,j1,j3,ht,nV,hlen,q⟩:=h;refine ak ?_;clear ak;have nd:=ug.nd;refine⟨_,(by walk_at"c"),?_⟩;refine⟨j,rfl,.inr ⟨t,_,_,rfl,ht,bO.ints _,by rw[aaa];omega,λH1 s1=>?_⟩⟩;have al:(ls.map V.int).all (ltV j)=true:=by rw[aaZ];intro x hx;obtain⟨i,hi,rfl⟩:=aan.mp hx;obtain⟨h0,h1⟩:=nV i hi;show(decide (0<=i)&&decide (i<2 ^ j))=true;rw[aaI h0,aaI h1];rfl
  rw[al];refine dX ?_;refine⟨aaO _,λbl OG=>?_⟩;have LM:∀i,(((ls.take i).map (Om.bN j)).flatten).length<=300:=λi=>by
   have h1:(((ls.take i).map (Om.bN j)).flatten).length=((ls.take i).map (Om.bN j)).length*j:=Om.mP _ λc hc=>by obtain⟨l,_,rfl⟩:=aan.mp hc;unfold Om.bN;simp
   rw[h1,aaa,aas]
   calc min i ls.length*j<=100*3:=ac7 (by omega) j3
    _<=300:=by decide
  have Xf:H bl=none:=s1.free OG;refine⟨⟨_,aN.of (ah.upd OG _ _ (s1 _ _ ht))⟩,bL (aE _ t (ls.map V.int)) (λi σ H2=>(∃v,σ=[some (.int j),some (.ref t),some (.ref bl),v])/\ah H H2/\H2 bl=some (.lst ((((ls.take i).map (Om.bN j)).flatten).map V.int)))
   ⟨⟨none,rfl⟩,s1.trans (ah.upd OG),aa⟩ (λi σ H2 _ ⟨_,e,_⟩=>aN.of (e _ _ ht)) ?_ ?_⟩
  ·rintro i x σ H2 hi hx ⟨⟨v,rfl⟩,s2,sX⟩;rw[aak]at hx;obtain⟨l,hl,rfl⟩:=aaN.mp hx;obtain⟨l0,l1⟩:=nV l (aaP hl);refine⟨⟨_,rfl,sX⟩,?_⟩;have rs:Builtin.Range.rangeSize ((j:Int)-1) (-1) (-1)=(j:Int):=by unfold Builtin.Range.rangeSize;rw[aar (by decide),aaz (by omega)];simp
   refine⟨⟨by omega,by omega,by omega,by omega,by decide,by decide,by decide⟩,λD2 BS=>?_⟩;rw[rs];refine eK (j4 ((j:Int)-1) (-1) (j:Int).toNat) (λx=>match x with | .int p=>.int (l / 2 ^ p.toNat % 2)|_=>x) (by simp;exact ai (by omega)) (λo=>trivial) (λi' x' ys BF C c=>?_) ?_
   ·rw[aak]at BF;obtain⟨m,hm,rfl⟩:=aaN.mp BF;have zI:m<j:=by have:=aaP hm;simpa using this
    refine⟨(by omega:(0:Int)<=(j:Int)-1+(m:Int)*(-1)),?_⟩;show C (.int (Builtin.bitAnd _ 1)) _;rw[PyProof.Rows.bitAnd_m1];exact c
   ·have hb3:∀o,upd H2 D2 o bl=H2 bl:=λo=>af (aj sX BS);have ti:ls.take (i+1)=ls.take i++[l]:=by rw[aaL,hl];rfl
    have eb:((List.range (j:Int).toNat).map λi:Nat=>V.int ((j:Int)-1+(i:Nat)*(-1))).map (λx=>match x with|V.int p=>V.int (l / 2 ^ p.toNat % 2)|_=>x)=(Om.bN j l).map V.int:=by
     unfold Om.bN;rw[aaC,aaC,abh];apply aaW;intro m hm;have zI:m<j:=by simpa using hm
     have e:((j:Int)-1+(m:Int)*(-1)).toNat=j-1-m:=by omega
     show V.int (l / 2 ^ ((j:Int)-1+(m:Int)*(-1)).toNat % 2)=V.int (l / 2 ^ (j-1-m) % 2);rw[e]
    refine⟨_,_,(hb3 _).trans sX,aa,?_,?_⟩
    ·have h1:=LM i;rw[aaa,aaa,aaa,aaK];exact ai (by omega)
    ·refine⟨⟨some (.int l),rfl⟩,λx o e=>?_,?_⟩
     ·rw[af (aj e Xf)];exact ah.upd BS _ _ (s2 _ _ e)
     ·rw[aa,eb,ti,aao,List.flatten_append,aao];simp
  ·rintro σ H2 ⟨⟨v,rfl⟩,s2,sX⟩;rw[aaa,aaY]at sX;exact q bl H2 s2 Xf sX
 ·exact h.elim
end
theorem Am(z:Str)(i j:Nat):(PySem.Builtin.Str.strSub z i j).length<=z.length:=by show(z.cps.extract i j).size<=z.cps.size;rw[Array.size_extract];omega
theorem jc(z y:Str)(k:Int):(∀p∈Txt.splitMax z y k,p.length<=z.length):=by
 unfold Txt.splitMax;intro p hp;split at hp
 ·rw[aaA.mp hp];exact aae _
 ·split at hp
  ·rw[aaA.mp hp];exact aae _
  ·unfold PySem.Builtin.Str.partsBetween at hp;obtain⟨⟨i,j⟩,_,rfl⟩:=aan.mp hp;exact Am _ _ _
theorem rW(z:Str)(k:Int)(hk:k<=2)(hz:z.length<=997):(Txt.splitMax z (" " : Str) k).length<=1000:=by
 unfold Txt.splitMax;split
 ·exact aai rfl
 ·split
  ·exact aai rfl
  ·rw[length_partsBetween];have:=acI z (" " : Str) 0 z.length (limitOf z k);have l2:limitOf z k<=z.length+2:=by unfold limitOf;split<;>omega
   have l3:=acI z (" " : Str) 0 z.length (z.length+1);omega
def qc:Str:= "abcdefghijklmnopqrstuvwxyz"
def cf(z:Str):Bool:=decide ((1:Int)<=(z.length:Int))&&decide ((z.length:Int)<=8)&&decide (Txt.stripChars z qc=("" : Str))
def iO(z:Str):Bool:=!decide (z=("" : Str))&&Om.jq (.str z) (z.length:Int)
def tL:List Str:=["1","2","3","4","5","6","7","8"]
def zZ:List Str:=["late","still","settle","lean","window"]
def dF(v z:Str):Bool:=if v=("code" : Str)then true else if v=("marks" : Str)then decide (z∈tL)else decide (v∈(["send","read"]:List Str))&&(decide (z=("-" : Str)) || iO z)
def bS:List Str->Bool
 | [v,nm]=>cf nm&&decide (v∈zZ)
 | [v,nm,x]=>cf nm&&dF v x
 | _=>false
def aV(z:Str):List Str:=if(iz z).head? = some ("code" : Str)then Txt.splitMax z (" " : Str) 2 else iz z
def TupAt(K:W.Frag)(mg:Str->Option Value)(x:Str)(a:Addr)(zs:List Str):Prop:=mg x=some (.ref a)/\∀H,pQ K H a (zs.map V.str)
section
abbrev Cz:Stmt:=top 94
def we:Sp:=λvs H Q _=>match vs with
 | [.str z]=>z.length<=1000/\Q (.bl (cf z)) H
 | _=>False
theorem Dn:ao ["word"] ["word"] (ae Cz):=⟨rfl,rfl,rfl,by decide +kernel,rfl,by decide +kernel,by decide +kernel⟩
local macro_rules|`(tactic|walk_at"n")=>`(tactic|first|((with_reducible refine' qq ?a0 ?a9);(case a0=>walk_at"F");(case a9=>rfl))|((with_reducible refine' NT ?a0 ?a9);(case a0=>walk_at"F");(case a9=>rfl)))
theorem Ik(D:bX K mg "is_name" Cz ["word"])(g1:mg "len" = none)(g2:∃tk,mg "SMALL_LETTERS" = some (.str qc tk))(g3:∃tk,mg "LONGEST_NAME" = some (.int 8 tk)):aJ P w K mg base "is_name" 1 ["word"] we:=by
 refine ar (k:=0) D Dn (λvs H Q E h=>?_) (λf aA A outer s H vs Q E hr h=>?_)
 all_goals
  unfold we at h;split at h
 ·rfl
 ·exact h.elim
 ·rename_i z;obtain⟨hz,q⟩:=h;have nd:=Dn.nd;refine⟨_,(by walk_at"j"),?_⟩;refine⟨_,ju (ai hz),?_⟩;unfold cf at q;refine aO (λh1=>?_) (λh1=>?_)
  ·rw[h1,aa4]at q;refine aO (λh2=>?_) (λh2=>?_)
   ·rw[h2,aa4]at q;exact⟨rfl,ai hz,q⟩
   ·rw[abq.mpr h2,abk]at q;exact q
  ·rw[abq.mpr h1]at q;exact q
 ·exact h.elim
end
section
abbrev wu:Stmt:=top 96
def qE:Sp:=λvs H Q _=>match vs with
 | [.str z]=>z.length<=1000/\Q (.bl (iO z)) H
 | _=>False
theorem yP:ao ["word"] ["word"] (ae wu):=⟨rfl,rfl,rfl,by decide +kernel,rfl,by decide +kernel,by decide +kernel⟩
theorem EO(D:bX K mg "is_signs" wu ["word"])(g1:mg "len" = none)(c1:aJ P w K mg base "is_word" 1 ["thing","n"] kX):aJ P w K mg base "is_signs" 2 ["word"] qE:=by
 refine ar (k:=1) D yP (λvs H Q E h=>?_) (λf aA A outer s H vs Q E hr h=>?_)
 all_goals
  unfold qE at h;split at h
 ·rfl
 ·exact h.elim
 ·rename_i z;obtain⟨hz,q⟩:=h;have nd:=yP.nd;refine⟨_,(by walk_at"j"),?_⟩;unfold iO at q;refine aO (λh1=>?_) (λh1=>?_)
  ·rw[h1,aa4]at q;refine⟨_,ju (ai hz),?_⟩;exact⟨.str z,.str z,by rw[bf,aaH];exact hz,q⟩
  ·rw[abq.mpr h1,abk]at q;exact q
 ·exact h.elim
abbrev CC:Stmt:=top 95
def wg:Sp:=λvs H Q _=>match vs with
 | [.str v,.str z]=>z.length<=1000/\∀H',ah H H'->Q (.bl (dF v z)) H'
 | _=>False
theorem Dr:ao ["verb","word"] ["verb","word"] (ae CC):=⟨rfl,rfl,rfl,by decide +kernel,rfl,by decide +kernel,by decide +kernel⟩
local macro_rules|`(tactic|walk_at"n")=>`(tactic|first|((with_reducible refine' qq ?a0 ?a9);(case a0=>walk_at"F");(case a9=>rfl))|((with_reducible refine' NS ?a0 ?a9);(case a0=>walk_at"F");(case a9=>rfl)))
local macro_rules|`(tactic|walk_at"l")=>`(tactic|first|(with_reducible exact DK)|((with_reducible refine' l6 ?a1);(case a1=>exact av.units (by assumption))))
theorem Io{aL:Addr}(D:bX K mg "fits" CC ["verb","word"])(g1:∃tk,mg "NOTHING" = some (.str "-" tk))(g2:TupAt K mg "LENGTHS" aL tL)(c1:aJ P w K mg base "is_signs" 2 ["word"] qE):aJ P w K mg base "fits" 3 ["verb","word"] wg:=by
 obtain⟨g3,g4⟩:=g2;refine ar (k:=2) D Dr (λvs H Q E h=>?_) (λf aA A outer s H vs Q E hr h=>?_)
 all_goals
  unfold wg at h;split at h
 ·rfl
 ·exact h.elim
 ·rename_i v z;obtain⟨hz,q⟩:=h;have nd:=Dr.nd;refine⟨_,(by walk_at"c"),?_⟩;refine aO (λh1=>?_) (λh1=>?_)
  ·have e:dF v z=true:=by unfold dF;rw[aaz (aaF h1)]
   rw[e]at q;exact q _ (ah.refl _)
  have h1:¬v=("code" : Str):=λe=>h1 (aaI e);refine aO (λh2=>?_) (λh2=>?_)
  ·have e:dF v z=decide (z∈tL):=by unfold dF;rw[aar h1,aaz (aaF h2)]
   rw[e]at q;exact⟨tL,.inr (g4 _),q _ (ah.refl _)⟩
  have h2:¬v=("marks" : Str):=λe=>h2 (aaI e);have e:dF v z=(decide (v∈(["send","read"]:List Str))&&(decide (z=("-" : Str)) || iO z)):=by unfold dF;rw[aar h1,aar h2]
  rw[e]at q;refine⟨ai (aai rfl),λp hp=>?_⟩;have s1:=ah.upd (o:=.tup [.str ("send" : Str),.str ("read" : Str)]) hp;refine⟨["send","read"],.inr (pQ.of aa),?_⟩;have q:=q _ s1;refine aO (λh3=>?_) (λh3=>?_)
  ·rw[h3,aa4]at q;refine aO (λh4=>?_) (λh4=>?_)
   ·rw[h4,Bool.true_or]at q;exact q
   ·rw[abq.mpr h4,adI]at q;exact⟨hz,q⟩
  ·rw[abq.mpr h3,abk]at q;exact q
 ·exact h.elim
end
section
abbrev jS:Stmt:=top 93
def eU:Sp:=λvs H Q _=>match vs with
 | [.ref l]=>∃ws:List Str,H l=some (.lst (ws.map V.str))/\ws.length<=1000/\(∀p∈ws,p.length<=1000)/\∀H',ah H H'->Q (.bl (bS ws)) H'
 | _=>False
theorem nj:ao ["words"] ["words"] (ae jS):=⟨rfl,rfl,rfl,by decide +kernel,rfl,by decide +kernel,by decide +kernel⟩
local macro_rules|`(tactic|walk_at"l")=>`(tactic|first|(with_reducible first|exact DK|exact Ku.n0)|((with_reducible refine' l6 ?a1);(case a1=>exact av.units (by assumption))))
theorem uY(D:bX K mg "are_words" jS ["words"])(g1:mg "len" = none)(c1:aJ P w K mg base "is_name" 1 ["word"] we)(c2:aJ P w K mg base "fits" 3 ["verb","word"] wg):aJ P w K mg base "are_words" 4 ["words"] eU:=by
 refine ar (k:=3) D nj (λvs H Q E h=>?_) (λf aA A outer s H vs Q E hr h=>?_)
 all_goals
  unfold eU at h;split at h
 ·rfl
 ·exact h.elim
 ·rename_i l;obtain⟨ws,hl,hn,hw,q⟩:=h;have nd:=nj.nd;refine⟨_,(by walk_at"c"),?_⟩;refine⟨_,dW hl,?_⟩;rcases ws with _|⟨a,_|⟨b,r⟩⟩
  ·exact q _ (ah.refl _)
  ·exact q _ (ah.refl _)
  ·have lb:b.length<=1000:=hw b (by simp);dsimp only[tC,KQ];refine aO (λz=>?_) (λ_=>?_)
   ·exact absurd (aaF z) (by rw[aaa,aax,aax];omega)
   refine⟨.str b,gl hl (by decide) rfl,lb,?_⟩;cases hb:cf b with
   | false=>
    have e:bS (a::b::r)=false:=by
     rcases r with _|⟨c,_|⟨d,r⟩⟩
     ·show(cf b&&_)=false;rw[hb,abk]
     ·show(cf b&&_)=false;rw[hb,abk]
     ·rfl
    rw[e]at q;exact q _ (ah.refl _)
   | true=>
    rcases r with _|⟨c,r⟩
    ·refine⟨_,dW hl,?_⟩;refine⟨.str a,gl hl (by decide) rfl,?_⟩;refine⟨ai (aai rfl),λp hp=>?_⟩;refine⟨zZ,.inr (pQ.of aa),?_⟩;have q:=q _ (ah.upd (o:=.tup (zZ.map V.str)) hp);have e:bS [a,b]=decide (a∈zZ):=by show(cf b&&_)=_;rw[hb,aa4]
     rw[e]at q;exact q
    ·refine⟨_,dW hl,?_⟩;dsimp only[tC,tj];refine aO (λz=>?_) (λ_=>?_)
     ·exact absurd (aaF z) (by rw[aaa,aax,aax,aax];omega)
     refine⟨_,dW hl,?_⟩;dsimp only[tC,tj];rcases r with _|⟨d,r⟩
     ·refine⟨.str a,gl hl (by decide) rfl,.str c,gl hl (by decide) rfl,hw c (by simp),λH' s'=>?_⟩;have q:=q _ s';have e:bS [a,b,c]=dF a c:=by show(cf b&&_)=_;rw[hb,aa4]
      rw[e]at q;exact q
     ·refine aO (λz=>?_) (λ_=>?_)
      ·exact absurd (aaF z) (by rw[aaa,aax,aax,aax,aax];omega)
      exact q _ (ah.refl _)
 ·exact h.elim
end
section
abbrev my:Stmt:=top 92
def jK(C0:Addr):Sp:=λvs H Q E=>match vs with
 | [.str z]=>z.length<=900/\(bS (aV z)=false->∀H',ah H H'->E (.ref C0) none H')/\(bS (aV z)=true->∀l H',ah H H'->H' l=some (.lst ((aV z).map V.str))->Q (.ref l) H')
 | [x]=>∃T,nR H x=some T/\T≠"str"/\E (.ref C0) none H
 | _=>False
theorem jO:ao ["row","words"] ["row"] (ae my):=⟨rfl,rfl,rfl,by decide +kernel,rfl,by decide +kernel,by decide +kernel⟩
local macro_rules|`(tactic|walk_at"q")=>`(tactic|first|((with_reducible refine' Fh ?a1 ?a2);(case a1=>walk_at"a");(case a2=>walk_at"b"))|fail "no")
local macro_rules|`(tactic|walk_at"k")=>`(tactic|((with_reducible refine' i0 ?a0 ?a3 ?a6);(case a0=>walk_at"F");(case a3=>walk_at"F");(case a6=>walk_at"b")))
theorem xG{C0:Addr}(D:bX K mg "words_in" my ["row"])(g1:mg "isinstance" = none)(g2:mg "str" = none)(c1:aJ P w K mg base "are_words" 4 ["words"] eU)(Z0:gR K C0)(m0:mg "NoRow" = some (.ref C0)):iF P w K mg base "words_in" 5 ["row"] (jK C0):=by
 refine iU (k:=4) D jO (λvs H Q E h=>?_) (λf aA A outer s H vs Q E hr h=>?_)
 all_goals
  unfold jK at h;split at h
 ·rfl
 ·rfl
 ·exact h.elim
 ·rename_i z;obtain⟨hz,qe,q⟩:=h;have nd:=jO.nd;refine⟨_,(by walk_at"c"),?_⟩;refine⟨"str",rfl,by decide,dX ?_⟩;obtain⟨h1,h2,h3⟩:=kZ z;refine⟨rfl,by decide +kernel,ai (by omega),λp1 kF=>?_⟩;rw[show Txt.split z (" " : Str)=iz z from rfl];have u1:=ah.upd (o:=.lst ((iz z).map V.str)) kF;have k1:upd H p1 (.lst ((iz z).map V.str)) p1=some (.lst ((iz z).map V.str)):=aa;generalize upd H p1 (.lst ((iz z).map V.str))=H1 at u1 k1 ⊢;have fin:∀(l:Addr)(H2:Hp),ah H H2->H2 l=some (.lst ((aV z).map V.str))->(∀p∈aV z,p.length<=z.length)->(aV z).length<=1000->gX (fk (P4 (Le (jm eU (gO (tV 1) gY)))) (Df E C0 (gO (tC (V.str (Str.ofString "there is no such row"))) gY)) bu) (zM (tV 1)) { nx:=λx H'=>Q V.bj H',rt:=Q } [some (.str z),some (.ref l)] H2:=by
   intro l H2 s2 k2 w1 w2;refine⟨aV z,k2,w2,λp hp=>by have:=w1 p hp;omega,λH3 s3=>?_⟩;cases e:bS (aV z)with
   | false=>exact⟨by decide,qe e _ (s2.trans s3)⟩
   | true=>exact q e l _ (s2.trans s3) (s3 _ _ k2)
  obtain⟨x,r,ex⟩:=List.exists_cons_of_ne_nil h1;refine⟨.str x,gl k1 (by decide) (by rw[ex];rfl),?_⟩;refine aO (λe=>?_) (λe=>?_)
  ·have e:=aaF e;have ew:aV z=Txt.splitMax z (" " : Str) 2:=by unfold aV;rw[ex,e];exact aaz rfl
   refine⟨rfl,by decide,by decide,by decide +kernel,by rw[abv];omega,λp2 nG=>?_⟩;rw[<-ew];refine fin p2 _ (u1.trans (ah.upd nG)) aa (by rw[ew];exact jc z _ 2) ?_;rw[ew];exact rW z 2 (by decide) (by omega)
  ·have e:¬x=("code" : Str):=λz=>e (aaI z);have ew:aV z=iz z:=by unfold aV;rw[ex];exact aar (λz=>e (aaw z))
   exact fin p1 _ u1 (by rw[ew];exact k1) (by rw[ew];exact h2) (by rw[ew];omega)
 ·rename_i x _;obtain⟨T,ht,e9,q⟩:=h;have nd:=jO.nd;refine⟨_,(by walk_at"c"),?_⟩;refine⟨T,ht,by decide,?_⟩;have e:(T == "str" || (T == "bool" && "str" == "int"))=false:=by
   have h1:(T == "str")=false:=beq_false_of_ne e9;have h2:(("str" : String) == "int")=false:=by decide
   rw[h1,h2,ac5];rfl
  rw[e];exact fm (by decide) ⟨by decide,q⟩
 ·exact h.elim
end
theorem Qm{A B:Prop}(h:A):if true=true then A else B:=h
theorem lY{t u:TS}{D:Ends}{σ:St}{H:Hp}(M:St->Hp->Prop)(h1:∀aX H',M aX H'->u D aX H')(h2:∀nx:St->Hp->Prop,(∀aX H',M aX H'->nx aX H')->t { D with nx:=nx } σ H):gX t u D σ H:=h2 (u D) h1
def Ue(st:Stmt)(i:Nat):Stmt:=match st with
 | .ClassDef _ _ _ body _ _ _ _ _ _ _=>body.getD i (.Pass ⟨0,0,0,0⟩)
 | s=>s
def aM(z:Str):Str:=if z=("" : Str)then("-" : Str)else z
theorem cS(b:Bool)(r:List Bool):aM (bs (b::r))=bs (b::r):=by unfold aM;rw[aar (λe=>by have:=aaX Str.length e;rw[bg]at this;rw[show(("" : Str)).length=0 by decide +kernel]at this;cases this)]
theorem zA(b:Bool)(r:List Bool):aM (bs (b::r))≠("-" : Str):=by
 rw[cS];intro e;have h:Txt.stripChars (bs (b::r)) ("01" : Str)=("" : Str):=by rw[qz,qr]
 rw[e]at h;revert h;decide +kernel
def QV:TE:=λ_ _ _=>False
theorem IY(x:Str){X:Cx}{p pos:Pos}{es:List Expr}:PE X (.Call (.Name x p) es [] pos) QV:=λ_ _ _ _ _ _ q=>q.elim
section
abbrev fS:Stmt:=top 100
def bo(k:Nat)(c:List Nat):List Bool:=(c.map λl=>(List.range k).map λi=>decide (l / 2 ^ (k-1-i) % 2=1)).flatten
theorem zE(k:Nat)(c:List Nat):((ni c).map (Om.bN k)).flatten.map V.int=(bo k c).map λb=>V.int (if b=true then 1 else 0):=by
 unfold bo ni Om.bN;rw[adh,adh,aaC,aaC,aaC];congr 1;apply aaW;intro l _;simp only[Function.comp,aaC];apply aaW;intro i _;simp only[Function.comp];have h:=Nat.mod_two_eq_zero_or_one (l / 2 ^ (k-1-i));have e:((l:Int) / 2 ^ (k-1-i) % 2)=((l / 2 ^ (k-1-i) % 2:Nat):Int):=by push_cast;rfl
 rw[e];rcases h with h|h<;>simp[h]
theorem gC{k:Nat}(k3:k<=3)(c:List Nat):(bo k c).length<=3*c.length:=by
 unfold bo
 induction c with
 | nil=>simp
 | cons x c ih=>
  simp only[aaR,aa8,aal,aaa,aaK,aax]at ih ⊢;omega
def iN(P0 C0 C:Addr):Sp:=λvs H Q E=>match vs with
 | [cv,.str v,.str z]=>∃(k n:Nat)(rows:Om.Rows)(wire:List Bool),v=("read" : Str)/\DV H cv (aR k n rows)/\Om.aq k n rows/\Tab P0 (aC aP) fi H/\z=aM (bs wire)/\wire.length<=1000/\kQ n wire<=100 ∧
   (∀qs H',aw P0 H H'->Tab P0 (aC aP) fi H'->gH rows qs->kr rows qs->E (.ref C0) none H') ∧
   ∀qs,gH rows qs->¬kr rows qs →
    (∀i d H',i<kQ n wire->(∃t,Om.GT rows k n wire i t)->(∀t,¬Om.GT rows k n wire (i+1) t)->aw P0 H H'->Tab P0 (aC aP) fi H'->H' d=none->E (.ref C) (some d) (upd H' d (.xd [("at",.int (i:Nat))]))) ∧
    ∀(c:List Nat) H',aw P0 H H'->Tab P0 (aC aP) fi H'->Om.OR (Om.GT rows k n wire (kQ n wire)) c->(∀x∈c,x<2 ^ k)->c.length<=kQ n wire->Q (.str (aM (bs (bo k c)))) H'
 | _=>False
def fY:Sp:=λvs H Q _=>match vs with
 | [cv,.str v,.str z]=>∃(k n:Nat)(rows:Om.Rows)(bb:List Bool)(cs:List (List Int))(ls:List Nat),v=("send" : Str)/\DV H cv (aR k n rows)/\Om.aq k n rows/\z=aM (bs bb)/\bb.length<=300/\cs.flatten=bb.map (λb=>if b=true then(1:Int)else 0)/\(∀c∈cs,c.length=k)/\cs.map Om.bq=ni ls/\(∀l∈ls,l<2 ^ k)/\ls.length<=100 ∧
   ∀H',ah H H'->Q (.str (aM (bs (Om.send rows 0 ls).1))) H'
 | _=>False
def lM(P0 C0 C:Addr):Sp:=λvs H Q E=>fY vs H Q E\/iN P0 C0 C vs H Q E
theorem eY:ao ["code","verb","word","found","signs","told"] ["code","verb","word"] (ae fS):=⟨rfl,rfl,rfl,by decide +kernel,rfl,by decide +kernel,by decide +kernel⟩
local macro_rules|`(tactic|walk_at"i")=>`(tactic|first|((with_reducible refine' IX ?a0 ?a9 ?a1);(case a0=>walk_at"F");(case a9=>rfl);(case a1=>walk_at"b"))|(with_reducible exact IY "marks")|((with_reducible refine' iT "read" ?a0 ?a1 ?a2);(case a0=>walk_at"F");(case a1=>exact av.mono (by assumption) (by first|decide|exact aae _));(case a2=>walk_at"b")))
local macro_rules|`(tactic|walk_at"h")=>`(tactic|(have eu:(["sign"]:List Str).Nodup:=(by decide +kernel));((with_reducible refine' bM ["sign"] [] ?b1 ?b2 (λcl C s H fp=>?b3) (λcl C s H fp=>?b4) (λcl C s H fp=>?b5));(case b1=>exact eu);(case b2=>walk_at"e");(case b3=>walk_at"d");(case b4=>walk_at"f");(case b5=>walk_at"a")))
local macro_rules|`(tactic|walk_at"h")=>`(tactic|(have eu:(["bit"]:List Str).Nodup:=(by decide +kernel));((with_reducible refine' bM ["bit"] [] ?b1 ?b2 (λcl C s H fp=>?b3) (λcl C s H fp=>?b4) (λcl C s H fp=>?b5));(case b1=>exact eu);(case b2=>walk_at"e");(case b3=>walk_at"d");(case b4=>walk_at"f");(case b5=>walk_at"a")))
local macro_rules|`(tactic|walk_at"e")=>`(tactic|((with_reducible refine' Mj ?a1);(case a1=>walk_at"v")))
local macro_rules|`(tactic|walk_at"n")=>`(tactic|first|((with_reducible refine' qq ?a0 ?a9);(case a0=>walk_at"F");(case a9=>rfl))|((with_reducible refine' mH ?a1 ?a2 ?a3);(case a1=>walk_at"m");(case a2=>walk_at"a");(case a3=>walk_at"a")))
theorem og{P0 C0 C:Addr}(D:bX K mg "answer_with" fS ["code","verb","word"])(g1:mg "int" = none)(g2:∃tk,mg "NOTHING" = some (.str "-" tk))(g3:∃tk,mg "NONE" = some (.str "none" tk))(c1:aJ P w K mg base "sent" 4 ["code","state","text"] wc)(c2:aJ P w K mg base "letters" 3 ["k","bits"] jM)(g4:mg "str" = none)(c3:aJ P w K mg base "bits_of" 4 ["k","text"] qT)(c4:iF P w K mg base "read" 7 ["code","wire"] (GB P0 C0 C)):iF P w K mg base "answer_with" 8 ["code","verb","word"] (lM P0 C0 C):=by
 refine iU (k:=7) D eY (λvs H Q E h=>?_) (λf aA A outer s H vs Q E hr h=>?_)
 all_goals
  unfold lM at h
 ·rcases h with h|h
  ·unfold fY at h;split at h
   ·rfl
   ·exact h.elim
  ·unfold iN at h;split at h
   ·rfl
   ·exact h.elim
 rcases h with h|h
 ·unfold fY at h;split at h
  rotate_left
  ·exact h.elim
  rename_i cv v z;refine az λak=>?_;obtain⟨k,n,rows,bb,cs,ls,hv,hc,ok,rfl,QE,hb,hk,hl,nV,pT,q⟩:=h;refine ak ?_;clear ak;have nd:=eY.nd;refine⟨_,(by walk_at"c"),?_⟩;obtain⟨a,b,ss,rfl,ha,sX,sW⟩:=bH hc;refine aO (λe=>?_) (λ_=>?_)
  ·have e:=aaF e;rw[hv]at e;exact absurd e (by decide +kernel)
  dsimp only[bu];refine lY (λaX H'=>aX=[some (.ref a),some (.str v),some (.str (aM (bs bb))),none,some (.str (bs bb)),none]/\H'=H) ?_ ?_
  rotate_left
  ·intro nx KZ;cases bb with
   | nil=>
    have ez:aM (bs [])=("-" : Str):=by decide +kernel
    generalize aM (bs [])=zz at ez KZ ⊢;refine aO (λ_=>?_) (λe=>absurd (aaI ez) e);exact KZ _ _ ⟨by rw[show bs []=("" : Str)by decide +kernel];rfl,rfl⟩
   | cons b0 r=>
    refine zj (λe=>zA b0 r (aaF e)) (KZ _ _ ⟨?_,rfl⟩);rw[cS];rfl
  rintro aX H' ⟨rfl,rfl⟩;refine aO (λ_=>?_) (λe=>absurd (aaI hv) e);refine⟨_,gt ha (by decide) rfl,?_⟩;refine⟨bb,rfl,λD hD=>?_⟩;refine eK (Ny bb) (λv=>if v = .str (bs [true])then .int 1 else .int 0) (by rw[aaa];exact ai (by omega)) (λ_=>trivial) (λi x ys hx C c=>?_) ?_
  ·rw[aak]at hx;obtain⟨b,hb,rfl⟩:=aaN.mp hx;cases b with
   | true=>exact⟨1,by decide,by decide +kernel,by rw[aaz rfl]at c;exact c⟩
   | false=>exact⟨0,by decide,by decide +kernel,by rw[aar (by decide +kernel)]at c;exact c⟩
  have em:(bb.map λb=>V.str (bs [b])).map (λv=>if v = .str (bs [true])then V.int 1 else .int 0)=cs.flatten.map V.int:=by rw[hb,aaC,aaC];apply aaW;intro x _;cases x<;>decide +kernel
  rw[em];have s1:=ah.upd (o:=.lst (cs.flatten.map V.int)) hD;have cl:cs.length<=100:=by have:=aaX List.length hl;rw[aaa]at this;unfold ni at this;rw[aaa]at this;omega
  refine⟨k,cs,rfl,by have:=ok.k1;have:=ok.k3;omega,aa,hk,cl,?_,λp H1 s2 np hp=>?_⟩
  ·intro c SD b UG;have:b∈cs.flatten:=List.mem_flatten.mpr ⟨c,SD,UG⟩;rw[hb]at this;obtain⟨x,_,rfl⟩:=aan.mp this;cases x
   ·exact .inl rfl
   ·exact .inr rfl
  rw[hl]at hp;refine⟨k,n,rows,0,ls,(hc.mono s1).mono s2,ok,rfl,ok.s1,hp,by omega,nV,λp2 H2 s3 nG=>?_⟩;refine⟨_,gt nG (by decide) rfl,?_⟩;have q:=q _ ((s1.trans s2).trans s3);dsimp only[aQ];unfold aM at q;refine aO (λe=>?_) (λe=>?_)
  ·have e:¬bs (Om.send rows 0 ls).1=("" : Str):=λz=>by rw[z]at e;revert e;decide +kernel
   rw[aar e]at q;exact q
  ·have e:bs (Om.send rows 0 ls).1=("" : Str):=by
    cases z:decide (bs (Om.send rows 0 ls).1=("" : Str))with
    | true=>exact aaF z
    | false=>exact absurd (by rw[z];rfl) e
   rw[aaz e]at q;exact q
 ·unfold iN at h;split at h
  rotate_left
  ·exact h.elim
  rename_i cv v z;refine az λak=>?_;obtain⟨k,n,rows,wire,hv,hc,ok,tb,rfl,Yc,ach,qn,q⟩:=h;refine ak ?_;clear ak;have nd:=eY.nd;refine⟨_,(by walk_at"c"),?_⟩;obtain⟨a,b,ss,rfl,ha,sX,sW⟩:=bH hc;refine aO (λe=>?_) (λ_=>?_)
  ·have e:=aaF e;rw[hv]at e;exact absurd e (by decide +kernel)
  dsimp only[bu];refine lY (λaX H'=>aX=[some (.ref a),some (.str v),some (.str (aM (bs wire))),none,some (.str (bs wire)),none]/\H'=H) ?_ ?_
  rotate_left
  ·intro nx KZ;cases wire with
   | nil=>
    have ez:aM (bs [])=("-" : Str):=by decide +kernel
    generalize aM (bs [])=zz at ez KZ ⊢;refine aO (λ_=>?_) (λe=>absurd (aaI ez) e);exact KZ _ _ ⟨by rw[show bs []=("" : Str)by decide +kernel];rfl,rfl⟩
   | cons b0 r=>
    refine zj (λe=>zA b0 r (aaF e)) (KZ _ _ ⟨?_,rfl⟩);rw[cS];rfl
  rintro aX H' ⟨rfl,rfl⟩;refine aO (λe=>absurd (aaF e) (by rw[hv];decide +kernel)) (λ_=>?_);refine⟨rfl,_,gt ha (by decide) rfl,?_⟩;refine⟨k,n,rows,wire,hc,ok,tb,rfl,by omega,qn,λqs rc nb=>⟨(q qs rc nb).1,λl c H1 s1 t1 Sv hl Ug hx nK=>?_⟩⟩;have q:=(q qs rc nb).2 c;refine⟨k,ni c,rfl,ok.k1,ok.k3,hl,λx BF=>?_,by unfold ni;rw[aaa];omega,λp H2 s2 hp0 hp=>?_⟩
  ·unfold ni at BF;obtain⟨y,hy,rfl⟩:=aan.mp BF;exact⟨by omega,by exact_mod_cast hx y hy⟩
  rw[zE]at hp;have bl:=gC ok.k3 c;refine⟨⟨_,aN.of hp⟩,λD hD=>?_⟩;refine eK (aE _ p _) (λv=>if v = .int 1 then .str (bs [true])else .str (bs [false])) (by rw[aaa];exact ai (by omega)) (λ_=>aN.of (ah.upd hD _ _ hp)) (λi x ys hx C c=>?_) ?_
  ·rw[aak]at hx;obtain⟨b',sY,rfl⟩:=aaN.mp hx;cases b' with
   | true=>
    refine⟨by decide +kernel,?_⟩;rw[show bJ (if true=true then 1 else 0)=bs [true]by decide +kernel];rw[aaz (by rw[aaz rfl])]at c;exact c
   | false=>
    refine⟨by decide +kernel,?_⟩;rw[show bJ (if false=true then 1 else 0)=bs [false]by decide +kernel];rw[aar (by decide +kernel)]at c;exact c
  have em:((bo k c).map λb=>V.int (if b=true then 1 else 0)).map (λv=>if v = .int 1 then V.str (bs [true])else .str (bs [false]))=(((bo k c).map λb=>[b]).map bs).map V.str:=by rw[aaC,aaC,aaC];apply aaW;intro x _;cases x<;>decide +kernel
  rw[em];have ef:((bo k c).map λb=>[b]).flatten=bo k c:=by
   generalize bo k c=l
   induction l with
   | nil=>rfl
   | cons x l ih=>rw[aaR,aa8,ih];rfl
  have s3:=ah.upd (o:=.lst ((((bo k c).map λb=>[b]).map bs).map V.str)) hD;refine⟨_,aa,?_,?_⟩
  ·have h1:((((bo k c).map λb=>[b]).map bs).map (·.length)).sum=(bo k c).length:=by rw[<-ef,acU,ef,aaC];congr 1;apply aaW;intro x _;exact bg x
   have h3:(("" : Str)).length=0:=by decide +kernel
   rw[h1,h3];omega
  rw[rQ,ef];have q:=q _ (s1.trans (s2.trans s3).t) ((t1.mono s2).mono s3) Ug hx nK;dsimp only[aQ];unfold aM at q;refine aO (λe=>?_) (λe=>?_)
  ·have e:¬bs (bo k c)=("" : Str):=λz=>by rw[z]at e;revert e;decide +kernel
   rw[aar e]at q;exact q
  ·have e:bs (bo k c)=("" : Str):=by
    cases z:decide (bs (bo k c)=("" : Str))with
    | true=>exact aaF z
    | false=>exact absurd (by rw[z];rfl) e
   rw[aaz e]at q;exact q
end
section
def nX:Sp:=λ_ _ _ _=>False
abbrev rp:Stmt:=top 97
theorem Er:ao ["code","verb"] ["code","verb"] (ae rp):=⟨rfl,rfl,rfl,by decide +kernel,rfl,by decide +kernel,by decide +kernel⟩
theorem AV(D:bX K mg "answer" rp ["code","verb"]):iF P w K mg base "answer" 6 ["code","verb"] nX:=iU (k:=5) D Er (λ_ _ _ _ h=>h.elim) (λ_ _ _ _ _ _ _ _ _ _ h=>h.elim)
abbrev CD:Stmt:=top 91
abbrev CB:Stmt:=Ue CD 0
abbrev Li:Stmt:=Ue CD 1
abbrev wA:Stmt:=Ue CD 2
def bV(C:Addr)(H:Hp)(d c:Addr)(ag:List (Key×V)):Prop:=(∃dx,H d=some (.ins C dx [("codes",.ref c)]))/\H c=some (.dK ag)
theorem bV.same{C d c:Addr}{H H':Hp}{ag:List (Key×V)}(h:bV C H d c ag)(s:ah H H'):bV C H' d c ag:=⟨let⟨dx,e⟩:=h.1;⟨dx,s _ _ e⟩,s _ _ h.2⟩
structure oA(K:W.Frag)(C:Addr):Prop where
 cl:pR K C
 na:ie K C "codes"
def dZ(C:Addr):Sp:=λvs H Q _=>match vs with
 | [.ref d]=>∃dx,H d=some (.ins C dx [])/\∀c,H c=none->Q .bj (upd (upd H c (.dK [])) d (.ins C dx [("codes",.ref c)]))
 | _=>False
theorem Dq:ao ["self"] ["self"] (ae CB):=⟨rfl,rfl,rfl,by decide +kernel,rfl,by decide +kernel,by decide +kernel⟩
section
local macro_rules|`(tactic|walk_at"n")=>`(tactic|(with_reducible exact ur))
local macro_rules|`(tactic|walk_at"k")=>`(tactic|((with_reducible refine' Mf ?a1 ?a2 ?a3);(case a1=>walk_at"a");(case a2=>walk_at"a");(case a3=>kernel_rfl)))
theorem Im{C:Addr}(D:OQ K C "__init__" "Desk.__init__" CB ["self"])(dk:oA K C):lW P w K mg base C "__init__" 1 ["self"] (dZ C):=by
 refine uN (k:=0) D Dq (λvs H Q E h=>?_) (λf aA A outer s H vs Q E hr h=>?_)
 all_goals
  unfold dZ at h;split at h
 ·rfl
 ·exact h.elim
 ·rename_i d;obtain⟨dx,hd,q⟩:=h;have nd:=Dq.nd;refine⟨_,(by walk_at"j"),?_⟩;intro c hc;have cd:c≠d:=λz=>by rw[z,hd]at hc;cases hc
  exact⟨d,C,dx,[],rfl,by rw[af cd.symm];exact hd,dk.cl,dk.na,by decide,q c hc⟩
 ·exact h.elim
end
def qI(C:Addr):Sp:=λvs H Q _=>match vs with
 | [.ref d]=>∃c ag zs,bV C H d c ag/\ag.map (λp=>kV p.1)=zs.map V.str/\zs.length<64/\∀l ys,H l=none->ys.Perm zs->PyProof.Rows.sortedS ys=true->Q (.ref l) (upd H l (.lst (ys.map V.str)))
 | _=>False
theorem yT:ao ["self"] ["self"] (ae wA):=⟨rfl,rfl,rfl,by decide +kernel,rfl,by decide +kernel,by decide +kernel⟩
section
local macro_rules|`(tactic|walk_at"i")=>`(tactic|((with_reducible refine' uK ?a0 ?a9 ?a1);(case a0=>walk_at"F");(case a9=>rfl);(case a1=>walk_at"b")))
local macro_rules|`(tactic|walk_at"n")=>`(tactic|((with_reducible refine' DF ?a1 ?a2);(case a1=>walk_at"a");(case a2=>kernel_rfl)))
theorem EU{C:Addr}(D:OQ K C "names" "Desk.names" wA ["self"])(g1:mg "sorted" = none)(dk:oA K C):lW P w K mg base C "names" 1 ["self"] (qI C):=by
 refine uN (k:=0) D yT (λvs H Q E h=>?_) (λf aA A outer s H vs Q E hr h=>?_)
 all_goals
  unfold qI at h;split at h
 ·rfl
 ·exact h.elim
 ·rename_i d;refine az λak=>?_;obtain⟨c,ag,zs,⟨⟨dx,hd⟩,hc⟩,ez,Yg,q⟩:=h;refine ak ?_;clear ak;have nd:=yT.nd;refine⟨_,(by walk_at"j"),?_⟩;exact⟨d,C,dx,_,.ref c,rfl,hd,dk.cl,dk.na,rfl,c,ag,zs,rfl,.inl hc,ez,Yg,q⟩
 ·exact h.elim
end
theorem xi(z:Str):∀p∈aV z,p.length<=z.length:=by
 unfold aV;split
 ·exact jc z _ 2
 ·exact(kZ z).2.1
def G8(A AW:Sp)(CN CT:Addr)(c:Addr)(ag:List (Key×V))(H:Hp)(Q:VK)(E:XK):List Str->Prop
 | [v,nm]=>(aG ag (.inr nm)=none->∀H',ah H H'->E (.ref CN) none H')/\∀cv,aG ag (.inr nm)=some cv->∀H',ah H H'->A [cv,.str v] H' Q E
 | [v,nm,x]=>(v=("code" : Str)->(Om.codeOk (cV (iz x))=false->∀H',ah H H'->E (.ref CT) none H')/\(Om.codeOk (cV (iz x))=true->∀cv H',ah H H'->DV H' cv (cV (iz x))->Q (.str ("ok" : Str)) (upd H' c (.dK (putK ag (.inr nm) cv))))) ∧
   (v≠("code" : Str)->(aG ag (.inr nm)=none->∀H',ah H H'->E (.ref CN) none H')/\∀cv,aG ag (.inr nm)=some cv->∀H',ah H H'->AW [cv,.str v,.str x] H' Q E)
 | _=>False
def dq(A AW:Sp)(C CR CN CT:Addr):Sp:=λvs H Q E=>match vs with
 | [.ref d,.str z]=>z.length<=900/\(∃dx c,H d=some (.ins C dx [("codes",.ref c)]))/\(bS (aV z)=false->∀H',ah H H'->E (.ref CR) none H')/\(bS (aV z)=true->∃c ag,bV C H d c ag/\ag.length<=100/\G8 A AW CN CT c ag H Q E (aV z))
 | [.ref d,x]=>∃T,nR H x=some T/\T≠"str"/\E (.ref CR) none H
 | _=>False
theorem Cs:ao ["self","row","words","name"] ["self","row"] (ae Li):=⟨rfl,rfl,rfl,by decide +kernel,rfl,by decide +kernel,by decide +kernel⟩
local macro_rules|`(tactic|walk_at"i")=>`(tactic|first|((with_reducible refine' iT "words_in" ?a0 ?a1 ?a2);(case a0=>walk_at"F");(case a1=>exact av.mono (by assumption) (by first|decide|exact aae _));(case a2=>walk_at"b"))|((with_reducible refine' iT "read_code" ?a0 ?a1 ?a2);(case a0=>walk_at"F");(case a1=>exact av.mono (by assumption) (by first|decide|exact aae _));(case a2=>walk_at"b"))|((with_reducible refine' iT "answer" ?a0 ?a1 ?a2);(case a0=>walk_at"F");(case a1=>exact av.mono (by assumption) (by first|decide|exact aae _));(case a2=>walk_at"b"))|((with_reducible refine' iT "answer_with" ?a0 ?a1 ?a2);(case a0=>walk_at"F");(case a1=>exact av.mono (by assumption) (by first|decide|exact aae _));(case a2=>walk_at"b"))|fail "no")
local macro_rules|`(tactic|walk_at"a")=>`(tactic|((with_reducible refine' ma ?a0 ?a1 ?a2);(case a0=>exact av.units (by assumption));(case a1=>walk_at"a");(case a2=>walk_at"a")))
local macro_rules|`(tactic|walk_at"d")=>`(tactic|first|walk_at"w" | ((with_reducible refine' jx ?a0 ?a1 ?a2);(case a0=>exact av.units (by assumption));(case a1=>walk_at"a");(case a2=>walk_at"a")))
local macro_rules|`(tactic|walk_at"l")=>`(tactic|first|((with_reducible refine' cO ?a0);(case a0=>exact av.units (by assumption)))|((with_reducible refine' l6 ?a1);(case a1=>exact av.units (by assumption))))
local macro_rules|`(tactic|walk_at"n")=>`(tactic|((with_reducible refine' DF ?a1 ?a2);(case a1=>walk_at"a");(case a2=>kernel_rfl)))
local macro_rules|`(tactic|walk_at"k")=>`(tactic|((with_reducible refine' i0 ?a0 ?a3 ?a6);(case a0=>walk_at"F");(case a3=>walk_at"F");(case a6=>walk_at"b")))
theorem MU{A0 Yb:Sp}{C CR CN CT:Addr}(D:OQ K C "say" "Desk.say" Li ["self","row"])(g1:mg "len" = none)(dk:oA K C)(c1:iF P w K mg base "words_in" 5 ["row"] (jK CR))(c2:iF P w K mg base "read_code" 6 ["text"] (Lg CT))(c3:iF P w K mg base "answer" 6 ["code","verb"] A0)(c4:iF P w K mg base "answer_with" 8 ["code","verb","word"] Yb)(Z0:gR K CN)(m0:mg "NoName" = some (.ref CN)):tE P w K mg base C "say" 9 ["self","row"] (dq A0 Yb C CR CN CT):=by
 refine Jn (k:=8) D Cs (λvs H Q E h=>?_) (λf aA A outer s H vs Q E hr h=>?_)
 all_goals
  unfold dq at h;split at h
 ·rfl
 ·rfl
 ·exact h.elim
 ·rename_i d z;have nd:=Cs.nd;refine⟨_,(by walk_at"c"),?_⟩;obtain⟨hz,_,qe,q⟩:=h;refine⟨hz,λe H1 s1=>qe e H1 s1,λe l H1 s1 hl=>?_⟩;obtain⟨c,ag,dk0,GQ,g⟩:=q e;obtain⟨⟨dx,BG⟩,zK⟩:=dk0.same s1;have hw:∀p∈aV z,p.length<=z.length:=xi z;generalize aV z=ws at e g hl hw;rcases ws with _|⟨v,_|⟨nm,_|⟨x,_|⟨y,r⟩⟩⟩⟩
  ·cases e
  ·cases e
  ·obtain⟨UW,g2⟩:=g;have vc:¬v=("code" : Str):=λz=>by have e2:(cf nm&&decide (v∈zZ))=true:=e;rw[z,show decide (("code" : Str)∈zZ)=false by decide +kernel,ac5]at e2;cases e2
   refine .inl ⟨.str nm,gl hl (by decide) rfl,?_⟩;refine .inl ⟨.str v,gl hl (by decide) rfl,?_⟩;refine aO (λz=>absurd (aaF z) vc) (λ_=>?_);refine⟨d,C,dx,_,.ref c,rfl,BG,dk.cl,dk.na,rfl,?_⟩;have gg:gJ H1 c (.str nm) (aG ag (.inr nm)):=gJ.k (k:=.inr nm) zK;refine⟨c,aG ag (.inr nm),rfl,gg,?_⟩;cases ev:aG ag (.inr nm)with
   | none=>exact fm rfl ⟨by decide,UW ev _ s1⟩
   | some cv=>
    rw[ev]at gg;refine dX ?_;refine⟨_,dW hl,?_⟩;refine⟨d,C,dx,_,.ref c,rfl,BG,dk.cl,dk.na,rfl,.inr ⟨c,cv,rfl,gg,?_⟩⟩;refine .inl ⟨.str v,gl hl (by decide) rfl,?_⟩;exact g2 cv ev _ s1
  ·obtain⟨ga,gb⟩:=g;refine .inl ⟨.str nm,gl hl (by decide) rfl,?_⟩;refine .inl ⟨.str v,gl hl (by decide) rfl,?_⟩;refine aO (λz=>?_) (λz=>?_)
   ·obtain⟨ge,gq⟩:=ga (aaF z);refine .inl ⟨.str x,gl hl (by decide) rfl,?_⟩;refine⟨by have:=hw x (by simp);omega,λe2 H2 s2=>ge e2 _ (s1.trans s2),λe2 cv H2 s2 dv=>?_⟩;refine⟨d,C,dx,_,.ref c,rfl,s2 _ _ BG,dk.cl,dk.na,rfl,?_⟩;exact .inr ⟨c,_,rfl,vX.k (k:=.inr nm) (s2 _ _ zK) (bC (by omega)),gq e2 cv _ (s1.trans s2) dv⟩
   ·obtain⟨UW,g2⟩:=gb (λe=>z (aaI e));refine⟨d,C,dx,_,.ref c,rfl,BG,dk.cl,dk.na,rfl,?_⟩;have gg:gJ H1 c (.str nm) (aG ag (.inr nm)):=gJ.k (k:=.inr nm) zK;refine⟨c,aG ag (.inr nm),rfl,gg,?_⟩;cases ev:aG ag (.inr nm)with
    | none=>exact fm rfl ⟨by decide,UW ev _ s1⟩
    | some cv=>
     rw[ev]at gg;refine dX ?_;refine⟨_,dW hl,?_⟩;refine⟨d,C,dx,_,.ref c,rfl,BG,dk.cl,dk.na,rfl,.inr ⟨c,cv,rfl,gg,?_⟩⟩;refine .inl ⟨.str v,gl hl (by decide) rfl,.inl ⟨.str x,gl hl (by decide) rfl,?_⟩⟩;exact g2 cv ev _ s1
  ·cases e
 ·rename_i d x _;have nd:=Cs.nd;refine⟨_,(by walk_at"c"),?_⟩;obtain⟨T,ht,e9,q⟩:=h;cases x with
  | str z=>exact absurd (aaw ht) (λz=>e9 z.symm)
  | _=>exact⟨T,ht,e9,q⟩
 ·exact h.elim
end
section
def CS(m:Nat):Str:=if m=6 then "row" else if m=5 then "name" else if m=4 then "text" else if m=0 then "letter" else "code"
section
variable{K':W.Frag}{C x D:Addr}{H:Hp}{N:Ends}{b:Bool}{z s:Str}{m:Nat}
def pW(b:Bool)(s z:Str):Str:=if b=true then z++s else z
theorem ow(Z:W.gU K' C)(hx:H x=some (lO x (.ref C) none))(k:W.kitOne K' (.ref C) (.ref D)=some b)(hz:z.length+s.length<=sizeLine)(q:N.nx [some (.ref x),some (.str (pW b s z))] H):fk (Le (kP (GG K') (gO (tV 0) (gO (tC (.ref D)) gY)))) (BZ (sT CP (tV 1) (tC (.str s))) (aQ 1)) bu N [some (.ref x),some (.str z)] H:=by
 refine⟨C,_,b,Z,hx,.inl k,?_⟩;cases b with
 | true=>exact⟨hz,q⟩
 | false=>exact q
end
abbrev wK:Stmt:=top 116
def qR(K:W.Frag)(mg:Str->Option Value):Sp:=λvs H Q _=>match vs with
 | [.ref x]=>∃C m,f6 K mg C m/\(m=0\/m=1\/m=4\/m=5\/m=6)/\H x=some (lO x (.ref C) none)/\∀H',ah H H'->Q (.str (CS m)) H'
 | _=>False
theorem y8:ao ["e","word"] ["e"] (ae wK):=⟨rfl,rfl,rfl,by decide +kernel,rfl,by decide +kernel,by decide +kernel⟩
local macro_rules|`(tactic|walk_at"i")=>`(tactic|first|((with_reducible refine' NL ?a0 ?a9 ?a1);(case a0=>walk_at"F");(case a9=>rfl);(case a1=>walk_at"b"))|fail "no")
local macro_rules|`(tactic|walk_at"a")=>`(tactic|first|((with_reducible refine' fC "NoLetter" ?a0 ?a9);(case a0=>walk_at"F");(case a9=>rfl))|((with_reducible refine' fC "NoCode" ?a0 ?a9);(case a0=>walk_at"F");(case a9=>rfl))|((with_reducible refine' fC "NoWindow" ?a0 ?a9);(case a0=>walk_at"F");(case a9=>rfl))|((with_reducible refine' fC "NoMark" ?a0 ?a9);(case a0=>walk_at"F");(case a9=>rfl))|((with_reducible refine' fC "NoText" ?a0 ?a9);(case a0=>walk_at"F");(case a9=>rfl))|((with_reducible refine' fC "NoName" ?a0 ?a9);(case a0=>walk_at"F");(case a9=>rfl))|((with_reducible refine' fC "NoRow" ?a0 ?a9);(case a0=>walk_at"F");(case a9=>rfl))|((with_reducible refine' fC "NoWire" ?a0 ?a9);(case a0=>walk_at"F");(case a9=>rfl))|((with_reducible refine' NP ?a0 ?a9);(case a0=>walk_at"F");(case a9=>rfl)))
theorem E4{C0:Addr}{Zc:Nat}(D:bX K mg "_law_class" wK ["e"])(g1:mg "isinstance" = none)(g3:mg "ValueError" = none)(K0:f6 K mg C0 Zc):Hc P w K mg base "_law_class" 1 ["e"] (qR K mg):=by
 obtain⟨D0,m0,_⟩:=K0.k0;obtain⟨D1,m1,_⟩:=K0.k1;obtain⟨D2,m2,_⟩:=K0.k2;obtain⟨D3,m3,_⟩:=K0.k3;obtain⟨D4,m4,_⟩:=K0.k4;obtain⟨D5,m5,_⟩:=K0.k5;obtain⟨D6,m6,_⟩:=K0.k6;obtain⟨D7,m7,_⟩:=K0.k7;refine Jo (k:=0) D y8 (λvs H Q E h=>?_) (λyy f aA A outer s H vs Q hr h=>?_)
 all_goals
  unfold qR at h;split at h
 ·rfl
 ·exact h.elim
 ·rename_i x;have nd:=y8.nd;refine⟨_,(by walk_at"c"),?_⟩;obtain⟨C,m,K1,hm,hx,q⟩:=h;clear K0;have hz:W.gU K C:=K1.z;refine⟨C,_,true,K1.z,hx,K1.k8,dX ?_⟩;have ka:W.kitAny K (.ref C) ([D2,D3].map Value.ref)=some false:=by simp only[aaR,acq,W.kitAny,K1.k2.at m2,K1.k3.at m3];rcases hm with rfl|rfl|rfl|rfl|rfl<;>rfl
  have l0:∀(m j:Nat)(z s:Str),z.length<=100->s.length<=10->(pW (decide (j=m)) s z).length<=z.length+10:=λm j z s h1 h2=>by
   unfold pW;split
   ·show(z.cps++s.cps).size<=_;rw[Array.size_append];exact Nat.add_le_add_left h2 _
   ·omega
  dsimp only[aQ];have z0:((("" : Str)).length)<=0:=by decide +kernel
  refine ow K1.z hx (K1.k6.at m6) (ai (by rw[show(("row" : Str)).length=3 by decide +kernel];omega)) ?_;have z1:=l0 m 6 _ ("row" : Str) (aaM z0 (by decide)) (by decide +kernel);refine ow K1.z hx (K1.k5.at m5) (ai (by rw[show(("name" : Str)).length=4 by decide +kernel];omega)) ?_;have z2:=l0 m 5 _ ("name" : Str) (aaM z1 (by omega)) (by decide +kernel);refine ow K1.z hx (K1.k4.at m4) (ai (by rw[show(("text" : Str)).length=4 by decide +kernel];omega)) ?_;have z3:=l0 m 4 _ ("text" : Str) (aaM z2 (by omega)) (by decide +kernel);refine ow K1.z hx (K1.k0.at m0) (ai (by rw[show(("letter" : Str)).length=6 by decide +kernel];omega)) ?_;have z4:=l0 m 0 _ ("letter" : Str) (aaM z3 (by omega)) (by decide +kernel);refine ow K1.z hx (K1.k1.at m1) (ai (by rw[show(("code" : Str)).length=4 by decide +kernel];omega)) ?_;have z5:=l0 m 1 _ ("code" : Str) (aaM z4 (by omega)) (by decide +kernel);refine ow K1.z hx (K1.k7.at m7) (ai (by rw[show(("wire" : Str)).length=4 by decide +kernel];omega)) ?_;clear z0 z1 z2 z3 z4 z5;have ez:pW (decide (7=m)) ("wire" : Str) (pW (decide (1=m)) ("code" : Str) (pW (decide (0=m)) ("letter" : Str) (pW (decide (4=m)) ("text" : Str) (pW (decide (5=m)) ("name" : Str) (pW (decide (6=m)) ("row" : Str) ("" : Str))))))=CS m:=by rcases hm with rfl|rfl|rfl|rfl|rfl<;>decide +kernel
  rw[ez];refine⟨ai (aai rfl),λt ht=>?_⟩;exact⟨C,_,false,K1.z,ah.upd ht _ _ hx,.inr ⟨[D2,D3],aa,ka⟩,q _ (ah.upd ht)⟩
 ·exact h.elim
end
section
def Ls(o:Expr)(env:Env):Sem Bool:=do return (<-importBound o env).getD true
variable{X:Cx}{p pos apos Ab:Pos}{e o:Expr}{es:List Expr}{t:TA}{ta:TE}{k:Nat}{ps:List Str}{sp:Sp}{C:Addr}{P':Program}{w':World}{K':W.Frag}{aI:Str->Option Value}{aW:Heap}
theorem NQ(m:Str)(M:tE P' w' K' aI aW C m k ps sp)(c:pR K' C)(hX:X.prog=P'/\X.w=w'/\X.K=K'/\X.mg=aI/\X.base=aW)(hr:av k X.A)(he:PE X o ta)(ha:PA X (e::es) t)(cF:starEach (e::es) X.env=(false,eval e X.env)::starEach es X.env:=by kernel_rfl)(hpl:(backTo pos (starEach es X.env)).any (·.1)=false:=by kernel_rfl)(ht:eval (.Call (.Attribute o m apos) (e::es) [] pos) X.env=(do
   let ov <-eval o X.env
   standAt apos.atName
   let(f,first) <-holding [ov] (getMethod ov m (Ls o X.env))
   callWith pos f first (backTo pos (starEach (e::es) X.env)) (backToKw pos (keywordEach [] X.env))):=by kernel_rfl):PE X (.Call (.Attribute o m apos) (e::es) [] pos) (zN C m sp ta t):=RP m M c hX hr he ha cF hpl ht
theorem Jc(m:Str)(M:lW P' w' K' aI aW C m k ps sp)(c:pR K' C)(hX:X.prog=P'/\X.w=w'/\X.K=K'/\X.mg=aI/\X.base=aW)(hr:av k X.A)(he:PE X o ta)(ht:eval (.Call (.Attribute o m apos) [] [] pos) X.env=(do
   let ov <-eval o X.env
   standAt apos.atName
   let(f,first) <-holding [ov] (getMethod ov m (Ls o X.env))
   callWith pos f first (backTo pos (starEach [] X.env)) (backToKw pos (keywordEach [] X.env))):=by kernel_rfl):PE X (.Call (.Attribute o m apos) [] [] pos) (zN C m sp ta gY):=NR m M c hX hr he ht
theorem HW(m:Str)(M:tE P' w' K' aI aW C m k ps sp)(c:pR K' C)(hX:X.prog=P'/\X.w=w'/\X.K=K'/\X.mg=aI/\X.base=aW)(hr:av k X.A)(ho:PE X.vp o ta)(ha:PA X.vp (e::es) t)(he:starEach (e::es) X.env=(false,eval e X.env)::starEach es X.env:=by kernel_rfl)(hpl:(backTo pos (starEach es X.env)).any (·.1)=false:=by kernel_rfl)(hs:swapsWith (.Call (.Attribute o m apos) (e::es) [] pos) none Ab.line X.env=pure false:=by kernel_rfl)(ht:eval (.Call (.Attribute o m apos) (e::es) [] pos) X.env=(do
   let ov <-eval o X.env
   standAt apos.atName
   let(f,first) <-holding [ov] (getMethod ov m (Ls o X.env))
   callWith pos f first (backTo pos (starEach (e::es) X.env)) (backToKw pos (keywordEach [] X.env))):=by kernel_rfl):Vt X [.Expr (.Call (.Attribute o m apos) (e::es) [] pos) Ab] (J8 C m sp ta t):=MB m M c hX hr ho ha he hpl hs ht
end
section
def cJ(sp:Sp):Prop:=∀ ⦃vs:List V⦄ ⦃H:Hp⦄ ⦃Q Q':VK⦄ ⦃E E':XK⦄,(∀v H',Q v H'->Q' v H')->(∀c dd H',E c dd H'->E' c dd H')->sp vs H Q E->sp vs H Q' E'
theorem rX:cJ fY:=by
 intro vs H Q Q' E E' hQ hE h;unfold fY at *
 split at h
 ·refine az λak=>?_;obtain⟨k,n,rows,bb,cs,ls,hv,hc,ok,hz,QE,hb,hk,hl,nV,pT,q⟩:=h;refine ak ?_;clear ak;exact⟨k,n,rows,bb,cs,ls,hv,hc,ok,hz,QE,hb,hk,hl,nV,pT,λH' s=>hQ _ _ (q H' s)⟩
 ·exact h.elim
theorem Ar:cJ nX:=λ_ _ _ _ _ _ _ _ h=>h
theorem Ax{A AW:Sp}(hA:cJ A)(hW:cJ AW){CN CT c:Addr}{ag:List (Key×V)}{H:Hp}{Q Q':VK}{E E':XK}{ws:List Str}(hQ:∀v H',Q v H'->Q' v H')(hE:∀c dd H',E c dd H'->E' c dd H')(h:G8 A AW CN CT c ag H Q E ws):G8 A AW CN CT c ag H Q' E' ws:=by
 unfold G8 at *
 split at h
 ·exact⟨λe H' s=>hE _ _ _ (h.1 e H' s),λcv e H' s=>hA hQ hE (h.2 cv e H' s)⟩
 ·exact⟨λe=>⟨λe2 H' s=>hE _ _ _ ((h.1 e).1 e2 H' s),λe2 cv H' s dv=>hQ _ _ ((h.1 e).2 e2 cv H' s dv)⟩,λe=>⟨λe2 H' s=>hE _ _ _ ((h.2 e).1 e2 H' s),λcv e2 H' s=>hW hQ hE ((h.2 e).2 cv e2 H' s)⟩⟩
 ·exact h.elim
theorem xt{A AW:Sp}(hA:cJ A)(hW:cJ AW){C CR CN CT:Addr}:cJ (dq A AW C CR CN CT):=by
 intro vs H Q Q' E E' hQ hE h;unfold dq at *
 split at h
 ·obtain⟨hz,hd,qe,q⟩:=h;exact⟨hz,hd,λe H' s=>hE _ _ _ (qe e H' s),λe=>let⟨c,ag,d,l,g⟩:=q e;⟨c,ag,d,l,Ax hA hW hQ hE g⟩⟩
 ·obtain⟨T,ht,e9,q⟩:=h;exact⟨T,ht,e9,hE _ _ _ q⟩
 ·exact h.elim
def WJ(K:W.Frag)(mg:Str->Option Value)(B:Addr)(Q:VK):XK:=λc dd H'=>∃C m,c = .ref C/\dd=none/\f6 K mg C m/\(m=0\/m=1\/m=4\/m=5\/m=6)/\W.exmOne K (.ref C) (.ref B)=some true/\∀X8,ah H' X8->Q (.str (CS m)) X8
abbrev Cy:Stmt:=top 115
def pZ(K:W.Frag)(mg:Str->Option Value)(B C:Addr)(sp:Sp):Sp:=λvs H Q _=>match vs with
 | [.ref d,x]=>∃dx fs,H d=some (.ins C dx fs)/\fs.lookup ("say" : Str)=none/\sp [.ref d,x] H (λ_ H'=>Q (.str ("" : Str)) H') (WJ K mg B Q)
 | _=>False
theorem Dm:ao ["desk","row","word","e"] ["desk","row"] (ae Cy):=⟨rfl,rfl,rfl,by decide +kernel,rfl,by decide +kernel,by decide +kernel⟩
local macro_rules|`(tactic|walk_at"i")=>`(tactic|((with_reducible refine' IZ "_law_class" ?a0 ?a9 ?a1 ?a2);(case a0=>walk_at"F");(case a9=>exact⟨rfl,rfl,rfl,rfl,rfl⟩);(case a1=>exact av.mono (by assumption) (by decide));(case a2=>walk_at"b")))
local macro_rules|`(tactic|walk_at"C")=>`(tactic|((with_reducible refine' HW "say" ?c0 ?c8 ?c9 ?c1 ?c3 ?c2);(case c0=>walk_at"F");(case c8=>walk_at"F");(case c9=>exact⟨rfl,rfl,rfl,rfl,rfl⟩);(case c1=>exact av.mono (by assumption) (by first|decide|exact aae _));(case c3=>walk_at"a");(case c2=>walk_at"b")))
local macro_rules|`(tactic|walk_at"k")=>`(tactic|((with_reducible refine' L8 "BeatError" "e" 3 ?b0 ?b9 ?b1 ?b2 (λa=>?b3));(case b0=>walk_at"F");(case b9=>rfl);(case b1=>with_unfolding_all assumption);(case b2=>walk_at"C");(case b3=>walk_at"p")))
theorem rY{P0 C0 C:Addr}:cJ (iN P0 C0 C):=by
 intro vs H Q Q' E E' hQ hE h;unfold iN at *
 split at h
 ·refine az λak=>?_;obtain⟨k,n,rows,wire,hv,hc,ok,tb,hz,w1,n1,qn,q⟩:=h;refine ak ?_;clear ak;exact⟨k,n,rows,wire,hv,hc,ok,tb,hz,w1,n1,λqs H' s t r b=>hE _ _ _ (qn qs H' s t r b),λqs r b=>⟨λi d H' hi a1 a2 s t hd=>hE _ _ _ ((q qs r b).1 i d H' hi a1 a2 s t hd),λc H' s t l x y=>hQ _ _ ((q qs r b).2 c H' s t l x y)⟩⟩
 ·exact h.elim
theorem As{P0 C0 C:Addr}:cJ (lM P0 C0 C):=λ_ _ _ _ _ _ hQ hE h=>h.elim (λh=>.inl (rX hQ hE h)) λh=>.inr (rY hQ hE h)
theorem W3{P0 C0 CW C CR CN CT:Addr}:cJ (dq nX (lM P0 C0 CW) C CR CN CT):=xt Ar As
theorem Ij{C B:Addr}{sp:Sp}(D:bX K mg "_law_refused" Cy ["desk","row"])(Uw:cJ sp)(hB:mg "BeatError" = some (.ref B))(hC:pR K C)(c1:tE P w K mg base C "say" 9 ["self","row"] sp)(c2:Hc P w K mg base "_law_class" 1 ["e"] (qR K mg)):aJ P w K mg base "_law_refused" 10 ["desk","row"] (pZ K mg B C sp):=by
 refine ar (k:=9) D Dm (λvs H Q E h=>?_) (λf aA A outer s H vs Q E hr h=>?_)
 all_goals
  unfold pZ at h;split at h
 ·rfl
 ·exact h.elim
 ·rename_i d x;have nd:=Dm.nd;refine⟨_,(by walk_at"c"),?_⟩;obtain⟨dx,fs,hd,hl,h⟩:=h;refine⟨d,dx,fs,rfl,hd,hl,Uw (λv H' q=>q) (λc dd H' q=>?_) h⟩;refine az λak=>?_;obtain⟨C,m,rfl,rfl,Km,Xz,hx,q⟩:=q;refine ak ?_;clear ak;refine⟨hx,λy ny=>?_⟩;exact⟨C,m,Km,Xz,aa,λH2 s2=>q H2 ((ah.upd ny).trans s2)⟩
 ·exact h.elim
end
section
abbrev CH:Stmt:=top 102
def wj(K:W.Frag):Sp:=λvs H Q _=>match vs with
 | [.ref a,.int k]=>∃ns:List Int,aN K H a (ns.map V.int)/\0<=k/\k<=1000/\∀c,Q (.int c) H
 | _=>False
theorem Du:ao ["script","k"] ["script","k"] (ae CH):=⟨rfl,rfl,rfl,by decide +kernel,rfl,by decide +kernel,by decide +kernel⟩
local macro_rules|`(tactic|walk_at"i")=>`(tactic|((with_reducible refine' zq ?a0 ?a9 ?a1);(case a0=>walk_at"F");(case a9=>rfl);(case a1=>walk_at"b")))
local macro_rules|`(tactic|walk_at"n")=>`(tactic|((with_reducible refine' Nx ?a1 ?a2);(case a1=>walk_at"a");(case a2=>walk_at"a")))
theorem Ir(D:bX K mg "_law_cell" CH ["script","k"])(g1:mg "len" = none):aJ P w K mg base "_law_cell" 1 ["script","k"] (wj K):=by
 refine ar (k:=0) D Du (λvs H Q E h=>?_) (λf aA A outer s H vs Q E hr h=>?_)
 all_goals
  unfold wj at h;split at h
 ·rfl
 ·exact h.elim
 ·rename_i a k;obtain⟨ns,hS,h0,h1,q⟩:=h;have nd:=Du.nd;refine⟨_,(by walk_at"c"),?_⟩;refine⟨_,hS,aO (λh2=>?_) (λh2=>?_)⟩
  ·have K8:k<((ns.map V.int).length:Int):=aaF h2;rw[aaa]at K8;have h3:k.toNat<ns.length:=by omega
   exact⟨_,.int ns[k.toNat],hS,lH h0 (by rw[aak,aab h3];rfl),q _⟩
  ·exact⟨.inl ⟨by decide,by decide⟩,.inr ⟨by omega,by omega⟩,.inl ⟨by decide,by decide⟩,q _⟩
 ·exact h.elim
end
section
abbrev wq:Stmt:=top 103
def qD:Sp:=λvs H Q _=>match vs with
 | [.int _]=>∀p g b,H p=none->Q (.ref p) (upd H p (.lst [.int g,.int b,.int 1]))
 | _=>False
theorem yN:ao ["cell","great"] ["cell"] (ae wq):=⟨rfl,rfl,rfl,by decide +kernel,rfl,by decide +kernel,by decide +kernel⟩
theorem EM(D:bX K mg "_law_store" wq ["cell"]):aJ P w K mg base "_law_store" 1 ["cell"] qD:=by
 refine ar (k:=0) D yN (λvs H Q E h=>?_) (λf aA A outer s H vs Q E hr h=>?_)
 all_goals
  unfold qD at h;split at h
 ·rfl
 ·exact h.elim
 ·rename_i c;have nd:=yN.nd;refine⟨_,(by walk_at"c"),?_⟩;refine⟨⟨by decide,by decide,by decide⟩,aO (λh2=>?_) (λh2=>?_)⟩
  ·exact⟨(by decide:(0:Int)<2147483629),ai (aai rfl),λp hp=>h p _ _ hp⟩
  ·exact⟨(by decide:(0:Int)<2147483629),ai (aai rfl),λp hp=>h p _ _ hp⟩
 ·exact h.elim
abbrev Cu:Stmt:=top 104
theorem Dj:ao ["store","many","told","one"] ["store","many"] (ae Cu):=⟨rfl,rfl,rfl,by decide +kernel,rfl,by decide +kernel,by decide +kernel⟩
theorem Ig(D:bX K mg "_law_take" Cu ["store","many"]):aJ P w K mg base "_law_take" 1 ["store","many"] fB:=by
 refine ar (k:=0) D Dj (λvs H Q E h=>?_) (λf aA A outer s H vs Q E hr h=>?_)
 all_goals
  unfold fB at h;split at h
 ·rfl
 ·exact h.elim
 ·rename_i a many;obtain⟨⟨g,b,c,ha⟩,h0,h1,k⟩:=h;have nd:=Dj.nd;refine⟨_,(by walk_at"c"),?_⟩;have fin:∀(H1:Hp)(r g' c':Int),H1=upd H a (.lst [.int g',.int b,.int c'])->0<=r->r<many->Q (.int r) H1:=λH1 r g' c' e r0 r1=>by subst e;exact k r _ r0 r1 ⟨_,_,_,aa⟩ λy o e n=>by rw[af n];exact e
  refine⟨.int g,gl ha (by decide) rfl,aO (λh2=>?_) (λh2=>?_)⟩
  ·refine⟨.int g,gl ha (by decide) rfl,h0,?_⟩;refine⟨.int g,gl ha (by decide) rfl,⟨h0,h1⟩,_,0,ha,rfl,?_⟩;exact fin _ _ _ _ rfl (acE _ (by omega)) (abQ _ h0)
  ·refine⟨.int c,gl ha (by decide) rfl,_,2,ha,rfl,?_⟩;have UT:upd H a (.lst ([V.int g,V.int b,V.int c].set 2 (V.int (c+1)))) a=some (.lst [.int g,.int b,.int (c+1)]):=aa;refine⟨.int b,gl UT (by decide) rfl,.int (c+1),gl UT (by decide) rfl,.inl ⟨by decide,by decide⟩,.inr ⟨by decide,by decide⟩,(by decide:(0:Int)<2147483647),?_⟩;have b1:=acE ((b+7919*(c+1))*48271) (show(2147483647:Int)≠0 by decide);have b2:=abQ ((b+7919*(c+1))*48271) (show(0:Int)<2147483647 by decide);generalize((b+7919*(c+1))*48271) % 2147483647=x1 at b1 b2 ⊢;refine⟨.inl ⟨by omega,by omega⟩,(by decide:(0:Int)<2147483629),?_⟩;refine⟨.int (c+1),gl UT (by decide) rfl,.inl ⟨by decide,by decide⟩,.inr ⟨by decide,by decide⟩,(by decide:(0:Int)<2147483587),?_⟩;refine⟨⟨by decide,by decide⟩,h0,?_⟩;exact fin _ _ _ _ rfl (acE _ (by omega)) (abQ _ h0)
 ·exact h.elim
abbrev lZ:Stmt:=top 105
theorem k9:ao ["number","n","word","k"] ["number","n"] (ae lZ):=⟨rfl,rfl,rfl,by decide +kernel,rfl,by decide +kernel,by decide +kernel⟩
theorem EJ(D:bX K mg "_law_word" lZ ["number","n"])(g1:mg "range" = none):aJ P w K mg base "_law_word" 1 ["number","n"] kW:=by
 refine ar (k:=0) D k9 (λvs H Q E h=>?_) (λf aA A outer s H vs Q E hr h=>?_)
 all_goals
  unfold kW at h;split at h
 ·rfl
 ·exact h.elim
 ·rename_i x n;obtain⟨h0,h1,q⟩:=h;have nd:=k9.nd;refine⟨_,(by walk_at"c"),?_⟩;refine⟨by omega,by omega,bL (de 0 _) (λi σ H2=>H2=H/\∃(y:Int)(w':List Bool)(v:Option V),σ=[some (.int y),some (.int n),some (.str (bs w')),v]/\w'.length=i) ⟨rfl,x,[],none,by rw[qr];rfl,rfl⟩ (λ_ _ _ _ _=>trivial) ?_ ?_⟩
  ·rintro i z σ H2 hi hx ⟨rfl,y,w',v,rfl,hl⟩;rw[aaa,aaK]at hi;have m0:=acE y (show(2:Int)≠0 by decide);have m1:=abQ y (show(0:Int)<2 by decide);refine⟨(by decide:(0:Int)<2),_,XT m0 m1,⟨?_,?_⟩⟩
   ·rw[bg,bg];exact ai (by simp;omega)
   ·refine⟨⟨by decide,by decide⟩,rfl,y / 2,decide (y % 2=1)::w',some z,?_,by simp[hl]⟩;rw[qu];rfl
  ·rintro σ H2 ⟨rfl,y,w',v,rfl,hl⟩;refine q w' ?_;rw[aaa,aaK]at hl;omega
 ·exact h.elim
abbrev rh:Stmt:=top 106
def mq:Sp:=λvs H Q _=>match vs with
 | [.ref a,.int _,.ref vQ,.int place,.int ic,.ref sz]=>∃(ws:List (List Bool))(k n many:Nat),gF H a/\H vQ=some (WS ws)/\1<=ws.length/\ws.length<=10/\(∀w∈ws,w.length=n)/\H sz=some (.tup [.int k,.int n,.int many]) ∧
   1<=n/\n<=6/\1<=many/\many<=8/\0<=place/\place<=8/\0<=ic/\ic<=8 ∧
   ∀p (w:List Bool) (t:Nat) H',w.length=n->t<many->gF H' a->Off (At a) H H'->H p=none->H' p=some (.tup [.str (bs w),.int (t:Nat)])->Q (.ref p) H'
 | _=>False
theorem uf:ao ["store","kind","pool","place","letter","sizes","k","n","many","behind","word"] ["store","kind","pool","place","letter","sizes"] (ae rh):=⟨rfl,rfl,rfl,by decide +kernel,rfl,by decide +kernel,by decide +kernel⟩
theorem Ae{g b c:Int}(ws:List (List Bool)):HO.lst [.int g,.int b,.int c]≠WS ws:=by
 intro z;unfold WS at z;injection z with z
 match ws,z with
 | [],z=>cases z
 | _::_,z=>injection z with z1 z2;cases z1
theorem qw{H:Hp}{p:Addr}{n:Nat}(n1:1<=n)(n6:n<=6)(h:H p=some (.lst [.int 2,.int 4,.int 8,.int 16,.int 32,.int 64])):∃m:Int,0<m/\m<=64/\gZ H (.ref p) ((n:Int)-1)=some (.int m):=by
 have:n=1\/n=2\/n=3\/n=4\/n=5\/n=6:=by omega
 rcases this with rfl|rfl|rfl|rfl|rfl|rfl
 ·exact⟨2,by decide,by decide,gl h (by decide) rfl⟩
 ·exact⟨4,by decide,by decide,gl h (by decide) rfl⟩
 ·exact⟨8,by decide,by decide,gl h (by decide) rfl⟩
 ·exact⟨16,by decide,by decide,gl h (by decide) rfl⟩
 ·exact⟨32,by decide,by decide,gl h (by decide) rfl⟩
 ·exact⟨64,by decide,by decide,gl h (by decide) rfl⟩
theorem AS(D:bX K mg "_law_branch" rh ["store","kind","pool","place","letter","sizes"])(g1:mg "len" = none)(c1:aJ P w K mg base "_law_take" 1 ["store","many"] fB)(c2:aJ P w K mg base "_law_word" 1 ["number","n"] kW):aJ P w K mg base "_law_branch" 2 ["store","kind","pool","place","letter","sizes"] mq:=by
 refine ar (k:=1) D uf (λvs H Q E h=>?_) (λf aA A outer s H vs Q E hr h=>?_)
 all_goals
  unfold mq at h;split at h
 ·rfl
 ·exact h.elim
 ·rename_i a kind vQ place ic sz;refine az λak=>?_;obtain⟨ws,k,n,many,hS,CU,ws1,acf,WO,hsz,n1,n6,m1,m8,p0,p8,l0,l8,q⟩:=h;refine ak ?_;clear ak;have nd:=uf.nd;have pa:vQ≠a:=by obtain⟨g,b,c,ha⟩:=hS;exact(cc ha CU (Ae ws)).symm
  refine⟨_,(by walk_at"c"),?_⟩;refine⟨_,.inl hsz,rfl,?_⟩;refine⟨rfl,hS,by omega,by omega,λt H1 t0 t1 s1 o1=>?_⟩;have kF:=o1 _ _ CU pa;refine⟨_,dW kF,s1,by rw[vY];omega,by rw[vY];omega,λr H2 r0 r1 s2 o2=>?_⟩;rw[vY]at r1;obtain⟨w0,sV⟩ : ∃w0,ws[r.toNat]? = some w0:=⟨_,aab (by omega)⟩
  refine⟨_,gl (o2 _ _ kF pa) r0 (C8 sV),?_⟩;have Xb:=o1.trans o2
  try dsimp only[aQ,bu]
  refine qd (λσ H3=>∃(t:Int)(w0:List Bool),σ=[some (.ref a),some (.int kind),some (.ref vQ),some (.int place),some (.int ic),some (.ref sz),some (.int k),some (.int n),some (.int many),some (.int t),some (.str (bs w0))]/\0<=t/\t<many/\w0.length=n/\gF H3 a/\Off (At a) H H3) ?_ (λfin=>?_)
  ·intro σ H3 bP;refine az λak=>?_;obtain⟨t,w0,rfl,t0,t1,sV,s3,o3⟩:=bP;refine ak ?_;clear ak
   try dsimp only[aQ,bu]
   refine qd (λσ H3=>∃(w0:List Bool),σ=[some (.ref a),some (.int kind),some (.ref vQ),some (.int place),some (.int ic),some (.ref sz),some (.int k),some (.int n),some (.int many),some (.int t),some (.str (bs w0))]/\w0.length=n/\gF H3 a/\Off (At a) H H3) ?_ (λfin=>?_)
   ·rintro σ H4 ⟨w0,rfl,sV,s4,o4⟩
    try dsimp only[aQ,bu]
    refine qd (λσ H3=>∃(w0:List Bool),σ=[some (.ref a),some (.int kind),some (.ref vQ),some (.int place),some (.int ic),some (.ref sz),some (.int k),some (.int n),some (.int many),some (.int t),some (.str (bs w0))]/\w0.length=n/\gF H3 a/\Off (At a) H H3) ?_ (λfin=>?_)
    ·rintro σ H5 ⟨w0,rfl,sV,s5,o5⟩
     try dsimp only[aQ,bu]
     refine qd (λσ H3=>∃(w0:List Bool),σ=[some (.ref a),some (.int kind),some (.ref vQ),some (.int place),some (.int ic),some (.ref sz),some (.int k),some (.int n),some (.int many),some (.int t),some (.str (bs w0))]/\w0.length=n/\gF H3 a/\Off (At a) H H3) ?_ (λfin=>?_)
     ·rintro σ H6 ⟨w0,rfl,sV,s6,o6⟩;refine⟨ai (aai rfl),λp hp=>?_⟩;have e:t=((t.toNat:Nat):Int):=by omega
      refine q p w0 t.toNat _ sV (by omega) (s6.new hp) (o6.qv hp) (o6.yx s6 hp) ?_;rw[aa,<-e]
     ·-- kind == 4 and k <= n
      dsimp only[fk,bu,Lf];refine aO (λh3=>?_) (λh3=>dX (fin _ _ ⟨w0,rfl,sV,s5,o5⟩));refine aO (λh4=>?_) (λh4=>fin _ _ ⟨w0,rfl,sV,s5,o5⟩);refine⟨.inl ⟨by decide,by decide⟩,(by decide:(0:Int)<3),.inl ⟨by decide,by decide⟩,.inl ⟨by omega,by omega⟩,ai (aai rfl),λp hp=>?_⟩;obtain⟨m,m0,Zb,hm⟩:=qw n1 n6 (aa (H:=H5) (a:=p));refine⟨_,hm,m0,by omega,by omega,λw1 Pk=>?_⟩;exact fin _ _ ⟨w1,rfl,by omega,s5.new hp,o5.qv hp⟩
    ·-- kind == 5
     refine aO (λh3=>?_) (λh3=>fin _ _ ⟨w0,rfl,sV,s4,o4⟩);refine⟨s4,by decide,by decide,λr H5 r0 r1 s5 o5=>⟨by omega,by omega,λw1 Pk=>?_⟩⟩;exact fin _ _ ⟨w1,rfl,by omega,s5,o4.trans o5⟩
   ·-- kind == 3 and k <= n
    dsimp only[fk,bu,Lf];refine aO (λh3=>?_) (λh3=>dX (fin _ _ ⟨w0,rfl,sV,s3,o3⟩));refine aO (λh4=>?_) (λh4=>fin _ _ ⟨w0,rfl,sV,s3,o3⟩);have yh:=o3 _ _ CU pa;obtain⟨wf,ZC⟩ : ∃wf,ws[0]? = some wf:=⟨_,aab (by omega)⟩
    refine⟨_,gl yh (by decide) (C8 ZC),rfl,_,dW yh,.inl ⟨by decide,by decide⟩,.inl ⟨by omega,by omega⟩,ai (aai rfl),λp hp=>?_⟩;obtain⟨m,m0,Zb,hm⟩:=qw n1 n6 (aa (H:=H3) (a:=p));refine⟨_,hm,m0,by omega,by omega,λw1 Pk=>?_⟩;exact fin _ _ ⟨w1,rfl,by omega,s3.new hp,o3.qv hp⟩
  ·-- kind == 2
   refine aO (λh3=>?_) (λh3=>fin _ _ ⟨t,w0,rfl,t0,t1,WO _ (aaP sV),s2,Xb⟩);refine⟨.inl ⟨by decide,by decide⟩,(by omega:(0:Int)<(many:Int)),?_⟩;exact fin _ _ ⟨_,w0,rfl,acE _ (by omega),abQ _ (by omega),WO _ (aaP sV),s2,Xb⟩
 ·exact h.elim
abbrev wJ:Stmt:=top 107
def qP:Sp:=λvs H Q _=>match vs with
 | [.ref a,.int most]=>gF H a/\1<=most/\most<=8/\∀v k n rows G H',Om.aq k n rows->(rows.length:Int)<=most->DV G v (aR k n rows)->Gh G H H' a->Q v H'
 | _=>False
theorem y6:ao ["store","most","k","n","many","kind","top","pool","states","place","state","letter"] ["store","most"] (ae wJ):=⟨rfl,rfl,rfl,by decide +kernel,rfl,by decide +kernel,by decide +kernel⟩
theorem Ho{H:Hp}{p:Addr}{r:Int}(h0:0<=r)(h1:r<6)(h:H p=some (.lst [.int 1,.int 1,.int 1,.int 2,.int 2,.int 3])):∃k:Nat,1<=k/\k<=3/\gZ H (.ref p) r=some (.int k):=by
 have:r=0\/r=1\/r=2\/r=3\/r=4\/r=5:=by omega
 rcases this with rfl|rfl|rfl|rfl|rfl|rfl
 ·exact⟨1,by decide,by decide,gl h (by decide) rfl⟩
 ·exact⟨1,by decide,by decide,gl h (by decide) rfl⟩
 ·exact⟨1,by decide,by decide,gl h (by decide) rfl⟩
 ·exact⟨2,by decide,by decide,gl h (by decide) rfl⟩
 ·exact⟨2,by decide,by decide,gl h (by decide) rfl⟩
 ·exact⟨3,by decide,by decide,gl h (by decide) rfl⟩
theorem Ah{H:Hp}{p:Addr}{k:Nat}(k1:1<=k)(k3:k<=3)(h:H p=some (.lst [.int 2,.int 4,.int 8])):gZ H (.ref p) ((k:Int)-1)=some (.int ((2 ^ k:Nat):Int)):=by
 have:k=1\/k=2\/k=3:=by omega
 rcases this with rfl|rfl|rfl
 ·exact gl h (by decide) rfl
 ·exact gl h (by decide) rfl
 ·exact gl h (by decide) rfl
theorem HG{k:Nat}(k3:k<=3):2 ^ k<=8:=by
 have:k=0\/k=1\/k=2\/k=3:=by omega
 rcases this with rfl|rfl|rfl|rfl<;>decide
local macro_rules|`(tactic|walk_at"t")=>`(tactic|(have eu:(["j","store","top","n"]:List Str).Nodup:=(by decide +kernel));((with_reducible refine' wk "pool" 7 ["j","store","top","n"] [0,6,3] ?b1 ?b0 ?b2 (λcl C s H fp=>?b3) (λcl C s H fp=>?b4) (λcl C s H fp=>?b5));(case b1=>exact eu);(case b0=>assumption);(case b2=>walk_at"e");(case b3=>walk_at"d");(case b4=>walk_at"f");(case b5=>walk_at"a")))
theorem E3(D:bX K mg "_law_code" wJ ["store","most"])(g1:mg "range" = none)(c1:aJ P w K mg base "_law_take" 1 ["store","many"] fB)(c2:aJ P w K mg base "_law_word" 1 ["number","n"] kW)(c3:aJ P w K mg base "_law_branch" 2 ["store","kind","pool","place","letter","sizes"] mq):aJ P w K mg base "_law_code" 3 ["store","most"] qP:=by
 refine ar (k:=2) D y6 (λvs H Q E h=>?_) (λf aA A outer s H vs Q E hr h=>?_)
 all_goals
  unfold qP at h;split at h
 ·rfl
 ·exact h.elim
 ·rename_i a most;obtain⟨hS,m1,m8,q⟩:=h;have nd:=y6.nd;refine⟨_,(by walk_at"c"),?_⟩;have M0:=Gh.start hS;refine⟨ai (aai rfl),λp hp=>?_⟩;have M1:=M0.new (o:=.lst [.int 1,.int 1,.int 1,.int 2,.int 2,.int 3]) hp;refine⟨M1.st,by decide,by decide,λr H1 r0 r1 s1 o1=>?_⟩;have M2:=M1.take s1 o1;obtain⟨k,k1,k3,hk⟩:=Ho r0 r1 (o1 _ _ aa (M0.ne hp));refine⟨_,hk,?_⟩;refine⟨M2.st,by decide,by decide,λn0 H2 n00 n01 s2 o2=>?_⟩;have M3:=M2.take s2 o2;obtain⟨n,rfl⟩ : ∃n:Nat,n0=((n:Nat):Int)-1:=⟨(n0+1).toNat,by omega⟩
  refine⟨M3.st,by omega,by omega,λm0 H3 m00 m01 s3 o3=>?_⟩;have M4:=M3.take s3 o3;obtain⟨many,rfl⟩ : ∃n:Nat,m0=((n:Nat):Int)-1:=⟨(m0+1).toNat,by omega⟩
  refine⟨M4.st,by decide,by decide,λkind H4 k00 k01 s4 o4=>?_⟩;have M5:=M4.take s4 o4;have en:(1:Int)+((n:Int)-1)=(n:Int):=by omega
  have em:(1:Int)+((many:Int)-1)=(many:Int):=by omega
  try dsimp only[aQ,bu]
  rw[en,em];refine⟨ai (aai rfl),λp2 nG=>?_⟩;have M6:=M5.new (o:=.lst [.int 2,.int 4,.int 8,.int 16,.int 32,.int 64]) nG;obtain⟨tp,Yq,acg,Up⟩:=qw (n:=n) (by omega) (by omega) (aa (H:=H4) (a:=p2));refine⟨_,Up,?_⟩;refine⟨M6.st,by decide,by decide,λc0 H6 c00 c01 s6 o6=>?_⟩;have M7:=M6.take s6 o6;refine⟨by omega,by omega,λpl hpl=>?_⟩;have TX:=M7.ne hpl;refine bE (de 0 _) (λi τ H7 ys=>(∃v,τ=[v,some (.ref a),some (.int tp),some (.int n)])/\Gh (λ_=>none) H H7 a/\H7 pl=some (.lst ys)/\∃ws:List (List Bool),ys=ws.map (λw=>V.str (bs w))/\ws.length=i/\∀w∈ws,w.length=n) ?_ ⟨⟨none,rfl⟩,M7.new hpl,aa,[],rfl,rfl,by simp⟩ ?_ ?_ ?_
  ·rw[aaa,aaK];exact ai (by omega)
  ·rintro i τ H7 ys hi ⟨_,_,h7,ws,rfl,hl,_⟩;exact⟨trivial,h7,by simp[hl]⟩
  ·intro i x τ H7 ys hi hx bP;refine az λak=>?_;obtain⟨⟨v,rfl⟩,M8,h7,ws,rfl,hl,hw⟩:=bP;refine ak ?_;clear ak;refine⟨M8.st,Yq,by omega,λr H8 r0 r1 s8 o8=>⟨by omega,by omega,λw1 Pk=>?_⟩⟩;have h8:=o8 _ _ h7 TX;refine⟨h8,⟨_,rfl⟩,(M8.take s8 o8).own rfl (M7.yz hpl) TX,aa,ws++[w1],by rw[aao];rfl,by simp[hl],λy hy=>?_⟩;rcases aay.mp hy with hy|hy
   ·exact hw y hy
   ·have:y=w1:=by simpa using hy
    rw[this];omega
  ·rintro τ H7 ys ⟨_,M8,h7,ws,rfl,hl,hw⟩;rw[aaa,aaK]at hl;refine⟨aaO _,λS hS=>?_⟩;have M9:Gh (upd (λ_=>none) pl (WS ws)) H (upd H7 S (.lst [])) a:=(M8.grow h7 TX).new hS;have Uc:=M8.ne hS;have S0:H S=none:=M8.yz hS;have YZ:pl≠S:=aj h7 hS;refine⟨by omega,by omega,bL (de 0 _) (λi σ H9=>∃(v9 v10 v11:Option V)(G:Hp)(rows:Om.Rows)(ss:List V),σ=[some (.ref a),some (.int most),some (.int k),some (.int n),some (.int many),some (.int kind),some (.int tp),some (.ref pl),some (.ref S),v9,v10,v11]/\Gh G H H9 a/\G pl=some (WS ws)/\G S=none/\H9 S=some (.lst ss)/\bO G ss (rows.map cX)/\rows.length=i/\(∀st∈rows,st.length=2 ^ k)/\∀st∈rows,∀r∈st,r.1.length=n/\r.2<many)
    ⟨none,none,none,_,[],[],rfl,M9,aa,cz rfl YZ.symm,aa,.nil,rfl,by simp,by simp⟩ (λ_ _ _ _ _=>trivial) ?_ ?_⟩
   ·intro i x σ H9 hi hx bP;refine az λak=>?_;obtain⟨v9,v10,v11,G,rows,ss,rfl,J4,XS,gS,h9,hd,rl,r1,r2⟩:=bP;refine ak ?_;clear ak;have bI:i<many:=by simpa using hi
    have ex:x = .int (i:Nat):=by rw[aaa,aaK]at hi;rw[aak,abL hi]at hx;have:=(aaw hx).symm;rw[this];simp
    subst ex;refine⟨aaO _,λT hT=>?_⟩;have ST:S≠T:=aj h9 hT;have Ub:=J4.ne hT;have T0:=J4.yz hT;have gT:=J4.C3 hT;have Vx:=J4.new (o:=.lst []) hT;refine⟨ai (aai rfl),λp3 yh=>?_⟩;have Vw:=Vx.new (o:=.lst [.int 2,.int 4,.int 8]) yh;have Tp3:T≠p3:=λz=>by rw[<-z,aa]at yh;cases yh
    refine⟨_,Ah k1 k3 aa,?_⟩;have p8:=HG k3;refine⟨Int.le_trans (by decide) (Int.natCast_nonneg _),Int.lt_of_le_of_lt (Int.ofNat_le.mpr p8) (by decide),bL (de 0 _) (λj σ vH=>∃(v11:Option V)(G:Hp)(st:List (List Bool×Nat))(rs:List V),σ=[some (.ref a),some (.int most),some (.int k),some (.int n),some (.int many),some (.int kind),some (.int tp),some (.ref pl),some (.ref S),some (.int (i:Nat)),some (.ref T),v11]/\Gh G H vH a/\G pl=some (WS ws)/\G S=none/\G T=none/\vH S=some (.lst ss)/\vH T=some (.lst rs)/\bO G ss (rows.map cX)/\bO G rs (st.map nY)/\st.length=j/\∀r∈st,r.1.length=n/\r.2<many)
     ⟨v11,G,[],[],rfl,Vw,XS,gS,gT,bz (bz h9 ST) (aj (bz h9 ST) yh),bz aa Tp3,hd,.nil,rfl,by simp⟩ (λ_ _ _ _ _=>trivial) ?_ ?_⟩
    ·intro j y σ vH hj hy bP;refine az λak=>?_;obtain⟨O5,G1,st,rs,rfl,Vv,zY,SM,PQ,OJ,JX,BG,Sr,sl,sr⟩:=bP;refine ak ?_;clear ak;have iA:j<2 ^ k:=by rw[aaa,aaK,abh]at hj;exact hj
     have ey:y = .int (j:Nat):=by rw[aaa,aaK]at hj;rw[aak,abL hj]at hy;have:=(aaw hy).symm;rw[this];simp
     subst ey;refine⟨⟨_,rfl,JX⟩,?_⟩;refine⟨ai (aai rfl),λz hz=>?_⟩;have PY:=Vv.new (o:=.tup [.int k,.int n,.int many]) hz;refine⟨ws,k,n,many,PY.st,PY.s _ _ zY,by omega,by omega,hw,aa,by omega,by omega,by omega,by omega,by omega,by omega,by omega,by omega,λpp w1 t1 Lc Pk ZO Ol TQ Sh kF=>?_⟩;have M15:=PY.take Ol TQ;have Tz:T≠z:=aj JX hz;have Sz:S≠z:=aj OJ hz;have OH:Lc T=some (.lst rs):=TQ _ _ (bz JX Tz) Ub;have hS2:Lc S=some (.lst ss):=TQ _ _ (bz OJ Sz) Uc;have W7:T≠pp:=aj (bz JX Tz) Sh;have YX:S≠pp:=aj (bz OJ Sz) Sh;have YJ:rs.length=st.length:=by rw[Sr.length,aaa]
     refine⟨_,OH,by rw[YJ,sl];exact bC (by omega),?_⟩;have M16:=(M15.grow kF (Ol.tup kF)).own (p:=T) (o:=.lst (rs++[.ref pp])) (cz PQ W7) T0 Ub;have YW:pl≠pp:=by have h1:=PY.s _ _ zY;exact aj h1 Sh
     have Gs:ah G1 (upd G1 pp (.tup [.str (bs w1),.int (t1:Nat)])):=ah.upd (PY.s.free Sh);refine⟨some (.int (j:Nat)),_,st++[(w1,t1)],rs++[.ref pp],rfl,M16,bz zY YW,cz SM YX,cz PQ W7,bz hS2 ST,aa,BG.mono Gs,?_,by simp[sl],λr hr=>?_⟩
     ·rw[aao];exact(Sr.mono Gs).app (.cons (.tup aa (.cons (.str _) (.cons (.int _) .nil))) .nil)
     ·rcases aay.mp hr with hr|hr
      ·exact sr r hr
      ·have:r=(w1,t1):=by simpa using hr
       rw[this];exact⟨Pk,ZO⟩
    ·intro σ vH bP;refine az λak=>?_;obtain⟨O5,G1,st,rs,rfl,Vv,zY,SM,PQ,OJ,JX,BG,Sr,sl,sr⟩:=bP;refine ak ?_;clear ak;have TH:st.length=2 ^ k:=by rw[sl,aaa,aaK,abh]
     have Yz:ss.length=rows.length:=by rw[BG.length,aaa]
     refine⟨⟨_,rfl,OJ⟩,_,OJ,by rw[Yz,rl];exact bC (by omega),?_⟩;have Gs:ah G1 (upd G1 T (.lst rs)):=ah.upd PQ;have YY:pl≠T:=aj zY PQ;refine⟨some _,some _,O5,upd G1 T (.lst rs),rows++[st],ss++[.ref T],rfl,(Vv.grow JX Ub).own (cz SM ST) S0 Uc,bz zY YY,cz SM ST,aa,?_,by simp[rl],λy hy=>?_,λy hy=>?_⟩
     ·rw[aao];exact(BG.mono Gs).app (.cons (.lst aa (Sr.mono Gs)) .nil)
     ·rcases aay.mp hy with hy|hy
      ·exact r1 y hy
      ·have:y=st:=by simpa using hy
       rw[this];exact TH
     ·rcases aay.mp hy with hy|hy
      ·exact r2 y hy
      ·have:y=st:=by simpa using hy
       rw[this];exact sr
   ·intro σ H9 bP;refine az λak=>?_;obtain⟨v9,v10,v11,G,rows,ss,rfl,J4,XS,gS,h9,hd,rl,r1,r2⟩:=bP;refine ak ?_;clear ak;have rl':rows.length=many:=by rw[rl,aaa,aaK];omega
    refine⟨ai (aai rfl),λc hc=>?_⟩;have Vx:=(J4.grow h9 Uc).new (o:=.tup [.int k,.int n,.ref S]) hc;have Vw:=Vx.grow aa (J4.ne hc);have Sc:S≠c:=aj h9 hc;have G1:ah G (upd G S (.lst ss)):=ah.upd gS;have gc:upd G S (.lst ss) c=none:=cz (J4.C3 hc) Sc.symm;have G2:ah (upd G S (.lst ss)) (upd (upd G S (.lst ss)) c (.tup [.int k,.int n,.ref S])):=ah.upd gc;refine q _ k n rows _ _ ⟨k1,k3,by omega,by omega,by omega,by omega,r1,λst cF r hr=>?_⟩ (by omega) ?_ Vw
    ·obtain⟨x1,x2⟩:=r2 st cF r hr;exact⟨x1,by omega⟩
    ·exact .tup aa (.cons (.int _) (.cons (.int _) (.cons (.lst (G2 _ _ aa) (hd.mono (G1.trans G2))) .nil)))
 ·exact h.elim
end
section
abbrev wy:Stmt:=top 109
def qG:Sp:=λvs H Q _=>match vs with
 | [.ref a,cv,.int most]=>∃(k n:Nat)(rows:Om.Rows)(G:Hp),DV G cv (aR k n rows)/\Om.aq k n rows/\Gh G H H a/\0<=most/\most<=50 ∧
   ∀p t (pl:Nat) (ls:List Nat) H',Gh G H H' a->pl<rows.length->ls.length<=50->(∀l∈ls,l<2 ^ k)->H' p=some (.tup [.int (pl:Nat),.ref t])->H' t=some (.lst ((ni ls).map V.int))->t≠a->Q (.ref p) H'
 | _=>False
theorem yR:ao ["store","code","most","size","place"] ["store","code","most"] (ae wy):=⟨rfl,rfl,rfl,by decide +kernel,rfl,by decide +kernel,by decide +kernel⟩
theorem xo{H:Hp}{p:Addr}{k:Nat}(k1:1<=k)(k3:k<=3)(h:H p=some (.lst [.int 2,.int 4,.int 8])):gZ H (.ref p) ((k:Int)-1)=some (.int ((2 ^ k:Nat):Int)):=by
 have:k=1\/k=2\/k=3:=by omega
 rcases this with rfl|rfl|rfl
 ·exact gl h (by decide) rfl
 ·exact gl h (by decide) rfl
 ·exact gl h (by decide) rfl
local macro_rules|`(tactic|walk_at"h")=>`(tactic|(have eu:(["j","store","size"]:List Str).Nodup:=(by decide +kernel));((with_reducible refine' bM ["j","store","size"] [0,3] ?b1 ?b2 (λcl C s H fp=>?b3) (λcl C s H fp=>?b4) (λcl C s H fp=>?b5));(case b1=>exact eu);(case b2=>walk_at"e");(case b3=>walk_at"d");(case b4=>walk_at"f");(case b5=>walk_at"a")))
theorem ES(D:bX K mg "_law_rows" wy ["store","code","most"])(g1:mg "range" = none)(g2:mg "len" = none)(c1:aJ P w K mg base "_law_take" 1 ["store","many"] fB):aJ P w K mg base "_law_rows" 2 ["store","code","most"] qG:=by
 refine ar (k:=1) D yR (λvs H Q E h=>?_) (λf aA A outer s H vs Q E hr h=>?_)
 all_goals
  unfold qG at h;split at h
 ·rfl
 ·exact h.elim
 ·rename_i a cv most;refine az λak=>?_;obtain⟨k,n,rows,G,dv,ok,M0,m0,m50,q⟩:=h;refine ak ?_;clear ak;have nd:=yR.nd;obtain⟨ca,cb,ss,rfl,zJ,XD,sW⟩:=bH dv;have sl:ss.length=rows.length:=by rw[sW.length,aaa]
  have k1:=ok.k1;have k3:=ok.k3;have s1:=ok.s1;have s8:=ok.s8;have p8:2 ^ k<=8:=by
   have:k=0\/k=1\/k=2\/k=3:=by omega
   rcases this with rfl|rfl|rfl|rfl<;>decide
  have pk:0<2 ^ k:=Nat.pow_pos (by decide);refine⟨_,(by walk_at"c"),?_⟩;refine⟨ai (aai rfl),λp1 kF=>?_⟩;have M1:=M0.new (o:=.lst [.int 2,.int 4,.int 8]) kF;refine⟨_,gt (M1.s _ _ zJ) (by decide) rfl,_,xo k1 k3 aa,?_⟩;refine⟨_,gt (M1.s _ _ zJ) (by decide) rfl,_,dW (M1.s _ _ XD),?_⟩;refine⟨M1.st,by omega,by omega,λpl H2 l0 l1 d2 o2=>?_⟩;have M2:=M1.take d2 o2;refine⟨M2.st,by omega,by omega,λm H3 n0 n1 d3 o3=>?_⟩;have M3:=M2.take d3 o3;refine⟨by omega,by omega,λT hT=>?_⟩;have gT:=M3.C3 hT;have T0:=M3.yz hT;have Ta:=M3.ne hT;refine bE (de 0 _) (λi τ H4 ys=>(∃v,τ=[v,some (.ref a),some (.int ((2 ^ k:Nat):Int))])/\Gh G H H4 a/\H4 T=some (.lst ys)/\∃ls:List Nat,ys=(ni ls).map V.int/\ls.length=i/\∀l∈ls,l<2 ^ k) (by rw[aaa,aaK];exact ai (by omega))
   ⟨⟨none,rfl⟩,M3.new hT,aa,[],rfl,rfl,by simp⟩ ?_ ?_ ?_
  ·rintro i τ H4 ys hi ⟨_,M4,h4,ls,rfl,ll,_⟩;refine⟨trivial,h4,?_⟩;unfold ni;simp;omega
  ·intro i x τ H4 ys hi hx bP;refine az λak=>?_;obtain⟨⟨v,rfl⟩,M4,h4,ls,rfl,ll,lb⟩:=bP;refine ak ?_;clear ak;refine⟨M4.st,by exact_mod_cast pk,by omega,λr H5 r0 r1 d5 o5=>?_⟩;have M5:=M4.take d5 o5;refine⟨o5 _ _ h4 Ta,⟨_,rfl⟩,M5.own gT T0 Ta,aa,ls++[r.toNat],?_,by rw[aal,ll];rfl,λl hl=>?_⟩
   ·unfold ni;rw[aao,aao];congr 1;have:((r.toNat:Nat):Int)=r:=by omega
    simp[this]
   ·rcases aay.mp hl with hl|hl
    ·exact lb l hl
    ·rw[aaA.mp hl];omega
  ·rintro τ H4 ys ⟨_,M4,h4,ls,rfl,ll,lb⟩;rw[aaa,aaK]at ll;refine⟨ai (aai rfl),λp hp=>?_⟩;have M5:=M4.new (o:=.tup [.int pl,.ref T]) hp;have ep:((pl.toNat:Nat):Int)=pl:=by omega
   refine q p T pl.toNat ls _ M5 (by omega) (by omega) lb ?_ (ah.upd hp _ _ h4) Ta;rw[aa,ep]
 ·exact h.elim
end
section
abbrev wx:Stmt:=top 110
def qF:Sp:=λvs H Q _=>match vs with
 | [cv,.int st,.ref t]=>∃(k n:Nat)(rows:Om.Rows)(s0:Nat)(ls:List Nat),DV H cv (aR k n rows)/\Om.aq k n rows/\st=(s0:Int)/\s0<rows.length/\H t=some (.lst ((ni ls).map V.int))/\ls.length<=400/\(∀l∈ls,l<2 ^ k) ∧
   ∀p H',ah H H'->H' p=some (.tup [.str (bs (Om.send rows s0 ls).1),.int ((Om.send rows s0 ls).2:Nat)])->Q (.ref p) H'
 | _=>False
theorem yQ:ao ["code","place","text","wire","letter","word"] ["code","place","text"] (ae wx):=⟨rfl,rfl,rfl,by decide +kernel,rfl,by decide +kernel,by decide +kernel⟩
theorem ER(D:bX K mg "_law_sent" wx ["code","place","text"]):aJ P w K mg base "_law_sent" 1 ["code","place","text"] qF:=by
 refine ar (k:=0) D yQ (λvs H Q E h=>?_) (λf aA A outer s H vs Q E hr h=>?_)
 all_goals
  unfold qF at h;split at h
 ·rfl
 ·exact h.elim
 ·rename_i cv st t;refine az λak=>?_;obtain⟨k,n,rows,s0,ls,hc,ok,rfl,Pm,ht,hlen,nV,q⟩:=h;refine ak ?_;clear ak;have nd:=yQ.nd;obtain⟨a,b,ss,rfl,ha,hb,sW⟩:=bH hc;refine⟨_,(by walk_at"c"),?_⟩;have hn:(ni ls).length=ls.length:=by unfold ni;simp
  refine⟨⟨_,aN.of ht⟩,bL (aE _ t ((ni ls).map V.int)) (λi σ H2=>(∃v4 v5,σ=[some (.ref a),some (.int ((Om.send rows s0 (ls.take i)).2:Nat)),some (.ref t),some (.str (bs (Om.send rows s0 (ls.take i)).1)),v4,v5])/\H2=H/\(Om.send rows s0 (ls.take i)).2<rows.length)
   ⟨⟨none,none,rfl⟩,rfl,Pm⟩ (λi σ H2 _ ⟨_,e,_⟩=>aN.of (by rw[e];exact ht)) ?_ ?_⟩
  ·rintro i x σ H2 hi hx ⟨⟨v4,v5,rfl⟩,rfl,cT⟩;rw[aak,ni,aak]at hx;obtain⟨n',Gq,rfl⟩:=aaN.mp hx;obtain⟨l,hl,rfl⟩:=aaN.mp Gq;obtain⟨st,e1,e2,e3,e4⟩:=Om.step_get ok cT (nV l (aaP hl));obtain⟨p,rs,f1,f2,f3⟩:=da sW e1;obtain⟨r,f4,f5⟩:=ia f3 e2;have ti:ls.take (i+1)=ls.take i++[l]:=by rw[aaL,hl];rfl
   have sn:Om.send rows s0 (ls.take i++[l])=((Om.send rows s0 (ls.take i)).1++(Om.step rows (Om.send rows s0 (ls.take i)).2 l).1,(Om.step rows (Om.send rows s0 (ls.take i)).2 l).2):=by rw[Om.cA];show((Om.send rows s0 (ls.take i)).1++((Om.step rows (Om.send rows s0 (ls.take i)).2 l).1++[]),(Om.step rows (Om.send rows s0 (ls.take i)).2 l).2)=_;rw[aa1]
   refine⟨_,gt ha (by decide) rfl,_,gl hb (by omega) (by simpa using f1),.ref r,gl f2 (by omega) (by simpa using f4),?_⟩;refine⟨_,.inl f5,rfl,rfl,?_⟩;have RD:((Om.send rows s0 (ls.take (i+1))).1).length<=2400:=by
    rw[(Om.bt ok (ls.take (i+1)) s0 Pm λx hx=>nV x (abl hx)).1,aas];have h6:=ok.n6
    calc n*min (i+1) ls.length<=6*400:=ac7 h6 (by omega)
     _<=2400:=by decide
   rw[ti,sn,aal]at RD;refine⟨by rw[bg,bg];exact fL (by omega),⟨some (.int (l:Nat)),some (.str (bs (Om.step rows (Om.send rows s0 (ls.take i)).2 l).1)),?_⟩,rfl,?_⟩
   ·rw[ti,sn,<-qu];rfl
   ·rw[ti,sn];exact e4
  ·rintro σ H2 ⟨⟨v4,v5,rfl⟩,rfl,cT⟩;have tl:ls.take ((ni ls).map V.int).length=ls:=aaq (by rw[aaa,hn];exact aae _);rw[tl];refine⟨ai (aai rfl),λp hp=>?_⟩;exact q p _ (ah.upd hp) aa
 ·exact h.elim
def wb:Sp:=λvs H Q _=>match vs with
 | [cv]=>∃(k n:Nat)(rows:Om.Rows),DV H cv (aR k n rows)/\Om.aq k n rows/\∀H',ah H H'->Q (.str (eB k n rows)) H'
 | _=>False
abbrev qW:Stmt:=top 111
theorem tZ:ao ["code","words","state"] ["code"] (ae qW):=⟨rfl,rfl,rfl,by decide +kernel,rfl,by decide +kernel,by decide +kernel⟩
local macro_rules|`(tactic|walk_at"h")=>`(tactic|(have eu:(["word","behind"]:List Str).Nodup:=(by decide +kernel));((with_reducible refine' bM ["word","behind"] [] ?b1 ?b2 (λcl C s H fp=>?b3) (λcl C s H fp=>?b4) (λcl C s H fp=>?b5));(case b1=>exact eu);(case b2=>walk_at"e");(case b3=>walk_at"d");(case b4=>walk_at"f");(case b5=>walk_at"a")))
theorem AL(D:bX K mg "_law_text_of" qW ["code"])(g1:mg "str" = none):aJ P w K mg base "_law_text_of" 1 ["code"] wb:=by
 refine ar (k:=0) D tZ (λvs H Q E h=>?_) (λf aA A outer s H vs Q E hr h=>?_)
 all_goals
  unfold wb at h;split at h
 ·rfl
 ·exact h.elim
 ·rename_i cv;obtain⟨k,n,rows,hc,ok,q⟩:=h;have nd:=tZ.nd;obtain⟨a,b,ss,rfl,ha,hb,sW⟩:=bH hc;refine az λak=>?_;obtain⟨k1,k3,n1,n6,s1,s8,hlen,zV⟩:=ok;refine ak ?_;clear ak;have sl:ss.length=rows.length:=by rw[sW.length,aaa]
  refine⟨_,(by walk_at"c"),?_⟩;refine⟨_,gt ha (by decide) rfl,jX (by omega),_,gt ha (by decide) rfl,jX (by omega),ai (aai rfl),λwl JS=>?_⟩;have u1:∀o,ah H (upd H wl o):=λo=>ah.upd JS;refine⟨_,gt (u1 _ _ _ ha) (by decide) rfl,⟨_,aN.of (u1 _ _ _ hb)⟩,?_⟩;refine bL (aE _ b ss) (λi σ H2=>∃(v:Option V),σ=[some (.ref a),some (.ref wl),v]/\ah H H2/\H2 wl=some (.lst ((bJ (k:Nat)::bJ (n:Nat)::(rows.take i).map bK).map V.str)))
   ⟨none,rfl,u1 _,aa⟩ (λi σ H2 _ ⟨_,_,s2,_⟩=>aN.of (s2 _ _ hb)) ?_ ?_
  ·rintro i x σ H2 hi hx ⟨v,rfl,s2,h2⟩;have bI:i<rows.length:=by omega
   obtain⟨p,rs,e1,e2,e3⟩:=da sW (s:=i) (st:=rows[i]) (aab bI);rw[hx]at e1;cases e1;have hm:=aat bI;have p8:2 ^ k<=8:=by
    have:k=0\/k=1\/k=2\/k=3:=by omega
    rcases this with rfl|rfl|rfl|rfl<;>decide
   have rl:rs.length=2 ^ k:=by rw[e3.length,aaa];exact hlen _ hm
   have stl:rows[i].length=2 ^ k:=hlen _ hm;have Us:∀r∈rows[i],r.1.length<=6/\r.2<10:=λr hr=>by obtain⟨a1,a2⟩:=zV _ hm r hr;exact⟨by omega,by omega⟩
   refine⟨⟨_,rfl,h2⟩,rfl,⟨_,aN.of (s2 _ _ e2)⟩,λD1 ki=>?_⟩;have wD:wl≠D1:=aj h2 ki;refine bE (aE _ p rs) (λj τ H3 ys=>(∃v1 v2,τ=[v1,v2])/\H3=upd H2 D1 (.lst ys)/\ys=((rows[i].take j).map dU).map V.str) (by rw[rl];exact ai (by omega)) ⟨⟨none,none,rfl⟩,rfl,rfl⟩ ?_ ?_ ?_
   ·rintro j τ H3 ys hj ⟨_,rfl,rfl⟩;exact⟨aN.upd (s2 _ _ e2) ki,aa,by simp;omega⟩
   ·rintro j y τ H3 ys hj hy ⟨⟨v1,v2,rfl⟩,rfl,rfl⟩;have iA:j<rows[i].length:=by omega
    obtain⟨r,f1,f2⟩:=ia e3 (l:=j) (r:=rows[i][j]) (aab iA);rw[hy]at f1;cases f1;obtain⟨b1,b2⟩:=Us _ (aat iA);refine⟨_,.inl (ah.upd ki _ _ (s2 _ _ f2)),rfl,rfl,?_⟩;refine⟨?_,jX b2,?_,aa,⟨_,_,rfl⟩,dI,?_⟩
    ·rw[bg];exact ai (by(have:(">" : Str).length=1:=by decide +kernel);omega)
    ·rw[eS,bg,eF b2];exact ai (by(have:(">" : Str).length=1:=by decide +kernel);omega)
    ·rw[aaL,aab iA,aao,aao];rfl
   ·rintro τ H3 ys ⟨_,rfl,rfl⟩;have tl:rows[i].take rs.length=rows[i]:=aaq (by omega);rw[tl];have s3:ah H2 (upd H2 D1 (.lst ((rows[i].map dU).map V.str))):=ah.upd ki;refine⟨rows[i].map dU,aa,?_,?_⟩
    ·have h1:((rows[i].map dU).map (·.length)).sum<=(rows[i].map dU).length*8:=pX λt ht=>by obtain⟨r,sP,rfl⟩:=aan.mp ht;exact mF (Us r sP).1 (Us r sP).2
     have h3:("," : Str).length=1:=by decide +kernel
     rw[aaa]at h1 ⊢;rw[h3];omega
    ·refine⟨_,s3 _ _ h2,by simp;exact bC (by omega),some (.ref p),rfl,λb' o e=>?_,?_⟩
     ·by_cases XE:b'=wl
      ·subst XE;rw[JS]at e;cases e
      ·rw[af XE];exact s3 _ _ (s2 _ _ e)
     ·have e:rows.take (i+1)=rows.take i++[rows[i]]:=by rw[aaL,aab bI];rfl
      rw[aa,e];simp only[aaR,aao,adf,acq];rfl
  ·rintro σ H2 ⟨v,rfl,s2,h2⟩;have tl:rows.take ss.length=rows:=aaq (by omega);rw[tl]at h2;refine⟨rfl,_,h2,?_,q _ s2⟩;have p8:2 ^ k<=8:=by
    have:k=0\/k=1\/k=2\/k=3:=by omega
    rcases this with rfl|rfl|rfl|rfl<;>decide
   have h1:((bJ (k:Nat)::bJ (n:Nat)::rows.map bK).map (·.length)).sum<=(bJ (k:Nat)::bJ (n:Nat)::rows.map bK).length*72:=pX λt ht=>by
    rcases aau.mp ht with rfl|ht
    ·rw[eF (by omega)];decide
    rcases aau.mp ht with rfl|ht
    ·rw[eF (by omega)];decide
    ·obtain⟨st,cF,rfl⟩:=aan.mp ht;exact mX (λr sP=>let⟨a1,a2⟩:=zV _ cF r sP;⟨by omega,by omega⟩) (by rw[hlen _ cF];exact p8)
   have h3:(" " : Str).length=1:=by decide +kernel
   have h4:(bJ (k:Nat)::bJ (n:Nat)::rows.map bK).length=rows.length+2:=by simp
   rw[h4]at h1 ⊢;rw[h3];omega
 ·exact h.elim
end
section
def e5(n x:Nat):List Bool:=(List.range n).map λi=>decide (x / 2 ^ (n-1-i) % 2=1)
theorem xj(n x:Nat):e5 (n+1) x=decide (x / 2 ^ n % 2=1)::e5 n x:=by unfold e5;rw[List.range_succ_eq_map,aaR,aaC];congr 1;apply aaW;intro i _;simp only[Function.comp,Nat.succ_eq_add_one];rw[show n+1-1-(i+1)=n-1-i by omega]
theorem kD(k:Nat)(c:List Nat):bo k c=(c.map (e5 k)).flatten:=rfl
def qA:Sp:=λvs H Q _=>match vs with
 | [.int x,.int n]=>∃j m:Nat,x=(j:Int)/\n=(m:Int)/\m<=10/\Q (.str (bs (e5 m j))) H
 | _=>False
theorem EI(D:bX K mg "_law_word" lZ ["number","n"])(g1:mg "range" = none):aJ P w K mg base "_law_word" 1 ["number","n"] qA:=by
 refine ar (k:=0) D k9 (λvs H Q E h=>?_) (λf aA A outer s H vs Q E hr h=>?_)
 all_goals
  unfold qA at h;split at h
 ·rfl
 ·exact h.elim
 ·rename_i x n;obtain⟨j,m,rfl,rfl,h1,q⟩:=h;have nd:=k9.nd;refine⟨_,(by walk_at"c"),?_⟩;refine⟨by omega,by omega,bL (de 0 _) (λi σ H2=>H2=H/\∃(v:Option V),σ=[some (.int ((j / 2 ^ i:Nat):Int)),some (.int (m:Nat)),some (.str (bs (e5 i j))),v]) ⟨rfl,none,by rw[Nat.pow_zero,Nat.div_one];rfl⟩ (λ_ _ _ _ _=>trivial) ?_ ?_⟩
  ·rintro i z σ H2 hi hx ⟨rfl,v,rfl⟩;rw[aaa,aaK]at hi;have m0:=acE ((j / 2 ^ i:Nat):Int) (show(2:Int)≠0 by decide);have m1:=abQ ((j / 2 ^ i:Nat):Int) (show(0:Int)<2 by decide);have wl:(e5 i j).length=i:=by unfold e5;simp
   refine⟨(by decide:(0:Int)<2),_,XT m0 m1,⟨?_,?_⟩⟩
   ·rw[bg,bg];exact ai (by simp;omega)
   ·refine⟨⟨by decide,by decide⟩,rfl,some z,?_⟩;rw[qu,xj];have e1:decide (((j / 2 ^ i:Nat):Int) % 2=1)=decide (j / 2 ^ i % 2=1):=by congr 1;exact propext ⟨λh=>by omega,λh=>by omega⟩
    have e2:((j / 2 ^ i:Nat):Int) / 2=((j / 2 ^ (i+1):Nat):Int):=by rw[Nat.pow_succ,<-Nat.div_div_eq_div_mul];omega
    rw[e1];dsimp only[List.set];rw[e2];rfl
  ·rintro σ H2 ⟨rfl,v,rfl⟩;rw[aaa,aaK];have:(((m:Nat):Int)).toNat=m:=by omega
   first
   | exact q
   | (rw[this];exact q)
 ·exact h.elim
abbrev jR:Stmt:=top 114
def iq:Sp:=λvs H Q _=>match vs with
 | [.int k,.ref t]=>∃(j:Nat)(ls:List Nat),k=(j:Int)/\j<=3/\H t=some (.lst ((ni ls).map V.int))/\ls.length<=100/\∀H',ah H H'->Q (.str (bs (bo j ls))) H'
 | _=>False
theorem nh:ao ["k","text"] ["k","text"] (ae jR):=⟨rfl,rfl,rfl,by decide +kernel,rfl,by decide +kernel,by decide +kernel⟩
local macro_rules|`(tactic|walk_at"h")=>`(tactic|(have eu:(["letter","k"]:List Str).Nodup:=(by decide +kernel));((with_reducible refine' bM ["letter","k"] [0] ?b1 ?b2 (λcl C s H fp=>?b3) (λcl C s H fp=>?b4) (λcl C s H fp=>?b5));(case b1=>exact eu);(case b2=>walk_at"e");(case b3=>walk_at"d");(case b4=>walk_at"f");(case b5=>walk_at"a")))
theorem uX(D:bX K mg "_law_bits_text" jR ["k","text"])(c1:aJ P w K mg base "_law_word" 1 ["number","n"] qA):aJ P w K mg base "_law_bits_text" 2 ["k","text"] iq:=by
 refine ar (k:=1) D nh (λvs H Q E h=>?_) (λf aA A outer s H vs Q E hr h=>?_)
 all_goals
  unfold iq at h;split at h
 ·rfl
 ·exact h.elim
 ·rename_i k t;obtain⟨j,ls,rfl,j3,ht,l1,q⟩:=h;have nd:=nh.nd;refine⟨_,(by walk_at"j"),?_⟩;refine⟨rfl,⟨_,aN.of ht⟩,λD hD=>?_⟩;have nl:(ni ls).length=ls.length:=by unfold ni;rw[aaa]
  refine bE (aE _ t ((ni ls).map V.int)) (λi τ H2 ys=>(∃v,τ=[v,some (.int (j:Nat))])/\H2=upd H D (.lst ys)/\ys=((ls.take i).map λl=>bs (e5 j l)).map V.str) (by rw[aaa,nl];exact ai (by omega)) ⟨⟨none,rfl⟩,rfl,rfl⟩ ?_ ?_ ?_
  ·rintro i τ H2 ys hi ⟨_,rfl,rfl⟩;exact⟨aN.of (ah.upd hD _ _ ht),aa,by rw[aaa,aaa,aas];exact abJ _ _⟩
  ·rintro i x τ H2 ys hi hx ⟨⟨v,rfl⟩,rfl,rfl⟩;rw[aak,ni,aak]at hx;obtain⟨y,hy,rfl⟩:=aaN.mp hx;obtain⟨l,hl,rfl⟩:=aaN.mp hy;refine⟨l,j,rfl,rfl,by omega,aa,⟨_,rfl⟩,dI,?_⟩;rw[aaL,hl,aao,aao]
   try rfl
  ·rintro τ H2 ys ⟨_,rfl,rfl⟩;rw[aaa,nl,aaY];have ew:(ls.map λl=>bs (e5 j l))=(ls.map (e5 j)).map bs:=by rw[aaC];rfl
   rw[ew];have bl:=gC j3 ls;refine⟨_,aa,?_,?_⟩
   ·have h1:(((ls.map (e5 j)).map bs).map (·.length)).sum=(bo j ls).length:=by rw[kD,acU,aaC];congr 1;apply aaW;intro x _;exact bg x
    have h3:(("" : Str)).length=0:=by decide +kernel
    rw[h1,h3];omega
   rw[rQ,<-kD];exact q _ (ah.upd hD)
 ·exact h.elim
abbrev CF:Stmt:=top 117
def jr:Sp:=λvs H Q _=>match vs with
 | [.str z]=>Q (.str (aM z)) H
 | _=>False
theorem Ds:ao ["text"] ["text"] (ae CF):=⟨rfl,rfl,rfl,by decide +kernel,rfl,by decide +kernel,by decide +kernel⟩
theorem Ip(D:bX K mg "_law_dash" CF ["text"]):aJ P w K mg base "_law_dash" 1 ["text"] jr:=by
 refine ar (k:=0) D Ds (λvs H Q E h=>?_) (λf aA A outer s H vs Q E hr h=>?_)
 all_goals
  unfold jr at h;split at h
 ·rfl
 ·exact h.elim
 ·rename_i z;have nd:=Ds.nd;refine⟨_,(by walk_at"c"),?_⟩;unfold aM at h;refine aO (λe=>?_) (λe=>?_)
  ·rw[aaz (aaF e)]at h;exact h
  ·rw[aar (λz=>e (aaI z))]at h;exact h
 ·exact h.elim
abbrev wH:Stmt:=top 112
def names8:List Str:=["a","b","code","send","none","zzzzzzzz","ab","marks"]
def qN:Sp:=λvs H Q _=>match vs with
 | [.ref a]=>gF H a/\∀z H',z∈names8->gF H' a->Off (At a) H H'->Q (.str z) H'
 | _=>False
theorem yZ:ao ["store"] ["store"] (ae wH):=⟨rfl,rfl,rfl,by decide +kernel,rfl,by decide +kernel,by decide +kernel⟩
theorem E1(D:bX K mg "_law_draw_name" wH ["store"])(c1:aJ P w K mg base "_law_take" 1 ["store","many"] fB):aJ P w K mg base "_law_draw_name" 2 ["store"] qN:=by
 refine ar (k:=1) D yZ (λvs H Q E h=>?_) (λf aA A outer s H vs Q E hr h=>?_)
 all_goals
  unfold qN at h;split at h
 ·rfl
 ·exact h.elim
 ·rename_i a;obtain⟨st,q⟩:=h;have nd:=yZ.nd;refine⟨_,(by walk_at"j"),?_⟩;refine⟨ai (aai rfl),λp hp=>?_⟩;have n1:=st.ne hp;refine⟨st.new hp,by decide,by decide,λr H4 r0 r8 lI o4=>?_⟩;have k4:=o4 _ _ aa n1;have hi:r.toNat<names8.length:=by rw[show names8.length=8 by rfl];omega
  refine⟨.str names8[r.toNat],gl k4 r0 (by rw[show([.str ("a" : Str),.str ("b" : Str),.str ("code" : Str),.str ("send" : Str),.str ("none" : Str),.str ("zzzzzzzz" : Str),.str ("ab" : Str),.str ("marks" : Str)]:List V)=names8.map V.str from rfl,aak,aab hi];rfl),?_⟩;exact q _ _ (aat hi) lI ((ah.upd hp).off.trans o4)
 ·exact h.elim
end
structure Pc(w:Str):Prop where
 len:w.length<=72
 cnt:(sM w).length<=8
 BE:∀p∈sM w,p.length<=8
theorem join_le(c:Nat)(m:Nat):∀(ps:List Str),(∀p∈ps,p.length<=m)->(Txt.join (ch c) ps).length<=ps.length*(m+1):=by
 intro ps;rw[tF]
 induction ps with
 | nil=>intro _;exact aaO _
 | cons p ps ih=>
  intro h;cases ps with
  | nil=>
   have:Str.join (ch c) [p]=p:=rfl;rw[this];have:=h p aah;simp;omega
  | cons q r=>
   have ih:=ih λx hx=>h x (aaf _ hx);have e:(Str.join (ch c) (p::q::r)).length=p.length+1+(Str.join (ch c) (q::r)).length:=by have:=aaX List.length (cg c p q r);rw[aal,aax,abg,abg,abg]at this;show(Str.join (ch c) (p::q::r)).cps.size=p.cps.size+1+(Str.join (ch c) (q::r)).cps.size;omega
   rw[e,aax,aby];have:=h p aah;omega
theorem DI{d:Nat}(h:d<10):Pc (bJ (d:Int)):=by obtain⟨h1,h2,h3⟩:=qS (bJ (d:Int));have l1:=eF h;exact⟨by omega,by omega,λp hp=>by have:=h2 p hp;omega⟩
theorem EG{st:List (List Bool×Nat)}(h:∀r∈st,r.1.length<=6/\r.2<10)(hn:st≠[])(h8:st.length<=8):Pc (bK st):=by
 have es:sM (bK st)=st.map dU:=ku (λr hr=>(h r hr).2) hn;have hr:∀p∈st.map dU,p.length<=8:=λp hp=>by obtain⟨r,hr,rfl⟩:=aan.mp hp;exact mF (h r hr).1 (h r hr).2
 exact⟨mX h h8,by rw[es,aaa];exact h8,by rw[es];exact hr⟩
def fA(k n:Nat)(rows:Om.Rows):List Str:=bJ (k:Int)::bJ (n:Int)::rows.map bK
theorem m9{k n:Nat}{rows:Om.Rows}(ok:Om.aq k n rows):Txt.split (eB k n rows) (" " : Str)=fA k n rows/\(fA k n rows).length<=10/\3<=(fA k n rows).length/\∀w∈fA k n rows,Pc w:=by
 refine az λak=>?_;obtain⟨k1,k3,n1,n6,s1,s8,hlen,zV⟩:=ok;refine ak ?_;clear ak;have p8:2 ^ k<=8:=aaM (Nat.pow_le_pow_right (by decide) k3) (by decide);have p1:1<=2 ^ k:=Nat.one_le_two_pow;refine⟨xq (by omega) (by omega) λst hs r hr=>by have:=(zV st hs r hr).2;omega,by unfold fA;simp;omega,by unfold fA;simp;omega,λw hw=>?_⟩;unfold fA at hw;rcases aau.mp hw with rfl|hw
 ·exact DI (by omega)
 rcases aau.mp hw with rfl|hw
 ·exact DI (by omega)
 obtain⟨st,hs,rfl⟩:=aan.mp hw;have hl:=hlen st hs;refine EG (λr hr=>⟨by rw[(zV st hs r hr).1];exact n6,by have:=(zV st hs r hr).2;omega⟩) (λz=>by rw[z]at hl;simp at hl;omega) (by omega)
theorem tW{k n:Nat}{rows:Om.Rows}(ok:Om.aq k n rows):(eB k n rows).length<=750:=by
 obtain⟨e,l10,l3,pc⟩:=m9 ok;have hj:Txt.join (ch 32) (Txt.split (eB k n rows) (ch 32))=eB k n rows:=by rw[tF];exact(gf _ (by decide)).2.2
 rw[<-df,e,df]at hj;rw[<-hj];have:=join_le 32 72 (fA k n rows) λp hp=>(pc p hp).len;omega
end K64
namespace L2
open PySem PySem.StrLaws Builtin Builtin.Str PyProof.Rows
theorem gu(x:Str)(c lim:Nat):∀(l:List Nat)(st:Array Nat×Nat),l.Pairwise (· < ·)->(∀i∈l,st.2<=i)->st.1.size<=lim → (forIn l st (occBody x (ch c) x.length lim)).run.fst.toList=st.1.toList++(l.filter λi=>decide (x.cps.toList[i]? = some c)).take (lim-st.1.size)
 | [],st,_,_,_=>by simp
 | a::l,st,hp,hs,hz=>by
  rw[ado];unfold occBody;have h1:=abD.mp hp;by_cases hc:x.cps.toList[a]? = some c
  ·have sR:=(subAt_one x c a).mpr hc;by_cases hl:st.1.size<lim
   ·rw[aaz ⟨⟨⟨hl,hs a aah⟩,sR.1⟩,sR.2⟩];have ih:=gu x c lim l (st.1.push a,a+(ch c).length) h1.2 (λi hi=>by have:=h1.1 i hi;show a+1<=i;omega) (by simp;omega)
    refine adM ih ?_;rw[abw,aaz (by simpa using hc)];have e:lim-st.1.size=(lim-(st.1.size+1))+1:=by omega
    simp only[Array.size_push,Array.toList_push];rw[e,adu];simp
   ·rw[aar λh=>hl h.1.1.1];have ih:=gu x c lim l (st.1,st.2) h1.2 (λi hi=>hs i (aaf _ hi)) hz;refine adM ih ?_;have e:lim-st.1.size=0:=by omega
    simp[e]
  ·rw[aar λh=>hc ((subAt_one x c a).mp ⟨h.1.2,h.2⟩)];have ih:=gu x c lim l (st.1,st.2) h1.2 (λi hi=>hs i (aaf _ hi)) hz;refine adM ih ?_;rw[abw,aar (by simpa using hc)]
theorem V1(x:Str)(c lim:Nat):occurrences x (ch c) 0 x.length lim=((List.range' 0 (x.length+1)).filter λi=>decide (x.cps.toList[i]? = some c)).take lim:=by rw[occ_eq];have:=gu x c lim (List.range' 0 (x.length+1-0)) (#[],0) List.pairwise_lt_range' (λ_ _=>aaO _) (by simp);simpa using this
theorem pA{l:List Nat}{c a m:Nat}(h:∀i,a<=i->i<a+m->l[i]?≠some c):((List.range' a m).filter λi=>decide (l[i]? = some c))=[]:=by rw[List.filter_eq_nil_iff];intro i hi;rw[List.mem_range'_1]at hi;simpa using h i hi.1 hi.2
theorem FG{A B C:List Nat}{c:Nat}(hA:c ∉ A)(hB:c ∉ B):∃r,((List.range' 0 ((A++c::(B++c::C)).length+1)).filter λi=>decide ((A++c::(B++c::C))[i]? = some c))=A.length::(A.length+1+B.length)::r:=by
 have e:(A++c::(B++c::C)).length+1=A.length+(1+(B.length+(1+(C.length+1)))):=by simp;omega
 rw[e,<-acP,<-acP,<-acP,<-acP,acx,acx,acx,acx];have gA:∀i,i<A.length->(A++c::(B++c::C))[i]?≠some c:=λi hi z=>by rw[aaV hi]at z;exact hA (aaP z)
 have gB:∀i,A.length+1<=i->i<A.length+1+B.length->(A++c::(B++c::C))[i]?≠some c:=λi h1 h2 z=>by
  rw[aaS (by omega)]at z;obtain⟨j,rfl⟩ : ∃j,i=A.length+1+j:=⟨i-(A.length+1),by omega⟩
  rw[show A.length+1+j-A.length=j+1 by omega,abe,aaV (by omega)]at z;exact hB (aaP z)
 have c1:(A++c::(B++c::C))[A.length]? = some c:=by rw[aaS (aae _)];simp
 have c2:(A++c::(B++c::C))[A.length+1+B.length]? = some c:=by rw[aaS (by omega),show A.length+1+B.length-A.length=B.length+1 by omega,abe,aaS (aae _)];simp
 rw[pA (a:=0) (m:=A.length) (λi _ h=>gA i (by omega))];rw[show List.range' (0+A.length) 1=[A.length]by simp[List.range'_succ]];rw[abw,aaz (by simpa using c1),List.filter_nil];rw[pA (a:=0+A.length+1) (m:=B.length) (λi h1 h2=>gB i (by omega) (by omega))];rw[show List.range' (0+A.length+1+B.length) 1=[A.length+1+B.length]by simp[List.range'_succ]];rw[abw,aaz (by simpa using c2),List.filter_nil];exact⟨_,rfl⟩
theorem kind_le(x:Str):1<=PySem.Builtin.Str.strKind x:=by unfold PySem.Builtin.Str.strKind;split;exact aae _;split<;>decide
theorem IC(l:List Nat)(i j:Nat):strSub (cp l) i j=cp ((l.drop i).take (j-i)):=by refine iL ?_;rw[strSub_toList,aY,aY]
theorem xr{A B C:List Nat}(hA:32 ∉ A)(hB:32 ∉ B):Txt.splitMax (cp (A++32::(B++32::C))) (" " : Str) 2=[cp A,cp B,cp C]:=by
 rw[df];have hL:(cp (A++32::(B++32::C))).length=A.length+1+B.length+1+C.length:=by rw[lC];simp;omega
 have e0:(decide ((cp (A++32::(B++32::C))).length<(ch 32).length) || decide (PySem.Builtin.Str.strKind (cp (A++32::(B++32::C)))<PySem.Builtin.Str.strKind (ch 32)))=false:=by
  have h1:(ch 32).length=1:=rfl;have h2:PySem.Builtin.Str.strKind (ch 32)=1:=by decide +kernel
  have h3:=kind_le (cp (A++32::(B++32::C)));rw[h1,h2,aaT (by omega),aaT (by omega)];rfl
 have eo:occurrences (cp (A++32::(B++32::C))) (ch 32) 0 (cp (A++32::(B++32::C))).length (limitOf (cp (A++32::(B++32::C))) 2)=[A.length,A.length+1+B.length]:=by rw[V1,aY,lC];obtain⟨r,hr⟩:=FG (C:=C) hA hB;rw[hr];rfl
 unfold Txt.splitMax;rw[aar (by rw[e0];decide),eo,aar (λz=>nomatch z)];have h1:(ch 32).length=1:=rfl;unfold partsBetween;rw[h1,hL];simp only[aaR,acq,adf,acX,List.zip_cons_cons,List.zip_nil_left,IC];congr 1
 ·congr 1;simp
 ·congr 1
  ·congr 1;rw[show A.length+1=(A++[32]).length by simp,show A++32::(B++32::C)=(A++[32])++(B++32::C)by simp,List.drop_left];simp
  ·congr 1;congr 1;rw[show A.length+1+B.length+1=(A++32::(B++[32])).length by simp;omega,show A++32::(B++32::C)=(A++32::(B++[32]))++C by simp,List.drop_left];simp
theorem split_head{A C:List Nat}(hA:32 ∉ A):(Txt.split (cp (A++32::C)) (" " : Str)).head? = some (cp A):=by
 rw[df];obtain⟨h1,h2,h3⟩:=gf (cp (A++32::C)) (c:=32) (by decide);generalize Txt.split (cp (A++32::C)) (ch 32)=ps at h1 h2 h3
 match ps,h2 with
 | [p],_=>
  have e:p=cp (A++32::C):=h3;have:=h1 p aah;unfold om at this;rw[e,aY]at this;exact absurd (by simp) this
 | p::q::r,_=>
  have e:=aaX (λz:Str=>z.cps.toList) h3;rw[cg,aY]at e;have:=(mR (h1 p aah) hA e).1;show some p=_;rw[<-this];exact aaX some (iL (by rw[aY]))
theorem Hm{A B C:List Nat}(hA:32 ∉ A)(hB:32 ∉ B)(hC:32 ∉ C):Txt.split (cp (A++32::(B++32::C))) (" " : Str)=[cp A,cp B,cp C]:=by
 rw[df];have e:cp (A++32::(B++32::C))=Txt.join (ch 32) [cp A,cp B,cp C]:=by
  rw[tF];refine iL ?_;rw[cg,cg,aY,aY,aY];show _=A++32::(B++32::(cp C).cps.toList)
  rw[aY]
 rw[e];refine eT (by decide) (λp hp=>?_) (by simp);unfold om;simp only[aau,List.not_mem_nil,or_false]at hp;rcases hp with rfl|rfl|rfl<;>(rw[aY];assumption)
end L2
namespace K64
open PySem L2
variable{P:Program}{w:World}{K:W.Frag}{mg:Str->Option Value}{base:Heap}
theorem Bj{k n:Nat}{rows:Om.Rows}(ok:Om.aq k n rows):Om.codeOk (aR k n rows)=true:=by have k1:=ok.k1;have k3:=ok.k3;have n1:=ok.n1;have n6:=ok.n6;have s1:=ok.s1;have s8:=ok.s8;unfold aR Om.codeOk Om.within;simp only[aaJ,aaH,aaZ,aaa];refine⟨⟨by omega,by omega⟩,⟨by omega,by omega⟩,⟨s1,s8⟩,λs hs=>?_⟩;obtain⟨st,cF,rfl⟩:=aan.mp hs;unfold cX Om.dM Om.intOf;simp only[aaJ,aaH,aaZ,aaa,abh];refine⟨ok.len st cF,λr hr=>?_⟩;obtain⟨rr,Oz,rfl⟩:=aan.mp hr;have okr:=ok.row st cF rr Oz;unfold nY Om.kn Om.jq Om.within;simp only[aaJ,aaH];exact⟨⟨by rw[bg];omega,by rw[qz,qr]⟩,by omega,by omega⟩
theorem mK{d:Nat}(h:d<10):eO (bJ (d:Int))=(d:Int):=by unfold eO;rw[aaz (eF h)];exact FF h
theorem pF{k n:Nat}{rows:Om.Rows}(ok:Om.aq k n rows):cV (iz (eB k n rows))=aR k n rows:=by
 have k3:=ok.k3;have n6:=ok.n6;have s8:=ok.s8;have p1:1<=2 ^ k:=Nat.one_le_two_pow;have e:iz (eB k n rows)=bJ (k:Int)::bJ (n:Int)::rows.map bK:=(m9 ok).1;rw[e];unfold cV aR;simp only[adu,List.take_zero,List.drop_succ_cons,acb,aaR,acq,adf,acX];rw[mK (show k<10 by omega),mK (show n<10 by omega),aaC];congr 4;refine aaX PyData.list ?_;apply aaW;intro st cF;have hl:=ok.len st cF;have hr:∀r∈st,r.2<10:=λr hr=>by have:=(ok.row st cF r hr).2;omega
 show stateT (bK st)=cX st;unfold stateT cX;rw[show sM (bK st)=st.map dU from ku hr (λz=>by rw[z]at hl;simp at hl;omega),aaC];congr 1;apply aaW;intro r Oz;show vN (dU r)=nY r;unfold vN nY;rw[show yf (dU r)=[bs r.1,bJ (r.2:Int)]from Aq (hr r Oz)];show PyData.tuple ([PyData.str (bs r.1)]++[PyData.int (eO (bJ (r.2:Int)))])=_;rw[mK (hr r Oz)];rfl
structure Nm(z:Str):Prop where
 l:z.length<=8
 s:32 ∉ z.cps.toList
 k:cf z=true
theorem uz:∀z∈names8,Nm z:=by
 have h:(names8.all λz=>decide (z.length<=8)&&decide (32 ∉ z.cps.toList)&&cf z)=true:=by decide +kernel
 intro z hz;have:=aaZ.mp h z hz;rw[aaJ,aaJ,aaH,aaH]at this;exact⟨this.1.1,this.1.2,this.2⟩
theorem oY{v nm x:Str}(hv:32 ∉ v.cps.toList)(h:Nm nm):v++(" " : Str)++nm++(" " : Str)++x=cp (v.cps.toList++32::(nm.cps.toList++32::x.cps.toList)):=by
 have e2:(" " : Str)=cp [32]:=by decide +kernel
 rw[e2,d0 v,d0 nm,d0 x,lE,lE,lE,lE,aY,aY,aY];congr 1;simp
theorem FP{nm x:Str}(h:Nm nm):aV (("code " : Str)++nm++(" " : Str)++x)=[("code" : Str),nm,x]/\bS [("code" : Str),nm,x]=true:=by
 have e1:("code " : Str)=("code" : Str)++(" " : Str):=by decide +kernel
 have hc:32 ∉ ("code" : Str).cps.toList:=by decide +kernel
 rw[e1,oY hc h];refine⟨?_,?_⟩
 ·have hs:=split_head (C:=nm.cps.toList++32::x.cps.toList) hc;rw[<-d0 ("code" : Str)]at hs;have h2:=xr (C:=x.cps.toList) hc h.s;rw[<-d0 ("code" : Str),<-d0 x,<-d0 nm]at h2;unfold aV iz;rw[hs];exact(aaz rfl).trans h2
 ·show(cf nm&&dF ("code" : Str) x)=true;rw[h.k];exact(aa4 _).trans rfl
theorem Jg(bb:List Bool):32 ∉ (aM (bs bb)).cps.toList:=by
 cases bb with
 | nil=>decide +kernel
 | cons b r=>
  rw[cS,xa,aY];intro z;obtain⟨x,_,e⟩:=aan.mp z;cases x<;>exact absurd e (by decide)
theorem FL{v:Str}(hv:v=("send" : Str)\/v=("read" : Str))(bb:List Bool):dF v (aM (bs bb))=true:=by
 have a:∀{v:Str},v≠("code" : Str)->v≠("marks" : Str)->v∈(["send","read"]:List Str)->dF v (aM (bs bb))=true:=by
  intro v h1 h2 h3;unfold dF;rw[aar h1,aar h2,aaI h3,aa4,acA];cases bb with
  | nil=>exact .inl (by decide +kernel)
  | cons b r=>
   right;rw[cS];unfold iO;have ne:bs (b::r)≠("" : Str):=λe=>by have:=aaX Str.length e;rw[bg]at this;rw[show(("" : Str)).length=0 by decide +kernel]at this;cases this
   rw[aaT ne,Bool.not_false,aa4];unfold Om.jq;simp only[aaJ,aaH];exact⟨trivial,by rw[qz,qr]⟩
 rcases hv with rfl|rfl
 ·exact a (by decide +kernel) (by decide +kernel) (by decide +kernel)
 ·exact a (by decide +kernel) (by decide +kernel) (by decide +kernel)
theorem mf{v nm:Str}(hv:v=("send" : Str)\/v=("read" : Str))(h:Nm nm)(bb:List Bool):aV (v++(" " : Str)++nm++(" " : Str)++aM (bs bb))=[v,nm,aM (bs bb)]/\bS [v,nm,aM (bs bb)]=true:=by
 have hc:32 ∉ v.cps.toList:=by rcases hv with rfl|rfl<;>decide +kernel
 have nc:v≠("code" : Str):=by rcases hv with rfl|rfl<;>decide +kernel
 rw[oY hc h];have hs:=Hm hc h.s (Jg bb);rw[<-d0 v,<-d0 nm,<-d0 (aM (bs bb))]at hs;refine⟨?_,?_⟩
 ·unfold aV iz;rw[hs];exact aar (λz=>nc (aaw z))
 ·show(cf nm&&dF v (aM (bs bb)))=true;rw[h.k,FL hv,Bool.and_self]
mutual
def yg:PyData->Bool
 | .list xs=>eC xs
 | .tuple xs=>eC xs
 | .dict _=>false
 | _=>true
def eC:List PyData->Bool
 | []=>true
 | d::ds=>yg d&&eC ds
end
mutual
theorem jy{H:Hp}{c:Addr}{o:HO}{ag:List (Key×V)}(hc:H c=some (.dK ag)):∀{v:V}{d:PyData},DV H v d->yg d=true->DV (upd H c o) v d
 | _,_,.bj,_=>.bj
 | _,_,.bl _,_=>.bl _
 | _,_,.int _,_=>.int _
 | _,_,.str _,_=>.str _
 | _,_,.lst h hs,n=>.lst (by rw[af (λz=>by rw[z,hc]at h;cases h)];exact h) (rO hc hs (by rw[yg]at n;exact n))
 | _,_,.tup h hs,n=>.tup (by rw[af (λz=>by rw[z,hc]at h;cases h)];exact h) (rO hc hs (by rw[yg]at n;exact n))
 | _,_,.BU _,n=>by rw[yg]at n;cases n
theorem rO{H:Hp}{c:Addr}{o:HO}{ag:List (Key×V)}(hc:H c=some (.dK ag)):∀{vs:List V}{ds:List PyData},bO H vs ds->eC ds=true->bO (upd H c o) vs ds
 | _,_,.nil,_=>.nil
 | _,_,.cons h hs,n=>by rw[eC,aaJ]at n;exact .cons (jy hc h n.1) (rO hc hs n.2)
end
theorem wV{α:Type}(f:α->PyData)(hf:∀x,yg (f x)=true):∀l:List α,eC (l.map f)=true
 | []=>by rw[acq,eC]
 | x::l=>by rw[aaR,eC,hf,wV f hf l];rfl
theorem iR(k n:Nat)(rows:Om.Rows):yg (aR k n rows)=true:=by
 have hr:∀r,yg (nY r)=true:=λr=>by unfold nY;simp[yg,eC]
 have hs:∀st,yg (cX st)=true:=λst=>by unfold cX;rw[yg];exact wV _ hr st
 unfold aR;rw[yg,eC,eC,eC,eC,yg,wV _ hs rows];simp[yg]
section
variable{A AW:Sp}{C CR CN CT d c:Addr}{ag:List (Key×V)}{H:Hp}{Q:VK}{E:XK}{z v nm x:Str}
theorem Es(dk:bV C H d c ag)(GQ:ag.length<=100)(hz:z.length<=900)(hw:aV z=[("code" : Str),nm,x])(hg:bS [("code" : Str),nm,x]=true)(ho:Om.codeOk (cV (iz x))=true)(q:∀cv H',ah H H'->DV H' cv (cV (iz x))->Q (.str ("ok" : Str)) (upd H' c (.dK (putK ag (.inr nm) cv)))):dq A AW C CR CN CT [.ref d,.str z] H Q E:=by
 refine⟨hz,⟨_,c,dk.1.choose_spec⟩,λe=>?_,λ_=>⟨c,ag,dk,GQ,?_⟩⟩
 ·rw[hw,hg]at e;cases e
 ·rw[hw];exact⟨λ_=>⟨λe=>(by rw[ho]at e;cases e),λ_ cv H' s dv=>q cv H' s dv⟩,λn=>absurd rfl n⟩
theorem mr{cv:V}(dk:bV C H d c ag)(GQ:ag.length<=100)(hz:z.length<=900)(hw:aV z=[v,nm,x])(hv:v≠("code" : Str))(hg:bS [v,nm,x]=true)(hk:aG ag (.inr nm)=some cv)(q:∀H',ah H H'->AW [cv,.str v,.str x] H' Q E):dq A AW C CR CN CT [.ref d,.str z] H Q E:=by
 refine⟨hz,⟨_,c,dk.1.choose_spec⟩,λe=>?_,λ_=>⟨c,ag,dk,GQ,?_⟩⟩
 ·rw[hw,hg]at e;cases e
 ·rw[hw];refine⟨λe=>absurd e hv,λ_=>⟨λe=>(by rw[hk]at e;cases e),λcv' e=>?_⟩⟩;rw[hk]at e;cases e;exact q
theorem L7{k n:Nat}{rows:Om.Rows}{cv:V}{bb:List Bool}{cs:List (List Int)}{ls:List Nat}(hc:DV H cv (aR k n rows))(ok:Om.aq k n rows)(hz:z=aM (bs bb))(b3:bb.length<=300)(hb:cs.flatten=bb.map (λb=>if b=true then(1:Int)else 0))(hk:∀c∈cs,c.length=k)(hl:cs.map Om.bq=ni ls)(nV:∀l∈ls,l<2 ^ k)(l1:ls.length<=100)(q:∀H',ah H H'->Q (.str (aM (bs (Om.send rows 0 ls).1))) H'):fY [cv,.str ("send" : Str),.str z] H Q E:=⟨k,n,rows,bb,cs,ls,rfl,hc,ok,hz,b3,hb,hk,hl,nV,l1,q⟩
end
section
abbrev Cw:Stmt:=top 113
def hJ(C:Addr)(sp:Sp):Sp:=λvs H Q _=>match vs with
 | [.ref d,.str z,.str XX]=>∃dx fs,H d=some (.ins C dx fs)/\fs.lookup ("say" : Str)=none/\sp [.ref d,.str z] H (λv H'=>∃y:Str,v = .str y/\Q (.bl (decide (y=XX))) H') E0
 | _=>False
theorem Dl:ao ["desk","row","due","found"] ["desk","row","due"] (ae Cw):=⟨rfl,rfl,rfl,by decide +kernel,rfl,by decide +kernel,by decide +kernel⟩
local macro_rules|`(tactic|walk_at"i")=>`(tactic|first|((with_reducible refine' NQ "say" ?c0 ?c8 ?c9 ?c1 ?c3 ?c2);(case c0=>walk_at"F");(case c8=>walk_at"F");(case c9=>exact⟨rfl,rfl,rfl,rfl,rfl⟩);(case c1=>exact av.mono (by assumption) (by first|decide|exact aae _));(case c3=>walk_at"a");(case c2=>walk_at"b"))|((with_reducible refine' j7 ?a0 ?a9 ?a1);(case a0=>walk_at"F");(case a9=>rfl);(case a1=>walk_at"b"))|fail "no")
theorem Ii{C:Addr}{sp:Sp}(D:bX K mg "_law_said" Cw ["desk","row","due"])(Uw:cJ sp)(g1:mg "isinstance" = none)(g2:mg "str" = none)(hC:pR K C)(c1:tE P w K mg base C "say" 9 ["self","row"] sp):aJ P w K mg base "_law_said" 10 ["desk","row","due"] (hJ C sp):=by
 refine ar (k:=9) D Dl (λvs H Q E h=>?_) (λf aA A outer s H vs Q E hr h=>?_)
 all_goals
  unfold hJ at h;split at h
 ·rfl
 ·exact h.elim
 ·rename_i d z XX;have nd:=Dl.nd;refine⟨_,(by walk_at"c"),?_⟩;obtain⟨dx,fs,hd,hl,h⟩:=h;refine⟨d,dx,fs,rfl,hd,hl,Uw (λv H' q=>?_) (λc dd H' q=>q) h⟩;obtain⟨y,rfl,q⟩:=q;exact⟨"str",rfl,by decide,fN (by decide +kernel) q⟩
 ·exact h.elim
end
def Ql:Key->Str
 | .inr s=>s
 | .inl _=>""
theorem jT(i:Key)(x:V)(ag:List (Key×V)):(putK ag i x).map (·.1)=if((ag.map (·.1)).any λk=>decide (k=i))=true then ag.map (·.1)else ag.map (·.1)++[i]:=by
 have e:((ag.map (·.1)).any λk=>decide (k=i))=ag.any λkv=>decide (kv.1=i):=by rw[List.any_map];rfl
 rw[e];unfold putK;by_cases h:(ag.any λkv=>decide (kv.1=i))=true
 ·rw[aaz h,aaz h,aaC];refine aaW λp _=>?_;show(if p.1=i then(p.1,x)else p).1=p.1;split<;>rfl
 ·rw[aar h,aar h,aao];rfl
theorem lA{H H':Hp}{a:Addr}(ha:H a=none)(o:Off (At a) H H'):ah H H':=λb u e=>o b u e (aj e ha)
theorem Cc{P0 a:Addr}{H0 H H':Hp}(s:aw P0 H0 H)(ha:H0 a=none)(o:Off (At a) H H'):aw P0 H0 H':=λb u n e=>o b u (s b u n e) (aj e ha)
theorem Tab.Cd{P0 a:Addr}{pos:Pos}{qual:Str}{H H':Hp}(t:Tab P0 pos qual H)(st:gF H a)(o:Off (At a) H H'):Tab P0 pos qual H':=by
 obtain⟨g,b,c,e⟩:=st;rcases t with h|⟨q,h1,h2⟩
 ·exact .inl (o _ _ h (λz=>by have z:P0=a:=z;rw[z,e]at h;cases h))
 ·exact .inr ⟨q,o _ _ h1 (λz=>by have z:P0=a:=z;rw[z,e]at h1;cases h1),o _ _ h2 (λz=>by have z:q=a:=z;rw[z,e]at h2;cases h2)⟩
def lV(kd kw:List (Key×V)):Prop:=kd.map (·.1)=kw.map (·.1)/\kd.length<=30/\∀k∈kd.map (·.1),∃z,k = .inr z/\z∈names8
def cy(H:Hp)(kd kw:List (Key×V)):Prop:=∀j,(aG kw j=none/\aG kd j=none)\/∃(k n:Nat)(rows:Om.Rows)(cw cv:V),Om.aq k n rows/\aG kw j=some cw/\aG kd j=some cv/\DV H cw (aR k n rows)/\DV H cv (aR k n rows)
structure jn(C:Addr)(H:Hp)(d c w:Addr)(kd kw:List (Key×V)):Prop where
 dk:bV C H d c kd
 hw:H w=some (.dK kw)
 ks:lV kd kw
 vs:cy H kd kw
theorem bV.du{C d c P0:Addr}{pos:Pos}{qual:Str}{H H':Hp}{ag:List (Key×V)}(h:bV C H d c ag)(t:Tab P0 pos qual H)(s:aw P0 H H'):bV C H' d c ag:=by obtain⟨ps,e'⟩:=t.eL;obtain⟨⟨dx,e⟩,hc⟩:=h;exact⟨⟨dx,s _ _ (λz=>by rw[z,e']at e;cases e) e⟩,s _ _ (λz=>by rw[z,e']at hc;cases hc) hc⟩
theorem cy.du{P0:Addr}{pos:Pos}{qual:Str}{H H':Hp}{kd kw:List (Key×V)}(h:cy H kd kw)(t:Tab P0 pos qual H)(s:aw P0 H H'):cy H' kd kw:=λj=>(h j).imp id λ⟨k,n,rows,cw,cv,ok,a,b,x,y⟩=>⟨k,n,rows,cw,cv,ok,a,b,x.dC t s,y.dC t s⟩
theorem jn.du{C d c w P0:Addr}{pos:Pos}{qual:Str}{H H':Hp}{kd kw:List (Key×V)}(h:jn C H d c w kd kw)(t:Tab P0 pos qual H)(s:aw P0 H H'):jn C H' d c w kd kw:=by obtain⟨ps,e'⟩:=t.eL;exact⟨h.dk.du t s,s _ _ (λz=>by have:=h.hw;rw[z,e']at this;cases this) h.hw,h.ks,h.vs.du t s⟩
theorem lV.names{kd kw:List (Key×V)}(h:lV kd kw):∃zs:List Str,kd.map (λp=>kV p.1)=zs.map V.str/\kw.map (λp=>kV p.1)=zs.map V.str/\zs.length=kw.length/\zs.length<=30/\(∀z∈zs,z∈names8)/\∀z∈zs,(aG kw (.inr z)).isSome=true:=by
 obtain⟨h1,h2,h3⟩:=h;have hl:kw.length=kd.length:=by have:=aaX List.length h1;rw[aaa,aaa]at this;exact this.symm
 have g:∀ks:List Key,(∀k∈ks,∃z,k = .inr z/\z∈names8)->ks.map kV=(ks.map Ql).map V.str:=λks hk=>by rw[aaC];refine aaW λk hm=>?_;obtain⟨z,rfl,_⟩:=hk k hm;rfl
 refine⟨(kd.map (·.1)).map Ql,?_,?_,by rw[aaa,aaa,hl],by rw[aaa,aaa];exact h2,λz hz=>?_,λz hz=>?_⟩
 ·rw[<-g _ h3,aaC];rfl
 ·rw[<-g _ h3,h1,aaC];rfl
 ·obtain⟨k,hm,rfl⟩:=aan.mp hz;obtain⟨y,rfl,sm⟩:=h3 k hm;exact sm
 ·obtain⟨k,hm,rfl⟩:=aan.mp hz;obtain⟨y,rfl,_⟩:=h3 k hm;rw[h1]at hm;obtain⟨p,hp,e⟩:=aan.mp hm;rw[<-eE,List.any_eq_true];exact⟨p,hp,aaI e⟩
theorem Rn{P0 a:Addr}{pos:Pos}{qual:Str}{H0 H:Hp}(t:Tab P0 pos qual H0)(s:aw P0 H0 H)(ha:H0 a=none):∃G:Hp,Kp H0 G/\ah G H/\G a=none:=by
 obtain⟨ps,e'⟩:=t.eL;refine⟨λb=>if b=P0 then none else H0 b,λb u n e=>?_,λb u e=>?_,?_⟩
 ·have ne:b≠P0:=λz=>by rw[z,e']at e;exact n ps (aaw e).symm
  show(if b=P0 then none else H0 b)=_;rw[aar ne];exact e
 ·have e:(if b=P0 then none else H0 b)=some u:=e;split at e
  ·cases e
  ·rename_i ne;exact s _ _ ne e
 ·show(if a=P0 then none else H0 a)=none;split
  ·rfl
  ·exact ha
theorem Fq{G:List Nat->Prop}{t c c':List Nat}(ht:G t)(h:Om.OR G c)(h':Om.OR G c'):c=c':=by have l:c.length=c'.length:=Nat.le_antisymm (h'.2 c h.1) (h.2 c' h'.1);exact(List.prefix_of_prefix_length_le (h.1 t ht) (h'.1 t ht) (ac4 l)).eq_of_length l
theorem F4(k:Nat)(c:List Nat):((ni c).map (Om.bN k)).flatten=(bo k c).map λb=>if b=true then(1:Int)else 0:=by
 have h:=zE k c;have e:((bo k c).map λb=>V.int (if b=true then 1 else 0))=((bo k c).map λb=>if b=true then(1:Int)else 0).map V.int:=by rw[aaC];rfl
 rw[e]at h;exact(List.map_inj_right (λa b z=>V.int.inj z)).mp h
theorem u9{k:Nat}(k1:1<=k)(k3:k<=3){ls:List Nat}(h:∀l∈ls,l<2 ^ k):((ni ls).map (Om.bN k)).map Om.bq=ni ls:=by
 have f:∀l:Nat,l<2 ^ k->Om.bq (Om.bN k (l:Int))=l:=by
  have:k=1\/k=2\/k=3:=by omega
  rcases this with rfl|rfl|rfl
  ·have:∀l:Fin 2,Om.bq (Om.bN 1 ((l.1:Nat):Int))=(l.1:Nat):=by decide
   exact λl hl=>this ⟨l,hl⟩
  ·have:∀l:Fin 4,Om.bq (Om.bN 2 ((l.1:Nat):Int))=(l.1:Nat):=by decide
   exact λl hl=>this ⟨l,hl⟩
  ·have:∀l:Fin 8,Om.bq (Om.bN 3 ((l.1:Nat):Int))=(l.1:Nat):=by decide
   exact λl hl=>this ⟨l,hl⟩
 unfold ni;rw[aaC,aaC];apply aaW;intro l hl;exact f l (h l hl)
theorem fO(bb:List Bool):(aM (bs bb)).length<=bb.length+1:=by
 cases bb with
 | nil=>decide +kernel
 | cons b r=>rw[cS,bg];omega
section
variable{P0 C0 CW C CR CN CT:Addr}{H0 H:Hp}{d c w0:Addr}{kd kw:List (Key×V)}{nm:Str}{k n:Nat}{rows:Om.Rows}{cv:V}{Q:VK}{E:XK}
theorem lh{v nm x:Str}(hv:v.length<=4)(n8:Nm nm):(v++(" " : Str)++nm++(" " : Str)++x).length<=14+x.length:=by
 have h1:(" " : Str).length=1:=by decide +kernel
 have h8:=n8.l;rw[aa3,aa3,aa3,aa3];omega
theorem oX{ls:List Nat}(iv:jn C H0 d c w0 kd kw)(t0:Tab P0 (aC aP) fi H0)(S:aw P0 H0 H)(t:Tab P0 (aC aP) fi H)(n8:Nm nm)(ok:Om.aq k n rows)(vd:aG kd (.inr nm)=some cv)(dd:DV H0 cv (aR k n rows))(pT:ls.length<=100)(nV:∀l∈ls,l<2 ^ k)(q:∀H',aw P0 H0 H'->Tab P0 (aC aP) fi H'->Q (.bl true) H'):hJ C (dq nX (lM P0 C0 CW) C CR CN CT) [.ref d,.str (("send" : Str)++(" " : Str)++nm++(" " : Str)++aM (bs (bo k ls))),.str (aM (bs (Om.send rows 0 ls).1))] H Q E:=by
 have i1:=jn.du iv t0 S;obtain⟨⟨dx,hd⟩,hc⟩:=id i1.dk;have Xm:=i1.ks.2.1;obtain⟨hw,hg⟩:=mf (.inl rfl) n8 (bo k ls);have bl:=gC ok.k3 ls;have dl:=fO (bo k ls);have rl:=lh (v:= "send") (x:=aM (bs (bo k ls))) (by decide +kernel) n8;refine⟨dx,_,hd,by rfl,?_⟩;refine mr (cv:=cv) (v:= "send") (nm:=nm) (x:=aM (bs (bo k ls))) i1.dk (by omega) (by omega) hw (by decide +kernel) hg vd λH8 s8=>.inl ?_;refine L7 (bb:=bo k ls) (cs:=(ni ls).map (Om.bN k)) (ls:=ls) (dd.dC t0 (S.trans s8.t)) ok rfl (by omega) (F4 k ls) (λc hc=>?_) (u9 ok.k1 ok.k3 nV) nV pT λH9 s9=>⟨_,rfl,?_⟩
 ·obtain⟨x,_,rfl⟩:=aan.mp hc;unfold Om.bN;rw[aaa,aaK]
 ·rw[aaI rfl];exact q _ (S.trans (s8.trans s9).t) (t.mono (s8.trans s9))
theorem Ay{wire:List Bool}{e:List Nat}{qs:List Nat}(iv:jn C H0 d c w0 kd kw)(t0:Tab P0 (aC aP) fi H0)(S:aw P0 H0 H)(t:Tab P0 (aC aP) fi H)(n8:Nm nm)(ok:Om.aq k n rows)(vd:aG kd (.inr nm)=some cv)(dd:DV H0 cv (aR k n rows))(w1:wire.length<=800)(n1:kQ n wire<=100)(rc:gH rows qs)(nb:¬kr rows qs)(hu:∀i,i<=kQ n wire->∃t,Om.GT rows k n wire i t)(le:Om.OR (Om.GT rows k n wire (kQ n wire)) e)(q:∀H',aw P0 H0 H'->Tab P0 (aC aP) fi H'->Q (.bl true) H'):hJ C (dq nX (lM P0 C0 CW) C CR CN CT) [.ref d,.str (("read" : Str)++(" " : Str)++nm++(" " : Str)++aM (bs wire)),.str (aM (bs (bo k e)))] H Q E:=by
 have i1:=jn.du iv t0 S;obtain⟨⟨dx,hd⟩,hc⟩:=id i1.dk;have Xm:=i1.ks.2.1;obtain⟨hw,hg⟩:=mf (.inr rfl) n8 wire;have dl:=fO wire;have rl:=lh (v:= "read") (x:=aM (bs wire)) (by decide +kernel) n8;refine⟨dx,_,hd,by rfl,?_⟩;refine mr (cv:=cv) (v:= "read") (nm:=nm) (x:=aM (bs wire)) i1.dk (by omega) (by omega) hw (by decide +kernel) hg vd λH8 s8=>.inr ?_;refine⟨k,n,rows,wire,rfl,dd.dC t0 (S.trans s8.t),ok,t.mono s8,rfl,by omega,n1,λnU H9 _ _ Gm bk=>?_,λnU Gm Ua=>⟨λi d' H9 hi _ no _ _ _=>?_,λc' H9 s9 t9 lc _ _=>⟨_,rfl,?_⟩⟩⟩
 ·have:=Gm.uniq rc;subst this;exact nb bk
 ·obtain⟨t',lJ⟩:=hu (i+1) hi;exact no t' lJ
 ·obtain⟨t',lJ⟩:=hu _ (aae _);rw[Fq lJ le lc,aaI rfl];exact q _ ((S.trans s8.t).trans s9) t9
theorem AD{mg:Str->Option Value}{K:W.Frag}{B:Addr}{wire:List Bool}{qs:List Nat}(iv:jn C H0 d c w0 kd kw)(t0:Tab P0 (aC aP) fi H0)(S:aw P0 H0 H)(t:Tab P0 (aC aP) fi H)(n8:Nm nm)(ok:Om.aq k n rows)(vd:aG kd (.inr nm)=some cv)(dd:DV H0 cv (aR k n rows))(w1:wire.length<=800)(n1:kQ n wire<=100)(rc:gH rows qs)(bk:kr rows qs)(K0:f6 K mg C0 1)(x0:W.exmOne K (.ref C0) (.ref B)=some true)(q:∀H',aw P0 H0 H'->Tab P0 (aC aP) fi H'->Q (.str ("code" : Str)) H'):pZ K mg B C (dq nX (lM P0 C0 CW) C CR CN CT) [.ref d,.str (("read" : Str)++(" " : Str)++nm++(" " : Str)++aM (bs wire))] H Q E:=by
 have i1:=jn.du iv t0 S;obtain⟨⟨dx,hd⟩,hc⟩:=id i1.dk;have Xm:=i1.ks.2.1;obtain⟨hw,hg⟩:=mf (.inr rfl) n8 wire;have dl:=fO wire;have rl:=lh (v:= "read") (x:=aM (bs wire)) (by decide +kernel) n8;refine⟨dx,_,hd,by rfl,?_⟩;refine mr (cv:=cv) (v:= "read") (nm:=nm) (x:=aM (bs wire)) i1.dk (by omega) (by omega) hw (by decide +kernel) hg vd λH8 s8=>.inr ?_;refine⟨k,n,rows,wire,rfl,dd.dC t0 (S.trans s8.t),ok,t.mono s8,rfl,by omega,n1,λnU H9 s9 t9 _ _=>?_,λnU Gm Ua=>?_⟩
 ·exact⟨C0,1,rfl,rfl,K0,by decide,x0,λvH KP=>q _ (((S.trans s8.t).trans s9).trans KP.t) (t9.mono KP)⟩
 ·have:=Gm.uniq rc;subst this;exact absurd bk Ua
end
section
abbrev wL:Stmt:=top 118
def qU(P0 C:Addr):Sp:=λvs H Q _=>match vs with
 | [.ref a,.ref d,.ref w0]=>∃(H0:Hp)(c:Addr)(kd kw:List (Key×V)),jn C H0 d c w0 kd kw/\kd≠[]/\Tab P0 (aC aP) fi H0/\H0 a=none/\Off (At a) H0 H/\gF H a/\∀H',aw P0 H0 H'->Tab P0 (aC aP) fi H'->Q (.bl true) H'
 | _=>False
theorem y9:ao ["store","desk","codes","some","name","code","place","text","wire","last","row"] ["store","desk","codes"] (ae wL):=⟨rfl,rfl,rfl,by decide +kernel,rfl,by decide +kernel,by decide +kernel⟩
local macro_rules|`(tactic|walk_at"i")=>`(tactic|first|((with_reducible refine' FD ?a0 ?a9 ?a1);(case a0=>walk_at"F");(case a9=>rfl);(case a1=>walk_at"b"))|((with_reducible refine' FE "read" ?a0 ?a9 ?a1 ?a2);(case a0=>walk_at"F");(case a9=>exact⟨rfl,rfl,rfl,rfl,rfl⟩);(case a1=>exact av.mono (by assumption) (by first|decide|exact aae _));(case a2=>walk_at"b"))|fail "no")
local macro_rules|`(tactic|walk_at"a")=>`(tactic|((with_reducible refine' ma ?a0 ?a1 ?a2);(case a0=>exact av.units (by assumption));(case a1=>walk_at"a");(case a2=>walk_at"a")))
theorem E5{P0 C0 CW C CR CN CT B:Addr}(D:bX K mg "_law_asked" wL ["store","desk","codes"])(g1:mg "list" = none)(g2:mg "len" = none)(g3:mg "max" = none)(c1:aJ P w K mg base "_law_take" 1 ["store","many"] fB)(c2:aJ P w K mg base "_law_rows" 2 ["store","code","most"] qG)(c3:aJ P w K mg base "_law_sent" 1 ["code","place","text"] qF)(c4:aJ P w K mg base "_law_dash" 1 ["text"] jr)(c5:aJ P w K mg base "_law_bits_text" 2 ["k","text"] iq)(c6:aJ P w K mg base "_law_said" 10 ["desk","row","due"] (hJ C (dq nX (lM P0 C0 CW) C CR CN CT)))(c7:aJ P w K mg base "_law_refused" 10 ["desk","row"] (pZ K mg B C (dq nX (lM P0 C0 CW) C CR CN CT)))(c8:aJ P w K mg base "late" 6 ["code"] (p9 P0))(c9:iF P w K mg base "read" 7 ["code","wire"] (GB P0 C0 CW))(K0:f6 K mg C0 1)(x0:PySem.W.exmOne K (.ref C0) (.ref B)=some true):aJ P w K mg base "_law_asked" 11 ["store","desk","codes"] (qU P0 C):=by
 refine ar (k:=10) D y9 (λvs H Q E h=>?_) (λf aA A outer s H vs Q E hr h=>?_)
 all_goals
  unfold qU at h;split at h
 ·rfl
 ·exact h.elim
 ·rename_i a d w0;have nd:=y9.nd;refine⟨_,(by walk_at"c"),?_⟩;refine az λak=>?_;obtain⟨H0,c,kd,kw,iv,e9,t0,ha,o0,st,q⟩:=h;obtain⟨zs,zd,zw,zl,Yh,zm,zv⟩:=iv.ks.names;refine ak ?_;clear ak;have zne:0<zs.length:=by have e1:=aaX List.length zd;rw[aaa,aaa]at e1;have:=adx.mpr e9;omega
  have sH:=lA ha o0;have iH:=iv.du t0 sH.t;have tH:=t0.mono sH;refine .inl ⟨w0,kw,rfl,.inl iH.hw,λL hL=>?_⟩;rw[zw];have s1:=ah.upd (o:=.lst (zs.map V.str)) hL;have kL:upd H L (.lst (zs.map V.str)) L=some (.lst (zs.map V.str)):=aa;have BP:=st.same s1;have t1:=tH.mono s1;have S1:aw P0 H0 _:=(sH.trans s1).t;have Xg:L≠a:=st.ne hL;generalize upd H L (.lst (zs.map V.str))=H1 at kL BP t1 S1 ⊢;dsimp only[aQ];refine⟨_,dW kL,?_⟩;rw[aaa];refine⟨BP,by omega,by omega,λr H2 r0 rl nF o2=>?_⟩;have S2:=Cc S1 ha o2;have t2:=Tab.Cd t1 BP o2;have Xl:=o2 _ _ kL Xg;have hr:r.toNat<zs.length:=by omega
  refine .inl ⟨.str zs[r.toNat],gl Xl r0 (by rw[aak,aab hr];rfl),?_⟩;have Xc:=zm _ (aat hr);have TR:=zv _ (aat hr);generalize zs[r.toNat]=nm at Xc TR ⊢;have n8:=uz nm Xc;clear kL hL BP t1 S1 o2 Xl Xg hr r0 rl sH iH tH s1;rcases iv.vs (.inr nm)with⟨z1,_⟩|⟨k,n,rows,cw,cv,ok,vw,vd,dw,dd⟩
  ·rw[z1]at TR;cases TR
  obtain⟨ca,cb,ss,rfl,zJ,XD,sW⟩:=bH dw;have X1:ca≠P0:=λz=>by obtain⟨ps,e⟩:=t0.eL;rw[z,e]at zJ;cases zJ
  have i2:=iv.du t0 S2;refine .inr ⟨w0,.ref ca,rfl,by rw[<-vw];exact gJ.k (k:=.inr nm) i2.hw,?_⟩;obtain⟨G,kG,sG,gA⟩:=Rn t0 S2 ha;refine⟨k,n,rows,G,DV.kp kG dw,ok,⟨sG,gA,nF,λ_ _ e _=>e⟩,by decide,by decide,λp t pl ls H3 g3 hpl l50 nV hp ht TU=>?_⟩;have S3:=Cc S2 ha g3.o;have t3:=Tab.Cd t2 nF g3.o;have BD:=g3.st;clear kG sG gA g3 nF t2 S2 i2;refine⟨_,.inl hp,rfl,rfl,?_⟩;dsimp only[aQ];refine lY (λaX H'=>∃(t':Addr)(vq:List Nat),aX=[some (.ref a),some (.ref d),some (.ref w0),some (.ref L),some (.str nm),some (.ref ca),some (.int (pl:Nat)),some (.ref t'),none,none,none]/\H' t'=some (.lst ((ni vq).map V.int))/\vq.length<=100/\(∀l∈vq,l<2 ^ k)/\t'≠a/\aw P0 H0 H'/\Tab P0 (aC aP) fi H'/\gF H' a) ?_ (λnx fin=>?_)
  rotate_left
  ·refine⟨aaO _,λe he=>?_⟩;have u4:=ah.upd (o:=.lst []) he;refine⟨.list ((ni ls).map PyData.int),.list [],.lst (u4 _ _ ht) (mQ _),.lst aa .nil,dQ _,dQ [],?_⟩;have S4:=S3.trans u4.t;have t4:=t3.mono u4;have lI:=BD.same u4;have KW:=u4 _ _ ht;generalize upd H3 e (.lst [])=H4 at S4 t4 lI KW ⊢;cases ls with
   | nil=>
    refine fZ (by rw[rM];decide) ?_;exact fin _ _ ⟨t,[],rfl,KW,by decide,λl hl=>by(cases hl),TU,S4,t4,lI⟩
   | cons x0 ls=>
    refine fN (by rw[rM];rfl) ?_;refine⟨lI,by decide,by decide,λr5 H5 r50 r58 vj o5=>?_⟩;have S5:=Cc S4 ha o5;have t5:=Tab.Cd t4 lI o5;have Pl:=o5 _ _ KW TU;refine aO (λ_=>?_) (λ_=>?_)
    rotate_left
    ·exact fin _ _ ⟨t,x0::ls,rfl,Pl,by omega,nV,TU,S5,t5,vj⟩
    ·have ln:((ni (x0::ls)).map V.int).length=(x0::ls).length:=by rw[aaa];unfold ni;rw[aaa]
     refine⟨_,dW Pl,?_⟩;rw[ln];have lp:0<(x0::ls).length:=Nat.succ_pos _;generalize hN:(x0::ls).length=N at *
     refine⟨⟨by omega,by omega⟩,?_⟩;have mN:N*((100:Int) / (N:Nat)).toNat<=100:=by
      rw[show((100:Int) / (N:Nat)).toNat=100 / N by rw[show(100:Int) / (N:Nat)=((100 / N:Nat):Int)by push_cast;rfl];exact abh _]
      exact Nat.mul_div_le 100 N
     have m0:0<=(100:Int) / (N:Nat):=acY (by decide) (by omega);have m1:(100:Int) / (N:Nat)<=100:=Int.ediv_le_self _ (by decide);refine⟨_,Pl,by omega,by omega,by rw[ln];exact ai (by omega),λn hn=>?_⟩;generalize((100:Int) / (N:Nat)).toNat=m at mN ⊢;have rep:(List.replicate m ((ni (x0::ls)).map V.int)).flatten=(ni (List.replicate m (x0::ls)).flatten).map V.int:=by unfold ni;rw[adh,adh,adH,adH]
     rw[rep];have u6:=ah.upd (o:=.lst ((ni (List.replicate m (x0::ls)).flatten).map V.int)) hn;refine fin _ _ ⟨n,_,rfl,aa,?_,λl hl=>?_,vj.ne hn,S5.trans u6.t,t5.mono u6,vj.same u6⟩
     ·rw[acU,adH,List.sum_replicate_nat,hN,adz];omega
     ·obtain⟨x,hx,hl⟩:=List.mem_flatten.mp hl;rw[(List.mem_replicate.mp hx).2]at hl;exact nV l hl
  intro aX H4 bP;refine az λak=>?_;obtain⟨t',vq,rfl,KW,pT,zW,V2,S4,t4,lI⟩:=bP;refine ak ?_;clear ak;refine⟨k,n,rows,0,vq,dw.dC t0 S4,ok,rfl,ok.s1,KW,by omega,zW,λp5 H5 s5 KY=>?_⟩;refine⟨_,.inl KY,rfl,rfl,?_⟩;have S5:=S4.trans s5.t;have t5:=t4.mono s5;have vj:=lI.same s5;have Pl:=s5 _ _ KW;dsimp only[aQ];have W6:((Om.send rows 0 vq).1).length<=600:=by rw[(Om.bt ok vq 0 ok.s1 zW).1];exact aaM (ac7 ok.n6 pT) (by decide)
  have ZK:∀(wire:List Bool),wire <+: (Om.send rows 0 vq).1->kQ n wire<=vq.length/\∀i,i<=kQ n wire->∃t,Om.GT rows k n wire i t:=λwire hp=>by
   have h1:=hp.length_le;rw[(Om.bt ok vq 0 ok.s1 zW).1]at h1;have h2:kQ n wire<=vq.length:=by unfold kQ;have n1:=ok.n1;refine Nat.le_of_lt_succ ((Nat.div_lt_iff_lt_mul n1).mpr ?_);rw[aby,adz];omega
   exact⟨h2,λi hi=>⟨_,Om.GT.take ok zW rfl hp (aaM hi h2)⟩⟩
  generalize hW:(Om.send rows 0 vq).1=W at *
  generalize(Om.send rows 0 vq).2=last at *
  refine⟨vj,by decide,by decide,λr6 H6 r60 r62 Sd o6=>?_⟩;have S6:=Cc S5 (a:=a) ha o6;have t6:=Tab.Cd t5 vj o6;have Sn:=o6 _ _ Pl V2;clear S4 t4 lI KW s5 KY;have e1:("send " : Str)++nm=("send" : Str)++(" " : Str)++nm:=by rw[show("send " : Str)=("send" : Str)++(" " : Str)by decide +kernel]
  have e2:("read " : Str)++nm=("read" : Str)++(" " : Str)++nm:=by rw[show("read " : Str)=("read" : Str)++(" " : Str)by decide +kernel]
  have l8:=n8.l;have q5:("send " : Str).length=5:=by decide +kernel
  have q6:("read " : Str).length=5:=by decide +kernel
  have q1:(" " : Str).length=1:=by decide +kernel
  have k1:=ok.k1;refine aO (λ_=>?_) (λ_=>?_)
  ·refine⟨ai (by omega),ai (by rw[aa3];omega),.inl ⟨_,gt (S6 _ _ X1 zJ) (by decide) rfl,?_⟩⟩;refine⟨k,vq,rfl,ok.k3,Sn,pT,λH7 s7=>?_⟩;have bl:=gC ok.k3 vq;have dl:=fO (bo k vq);refine⟨ai (by rw[aa3,aa3];omega),?_⟩;rw[e1];have S7:=S6.trans s7.t;have t7:=t6.mono s7;subst hW;dsimp only[aQ,zM,tG,jm,gO,gY,tV,tC,gX,fk,JO,sT,bu,vO,jr,List.set,abe,aco];refine oX iv t0 S7 t7 n8 ok vd dd pT zW λH8 S8 t8=>?_;refine fN rfl ?_;exact oX iv t0 S8 t8 n8 ok vd dd pT zW λH9 S9 t9=>q _ S9 t9
  ·dsimp only[bu];refine⟨_,ju (by rw[bg];exact ai (by omega)),?_⟩;rw[bg];refine⟨Sd,by decide,by decide,λr7 H7 r70 r77 Sb o7=>?_⟩;have S7:=Cc S6 ha o7;have t7:=Tab.Cd t6 Sd o7;refine⟨by rw[bg];exact ai (by omega),?_⟩;rw[Oa (by split<;>omega)];have pre:=adg (if((W.length:Nat):Int)-r7>0 then((W.length:Nat):Int)-r7 else 0).toNat W;generalize W.take (if((W.length:Nat):Int)-r7>0 then((W.length:Nat):Int)-r7 else 0).toNat=wire at pre ⊢;obtain⟨Pp,hu⟩:=ZK wire pre;have w6:wire.length<=600:=aaM pre.length_le W6;have dl:=fO wire;dsimp only[aQ];refine⟨ai (by omega),ai (by rw[aa3];omega),ai (by rw[aa3,aa3];omega),?_⟩;rw[e2];dsimp only[aQ];refine⟨k,n,rows,dw.dC t0 S7,ok,t7,λqs H8 s8 t8 rc gon bk=>?_,λd9 qs H8 s8 t8 rc gon nb dl d64=>?_⟩
   ·have S8:=S7.trans s8;dsimp only[aQ,zM,tG,jm,gO,gY,tV,tC,gX,fk,JO,sT,bu,vO,jr,List.set,abe,aco];refine fN (by simp) ?_;refine AD iv t0 S8 t8 n8 ok vd dd (by omega) (by omega) rc bk K0 x0 λH9 S9 t9=>?_;exact q _ S9 t9
   ·have S8:=S7.trans s8;dsimp only[aQ,zM,tG,jm,gO,gY,tV,tC,gX,fk,JO,sT,bu,vO,jr,List.set,abe,aco];refine fZ (by simp) ?_;refine .inl ⟨_,gt (S8 _ _ X1 zJ) (by decide) rfl,?_⟩;refine⟨k,n,rows,wire,dw.dC t0 S8,ok,t8,rfl,by omega,λnU H' _ _ Gm bk=>?_,λnU Gm Ua=>⟨λi d' H9 hi _ no _ _ _=>?_,λl e H9 s9 t9 Sv hl lc he hel=>?_⟩⟩
    ·have:=Gm.uniq rc;subst this;exact absurd bk nb
    ·obtain⟨t9,ZM⟩:=hu (i+1) hi;exact absurd ZM (no t9)
    refine⟨k,e,rfl,ok.k3,hl,by omega,λvH KP=>?_⟩;have Vs:=(S8.trans s9).trans KP.t;have Yw:=t9.mono KP;exact Ay iv t0 Vs Yw n8 ok vd dd (by omega) (by omega) rc nb hu lc λLc Vr Yv=>q _ Vr Yv
 ·exact h.elim
end
end K64
namespace L2
open PySem PySem.Spec PyProof.Rows
theorem Bf{prog:Program}{w:World}{A:Around}{E:Value->Shared->Prop}{s:Shared}{a b:Addr}{oa ob:Obj}{es:Array DictEntry}{ep eq:Nat}{Q:Value->Shared->Prop}(ha:(a == sysModules)=false)(hb:(b == sysModules)=false)(ta:s.TypeIs (.ref a) "dict")(tb:s.TypeIs (.ref b) "dict")(Xy:s.heap.get? a=some oa)(SA:oa.data = .dict es ep)(ZZ:s.heap.get? b=some ob)(gE:ob.data = .dict #[] eq)(hu:A.units<cLine)(h:Q (.bool es.isEmpty) s):wpAny (model prog w) A (compareOp .Eq (.ref a) (.ref b)) Q E s:=by
 refine wpAny_richCompare_same_room (op:=.Eq) ta tb PySem.F.slot_dict_eq (acd PySem.F.slot_dict_eq ta PySem.F.entry_dict_eq ?_ (PySem.F.args_dict_eq_2 _ _)) hu;show wpAny _ _ (Builtin.Dict.dictSlotArgs "__eq__" ⟨[.ref a,.ref b],[]⟩ >>= _) _ _ s;refine aac ?_;unfold Builtin.Dict.dictSlotArgs;refine aac (wpAny_notOrdered_dict ta ?_);show wpAny _ _ (pure (Value.ref a,Value.ref b)) _ _ s;refine aaj (aac (wpAny_isInstance (T:= "dict") tb PySem.F.sub_dict_dict ?_));simp only[Bool.not_true,aa9,abX];refine aac (aaj (aac (aaj ?_)));refine aac ?_;unfold Builtin.Dict.samePairs Builtin.Dict.showsAll;rw[aar (λz=>by rw[ha]at z;cases z),aar (λz=>by rw[hb]at z;cases z)];refine aac (aaj (aac (aaj (aac (abG Xy SA ?_)))));dsimp only;refine aac (abG ZZ gE ?_);by_cases z:es.size=0
 ·rw[aar (by simp[z])];refine aac (adq Xy SA ?_);refine aac ?_;rw[Std.Legacy.Range.forIn_eq_forIn_range'];simp only[Std.Legacy.Range.size,Nat.sub_zero,Nat.add_sub_cancel,Nat.div_one,z,List.range'_zero,List.forIn_nil];refine aaj ?_;dsimp only;refine aaj (aaj ⟨_,rfl,(λx=>nomatch x),?_⟩);have e:es.isEmpty=true:=by simpa using z
  rw[e]at h;exact h
 ·rw[aaz (by simpa using z)];refine aac (wpAny_rule (aaj (aaj ⟨_,rfl,(λx=>nomatch x),?_⟩)));have e:es.isEmpty=false:=by simpa using z
  rw[e]at h;exact h
section
variable{X:Cx}
def VX:R2:=λx y H Q=>∃(a:Addr)(ag:List (Key×V))(b:Addr),x = .ref a/\y = .ref b/\Rd H a (.dK ag)/\H b=some (.dK [])/\Q (.bl ag.isEmpty) H
theorem MO(hu:X.A.units+64<cLine):ck X (compareOp .Eq) VX:=by
 intro pins s σ H x y v u Q I rx ry h;refine az λak=>?_;obtain⟨a,ag,b,rfl,rfl,rd,hb,q⟩:=h;refine ak ?_;clear ak;cases rx;cases ry;refine az λak=>?_;obtain⟨z,SA,Yi,Xk,o,es,ep,h1,h2,h3,h4,h5,h6⟩:=fw I.au rd;obtain⟨_,gE,vs,kv,o',OP,SQ,g1,g2,g3,g4,g5,g6⟩:=C4 I.au hb;refine ak ?_;clear ak;have rel:=eG Xk h5;cases kv;have e0:OP = #[]:=by
  have nil:∀(l:List DictEntry),Pairs (bh X.prog X.w) l ([]:List (Key×Value))->l=[]:=λl h=>by cases h;rfl
  have:OP.toList=[]:=nil _ g5;simpa using aaX List.toArray this
 subst e0;have tb:s.TypeIs (.ref b) "dict" := ⟨o',g1,g2.1⟩
 have ta:s.TypeIs (.ref a) "dict" := ⟨o,h1,h2.1⟩
 refine Bf SA gE ta tb h1 h3 g1 g3 (by omega) ⟨.bl es.isEmpty,H,I,rfl,?_⟩;have e:es.isEmpty=ag.isEmpty:=by
  have l1:=rel.length;rw[aaa,aaa,abg]at l1;cases ag with
  | nil=>simpa using l1.symm
  | cons _ _=>
   have:es.size≠0:=λz=>by
    have z2:es.toList.length=0:=by simpa using z
    simp[z2]at l1
   simpa using this
 rw[e];exact q
end
theorem nq:∀(p:Str)(l:List Str),risingS p l=true->(p::l).Pairwise λa b=>a.cps.toList<=b.cps.toList
 | p,[],_=>List.pairwise_singleton _ _
 | p,x::r,h=>by
  unfold risingS at h;rw[aaJ]at h;have ih:=nq x r h.2;have px:p.cps.toList<=x.cps.toList:=by
   have:=h.1;rw[ltCps_eq]at this;have:¬x.cps.toList<p.cps.toList:=by simpa using this
   exact List.not_lt.mp this
  refine abD.mpr ⟨λy hy=>?_,ih⟩;rcases aau.mp hy with rfl|z
  ·exact px
  ·exact List.le_trans px (List.rel_of_pairwise_cons ih z)
theorem mY:∀(l:List Str),sortedS l=true->l.Pairwise λa b=>a.cps.toList<=b.cps.toList
 | [],_=>.nil
 | x::r,h=>nq x r h
theorem Eo{a b:Str}(h:a.cps.toList=b.cps.toList):a=b:=by cases a;cases b;congr;exact Array.toList_inj.mp h
theorem xu{zs xs ys:List Str}(hx:xs.Perm zs)(hy:ys.Perm zs)(sx:sortedS xs=true)(sy:sortedS ys=true):xs=ys:=
 (hx.trans hy.symm).eq_of_pairwise (le:=λa b=>a.cps.toList<=b.cps.toList) (λa b _ _ h1 h2=>Eo (List.le_antisymm h1 h2)) (mY xs sx) (mY ys sy)
theorem Ak{zs:List Str}(h:∀z∈zs,PyData.strOk z=true):PyData.canLay0 (.list (zs.map PyData.str))=true:=by rw[PyData.canLay0];refine rH λd hd=>?_;obtain⟨n,hm,rfl⟩:=aan.mp hd;exact h n hm
theorem jb{zs:List Str}(h:∀z∈zs,PyData.strOk z=true):SeqAt.shaped (.list (zs.map PyData.str))=true:=by
 refine kx (k:=0) (λd hd=>?_) (λd hd=>?_) (by decide)
 ·obtain⟨n,hm,rfl⟩:=aan.mp hd;exact h n hm
 ·obtain⟨n,_,rfl⟩:=aan.mp hd;exact aae _
theorem En{zs:List Str}(h:∀z∈zs,PyData.strOk z=true):PyData.eqv (.list (zs.map PyData.str)) (.list (zs.map PyData.str))=true:=SeqAt.eqv_refl _ (Ak h)
end L2
namespace K64
open PySem L2
variable{P:Program}{w:World}{K:W.Frag}{mg:Str->Option Value}{base:Heap}
theorem bV.off{C:Addr}{H:Hp}{d c b:Addr}{o:HO}{kd ag:List (Key×V)}(h:bV C H d c kd)(hb:H b=some (.dK ag))(bc:b≠c):bV C (upd H b o) d c kd:=
 ⟨let⟨dx,e⟩:=h.1;⟨dx,by rw[af (λz=>by rw[z,hb]at e;cases e)];exact e⟩,by rw[af bc.symm];exact h.2⟩
theorem bV.put{C d c:Addr}{H H':Hp}{ag Cf:List (Key×V)}(h:bV C H d c ag)(s:ah H H'):bV C (upd H' c (.dK Cf)) d c Cf:=by
 obtain⟨⟨dx,e⟩,hc⟩:=h;have dc:d≠c:=λz=>by rw[z,hc]at e;cases e
 exact⟨⟨dx,by rw[af dc];exact s _ _ e⟩,aa⟩
theorem IB{C:Addr}{H:Hp}{d dx c:Addr}(hd:H d=none)(Sy:H dx=none)(hc:(upd (upd H dx (.own d)) d (.ins C dx [])) c=none):ah H (upd (upd (upd (upd H dx (.own d)) d (.ins C dx [])) c (.dK [])) d (.ins C dx [("codes",.ref c)])):=by refine lA hd (λb o e n=>?_);have n:b≠d:=n;rw[af n];refine(ah.upd hc) _ _ ?_;rw[af n];exact ah.upd Sy _ _ e
theorem P8{K:W.Frag}{H:Hp}{sc c:Addr}{xs:List V}{ag:List (Key×V)}{u:HO}(h:aN K H sc xs)(hc:H c=some (.dK ag)):aN K (upd H c u) sc xs:=by
 rcases h with h|h
 ·refine .inl ?_;rcases h with e|⟨x,e⟩
  ·exact .inl (by rw[af (λz=>by rw[z,hc]at e;cases e)];exact e)
  ·exact .inr ⟨x,by rw[af (λz=>by rw[z,hc]at e;cases e)];exact e⟩
 ·exact .inr h
theorem VP{K:W.Frag}{P0:Addr}{pos:Pos}{qual:Str}{H H':Hp}{sc:Addr}{xs:List V}(h:aN K H sc xs)(t:Tab P0 pos qual H)(s:aw P0 H H'):aN K H' sc xs:=by
 obtain⟨ps,e'⟩:=t.eL;rcases h with h|h
 ·refine .inl ?_;rcases h with e|⟨x,e⟩
  ·exact .inl (s _ _ (λz=>by rw[z,e']at e;cases e) e)
  ·exact .inr ⟨x,s _ _ (λz=>by rw[z,e']at e;cases e) e⟩
 ·exact .inr h
theorem Tab.Qk{P0 w:Addr}{pos:Pos}{qual:Str}{H:Hp}{ag:List (Key×V)}{o:HO}(t:Tab P0 pos qual H)(hw:H w=some (.dK ag)):Tab P0 pos qual (upd H w o):=by
 rcases t with h|⟨q,h1,h2⟩
 ·exact .inl (by rw[af (λz=>by rw[z,hw]at h;cases h)];exact h)
 ·exact .inr ⟨q,by rw[af (λz=>by rw[z,hw]at h1;cases h1)];exact h1,by rw[af (λz=>by rw[z,hw]at h2;cases h2)];exact h2⟩
theorem cy.off{H:Hp}{kd kw ag:List (Key×V)}{c:Addr}{o:HO}(h:cy H kd kw)(hc:H c=some (.dK ag)):cy (upd H c o) kd kw:=λj=>(h j).imp id λ⟨k,n,rows,cw,cv,ok,a,b,x,y⟩=>⟨k,n,rows,cw,cv,ok,a,b,jy hc x (iR _ _ _),jy hc y (iR _ _ _)⟩
theorem cy.mono{H H':Hp}{kd kw:List (Key×V)}(h:cy H kd kw)(s:ah H H'):cy H' kd kw:=λj=>(h j).imp id λ⟨k,n,rows,cw,cv,ok,a,b,x,y⟩=>⟨k,n,rows,cw,cv,ok,a,b,x.mono s,y.mono s⟩
theorem cy.put{H:Hp}{kd kw:List (Key×V)}{i:Key}{cw cv:V}{k n:Nat}{rows:Om.Rows}(h:cy H kd kw)(ok:Om.aq k n rows)(x:DV H cw (aR k n rows))(y:DV H cv (aR k n rows)):cy H (putK kd i cv) (putK kw i cw):=λj=>by
 rw[cZ,cZ];by_cases e:j=i
 ·rw[aaz e,aaz e];exact .inr ⟨k,n,rows,cw,cv,ok,rfl,rfl,x,y⟩
 ·rw[aar e,aar e];exact h j
theorem lV.put{kd kw:List (Key×V)}{z:Str}{x y:V}(h:lV kd kw)(hl:kd.length<30)(hz:z∈names8):lV (putK kd (.inr z) x) (putK kw (.inr z) y):=by
 obtain⟨h1,h2,h3⟩:=h;refine⟨by rw[jT,jT,h1],aaM (cE _ _ _) (by omega),λk hk=>?_⟩;rw[jT]at hk;split at hk
 ·exact h3 k hk
 ·rcases aay.mp hk with y|y
  ·exact h3 k y
  ·have e:k = .inr z:=by simpa using y
   exact⟨z,e,hz⟩
theorem E6:∀z∈names8,PyData.strOk z=true:=by decide +kernel
structure eQ(K:W.Frag)(P0 C sc:Addr)(ns:List Int)(d c w0:Addr)(i:Nat)(H:Hp):Prop where
 s:aN K H sc (ns.map V.int)
 t:Tab P0 (aC aP) fi H
 iv:∃kd kw,jn C H d c w0 kd kw/\kd.length<=i
theorem eQ.du{K:W.Frag}{P0 C sc d c w0:Addr}{ns:List Int}{i:Nat}{H H':Hp}(h:eQ K P0 C sc ns d c w0 i H)(s:aw P0 H H')(t:Tab P0 (aC aP) fi H'):eQ K P0 C sc ns d c w0 i H':=
 ⟨VP h.s h.t s,t,let⟨kd,kw,iv,l⟩:=h.iv;⟨kd,kw,jn.du iv h.t s,l⟩⟩
theorem eQ.same{K:W.Frag}{P0 C sc d c w0:Addr}{ns:List Int}{i:Nat}{H H':Hp}(h:eQ K P0 C sc ns d c w0 i H)(s:ah H H'):eQ K P0 C sc ns d c w0 i H':=eQ.du h s.t (h.t.mono s)
theorem eQ.le{K:W.Frag}{P0 C sc d c w0:Addr}{ns:List Int}{i j:Nat}{H:Hp}(h:eQ K P0 C sc ns d c w0 i H)(l:i<=j):eQ K P0 C sc ns d c w0 j H:=⟨h.s,h.t,let⟨kd,kw,iv,m⟩:=h.iv;⟨kd,kw,iv,aaM m l⟩⟩
theorem Az{P0 C0 CW C CR CN CT:Addr}{H:Hp}{d c:Addr}{kd:List (Key×V)}{nm:Str}{k n:Nat}{rows:Om.Rows}{Q:VK}{E:XK}(dk:bV C H d c kd)(kl:kd.length<=100)(n8:Nm nm)(ok:Om.aq k n rows)(q:∀cv H',ah H H'->DV H' cv (aR k n rows)->Q (.bl true) (upd H' c (.dK (putK kd (.inr nm) cv)))):hJ C (dq nX (lM P0 C0 CW) C CR CN CT) [.ref d,.str (("code " : Str)++nm++(" " : Str)++eB k n rows),.str ("ok" : Str)] H Q E:=by
 obtain⟨⟨dx,hd⟩,hc⟩:=id dk;obtain⟨hw,hg⟩:=FP (x:=eB k n rows) n8;have sl:=tW ok;have rl:=lh (v:= "code") (x:=eB k n rows) (by decide +kernel) n8;have e1:("code " : Str)=("code" : Str)++(" " : Str):=by decide +kernel
 refine⟨dx,_,hd,by rfl,?_⟩;refine Es (nm:=nm) (x:=eB k n rows) dk kl (by rw[e1];omega) hw hg (by rw[pF ok];exact Bj ok) λcv H' s dv=>⟨_,rfl,?_⟩
 rw[aaI rfl];exact q cv H' s (by rw[pF ok]at dv;exact dv)
section
theorem Ru{A B:TT}{yes no:TS}{D:Ends}{σ:St}{H:Hp}(M:Hp->Prop)(hY:∀H',M H'->yes D σ H')(hc:∀Y:Hp->Prop,(∀H',M H'->Y H')->R9 A B σ H (λb H1=>if b=true then Y H1 else no D σ H1)):fk (R9 A B) yes no D σ H:=hc (λH1=>yes D σ H1) hY
theorem FA{H:Hp}{p:Addr}{r:Int}(h0:0<=r)(h1:r<4)(h:H p=some (.lst [.int 4,.int 4,.int 4,.int 8])):∃m:Int,(m=4\/m=8)/\gZ H (.ref p) r=some (.int m):=by
 have:r=0\/r=1\/r=2\/r=3:=by omega
 rcases this with rfl|rfl|rfl|rfl
 ·exact⟨4,.inl rfl,gl h (by decide) rfl⟩
 ·exact⟨4,.inl rfl,gl h (by decide) rfl⟩
 ·exact⟨4,.inl rfl,gl h (by decide) rfl⟩
 ·exact⟨8,.inr rfl,gl h (by decide) rfl⟩
abbrev vM:Stmt:=top 119
def tI(P0:Addr)(K:W.Frag):Sp:=λvs H Q _=>match vs with
 | [.ref a]=>∃ns:List Int,aN K H a (ns.map V.int)/\ns.length<=63/\Tab P0 (aC aP) fi H/\∀H',Q (.bl true) H'
 | _=>False
theorem Kf:ao ["script","desk","codes","at","store","name","told"] ["script"] (ae vM):=⟨rfl,rfl,rfl,by decide +kernel,rfl,by decide +kernel,by decide +kernel⟩
local macro_rules|`(tactic|walk_at"i")=>`(tactic|first|((with_reducible first|refine' zq ?a0 ?a9 ?a1|refine' uK ?a0 ?a9 ?a1);(case a0=>walk_at"F");(case a9=>rfl);(case a1=>walk_at"b"))|((with_reducible refine' WD "Desk" ?c0 ?c1 ?c2 ?c3 ?c4 ?c5);(case c0=>walk_at"F");(case c1=>walk_at"F");(case c2=>walk_at"F");(case c3=>walk_at"F");(case c4=>exact⟨rfl,rfl,rfl,rfl,rfl⟩);(case c5=>exact av.mono (by assumption) (by first|decide|exact aae _)))|((with_reducible refine' Jc "names" ?c0 ?c8 ?c9 ?c1 ?c3);(case c0=>walk_at"F");(case c8=>walk_at"F");(case c9=>exact⟨rfl,rfl,rfl,rfl,rfl⟩);(case c1=>exact av.mono (by assumption) (by first|decide|exact aae _));(case c3=>walk_at"a"))|((with_reducible refine' j7 ?a0 ?a9 ?a1);(case a0=>walk_at"F");(case a9=>rfl);(case a1=>walk_at"b"))|fail "no")
local macro_rules|`(tactic|walk_at"q")=>`(tactic|((with_reducible refine' IE ?a1);(case a1=>walk_at"a")))
local macro_rules|`(tactic|walk_at"a")=>`(tactic|((with_reducible refine' ma ?a0 ?a1 ?a2);(case a0=>exact av.units (by assumption));(case a1=>walk_at"a");(case a2=>walk_at"a")))
local macro_rules|`(tactic|walk_at"d")=>`(tactic|first|walk_at"w" | ((with_reducible refine' jx ?a0 ?a1 ?a2);(case a0=>exact av.units (by assumption));(case a1=>walk_at"a");(case a2=>walk_at"a")))
local macro_rules|`(tactic|walk_at"l")=>`(tactic|first|((with_reducible refine' ck.or (MO ?a0) (l6 ?a1));(case a0=>exact av.units (by assumption));(case a1=>exact av.units (by assumption)))|((with_reducible refine' DJ ?a1);(case a1=>exact av.units (by assumption))))
local macro_rules|`(tactic|walk_at"n")=>`(tactic|first|(with_reducible exact NV)|((with_reducible refine' ty_list ?a1 ?a9);(case a1=>walk_at"F");(case a9=>rfl)))
theorem MX{f:Addr}{fd:FuncData}{P0 C0 CW C CR CN CT:Addr}(D:BX K "law" "law" vM f fd)(g1:mg "range" = none)(g2:mg "len" = none)(g3:mg "min" = none)(g4:mg "max" = none)(g5:mg "sorted" = none)(g6:mg "isinstance" = none)(g7:mg "list" = none)(c1:aJ P w K mg base "_law_cell" 1 ["script","k"] (wj K))(c2:aJ P w K mg base "_law_store" 1 ["cell"] qD)(c5:aJ P w K mg base "_law_take" 1 ["store","many"] fB)(c6:aJ P w K mg base "_law_draw_name" 2 ["store"] qN)(c7:aJ P w K mg base "_law_code" 3 ["store","most"] qP)(c8:aJ P w K mg base "_law_said" 10 ["desk","row","due"] (hJ C (dq nX (lM P0 C0 CW) C CR CN CT)))(c9:aJ P w K mg base "_law_text_of" 1 ["code"] wb)(ca:aJ P w K mg base "_law_asked" 11 ["store","desk","codes"] (qU P0 C))(dk:oA K C)(hC:pR K C)(hI0:lW P w K mg base C "__init__" 1 ["self"] (dZ C))(Pe:W.makesIn K C=true)(Pd:W.keepIn K (.ref C)=true)(mD:mg "Desk" = some (.ref C))(cb:lW P w K mg base C "names" 1 ["self"] (qI C)):cU P w K mg base kR 12 f fd ["script"] (tI P0 K):=by
 obtain⟨fI,fdI,hI,XH,hBI⟩:=hI0;have XG:Mk K C fI:=⟨Pe,XH.at_,XH.fn,Pd⟩
 refine D.ok (k:=11) Kf (λvs H Q E h=>?_) (λaA A outer s H vs Q E hr h=>?_)
 all_goals
  unfold tI at h;split at h
 ·rfl
 ·exact h.elim
 ·rename_i sc;obtain⟨ns,hS,hl,tH,q⟩:=h;have nd:=Kf.nd;refine⟨_,(by walk_at"c"),?_⟩;intro d dx hd Sy ne;refine⟨dx,aa,λc' hc=>⟨rfl,?_⟩⟩;have cd:c'≠d:=λz=>by rw[z,aa]at hc;cases hc
  have sA:=IB hd Sy hc;have dA:bV C (upd (upd (upd (upd H dx (.own d)) d (.ins C dx [])) c' (.dK [])) d (.ins C dx [("codes",.ref c')])) d c' []:=⟨⟨dx,aa⟩,by rw[af cd];exact aa⟩
  generalize upd (upd (upd (upd H dx (.own d)) d (.ins C dx [])) c' (.dK [])) d (.ins C dx [("codes",.ref c')])=HA at sA dA ⊢;dsimp only[aQ];intro w0 sV;have sB:=ah.upd (o:=.dK []) sV;have dB:=dA.same sB;have Xj:upd HA w0 (.dK []) w0=some (.dK []):=aa;have XZ:c'≠w0:=aj dA.2 sV;have lB:eQ K P0 C sc ns d c' w0 0 (upd HA w0 (.dK [])):=⟨hS.same (sA.trans sB),tH.mono (sA.trans sB),[],[],⟨dB,Xj,⟨rfl,aaO _,λk hk=>by cases hk⟩,λj=>.inl ⟨rfl,rfl⟩⟩,aae _⟩
  generalize upd HA w0 (.dK [])=HB at lB dB ⊢;clear sA sB dA hd Sy hc ne sV Xj hS tH cd;dsimp only[aQ];refine lY (λaX H'=>aX=[some (.ref sc),some (.ref d),some (.ref w0),none,none,none,none]/\eQ K P0 C sc ns d c' w0 0 H') ?_ (λnx fin=>?_)
  rotate_left
  ·obtain⟨⟨dx1,BG⟩,_⟩:=id dB;refine⟨d,dx1,_,rfl,BG,by rfl,?_⟩;refine⟨c',[],[],dB,rfl,by decide,λl ys hl py sy=>?_⟩;have ye:=py.eq_nil;subst ye;have s1:=ah.upd (o:=.lst (([]:List Str).map V.str)) hl;have kl:upd HB l (.lst (([]:List Str).map V.str)) l=some (.lst []):=aa;generalize upd HB l (.lst (([]:List Str).map V.str))=H1 at s1 kl ⊢;refine⟨aaO _,λe he=>?_⟩;have s2:=ah.upd (o:=.lst []) he;refine⟨.list [],.list [],.lst (s2 _ _ kl) .nil,.lst aa .nil,dQ [],dQ [],?_⟩;refine fZ (by rw[rM];decide) ?_;exact fin _ _ ⟨rfl,eQ.same lB (s1.trans s2)⟩
  clear lB dB HB;rintro aX HB ⟨rfl,lB⟩;refine⟨_,lB.s,?_⟩;have b20:∀m:Int,(if(20:Int)<m then(20:Int)else m)<=20:=λm=>by split<;>omega
  refine⟨by split<;>split<;>omega,by split<;>split<;>omega,bL (de 0 _) (λi σ H2=>∃(v3 v4 v5 v6:Option V),σ=[some (.ref sc),some (.ref d),some (.ref w0),v3,v4,v5,v6]/\eQ K P0 C sc ns d c' w0 i H2)
   ⟨none,none,none,none,rfl,lB⟩ (λ_ _ _ _ _=>trivial) ?_ ?_⟩
  rotate_left
  ·rintro σ H2 ⟨v3,v4,v5,v6,rfl,l2⟩;exact q _
  rintro i x σ H0 hi hx ⟨v3,v4,v5,v6,rfl,l0⟩;rw[aaa,aaK]at hi;have ez:x = .int (i:Nat):=by rw[aak,abL hi]at hx;have:=(aaw hx).symm;rw[this];simp
  subst ez;have acj:i<20:=by have:=b20 (if(4:Int)>(((ns.map V.int).length:Nat):Int)then 4 else(((ns.map V.int).length:Nat):Int));omega
  refine⟨ns,l0.s,by omega,by omega,λcl=>?_⟩;intro a g b ha;have o1:=(ah.upd (o:=.lst [.int g,.int b,.int 1]) ha).off (F:=At a);have BP:gF (upd H0 a (.lst [.int g,.int b,.int 1])) a:=⟨_,_,_,aa⟩
  generalize upd H0 a (.lst [.int g,.int b,.int 1])=H1 at o1 BP ⊢;dsimp only[aQ];obtain⟨kd,kw,iv,Zt⟩:=l0.iv;refine lY (λaX H'=>∃y5:Option V,aX=[some (.ref sc),some (.ref d),some (.ref w0),some (.int (i:Nat)),some (.ref a),y5,v6]/\eQ K P0 C sc ns d c' w0 (i+1) H') ?_ (λnx fin=>?_)
  rotate_left
  ·refine Ru (λH3=>Off (At a) H0 H3/\gF H3 a) ?_ (λY hY=>?_)
   rotate_left
   ·intro e he;have u2:=ah.upd (o:=.dK []) he;have ke:upd H1 e (.dK []) e=some (.dK []):=aa;have o2:=o1.trans (u2.off (F:=At a));have nF:=BP.same u2;have iw:=iv.hw;generalize upd H1 e (.dK [])=H2 at u2 ke o2 nF ⊢;refine .inl ⟨w0,kw,e,rfl,rfl,.inl (lA ha o2 _ _ iw),ke,?_⟩;cases ek:kw.isEmpty with
    | true=>exact hY _ ⟨o2,nF⟩
    | false=>
     refine⟨nF,by decide,by decide,λr H3 r0 r3 BD o3=>.inr ?_⟩;have o3:=o2.trans o3;refine aO (λ_=>?_) (λ_=>?_)
     ·exact hY _ ⟨o3,BD⟩
     have Zs:kd≠[]:=λz=>by have h1:=iv.ks.1;rw[z]at h1;have h2:kw.map (·.1)=[]:=h1.symm;rw[List.map_eq_nil_iff]at h2;rw[h2]at ek;cases ek
     dsimp only;refine⟨H0,c',kd,kw,iv,Zs,l0.t,ha,o3,BD,λH4 S4 t4=>?_⟩;exact fin _ _ ⟨_,rfl,eQ.le (eQ.du l0 S4 t4) (abW _)⟩
   ·rintro H3 ⟨o3,BD⟩;refine⟨BD,λz H4 hz lI o4=>?_⟩;have o4:=o3.trans o4;have n8:=uz z hz;dsimp only[aQ];refine⟨ai (aai rfl),λp hp=>?_⟩;have u5:=ah.upd (o:=.lst [.int 4,.int 4,.int 4,.int 8]) hp;have kp:upd H4 p (.lst [.int 4,.int 4,.int 4,.int 8]) p=some (.lst [.int 4,.int 4,.int 4,.int 8]):=aa;have o5:=o4.trans (u5.off (F:=At a));have vj:=lI.same u5;have pa:p≠a:=lI.ne hp;generalize upd H4 p (.lst [.int 4,.int 4,.int 4,.int 8])=H5 at u5 kp o5 vj ⊢;refine⟨vj,by decide,by decide,λr H6 r0 r4 Sd o6=>?_⟩;obtain⟨m,hm,gm⟩:=FA r0 r4 (o6 _ _ kp pa);have o6:=o5.trans o6;refine .inl ⟨_,gm,?_⟩;refine⟨Sd,by omega,by omega,λv k n rows G H7 ok rl dv g7=>?_⟩;have o7:=o6.trans g7.o;have s7:=lA ha o7;have dv7:=dv.mono g7.s;have i7:=jn.du iv l0.t s7.t;have Ow:=i7.hw;have l7:=eQ.same l0 s7;have kwl:kw.length<=i:=by have:=aaX List.length iv.ks.1;rw[aaa,aaa]at this;omega
    refine .inr ⟨w0,_,rfl,vX.k (k:=.inr z) Ow (bC (by omega)),?_⟩;have XY:=bV.off (o:=.dK (putK kw (.inr z) v)) i7.dk Ow XZ.symm;have WU:=cy.off (o:=.dK (putK kw (.inr z) v)) i7.vs Ow;have W2:=P8 (u:=.dK (putK kw (.inr z) v)) l7.s Ow;have t8:=Tab.Qk (o:=.dK (putK kw (.inr z) v)) l7.t Ow;have UY:=jy (o:=.dK (putK kw (.inr z) v)) Ow dv7 (iR _ _ _);have Uk:upd H7 w0 (.dK (putK kw (.inr z) v)) w0=some (.dK (putK kw (.inr z) v)):=aa;generalize upd H7 w0 (.dK (putK kw (.inr z) v))=H8 at XY WU W2 t8 UY Uk ⊢;have q5:("code " : Str).length=5:=by decide +kernel
    have q1:(" " : Str).length=1:=by decide +kernel
    have l8:=n8.l;have sl:=tW ok;refine⟨ai (by omega),ai (by rw[aa3];omega),.inr ⟨w0,v,rfl,?_,?_⟩⟩
    ·have:=gJ.k (k:=.inr z) Uk;rw[cZ,aaz rfl]at this;exact this
    refine⟨k,n,rows,UY,ok,λH9 s9=>⟨ai (by rw[aa3,aa3];omega),?_⟩⟩;dsimp only[aQ,zM,tG,jm,gO,gY,tV,tC,gX,fk,JO,sT,bu,List.set,abe,aco];have UZ:=bV.same XY s9;refine Az UZ (by omega) n8 ok λcv Ha sa dva=>?_;have O9:=s9.trans sa;have zJ:=sa _ _ UZ.2;refine fZ (by decide) ?_;refine fin _ _ ⟨_,rfl,⟨P8 (W2.same O9) zJ,Tab.Qk (t8.mono O9) zJ,putK kd (.inr z) cv,putK kw (.inr z) v,⟨bV.put UZ sa,?_,lV.put iv.ks (by omega) hz,cy.put (cy.off (cy.mono WU O9) zJ) ok (jy zJ (UY.mono O9) (iR _ _ _)) (jy zJ dva (iR _ _ _))⟩,aaM (cE _ _ _) (by omega)⟩⟩;rw[af XZ.symm];exact O9 _ _ Uk
  rintro aX H4 ⟨y5,rfl,l4⟩;obtain⟨kd,kw,iv,Zt⟩:=l4.iv;obtain⟨zs,zd,zw,zl,Yh,zm,zv⟩:=iv.ks.names;obtain⟨⟨dx4,OE⟩,_⟩:=id iv.dk;refine⟨d,dx4,_,rfl,OE,by rfl,?_⟩;refine⟨c',kd,zs,iv.dk,zd,by omega,λl ys Sv py sy=>?_⟩;have s5:=ah.upd (o:=.lst (ys.map V.str)) Sv;have kl:upd H4 l (.lst (ys.map V.str)) l=some (.lst (ys.map V.str)):=aa;generalize upd H4 l (.lst (ys.map V.str))=H5 at s5 kl ⊢;dsimp only[aQ];refine⟨"list",by simp[nR,kl],by decide,fZ (by decide +kernel) ?_⟩;refine⟨w0,kw,zs,rfl,.inl (s5 _ _ iv.hw),zw,by omega,λl' nP Uy YV Yx=>?_⟩;obtain rfl:=xu py YV sy Yx;have au:∀z∈ys,PyData.strOk z=true:=λz hz=>E6 z (zm z (py.subset hz));have s7:=ah.upd (o:=.lst (ys.map V.str)) Uy;have Uh:=s7 _ _ kl;refine⟨_,_,.lst Uh (GZ _),.lst aa (GZ _),jb au,jb au,?_⟩;obtain⟨eb,eb1,eb2⟩ : ∃eb,PyData.eqv (.list (ys.map PyData.str)) (.list (ys.map PyData.str))=eb/\eb=true:=⟨_,rfl,En au⟩
  rw[eb1];refine aO (λe=>absurd e (by rw[eb2];decide)) (λ_=>?_);refine⟨⟨_,rfl,Uh⟩,_,Uh,?_⟩;exact⟨_,_,_,_,rfl,eQ.same l4 ((s5.trans s7).own Sv)⟩
 ·exact h.elim
end
abbrev YF:Stmt:=top 4
abbrev hV:Stmt:=Jl YF 0
theorem yV:ao ["self","at"] ["self","at"] (ae hV):=⟨rfl,rfl,rfl,by decide +kernel,rfl,by decide +kernel,by decide +kernel⟩
theorem EW{C B f:Addr}{fd:FuncData}(D:BX K "__init__" "NoWire.__init__" hV f fd)(Z:vW K C f)(W:Cp K B)(S:Cn K C)(hm:mg "BeatError" = some (.ref B)):cU P w K mg base kR 1 f fd ["self","at"] (L2.dZ C):=by
 refine D.ok (k:=0) yV (λvs H Q E h=>?_) (λaA A outer s H vs Q E hr h=>?_)
 all_goals
  unfold L2.dZ at h;split at h
 ·rfl
 ·exact h.elim
 ·rename_i x n;obtain⟨⟨n0,n1⟩,hx,q⟩:=h;have nd:=yV.nd;refine⟨_,(by(refine' mG ?a1 ?a2);(case a1=>(refine' Dv ?b1);(case b1=>(refine' Jd (C:=C) (B:=B) ?c0 ?c1 ?c2 ?c9 ?c3);(case c0=>assumption);(case c1=>assumption);(case c2=>assumption);(case c9=>rfl);(case c3=>walk_at"b")));(case a2=>(refine' lq ?d1);(case d1=>(refine' VQ (C:=C) ?e0 ?e1 ?e2 ?e3);(case e0=>assumption);(case e1=>assumption);(case e2=>walk_at"a");(case e3=>walk_at"a")))),?_⟩;have hs:(bJ n).length<=4:=by have:=xp n.toNat (by omega);rw[show((n.toNat:Nat):Int)=n by omega]at this;exact this
  have hl:n.natAbs.log2<1920:=by
   rcases Nat.eq_zero_or_pos n.natAbs with e|e
   ·rw[e];decide
   ·exact(Nat.log2_lt (by omega)).mpr (aaG (show n.natAbs<2 ^ 11 by omega) (Nat.pow_le_pow_right (by decide) (by decide)))
  have SK:((Str.empty:Str)++("no wire at word " : Str)).length=16:=by rw[eS];rfl
  have hb:((Str.empty:Str)++("no wire at word " : Str)++bJ n).length<=sizeLine:=by rw[eS,SK];exact ai (by omega)
  refine⟨by rw[SK];exact ai (by omega),hl,hb,hb,?_⟩;refine⟨_,_,rfl,hx,?_⟩;exact⟨x,rfl,hx,q⟩
 ·exact h.elim
def iS(es:Array DictEntry):Bool:=es.all λe=>match e.key with | .str _ _=>true|_=>false
theorem eW{es:Array DictEntry}(h:iS es=true):StrKeys es:=λe he=>by
 have:=(Array.all_eq_true_iff_forall_mem.mp h) e he;split at this
 ·rename_i n t z;exact⟨n,t,z⟩
 ·cases this
theorem I0{K:W.Frag}{N:Addr}{c1:Value}{d1:Option Addr}{es:Array DictEntry}{ep:Nat}{O8:Array (Option Value)}{x:Str}{v:Value}(hN:K.lookup N=some ⟨c1,d1,.dict es ep,O8⟩)(e:W.nsIn K N x=some (some v)):nsFind es x=some v:=by
 unfold W.nsIn at e;rw[hN]at e;dsimp only at e;split at e
 ·rename_i en he;cases e;unfold nsFind findBy;rw[<-Array.find?_toList,he];rfl
 ·split at e<;>cases e
open PySem.W in
theorem qp{K:W.Frag}{C:Addr}{nm q:Str}{N B:Addr}{bs:List Value}{hdct:Bool}{sn:List Str}{sub:List Value}{ab:Bool}{col:Option Bool}{dd:Option Addr}{k0 k1 k2 k3 k5:Option Value}{c1:Value}{d1:Option Addr}{es:Array DictEntry}{ep:Nat}{O8:Array (Option Value)}{cB:Value}{U0:Option Addr}{TF:Array (Option Value)}{TY qB:Str}{Va Lw subB:List Value}{NB:Addr}{UD Vb LK:Bool}{TC:List Str}{LL:Option Bool}{c2:Value}{d2:Option Addr}{Gw:Array DictEntry}{PU:Nat}{BQ:Array (Option Value)}(hC:K.lookup C=some (excClassObj nm q C N bs (.ref B::W.kh) hdct sn sub ab col dd k0 k1 k2 k3 k5 "ValueError.__new__"))(hN:K.lookup N=some ⟨c1,d1,.dict es ep,O8⟩)(sN:iS es=true)(nN:(nsFind es "__init__").isNone=true)(hB:K.lookup B=some ⟨cB,U0,.cls ⟨TY,Va,Lw,NB,qB,UD,TC,subB,Vb,LL,LK⟩,TF⟩)(UL:K.lookup NB=some ⟨c2,d2,.dict Gw PU,BQ⟩)(sB:iS Gw=true)(nB:(nsFind Gw "__init__").isNone=true):gR K C:=by refine⟨nm,q,N,bs,.ref B::W.kh,hdct,sn,sub,ab,col,dd,k0,k1,k2,k3,k5,nsFind es,acT.mp nN,λh X=>⟨X _ _ hC,⟨_,es,ep,X _ _ hN,rfl,eW sN,λ_=>rfl⟩,?_⟩⟩;exact .own (X _ _ hB) ⟨_,Gw,PU,X _ _ UL,rfl,eW sB,λ_=>rfl⟩ (acT.mp nB) .base
def Vu(K:W.Frag)(C:Addr):Prop:=∃(fI:Addr)(fd:FuncData),vW K C fI/\BX K "__init__" "NoWire.__init__" hV fI fd/\Binds K fd ["self","at"] []
open PySem.W in
theorem Rk{K:W.Frag}{C fI:Addr}{nm q:Str}{N B:Addr}{bs:List Value}{sn:List Str}{sub:List Value}{ab:Bool}{col:Option Bool}{dd:Option Addr}{k0 k1 k2 k3 k5:Option Value}{c1:Value}{d1:Option Addr}{es:Array DictEntry}{ep:Nat}{O8:Array (Option Value)}{cB:Value}{U0:Option Addr}{TF:Array (Option Value)}{TY qB:Str}{Va Lw subB:List Value}{NB:Addr}{UD Vb LK:Bool}{TC:List Str}{LL:Option Bool}{c2:Value}{d2:Option Addr}{Gw:Array DictEntry}{PU:Nat}{BQ:Array (Option Value)}{oc:Value}{od an:Option Addr}{fW:Array (Option Value)}{kV dc pm cd ct:Value}(hC:K.lookup C=some (excClassObj nm q C N bs (.ref B::W.kh) true sn sub ab col dd k0 k1 k2 k3 k5 "ValueError.__new__"))(hN:K.lookup N=some ⟨c1,d1,.dict es ep,O8⟩)(sN:iS es=true)(nN:nsIn K N "__init__" = some (some (.ref fI)))(hB:K.lookup B=some ⟨cB,U0,.cls ⟨TY,Va,Lw,NB,qB,UD,TC,subB,Vb,LL,LK⟩,TF⟩)(UL:K.lookup NB=some ⟨c2,d2,.dict Gw PU,BQ⟩)(sB:iS Gw=true)(nB:(nsFind Gw "__init__").isNone=true)(hI:K.lookup fI=some ⟨oc,od,.func (fnOf "__init__" "NoWire.__init__" (aU hV) (ay hV) (ae hV) .none kV dc pm an cd ct),fW⟩)(cI:oc = .type "function")(hc:codeIn K cd "NoWire.__init__" = true)(hk:keepIn K (.ref fI)=true):Vu K C:=by
 have F:BX K "__init__" "NoWire.__init__" hV fI _:=⟨⟨oc,od,kV,dc,pm,an,cd,ct,fW,rfl,hI,hc⟩,hk⟩
 refine⟨fI,_,⟨nm,q,N,B,bs,sn,sub,ab,col,dd,k0,k1,k2,k3,k5,nsFind es,_,I0 hN nN,cI,λh X=>⟨X _ _ hC,⟨_,es,ep,X _ _ hN,rfl,eW sN,λ_=>rfl⟩,?_,X _ _ hI⟩⟩,F,Binds.all λus hl=>?_⟩
 ·exact .own (X _ _ hB) ⟨_,Gw,PU,X _ _ UL,rfl,eW sB,λ_=>rfl⟩ (acT.mp nB) .base
 ·match us,hl with
  | [a0,a1],_=>rfl
theorem Rj{P:Program}{w:World}{K:PySem.W.Frag}{mg:Str->Option Value}{base:Heap}{C B:Addr}(Z:Vu K C)(W:Cp K B)(S:Cn K C)(hB:mg "BeatError" = some (.ref B))(hC:mg "NoWire" = some (.ref C))(hk:PySem.W.keepIn K (.ref C)=true):NW P w K mg base C:=by obtain⟨fI,fd,Z1,F,b⟩:=Z;exact⟨fI,fd,Z1,EW F Z1 W S hB,b,hC,hk⟩
theorem Jb{K:W.Frag}{B:Addr}(a1:W.specialIn K (.ref B) "__getattribute__" = some (some (.builtin "type.__getattribute__")))(a2:W.readsIn K B (.type "type")=true)(a3:W.findCls K (.ref B) (.type "type") "__init__" = some (.val (.builtin "ValueError.__init__"))):Cp K B:=⟨a1,a2,a3⟩
theorem Ja{K:W.Frag}{C:Addr}(a1:W.findIn K (.ref C) "__setattr__" = some (some (.builtin "object.__setattr__")))(a2:W.findIn K (.ref C) "at" = some none):Cn K C:=⟨a1,a2⟩
def Gi(K:W.Frag)(C:Addr)(x:Str)(b:Bool):Prop:=∃D,W.nsIn K mainGlobals x=some (some (.ref D))/\W.kitOne K (.ref C) (.ref D)=some b
theorem N1{K:W.Frag}{C D:Addr}{x:Str}{b:Bool}(h:W.nsIn K mainGlobals x=some (some (.ref D)))(e:W.kitOne K (.ref C) (.ref D)=some b):Gi K C x b:=⟨D,h,e⟩
theorem fD{K:W.Frag}{h:Heap}{mg:Str->Option Value}{C:Addr}{x:Str}{b:Bool}(X:K.In h)(G:h.Ns mainGlobals mg)(z:Gi K C x b):Cl K mg C x b:=let⟨D,h1,e⟩:=z;⟨D,ab7 X G h1,e⟩
theorem Hg{K:W.Frag}{C:Addr}(a1:W.findIn K (.ref C) "__getattribute__" = some (some (.builtin "BaseException.__getattribute__")))(a2:W.findIn K (.ref C) "__getattr__" = some none)(a3:W.mroIn K C (.type "BaseException")=some true)(b:(W.clsIn K C).isSome=true)(c:W.findIn K (.ref C) "__class__" = some (some (.builtin "object.__class__")))(d:W.specialIn K (.builtin "object.__class__") "__get__" = some (some (.builtin "getset_descriptor.__get__")))(e:W.takesIn K (.builtin "object.__class__")=some true)(f:W.mroIn K C (.type "object")=some true):W.gU K C:=⟨a1,a2,a3,b,c,d,e,f⟩
end K64
section
namespace K64
open PySem L2
variable{P:Program}{w:World}{K:W.Frag}{mg:Str->Option Value}{base:Heap}
theorem bZ{K:W.Frag}{h:Heap}{mg:Str->Option Value}{x:Str}{st:Stmt}{p0:Str}(D:dG K x st)(X:K.In h)(G:h.Ns mainGlobals mg)(hb:∀(kV doc pm:Value)(an:Option Addr)(aA ct:Value)(a0:Value),bindArgs (W.fnOf x x (aU st) (ay st) (ae st) .none kV doc pm an aA ct) ⟨[a0],[]⟩=pure ([p0].zip [a0])):bX K mg x st [p0]:=
 D.fnX X G λkV doc pm an aA ct us hl=>match us,hl with
  | [a0],_=>hb kV doc pm an aA ct a0
theorem bU{K:W.Frag}{h:Heap}{mg:Str->Option Value}{x:Str}{st:Stmt}{p0 p1:Str}(D:dG K x st)(X:K.In h)(G:h.Ns mainGlobals mg)(hb:∀(kV doc pm:Value)(an:Option Addr)(aA ct:Value)(a0 a1:Value),bindArgs (W.fnOf x x (aU st) (ay st) (ae st) .none kV doc pm an aA ct) ⟨[a0,a1],[]⟩=pure ([p0,p1].zip [a0,a1])):bX K mg x st [p0,p1]:=
 D.fnX X G λkV doc pm an aA ct us hl=>match us,hl with
  | [a0,a1],_=>hb kV doc pm an aA ct a0 a1
theorem gQ{K:W.Frag}{h:Heap}{mg:Str->Option Value}{x:Str}{st:Stmt}{p0 p1 p2:Str}(D:dG K x st)(X:K.In h)(G:h.Ns mainGlobals mg)(hb:∀(kV doc pm:Value)(an:Option Addr)(aA ct:Value)(a0 a1 a2:Value),bindArgs (W.fnOf x x (aU st) (ay st) (ae st) .none kV doc pm an aA ct) ⟨[a0,a1,a2],[]⟩=pure ([p0,p1,p2].zip [a0,a1,a2])):bX K mg x st [p0,p1,p2]:=
 D.fnX X G λkV doc pm an aA ct us hl=>match us,hl with
  | [a0,a1,a2],_=>hb kV doc pm an aA ct a0 a1 a2
theorem RM{K:W.Frag}{h:Heap}{mg:Str->Option Value}{x:Str}{st:Stmt}{p0 p1 p2 p3:Str}(D:dG K x st)(X:K.In h)(G:h.Ns mainGlobals mg)(hb:∀(kV doc pm:Value)(an:Option Addr)(aA ct:Value)(a0 a1 a2 a3:Value),bindArgs (W.fnOf x x (aU st) (ay st) (ae st) .none kV doc pm an aA ct) ⟨[a0,a1,a2,a3],[]⟩=pure ([p0,p1,p2,p3].zip [a0,a1,a2,a3])):bX K mg x st [p0,p1,p2,p3]:=
 D.fnX X G λkV doc pm an aA ct us hl=>match us,hl with
  | [a0,a1,a2,a3],_=>hb kV doc pm an aA ct a0 a1 a2 a3
theorem RL{K:W.Frag}{h:Heap}{mg:Str->Option Value}{x:Str}{st:Stmt}{p0 p1 p2 p3 p4 p5:Str}(D:dG K x st)(X:K.In h)(G:h.Ns mainGlobals mg)(hb:∀(kV doc pm:Value)(an:Option Addr)(aA ct:Value)(a0 a1 a2 a3 a4 a5:Value),bindArgs (W.fnOf x x (aU st) (ay st) (ae st) .none kV doc pm an aA ct) ⟨[a0,a1,a2,a3,a4,a5],[]⟩=pure ([p0,p1,p2,p3,p4,p5].zip [a0,a1,a2,a3,a4,a5])):bX K mg x st [p0,p1,p2,p3,p4,p5]:=
 D.fnX X G λkV doc pm an aA ct us hl=>match us,hl with
  | [a0,a1,a2,a3,a4,a5],_=>hb kV doc pm an aA ct a0 a1 a2 a3 a4 a5
def xb(K:W.Frag)(x:Str)(zs:List Str):Prop:=∃(a:Addr)(o:Obj)(its:Array Value)(n:Nat),W.nsIn K mainGlobals x=some (some (.ref a))/\K.lookup a=some o/\o.cls = .type "tuple"/\o.data = .seq its n/\its.size<=sizeLine/\Vals (zs.map V.str) its.toList
theorem QL{K:W.Frag}{x:Str}{zs:List Str}{v:Value}{a:Addr}{o:Obj}{its:Array Value}{n:Nat}(h:W.nsIn K mainGlobals x=some (some v))(e:v = .ref a)(l:K.lookup a=some o)(c:o.cls = .type "tuple")(d:o.data = .seq its n)(z:its.size<=sizeLine)(r:Vals (zs.map V.str) its.toList):xb K x zs:=⟨a,o,its,n,by rw[h,e],l,c,d,z,r⟩
theorem QK{K:W.Frag}{h:Heap}{mg:Str->Option Value}{x:Str}{zs:List Str}(X:K.In h)(G:h.Ns mainGlobals mg)(t:xb K x zs):∃a,TupAt K mg x a zs:=by refine az λak=>?_;obtain⟨a,o,its,n,h1,h2,h3,h4,h5,h6⟩:=t;refine ak ?_;clear ak;exact⟨a,ab7 X G h1,λH=>.inr ⟨o,its,n,h2,h3,h4,h5,h6⟩⟩
def n4(K:W.Frag)(C:Addr)(m qn:Str)(st:Stmt):Prop:=∃(f:Addr)(oc:Value)(od an:Option Addr)(fW:Array (Option Value))(kV dc pm cd ct:Value),W.findIn K (.ref C) m=some (some (.ref f)) ∧
 K.lookup f=some ⟨oc,od,.func (W.fnOf m qn (aU st) (ay st) (ae st) .none kV dc pm an cd ct),fW⟩/\W.codeIn K cd qn=true/\W.keepIn K (.ref f)=true/\W.isFn K (.ref f)=true
theorem n4.mk{K:W.Frag}{C:Addr}{m qn:Str}{st:Stmt}{f:Addr}{oc:Value}{od an:Option Addr}{fW:Array (Option Value)}{kV dc pm cd ct:Value}(a:W.findIn K (.ref C) m=some (some (.ref f)))(l:K.lookup f=some ⟨oc,od,.func (W.fnOf m qn (aU st) (ay st) (ae st) .none kV dc pm an cd ct),fW⟩)(c:W.codeIn K cd qn=true)(k:W.keepIn K (.ref f)=true)(i:W.isFn K (.ref f)=true):n4 K C m qn st:=⟨f,oc,od,an,fW,kV,dc,pm,cd,ct,a,l,c,k,i⟩
theorem n4.Ud{K:W.Frag}{C:Addr}{m qn:Str}{st:Stmt}{ps:List Str}(D:n4 K C m qn st)(hb:∀(kV doc pm:Value)(an:Option Addr)(aA ct:Value)(us:List Value),us.length=ps.length->bindArgs (W.fnOf m qn (aU st) (ay st) (ae st) .none kV doc pm an aA ct) ⟨us,[]⟩=pure (ps.zip us)):OQ K C m qn st ps:=by refine az λak=>?_;obtain⟨f,oc,od,an,fW,kV,dc,pm,cd,ct,h1,h2,h3,h4,h5⟩:=D;refine ak ?_;clear ak;have F:=wZ (x:=m) (st:=st) h2 h3 h4;exact⟨f,_,F,⟨h1,h5,h4⟩,F.binds hb⟩
theorem FK{K:W.Frag}{C:Addr}(a1:W.plainGet K C Str.empty=true)(a2:W.hasDictIn K C=true)(a3:W.plainOver K C=true)(a4:W.findIn K (.ref C) "__setattr__" = some (some (.builtin "object.__setattr__")))(a5:W.findIn K (.ref C) "codes" = some none):oA K C:=⟨⟨a1,a2,a3,a4⟩,a5⟩
structure Co(K:W.Frag)(B C:Addr)(x:Str)(m:Nat):Prop where
 h:W.nsIn K mainGlobals x=some (some (.ref C))
 z:W.gU K C
 e:W.exmOne K (.ref C) (.ref B)=some true
 q:Gi K C "NoLetter" (decide (0=m))/\Gi K C "NoCode" (decide (1=m))/\Gi K C "NoWindow" (decide (2=m))/\Gi K C "NoMark" (decide (3=m))/\Gi K C "NoText" (decide (4=m))/\Gi K C "NoName" (decide (5=m))/\Gi K C "NoRow" (decide (6=m))/\Gi K C "NoWire" (decide (7=m))
 v:W.kitOne K (.ref C) (.type "ValueError")=some true
theorem Co.kk{K:W.Frag}{B C:Addr}{x:Str}{m:Nat}{h:Heap}{mg:Str->Option Value}(o:Co K B C x m)(X:K.In h)(G:h.Ns mainGlobals mg):f6 K mg C m:=
 let⟨q0,q1,q2,q3,q4,q5,q6,q7⟩:=o.q
 ⟨o.z,fD X G q0,fD X G q1,fD X G q2,fD X G q3,fD X G q4,fD X G q5,fD X G q6,fD X G q7,o.v⟩
def OV(K:W.Frag):List (Str×Stmt)->Prop
 | []=>True
 | x::r=>dG K x.1 x.2/\OV K r
theorem OV.cons{K:W.Frag}{x:Str}{s:Stmt}{r:List (Str×Stmt)}(a:dG K x s)(b:OV K r):OV K ((x,s)::r):=⟨a,b⟩
theorem all_mk{l:W.OpenLaw}{w:World}{K:W.Frag}{h:Heap}{mg:Str->Option Value}{fa:Addr}(X:K.In h)(G:h.Ns mainGlobals mg)(hfa:mg "law" = some (.ref fa))(ds:OV K (("is_whole",wm)::("is_within",qV)::("is_word",Ct)::("is_row",Lj)::("is_state",wt)::("is_code",CG)::("number_of",Lk)::("row_of",wz)::("state_of",mz)::("code_of",rg)::("read_code",jP)::("is_letter",qZ)::("is_letter_list",mE)::("sent",Cv)::("letter_of",jQ)::("letters",mC)::("texts_from",qh)::("state_texts",Cb)::("reached",mB)::("pair_steps",qY)::("pair_graph",wF)::("first_pairs",TK)::("layer_behind",wB)::("layers_of",rf)::("comes_back",wI)::("late",CA)::("words_of",mw)::("given_words",wG)::("shared_count",qX)::("guesses_behind",wC)::("read",TJ)::("bits_of",rj)::("answer",rp)::("answer_with",fS)::("is_name",Cz)::("is_signs",wu)::("fits",CC)::("are_words",jS)::("words_in",my)::("_law_class",wK)::("_law_refused",Cy)::("_law_cell",CH)::("_law_store",wq)::("_law_take",Cu)::("_law_word",lZ)::("_law_word",lZ)::("_law_branch",rh)::("_law_code",wJ)::("_law_rows",wy)::("_law_sent",wx)::("_law_text_of",qW)::("_law_bits_text",jR)::("_law_dash",CF)::("_law_draw_name",wH)::("_law_said",Cw)::("_law_asked",wL)::[])){xD:Addr}(hD:W.nsIn K mainGlobals "Desk" = some (some (.ref xD)))(dk:oA K xD)(Pe:W.makesIn K xD=true)(Pd:W.keepIn K (.ref xD)=true)(U9:n4 K xD "__init__" "Desk.__init__" CB)(U8:n4 K xD "names" "Desk.names" wA)(U7:n4 K xD "say" "Desk.say" Li)(dl:dG K "law" vM){c0 P0:Addr}(ht:W.tabIn K "state_texts" = some (c0,P0))(z1:W.nsIn K mainGlobals "len" = some none)(z2:W.nsIn K mainGlobals "range" = some none)(z3:W.nsIn K mainGlobals "isinstance" = some none)(z4:W.nsIn K mainGlobals "int" = some none)(z5:W.nsIn K mainGlobals "bool" = some none)(z6:W.nsIn K mainGlobals "list" = some none)(z7:W.nsIn K mainGlobals "tuple" = some none)(z8:W.nsIn K mainGlobals "str" = some none)(z9:W.nsIn K mainGlobals "all" = some none)(Ti:W.nsIn K mainGlobals "max" = some none)(Th:W.nsIn K mainGlobals "min" = some none)(Tg:W.nsIn K mainGlobals "enumerate" = some none)(Tf:W.nsIn K mainGlobals "sorted" = some none)(Td:W.nsIn K mainGlobals "set" = some none)(Tc:W.nsIn K mainGlobals "ValueError" = some none)(Tu:∃tk,W.nsIn K mainGlobals "FIGURES" = some (some (.str Ck tk)))(Tt:∃tk,W.nsIn K mainGlobals "SMALL_LETTERS" = some (some (.str qc tk)))(Ts:∃tk,W.nsIn K mainGlobals "NOTHING" = some (some (.str "-" tk)))(Tr:∃tk,W.nsIn K mainGlobals "NONE" = some (some (.str "none" tk)))(Tp:∃tk,W.nsIn K mainGlobals "LONGEST_NAME" = some (some (.int 8 tk)))(Tv:xb K "LENGTHS" tL){xB:Addr}(hB:W.nsIn K mainGlobals "BeatError" = some (some (.ref xB)))(xW:Cp K xB){C7:Addr}(iQ:Co K xB C7 "NoRow" 6)(me:gR K C7){yE:Addr}(fJ:Co K xB yE "NoName" 5)(jC:gR K yE){yD:Addr}(fH:Co K xB yD "NoText" 4)(jB:gR K yD){yF:Addr}(fK:Co K xB yF "NoCode" 1)(jD:gR K yF){kU:Addr}(fG:Co K xB kU "NoWire" 7)(f9:Vu K kU)(jF:Cn K kU)(jE:W.keepIn K (.ref kU)=true):∃fd:FuncData,(∀(s:Shared)(v:Value),BindsTo s fd ⟨[v],[]⟩ [("script",v)])/\∀base:Heap,K.In base->base.Ns mainGlobals mg->Maker mg base c0 P0->cU l.prog w K mg base kR 12 fa fd ["script"] (tI P0 K):=by refine az λak=>?_;obtain⟨d1,d2,d3,d4,d5,d6,d7,d8,d9,d10,d11,d12,d13,d14,d15,d16,d17,d18,d19,d20,d21,d22,d23,d24,d25,d26,d27,d28,d29,d30,d31,d32,d33,d34,d35,d36,d37,d38,d39,d43,d44,d45,d46,d47,d48,d49,d50,d51,d52,d53,d54,d55,d56,d57,d58,d59,_⟩:=ds;obtain⟨f,oc,od,an,fW,kV,dc,pm,cd,ct,h1,h2,h3,h4⟩:=dl;refine ak ?_;clear ak;have e:=hfa.symm.trans (ab7 X G h1);cases e;have F:=wZ (st:=vM) h2 h3 h4;refine⟨W.fnOf "law" "law" (aU vM) (ay vM) (ae vM) .none kV dc pm an cd ct,λs v=>.of_eq rfl,λbase _ _ M=>?_⟩;have bY:=abj X G z1;have dH:=abj X G z2;have aB:=abj X G z3;have J7:=abj X G z4;have LS:=abj X G z5;have jo:=abj X G z6;have kT:=abj X G z7;have lR:=abj X G z8;have ym:=abj X G z9;have J6:=abj X G Ti;have QI:=abj X G Th;have dP:=abj X G Tg;have md:=abj X G Tf;have QH:=abj X G Td;have rT:=abj X G Tc;have Aj:∃tk,mg "FIGURES" = some (.str Ck tk):=let⟨tk,h⟩:=Tu;⟨tk,ab7 X G h⟩;have kN:∃tk,mg "SMALL_LETTERS" = some (.str qc tk):=let⟨tk,h⟩:=Tt;⟨tk,ab7 X G h⟩;have oM:∃tk,mg "NOTHING" = some (.str "-" tk):=let⟨tk,h⟩:=Ts;⟨tk,ab7 X G h⟩;have LY:∃tk,mg "NONE" = some (.str "none" tk):=let⟨tk,h⟩:=Tr;⟨tk,ab7 X G h⟩;have nC:∃tk,mg "LONGEST_NAME" = some (.int 8 tk):=let⟨tk,h⟩:=Tp;⟨tk,ab7 X G h⟩;have kz:=ab7 X G hB;have IF:=ab7 X G iQ.h;have Ft:=iQ.kk X G;have RZ:=iQ.e;have Fm:=ab7 X G fJ.h;have O3:=fJ.kk X G;have OY:=fJ.e;have Fl:=ab7 X G fH.h;have O2:=fH.kk X G;have OX:=fH.e;have Fo:=ab7 X G fK.h;have A7:=fK.kk X G;have Ad:=fK.e;have Fj:=ab7 X G fG.h;have O1:=fG.kk X G;have OW:=fG.e;have AY:=Rj (P:=l.prog) (w:=w) (base:=base) f9 xW jF kz Fj jE;obtain⟨O4,Og,OZ,_,_⟩:=f9;obtain⟨aT1,xn⟩:=QK X G Tv;have mD:=ab7 X G hD;have U3:=dk.cl;have zD:=EK (P:=l.prog) (w:=w) (base:=base) (bZ d1 X G (λ_ _ _ _ _ _ _=>rfl)) aB J7 LS;have mT:=AK (P:=l.prog) (w:=w) (base:=base) (gQ d2 X G (λ_ _ _ _ _ _ _ _ _=>rfl)) zD;have Ed:=Ie (P:=l.prog) (w:=w) (base:=base) (bU d3 X G (λ_ _ _ _ _ _ _ _=>rfl)) aB lR bY;have RV:=MV (P:=l.prog) (w:=w) (base:=base) (gQ d4 X G (λ_ _ _ _ _ _ _ _ _=>rfl)) aB kT bY Ed mT;have Js:=EN (P:=l.prog) (w:=w) (base:=base) (RM d5 X G (λ_ _ _ _ _ _ _ _ _ _=>rfl)) aB jo ym bY RV;have N8:=Iq (P:=l.prog) (w:=w) (base:=base) (bZ d6 X G (λ_ _ _ _ _ _ _=>rfl)) aB jo ym bY kT mT Js;have KL:=MW (P:=l.prog) (w:=w) (base:=base) (bZ d7 X G (λ_ _ _ _ _ _ _=>rfl)) bY Aj;have Jw:=ET (P:=l.prog) (w:=w) (base:=base) (bZ d8 X G (λ_ _ _ _ _ _ _=>rfl)) kT KL;have BA:=xI (P:=l.prog) (w:=w) (base:=base) (bZ d9 X G (λ_ _ _ _ _ _ _=>rfl)) Jw;have FZ:=AR (P:=l.prog) (w:=w) (base:=base) (bZ d10 X G (λ_ _ _ _ _ _ _=>rfl)) kT KL BA;have x9:=uV (P:=l.prog) (w:=w) (base:=base) (bZ d11 X G (λ_ _ _ _ _ _ _=>rfl)) aB lR FZ N8 jB Fl;have FX:=AO (P:=l.prog) (w:=w) (base:=base) (bU d12 X G (λ_ _ _ _ _ _ _ _=>rfl)) zD;have pH:=xM (P:=l.prog) (w:=w) (base:=base) (bU d13 X G (λ_ _ _ _ _ _ _ _=>rfl)) aB jo ym FX;have N2:=Ih (P:=l.prog) (w:=w) (base:=base) (gQ d14 X G (λ_ _ _ _ _ _ _ _ _=>rfl)) pH;have ya:=uW (P:=l.prog) (w:=w) (base:=base) (bZ d15 X G (λ_ _ _ _ _ _ _=>rfl));have BB:=xK (P:=l.prog) (w:=w) (base:=base) (bU d16 X G (λ_ _ _ _ _ _ _ _=>rfl)) aB jo ym bY dH mT ya;have VC:=bU d17 X G (λ_ _ _ _ _ _ _ _=>rfl);have RU:=MT (P:=l.prog) (w:=w) (base:=base) (PZ.of d18 ht X G (λkV doc pm an aA ct us hl=>match us,hl with | [_],_=>rfl)) VC bY dP M;have pG:=xJ (P:=l.prog) (w:=w) (base:=base) (bZ d19 X G (λ_ _ _ _ _ _ _=>rfl)) md RU;have uO:=AN (P:=l.prog) (w:=w) (base:=base) (gQ d20 X G (λ_ _ _ _ _ _ _ _ _=>rfl)) dP;have JA:=EY (P:=l.prog) (w:=w) (base:=base) (bU d21 X G (λ_ _ _ _ _ _ _ _=>rfl)) uO;have WE:=Rh (P:=l.prog) (w:=w) (base:=base) (bZ d22 X G (λ_ _ _ _ _ _ _=>rfl)) pG uO;have Jy:=EV (P:=l.prog) (w:=w) (base:=base) (bU d23 X G (λ_ _ _ _ _ _ _ _=>rfl));have FY:=AQ (P:=l.prog) (w:=w) (base:=base) (bU d24 X G (λ_ _ _ _ _ _ _ _=>rfl)) bY Jy;have JD:=E2 (P:=l.prog) (w:=w) (base:=base) (bU d25 X G (λ_ _ _ _ _ _ _ _=>rfl)) bY;have Ef:=Il (P:=l.prog) (w:=w) (base:=base) (bZ d26 X G (λ_ _ _ _ _ _ _=>rfl)) bY JA pG FY WE JD;have By:=xF (P:=l.prog) (w:=w) (base:=base) (bU d27 X G (λ_ _ _ _ _ _ _ _=>rfl)) dH bY;have JB:=EZ (P:=l.prog) (w:=w) (base:=base) (bU d28 X G (λ_ _ _ _ _ _ _ _=>rfl)) aB lR By;have FW:=AM (P:=l.prog) (w:=w) (base:=base) (bZ d29 X G (λ_ _ _ _ _ _ _=>rfl)) bY QH;have Jz:=EX (P:=l.prog) (w:=w) (base:=base) (gQ d30 X G (λ_ _ _ _ _ _ _ _ _=>rfl)) dP;have QB:=Rg (P:=l.prog) (w:=w) (base:=base) (bU d31 X G (λ_ _ _ _ _ _ _ _=>rfl)) dP Ef JB Jz FW AY jD Fo;have F2:=AU (P:=l.prog) (w:=w) (base:=base) (bU d32 X G (λ_ _ _ _ _ _ _ _=>rfl)) dH pH;have F3:=AV (P:=l.prog) (w:=w) (base:=base) (bU d33 X G (λ_ _ _ _ _ _ _ _=>rfl));have sL:=og (P:=l.prog) (w:=w) (base:=base) (gQ d34 X G (λ_ _ _ _ _ _ _ _ _=>rfl)) J7 oM LY N2 BB lR F2 QB;have N4:=Ik (P:=l.prog) (w:=w) (base:=base) (bZ d35 X G (λ_ _ _ _ _ _ _=>rfl)) bY kN nC;have Jt:=EO (P:=l.prog) (w:=w) (base:=base) (bZ d36 X G (λ_ _ _ _ _ _ _=>rfl)) bY Ed;have N6:=Io (P:=l.prog) (w:=w) (base:=base) (bU d37 X G (λ_ _ _ _ _ _ _ _=>rfl)) oM xn Jt;have yc:=uY (P:=l.prog) (w:=w) (base:=base) (bZ d38 X G (λ_ _ _ _ _ _ _=>rfl)) bY N4 N6;have Bz:=xG (P:=l.prog) (w:=w) (base:=base) (bZ d39 X G (λ_ _ _ _ _ _ _=>rfl)) aB lR yc me IF;have N5:=Im (P:=l.prog) (w:=w) (mg:=mg) (base:=base) (U9.Ud λkV doc pm an aA ct us hl=>match us,hl with | [_],_=>rfl) dk;have Jx:=EU (P:=l.prog) (w:=w) (mg:=mg) (base:=base) (U8.Ud λkV doc pm an aA ct us hl=>match us,hl with | [_],_=>rfl) md dk;have KJ:=MU (P:=l.prog) (w:=w) (mg:=mg) (base:=base) (U7.Ud λkV doc pm an aA ct us hl=>match us,hl with | [_,_],_=>rfl) bY dk Bz x9 F3 sL jC Fm;have JF:=E4 (P:=l.prog) (w:=w) (base:=base) (bZ d43 X G (λ_ _ _ _ _ _ _=>rfl)) aB rT Ft;have N3:=Ij (P:=l.prog) (w:=w) (base:=base) (bU d44 X G (λ_ _ _ _ _ _ _ _=>rfl)) W3 kz U3 KJ JF;have N9:=Ir (P:=l.prog) (w:=w) (base:=base) (bU d45 X G (λ_ _ _ _ _ _ _ _=>rfl)) bY;have Jr:=EM (P:=l.prog) (w:=w) (base:=base) (bZ d46 X G (λ_ _ _ _ _ _ _=>rfl));have jA:=Ig (P:=l.prog) (w:=w) (base:=base) (bU d47 X G (λ_ _ _ _ _ _ _ _=>rfl));have zC:=EJ (P:=l.prog) (w:=w) (base:=base) (bU d48 X G (λ_ _ _ _ _ _ _ _=>rfl)) dH;have Jq:=EI (P:=l.prog) (w:=w) (base:=base) (bU d49 X G (λ_ _ _ _ _ _ _ _=>rfl)) dH;have F0:=AS (P:=l.prog) (w:=w) (base:=base) (RL d50 X G (λ_ _ _ _ _ _ _ _ _ _ _ _=>rfl)) bY jA zC;have JE:=E3 (P:=l.prog) (w:=w) (base:=base) (bU d51 X G (λ_ _ _ _ _ _ _ _=>rfl)) dH jA zC F0;have Jv:=ES (P:=l.prog) (w:=w) (base:=base) (gQ d52 X G (λ_ _ _ _ _ _ _ _ _=>rfl)) dH bY jA;have Ju:=ER (P:=l.prog) (w:=w) (base:=base) (gQ d53 X G (λ_ _ _ _ _ _ _ _ _=>rfl));have FV:=AL (P:=l.prog) (w:=w) (base:=base) (bZ d54 X G (λ_ _ _ _ _ _ _=>rfl)) lR;have yb:=uX (P:=l.prog) (w:=w) (base:=base) (bU d55 X G (λ_ _ _ _ _ _ _ _=>rfl)) Jq;have N7:=Ip (P:=l.prog) (w:=w) (base:=base) (bZ d56 X G (λ_ _ _ _ _ _ _=>rfl));have JC:=E1 (P:=l.prog) (w:=w) (base:=base) (bZ d57 X G (λ_ _ _ _ _ _ _=>rfl)) jA;have Ee:=Ii (P:=l.prog) (w:=w) (base:=base) (gQ d58 X G (λ_ _ _ _ _ _ _ _ _=>rfl)) W3 aB lR U3 KJ;have JG:=E5 (P:=l.prog) (w:=w) (base:=base) (gQ d59 X G (λ_ _ _ _ _ _ _ _ _=>rfl)) jo bY J6 jA Jv Ju N7 yb Ee N3 Ef QB A7 Ad;exact MX F dH bY QI J6 md aB jo N9 Jr jA JC JE Ee FV JG dk U3 N5 Pe Pd mD Jx
theorem walk{l:W.OpenLaw}{q:Program}{loose:List Str}{XP:(Str->Option Value)->Heap->Prop}{YP:World->Heap->Prop}{d:DefRec}{K:Params->W.Frag}{c0 P0:Addr}(hn:l.most=some 63)(PB:d.params.defaults=[])(hY:∀(w:World)(h:Heap),YP w h->(K w.params).In h)(Po:∀w:World,W.noTabs (K w.params)=true)(Ox:∀(w:World)(h:Heap),YP w h->h.get? P0=some (W.tabObj #[]))(gW:∀w:World,W.codeHdIn (K w.params) c0 P0=true)(ht0:∀w:World,W.tabIn (K w.params) "state_texts" = some (c0,P0))(F:∀(w:World)(mg:Str->Option Value)(fa:Addr)(h:Heap),(K w.params).In h->h.Ns mainGlobals mg->mg d.name=some (.ref fa) → ∃fd:FuncData,(∀(s:Shared)(u:Value),BindsTo s fd ⟨[u],[]⟩ [("script",u)])/\∀base:Heap,(K w.params).In base->base.Ns mainGlobals mg->Maker mg base c0 P0->cU l.prog w (K w.params) mg base kR 12 fa fd ["script"] (tI P0 (K w.params))):W.WalkO q loose XP YP l.row.toRowW d [] (λf vs=>PySem.call f vs):=
 L2.Ei (n:=63) (k:=12) (x:= "script") (CX:=λ_=>kR) (sp:=λw=>tI P0 (K w.params)) hn (by decide) PB ⟨rfl,by decide,by decide⟩ hY Po Ox gW F (λ_ _ a ns hl hT hS=>⟨ns,hS,hl,.inl hT,λ_=>rfl⟩) λ_ _ _ _ _ z=>z
end K64
open PySem PySem.W PyProof.Rows
local macro_rules|`(tactic|walk_at"r")=>`(tactic|((refine' K64.N1 ?a1 ?a2);(case a1=>k_is);(case a2=>kernel_rfl)))
local macro_rules|`(tactic|walk_at"s")=>`(tactic|((refine' K64.Co.mk ?h ?z ?e ⟨?q0,?q1,?q2,?q3,?q4,?q5,?q6,?q7⟩ ?v);(case h=>k_is);(case z=>((refine' K64.Hg ?a1 ?a2 ?a3 ?a4 ?a5 ?a6 ?a7 ?a8);(case a1=>k_is);(case a2=>k_is);(case a3=>k_is);(case a4=>kernel_rfl);(case a5=>k_is);(case a6=>k_is);(case a7=>k_is);(case a8=>k_is)));(case e=>kernel_rfl);(case q0=>walk_at"r");(case q1=>walk_at"r");(case q2=>walk_at"r");(case q3=>walk_at"r");(case q4=>walk_at"r");(case q5=>walk_at"r");(case q6=>walk_at"r");(case q7=>walk_at"r");(case v=>kernel_rfl)))
local macro_rules|`(tactic|walk_at"z")=>`(tactic|((refine' L2.dG.mk ?a ?l ?c ?k);(case a=>k_is);(case l=>k_is);(case c=>k_is);(case k=>k_is)))
set_option maxRecDepth 100000 in
set_option maxHeartbeats 0 in
theorem PySem.Challenge.cw_ownbeat_k64_sent_and_read_at_a_desk_holds : PySem.Challenge.rw_ownbeat_k64_sent_and_read_at_a_desk.Holds := by
 w_on;o_law
 refine PySem.W.holds_open (q:=KH.V) (loose:=[]) (Xt:=(λs=>xlAt KH.V [] s&&recOk (RowW.records (OpenRow.toRowW KH.Rw.row)) s)) (N:=10354) (XP:=PySem.W.XL KH.V []) (Yf:=PySem.W.Hook.obs KH.hk) (Ya:=PySem.W.Hook.val KH.hk) (YP:=PySem.W.Hook.says KH.hk) ?hl (PySem.W.Hook.of KH.hk) (PySem.W.Hook.keeps KH.hk) (λs e=>PySem.W.xl_of s (Bool.and_eq_true_iff.mp e).1) PySem.W.XL.keeps (by rfl) (by rfl) (by rfl) (λs e=>PySem.W.recFacts_of (Bool.and_eq_true_iff.mp e).2) (by rfl) (by first|assumption|decide +kernel) (by decide +kernel) ⟨rfl,rfl,rfl,rfl,rfl,by decide +kernel⟩ ?hw ?hc
 (case hl=>exact KH.HL)
 (case hw=>w_witness2)
 delta KH.hk
 k_fill
 refine' K64.walk (l:=PySem.Challenge.rw_ownbeat_k64_sent_and_read_at_a_desk) rfl rfl (λw h Y=>PySem.W.km_in_of Y) ?nt ?tb ?cd ?t0 ?F
 (case t0=>intro w;exact rfl)
 (case nt=>intro w;exact rfl)
 (case tb=>intro w h Y;exact PySem.W.km_tabs_of Y _ (by decide))
 (case cd=>intro w;exact rfl)
 case F=>
  intro w mg fa h KX G Pq;refine' K64.all_mk KX G Pq ?ds ?hD ?dk ?Pe ?Pd ?U9 ?U8 ?U7 ?dl (by exact rfl) ?z1 ?z2 ?z3 ?z4 ?z5 ?z6 ?z7 ?z8 ?z9 ?Ti ?Th ?Tg ?Tf ?Td ?Tc ?Tu ?Tt ?Ts ?Tr ?Tp ?Tv ?hB ?xW ?iQ ?me ?fJ ?jC ?fH ?jB ?fK ?jD ?fG ?f9 ?jF ?jE
  (case ds=>repeat' (first|exact trivial|refine' K64.OV.cons ?_ ?_|walk_at"z"))
  (case hD=>k_is)
  (case dk=>((refine' K64.FK ?a1 ?a2 ?a3 ?a4 ?a5);(case a1=>k_is);(case a2=>k_is);(case a3=>k_is);(case a4=>k_is);(case a5=>k_is)))
  (case Pe=>k_is)
  (case Pd=>k_is)
  (case U9=>((refine' K64.n4.mk ?a ?l ?c ?k ?i);(case a=>k_is);(case l=>k_is);(case c=>k_is);(case k=>k_is);(case i=>k_is)))
  (case U8=>((refine' K64.n4.mk ?a ?l ?c ?k ?i);(case a=>k_is);(case l=>k_is);(case c=>k_is);(case k=>k_is);(case i=>k_is)))
  (case U7=>((refine' K64.n4.mk ?a ?l ?c ?k ?i);(case a=>k_is);(case l=>k_is);(case c=>k_is);(case k=>k_is);(case i=>k_is)))
  (case dl=>walk_at"z")
  (case z1=>k_is)
  (case z2=>k_is)
  (case z3=>k_is)
  (case z4=>k_is)
  (case z5=>k_is)
  (case z6=>k_is)
  (case z7=>k_is)
  (case z8=>k_is)
  (case z9=>k_is)
  (case Ti=>k_is)
  (case Th=>k_is)
  (case Tg=>k_is)
  (case Tf=>k_is)
  (case Td=>k_is)
  (case Tc=>k_is)
  (case Tu=>((refine' L2.yn ?hx ?ex);(case hx=>k_is);(case ex=>rfl)))
  (case Tt=>((refine' L2.yn ?hx ?ex);(case hx=>k_is);(case ex=>rfl)))
  (case Ts=>((refine' L2.yn ?hx ?ex);(case hx=>k_is);(case ex=>rfl)))
  (case Tr=>((refine' L2.yn ?hx ?ex);(case hx=>k_is);(case ex=>rfl)))
  (case Tp=>((refine' L2.Ri ?hx ?ex);(case hx=>k_is);(case ex=>rfl)))
  (case Tv=>((refine' K64.QL ?hx ?ex ?l ?c ?d ?z ?r);(case hx=>k_is);(case ex=>rfl);(case l=>k_is);(case c=>rfl);(case d=>rfl);(case z=>decide);(case r=>repeat' (first|exact .nil|refine' .cons ⟨_,rfl⟩ ?_))))
  (case hB=>k_is)
  (case xW=>((refine' K64.Jb ?a1 ?a2 ?a3);(case a1=>k_is);(case a2=>k_is);(case a3=>k_is)))
  (case iQ=>walk_at"s")
  (case me=>((refine' K64.qp ?a1 ?a2 ?a3 ?a4 ?a5 ?a6 ?a7 ?a8);(case a1=>k_is);(case a2=>k_is);(case a3=>kernel_rfl);(case a4=>kernel_rfl);(case a5=>k_is);(case a6=>k_is);(case a7=>kernel_rfl);(case a8=>kernel_rfl)))
  (case fJ=>walk_at"s")
  (case jC=>((refine' K64.qp ?a1 ?a2 ?a3 ?a4 ?a5 ?a6 ?a7 ?a8);(case a1=>k_is);(case a2=>k_is);(case a3=>kernel_rfl);(case a4=>kernel_rfl);(case a5=>k_is);(case a6=>k_is);(case a7=>kernel_rfl);(case a8=>kernel_rfl)))
  (case fH=>walk_at"s")
  (case jB=>((refine' K64.qp ?a1 ?a2 ?a3 ?a4 ?a5 ?a6 ?a7 ?a8);(case a1=>k_is);(case a2=>k_is);(case a3=>kernel_rfl);(case a4=>kernel_rfl);(case a5=>k_is);(case a6=>k_is);(case a7=>kernel_rfl);(case a8=>kernel_rfl)))
  (case fK=>walk_at"s")
  (case jD=>((refine' K64.qp ?a1 ?a2 ?a3 ?a4 ?a5 ?a6 ?a7 ?a8);(case a1=>k_is);(case a2=>k_is);(case a3=>kernel_rfl);(case a4=>kernel_rfl);(case a5=>k_is);(case a6=>k_is);(case a7=>kernel_rfl);(case a8=>kernel_rfl)))
  (case fG=>walk_at"s")
  (case f9=>((refine' K64.Rk ?a1 ?a2 ?a3 ?a4 ?a5 ?a6 ?a7 ?a8 ?b1 ?b2 ?b3 ?b4);(case a1=>k_is);(case a2=>k_is);(case a3=>kernel_rfl);(case a4=>k_is);(case a5=>k_is);(case a6=>k_is);(case a7=>kernel_rfl);(case a8=>kernel_rfl);(case b1=>k_is);(case b2=>rfl);(case b3=>k_is);(case b4=>k_is)))
  (case jF=>((refine' K64.Ja ?a1 ?a2);(case a1=>k_is);(case a2=>k_is)))
  (case jE=>k_is)
end
end
