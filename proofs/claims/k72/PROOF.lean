import PyProof.Rows.All
import Wide.All
import OpenK.AllK
import Wide.FinOn
import Lean
import PyProof.EqAt
import PyProof.EqKinds
import PyProof.NeKinds
import PyProof.TupleCall
import OpenK.KOwn
import PyProof.WalkInts
import KE.KIsAll
import KE.RegKIsAll
import PyProof.ExcAttrAll.ValueError
import OpenK.KMake
import PyProof.ExcInit
import PySem.Challenge.RW_loopgyre_k72_whole_books_turned
open PySem renaming Scope→GR,Params→GS,Program→GT,Shared→GU,World→GV,treeTable→GW,hashStr→GX,Paired→GY,Heap→GZ,sysModules→G6,entryOfKey→G7,tupleKind→G8,intKind→G9,mainGlobals→Ha,bootBuiltins→Hb,Around→Hc,wpAny→He,model→Hf,backTo→Hg,starEach→Hh,wpAny_mono→Hi,wpAny_loadName_local→Hj,wpAny_loadName_cell→Hk,wpAny_truthy_bool→Hl,wpAny_execs_nil→Hm,swapsWith→Hn,assignEach→Ho,setItem→Hq,Operator→Hr,wpAny_bind→Hs,wpAny_holding→Ht,wpAny_standAt→Hu,wpAny_passesOwn→Hv,pyNext→Hw,letOwnedTupleGo→Hx,wpAny_pure→Hy,rawInt→Hz,foldedSetIterable→HA,binaryOp→HB,compareOp→HC,CmpOp→HD,behindInMarks→HE,cLine→HF,FuncData→HG,codeAny→HH,codeAny_mono→HI,wpAny_Call_Name_kw→HJ,NameKind→HK,bindL→HL,bindC→HM,cellsFrom→HP,concat_meets→HQ,noFill_tuple_add→HR,seq_tuple_add→HS,seqIndex_of→HU,seqIndex_neg→HV,attributeBase→HX,backToKw→HY,keywordEach→HZ,Keyword→H0,wpAny_Call_method_late→Ia,call_meets→Ib,callerA→Ie,pushCells→Ig,pushCells_keeps→Ih,newFunctionEnv→Ii,relabel→Ij,notedBy→Ik,wpAny_comprehension_free→Il,wpAny_newObj_type→Im,wpAny_rule→Io,putAt→Ip,wpAny_callSpecial?_slot→Iq,wpAny_call_entry→Ir,wpAny_notOrdered_dict→Iu,IsTupleKey→Iv,atKey→Iw,wpAny_forIn_list→Ix,wpAny_dictEntries→Iy,wpAny_dictEpoch→Iz,wpAny_loadPart'→IA,wpAny_attempt→IR,valueAt→IX,wpAny_pyIter_keyiter→IY,wpAny_setField→IZ,wpAny_typeNameOfWhole_keyiter→Ja,wpAny_fieldsOf→Jb,wpAny_isOneOf_keyiter→Jc,wpAny_typeNameOfWhole_valiter→Jd,wpAny_isOneOf_valiter→Je
open PyProof.Rows renaming AllBare→Hd,envOfC→HN,subscriptTail_builtinR→HW,IntsAre→Ic,minRun'→IB,SortKind→IC,KeyOrd→ID,SortSt→IE,wpS_pure→IF,wpS_bind→IG,wpS_mono→IH,wpS_forRange→II,arrOf→IJ,pendingOf→IK,failedOf→IL,wpS_lift→IM,wpS_get→IN,wpS_modify→IP,gallopOf→IQ,seqObj→IS,listUpdate_at→IT,get?_update_seq→IU,seqEpoch_at→IV,sortedAll→IW
open List renaming getElem?_eq_some_iff→Qa,getElem?_append_right→Qc,getElem?_append_left→Qd,mem_cons_of_mem→Qh,append_assoc→Qj,mem_cons→Qk,mem_append→Ql,mem_of_getElem?→Qm,nodup_append→Qn,getElem?_take_of_lt→Qo,getElem?_set_ne→Qp,getElem?_of_mem→Qq,mem_singleton→Qr,mem_append_right→Qt,getElem?_map→Qu,getElem?_eq_none→Qx,size_toArray→Qy,getElem?_eq_getElem→Qz,nodup_cons→QA,getElem?_set→QD,take_append_drop→QE,length_append→QF,replicate→QJ,nodup_nil→QK,getD_eq_getElem?_getD→QL,drop_eq_getElem_cons→QM,length_map→QN,length_take→QQ,mem_cons_self→QR,lookup_cons→QU,getElem?_eq_none_iff→QV,append_nil→QW,flatten_cons→QX,map_cons→Q2,mem_append_left→Q3,getElem?_drop→Q4,mem_of_mem_take→Q5,getElem?_set_self→Q7,replicate_succ→Q8,take_append_of_le_length→Q9,take_sublist→Wa,drop_sublist→Wb,pairwise_iff_getElem→We,extract_eq_take_drop→Wf,perm_append_comm→Wh,not_mem_nil→Wi,mem_of_mem_drop→Wl,reverse_cons→Wm,range→Wn,take_of_length_le→Wo,all_eq_true→Wp,pairwise_cons→Wq,drop_drop→Wu,zip_cons_cons→Wx,drop_eq_nil_of_le→Wy,nil_append→Wz,length_set→WA,Perm→WB,length_cons→WE,cons_append→WF,reverse_append→WH,set_eq_of_length_le→WJ,find?_cons→WK,all_append→WL,pairwise_map→WP,mem_map→WQ,ext_getElem?→WR,length_drop→WT,getElem_inj→WU,drop_length→WV,any_eq_true→WW,all_cons→WX,mem_iff_getElem→WY,map_append→WZ,any_cons→W9,take_length→Vc,getElem?_replicate→Vd,range_succ_eq_map→Vf,length_take_of_le→Vg,set_append_right→Vk,getElem?_reverse→Vm,drop_zero→Vp,flatten_append→Vq,filterMap_cons→Vr,mem_filterMap→Vv,ext_getElem→Vy,drop_append→Vz,eq_nil_of_length_eq_zero→VB,drop_append_of_le_length→VC,of_mem_zip→VD,mem_filter→VE,length_zip→VF,foldl→VI,getElem?_zip_eq_some→VL,map_map→VR,flatten_singleton→VS
open PySem.W renaming Frag→Qb,nsIn→QO,kia_one→QZ,kitOne→Wt,fnOf→WD,keepIn→WM,mg_of→W5,cellsFrom_some→Vb,codeIn→Vh,methodObj→Vs,kitx_list→Vt,kitx_dict→Vu,instObj→Vw,lookIn→VA,WalkO→VG
open PySem.Heap renaming get?_push_of_some→Qe,lt_size→Qi,get?_push_size→Qw,SameBut→Wc,get?_update_self→WC,get?_update_ne→WI,size_update→Ve,size_push→VJ,get?_update_other→VT
open Nat renaming le_refl→Qf,lt_of_lt_of_le→Qg,le_trans→Qs,ne_of_lt→QI,lt_succ_self→Wj,lt_irrefl→Wk,lt_succ_of_lt→Ws,le_add_right→Wv,zero_le→Ww,zero_add→WS,ne_of_gt→W2,le_of_lt→W3,le_succ→W8,le_of_eq→Vx,add_assoc→VN,add_sub_cancel_left→VQ
open Option renaming bind_eq_some_iff→Qv,map_eq_some_iff→QG,map_some→QP,bind_some→Q6,getD_some→Wg,isSome_iff_exists→WG,bind→VP
open Bool renaming and_eq_true_iff→QB,and_eq_true→QH,false_ne_true→QS,false_eq_true→QT,or_eq_true→W0,not_eq_true'→W7,eq_iff_iff→Vi,beq_eq_decide_eq→Vn
open Array renaming getElem?_toList→QC,getD_eq_getD_getElem?→QY,length_toList→Q0,toList_extract→Wr,toList_push→WN,toList→WO,toList_append→W1,getElem?_eq_some_iff→W4,getElem?_eq_getElem→W6,mem_of_getElem?→Vj,mem_toList_iff→Vo,toList_setIfInBounds→VH,getElem?_eq_none→VO
open Int renaming toNat_natCast→Va,fdiv_eq_ediv_of_nonneg→VM
set_option Elab.async false
set_option linter.all false
set_option maxRecDepth 100000
set_option genSizeOf false
set_option maxHeartbeats 0
set_option tactic.hygienic false
set_option bootstrap.genMatcherCode false
set_option compiler.extract_closed false
set_option backward.eqns.nonrecursive false
set_option backward.eqns.deepRecursiveSplit false
noncomputable section
noncomputable def Jf.{u,v}:=@congrArg.{u,v}
noncomputable def Jg:=@decide_eq_false
noncomputable def Jh.{u}:=@if_pos.{u}
noncomputable def Ji.{u}:=@if_neg.{u}
noncomputable def Jj.{u}:=@absurd.{u}
noncomputable def Jk:=@decide_eq_true
noncomputable def Jl:=@of_decide_eq_true
noncomputable def Jm:=@decide_eq_true_eq
namespace L2
open PySem PySem.Spec PyProof.Rows
noncomputable def y8(s:Stmt):Arguments:=match s with
 |.FunctionDef _ a _ _ _ _ _ _ _ _=>a
 |_=>{posonlyargs:=[],args:=[],vararg:=none,kwonlyargs:=[],kw_defaults:=[],kwarg:=none,defaults:=[]}
noncomputable def yF(s:Stmt):List Stmt:=match s with
 |.FunctionDef _ _ b _ _ _ _ _ _ _=>b
 |_=>[]
noncomputable def zF(s:Stmt):GR:=match s with
 |.FunctionDef _ _ _ _ _ _ sc _ _ _=>sc
 |_=>{kind:=.function,names:=[],isGenerator:=false,isCoroutine:=false}
end L2
namespace R72
open PySem L2 PySem.W
noncomputable def top(i:Nat):Stmt:=PySem.Challenge.pw_loopgyre_k72_whole_books_turned.main.body.getD i (.Pass ⟨0,0,0,0⟩)
noncomputable def cD(l:List Value):Obj:=⟨.type "tuple",none,.seq l.toArray 0,#[]⟩
noncomputable def fg(l:List Value):Obj:=⟨.none,none,.fields l.toArray,#[]⟩
noncomputable def fU(s:String) (v:Value):Obj:=⟨.type "builtin_function_or_method",none,.fields #[.builtin s,v],#[]⟩
noncomputable def iR(a b:Nat) (v:Value):Obj:=⟨.type "frame",none,.plain,#[some (.ref a),some (.ref 3),some (.ref b),none,some v,none,some (.ref 0)]⟩
noncomputable def eK(P:GS) (e:Nat) (l:List (Str×Nat×Value)):Obj:=⟨.type "dict",none,.dict (l.map λx=>⟨PyData.keyHash P x.1,.str x.1 x.2.1,x.2.2⟩).toArray e,#[]⟩
noncomputable def fh(s q:Str) (t l n f a:Nat) (z:Bool) (b:Nat) (c d e:Value) (u:Nat):Obj:=⟨.type "code",none,.fields #[.str s t,.str q (t+1),.str "/claim/cut.py" (t+2),.int l 0,.int n 0,.int 0 0,.int 0 0,.int f 0,.ref a,.bool z,.int 181 0,.ref b,.none,c,d,e,.int u 0,.int l 0,.str "/claim/cut.py" (u+1)],#[]⟩
noncomputable def r6(n q:Str) (d:Stmt):Obj:=⟨.none,none,.func {name:=n,qualname:=q,params:=y8 d,body:=.stmts (yF d),scope:=zF d,globals:=0,closure:=[],defaults:=.none,kwdefaults:=.none},#[]⟩
noncomputable def iS(n q:Str) (d:Stmt) (m:Value) (c:Addr):Obj:=⟨.type "function",none,.func (fnOf n q (y8 d) (yF d) (zF d) .none .none .none m none (.ref c) .none),#[]⟩
noncomputable def Ey(t:Nat) (l:List Str):List Value:=(l.zipIdx t).map λx=>.str x.1 x.2
noncomputable def br(m:Value) (a t i:Nat):List Obj×List (Str×Nat×Value)×List Value:=match top i with
 |.FunctionDef n g b _ _ _ c _ _ p=>
  let d:=top i
  let v:=c.names.filterMap λx=>match x.2 with |.local=>some x.1|_=>none
  if c.more.isEmpty then([cD [],fg [],cD (Ey (t+3) v),cD [],r6 n n d,fh n n t p.line g.args.length 3 a true (a+1) (.ref (a+2)) (.ref (a+3)) (.ref (a+4)) (t+3+v.length),iS n n d m (a+5)],[(n,t+5+v.length,.ref (a+6))],[.int p.line 0,.int p.col 0,.ref (a+5)])
  else([cD [],fg [],r6 n n d,fh n n t p.line g.args.length 3 a true (a+1) .none .none (.ref (a+2)) (t+3),iS n n d m (a+3)],[(n,t+5,.ref (a+4))],[.int p.line 0,.int p.col 0,.ref (a+3)])
 |_=>([],[],[])
noncomputable def Ez(P:GS) (m:Value) (a t i:Nat):List Obj×List (Str×Nat×Value)×List Value:=match top i with
 |.ClassDef n _ _ _ _ _ _ _ _ _ p=>
  let k (l:List (Str×Nat×Value)):List (Str×Nat×Value):=.cons ("__module__",t+7,m) (.append l [("__firstlineno__",t+11,.int p.line (t+10)),("__static_attributes__",t+12,.ref (a+7))])
  ([cD [.ref 24],fU "type.__prepare__" (.type "type"),eK P 4 (k [("__qualname__",t+9,.str n (t+8))]),cD [],fg [],fh n n (t+2) p.line 0 0 (a+3) false (a+4) .none .none .none (t+5),iR (a+5) (a+2) m,cD [],eK P 2 (.append (k []) [("__doc__",t+13,.none)]),⟨.type "type",none,.cls ⟨n,[.ref 24],[.ref (a+9),.ref 24,.type "ValueError",.type "Exception",.type "BaseException",.type "object"],a+8,n,true,[],[],false,none,false⟩,#[some (.ref a),none,some (.str n t),some (.str n (t+8)),some (.builtin "ValueError.__new__"),some (.bool true)]⟩,⟨.type "super",none,.fields #[.ref (a+9),.ref (a+9),.ref (a+9)],#[]⟩,fU "object.__init_subclass__" (.ref (a+9))],[(n,t+15,.ref (a+9))],[.int p.line 0,.int p.col 0,.ref (a+5)])
 |_=>([],[],[])
noncomputable def m0:Value:=.str "loopgyre.kinds" 223
noncomputable def m1:Value:=.str "loopgyre.floors" 248
noncomputable def m2:Value:=.str "loopgyre.signs" 298
noncomputable def m3:Value:=.str "loopgyre.arrows" 312
noncomputable def m4:Value:=.str "loopgyre.sides" 336
noncomputable def m5:Value:=.str "loopgyre.links" 365
noncomputable def m6:Value:=.str "loopgyre.webs" 454
noncomputable def m7:Value:=.str "loopgyre.books" 486
noncomputable def m8:Value:=.str "loopgyre.heights" 528
noncomputable def m9:Value:=.str "loopgyre.turns" 567
noncomputable def dO:Value:=.str "loopgyre.gyres" 588
noncomputable def cf:Value:=.str "law_loopgyre_k72_whole_books_turned" 621
noncomputable def mj:Value:=.str "loopgyre.errors" 187
noncomputable def iQ(P:GS):List (List Obj×List (Str×Nat×Value)×List Value):=[([cD [(.type "ValueError")],fU "type.__prepare__" (.type "type"),eK P 4 [("__module__",196,.str "loopgyre.errors" 187),("__qualname__",198,.str "GyreError" 197),("__firstlineno__",200,.int 2 199),("__static_attributes__",201,.ref 22)],cD [],fg [],fh "GyreError" "GyreError" 191 2 0 0 18 false 19 .none .none .none 194,iR 20 17 (.str "loopgyre.errors" 187),cD [],eK P 3 [("__module__",196,.str "loopgyre.errors" 187),("__firstlineno__",200,.int 2 199),("__static_attributes__",201,.ref 22),("__weakref__",203,.ref 25),("__doc__",204,.none)],⟨.type "type",none,.cls ⟨"GyreError",[(.type "ValueError")],[(.ref 24),(.type "ValueError"),(.type "Exception"),(.type "BaseException"),(.type "object")],23,"GyreError",true,[],[(.ref 37)],false,none,false⟩,#[(some (.ref 15)),none,(some (.str "GyreError" 189)),(some (.str "GyreError" 197)),(some (.builtin "ValueError.__new__")),(some (.bool true))]⟩,⟨.type "getset_descriptor",none,.fields #[(.str "__weakref__" 202),(.ref 24),(.builtin "ExceptionGroup.__weakref__"),.none],#[]⟩,⟨.type "super",none,.fields #[(.ref 24),(.ref 24),(.ref 24)],#[]⟩,fU "object.__init_subclass__" (.ref 24)],[("GyreError",206,.ref 24)],[.int 2 0,.int 0 0,.ref 20]),
 Ez P mj 28 207 2,
 br m0 40 225 4,
 br m0 47 232 5,
 br m0 54 240 6,
 br m1 61 250 8,
 br m1 68 259 9,
 br m1 75 269 10,
 br m1 82 279 11,
 br m1 89 287 12,
 br m2 96 300 14,
 br m2 101 306 15,
 br m3 106 314 17,
 br m3 113 324 18,
 br m3 118 330 19,
 br m4 123 338 21,
 br m4 130 345 22,
 br m4 135 351 23,
 br m4 140 357 24,
 ([],[("WALKED",368,.int 1 367)],[]),
 ([eK P 4 [("U",369,.ref 148),("R",373,.ref 149),("D",376,.ref 150),("L",379,.ref 151)],cD [(.int (-1) 371),(.int 0 372)],cD [(.int 0 374),(.int 1 375)],cD [(.int 1 377),(.int 0 378)],cD [(.int 0 380),(.int (-1) 382)]],[("STEPS",387,.ref 147)],[]),
 br m5 152 388 28,
 br m5 159 400 29,
 br m5 164 406 30,
 br m5 171 418 31,
 br m5 178 429 32,
 br m5 185 441 33,
 br m5 190 447 34,
 ([],[("GREATEST_LISTED",457,.int 6 456)],[]),
 br m6 197 458 37,
 br m6 202 464 38,
 br m6 209 477 39,
 ([],[("GREATEST_WALKED",489,.int 5 488)],[]),
 br m7 216 490 42,
 br m7 223 501 43,
 br m7 228 507 44,
 br m7 233 513 45,
 br m7 240 522 46,
 br m8 245 530 48,
 br m8 252 540 49,
 br m8 257 546 50,
 br m8 264 555 51,
 br m8 269 561 52,
 br m9 274 569 54,
 br m9 281 579 55,
 br dO 288 590 57,
 br dO 295 601 58,
 br dO 302 608 59,
 br dO 307 614 60,
 br cf 314 623 62,
 br cf 321 631 63,
 br cf 326 637 64,
 br cf 331 643 65,
 br cf 338 656 66,
 br cf 343 662 67,
 br cf 350 670 68,
 br cf 355 676 69,
 br cf 360 682 70,
 br cf 365 688 71]
noncomputable def r9(P:GS):List Obj:=cD []::fg ((iQ P).flatMap (·.2.2))::fh "<module>" "<module>" 182 1 0 0 11 false 12 .none .none .none 185::iR 13 3 (.str "__main__" 164)::(iQ P).flatMap (·.1)
noncomputable def sd(P:GS):Obj:=eK P 68 (.append [("__name__",165,.str "law_loopgyre_k72_whole_books_turned" 621),("__doc__",166,.none),("__package__",167,.none),("__loader__",168,.builtin "__main__.__loader__#opaque"),("__spec__",169,.none),("__annotations__",170,.ref 6),("__builtins__",171,.ref 4),("__file__",173,.str "/claim/cut.py" 172),("__cached__",174,.none)] ((iQ P).flatMap (·.2.1)))
noncomputable def as:List Addr:=[3,45,46,52,53,59,60,66,67,73,74,80,81,87,88,94,95,99,100,104,105,111,112,116,117,121,122,128,129,133,134,138,139,145,146,147,148,149,150,151,157,158,162,163,169,170,176,177,183,184,188,189,195,196,200,201,207,208,214,215,221,222,226,227,231,232,238,239,243,244,250,251,255,256,262,263,267,268,272,273,279,280,286,287,293,294,300,301,305,306,312,313,319,320,324,325,329,330,336,337,341,342,348,349,353,354,358,359,363,364,370,371]
noncomputable def K(P:GS):Frag:=(3,sd P)::as.tail.map λa=>(a,(r9 P).getD (a-11) (cD []))
noncomputable def qv:GT:={PySem.Challenge.pw_loopgyre_k72_whole_books_turned with main:={PySem.Challenge.pw_loopgyre_k72_whole_books_turned.main with body:=[1,2,4,5,6,8,9,10,11,12,14,15,17,18,19,21,22,23,24,26,27,28,29,30,31,32,33,34,36,37,38,39,41,42,43,44,45,46,48,49,50,51,52,54,55,57,58,59,60,62,63,64,65,66,67,68,69,70,71].map top}}
noncomputable def fZ:List Str:=["STEPS"]
noncomputable def Xt(s:GU):Bool:=xlAt qv [] s&&recOk (RowW.records PySem.Challenge.rw_loopgyre_k72_whole_books_turned.row.toRowW) s
noncomputable def zS(w:GV):GU:=
 let b:=(((fencedOpening GW PySem.Challenge.pw_loopgyre_k72_whole_books_turned w 4502).map λs=>s.heap.objs.toList).getD [])
 {heap:={objs:=(b.take 3 ++ sd w.params::((b.drop 4).take 7 ++ r9 w.params)).toArray},toks:=703}
noncomputable def fT(b:Bool) (w:GV):GV:=w.withFollow "special-get-raises" b
theorem ip(w:GV):openEnds GW PySem.Challenge.pw_loopgyre_k72_whole_books_turned (fT false w) 4502=some (zS w):=by kernel_rfl
theorem io(w:GV):openEnds GW PySem.Challenge.pw_loopgyre_k72_whole_books_turned (fT true w) 4502=some (zS w):=by kernel_rfl
theorem oK(w:GV):openSeen qv fZ (importedModules PySem.Challenge.pw_loopgyre_k72_whole_books_turned.main.body) Xt true (zS w)=openGood qv fZ:=by kernel_rfl
theorem oJ(w:GV):X.obsZ as (zS w)=X.valZ K 372 703 w:=by kernel_rfl
theorem hl:LeftO PySem.Challenge.pw_loopgyre_k72_whole_books_turned qv fZ Xt (X.obsZ as) (X.valZ K 372 703) 4502:=λw=>by
 have e:fT (w.params.followText "special-get-raises") w=w:=World.withFollow_self w "special-get-raises"
 have H:∀ b,openEnds GW PySem.Challenge.pw_loopgyre_k72_whole_books_turned (fT b w) 4502=some (zS w):=by
  intro b;cases b
  .exact ip w
  .exact io w
 have h:=H (w.params.followText "special-get-raises")
 rw [e]at h
 rw [h];exact Jf some (Prod.ext (oK w) (oJ w))
end R72
namespace L2
open PySem PySem.Spec PyProof.Rows
abbrev bv:=Sum Int Str
noncomputable def kx:bv->Value->Bool
 |.inl k,v=>Value.isInt k v
 |.inr x,v=>Value.isStrOf x v
noncomputable def mn(w:GV):bv->Int
 |.inl k=>hashInt k
 |.inr x=>GX w x
def zD:∀{k:bv}{v:Value},kx k v=true->(∃i t,k=Sum.inl i/\v=Value.int i t)\/(∃x t,k=Sum.inr x/\v=Value.str x t)
 |.inl i,v,h=>by
  obtain⟨t,e⟩:=Value.isInt_shape (k:=i) (v:=v) h;exact .inl ⟨i,t,rfl,e⟩
 |.inr x,v,h=>by
  obtain⟨t,e⟩:=Value.isStrOf_shape (x:=x) (v:=v) h;exact .inr ⟨x,t,rfl,e⟩
def Ew(i:Int)(t:Tok):kx (.inl i) (.int i t)=true:=by simp[kx,Value.isInt]
def ky(x:Str)(t:Tok):kx (.inr x) (.str x t)=true:=by simp[kx,Value.isStrOf]
def Ay(a b:Int):decide ((Sum.inl a:bv)=Sum.inl b)=(a==b):=by
 by_cases e:a=b
 .subst e;simp
 .have h:¬(Sum.inl a:bv)=Sum.inl b:=λq=>e (Sum.inl.inj q);rw[Jg h];exact(beq_eq_false_iff_ne.mpr e).symm
def Ax(a b:Str):decide ((Sum.inr a:bv)=Sum.inr b)=decide (a=b):=by
 by_cases e:a=b
 .subst e;simp
 .have h:¬(Sum.inr a:bv)=Sum.inr b:=λq=>e (Sum.inr.inj q);rw[Jg h,Jg e]
def Aw(a:Int)(b:Str):decide ((Sum.inl a:bv)=Sum.inr b)=false:=Jg (λq=>nomatch q)
def Av(a:Str)(b:Int):decide ((Sum.inr a:bv)=Sum.inl b)=false:=Jg (λq=>nomatch q)
noncomputable def zE(prog:GT)(w:GV):PySem.KeyKind prog w bv where
 is:=kx
 hash:=mn w
 inj:=λv a b ha hb=>by
  rcases zD ha with⟨i,t,rfl,rfl⟩|⟨x,t,rfl,rfl⟩
  .rcases zD hb with⟨j,u,rfl,e⟩|⟨y,u,rfl,e⟩
   .injection e with e1 _;rw[e1]
   .exact nomatch e
  .rcases zD hb with⟨j,u,rfl,e⟩|⟨y,u,rfl,e⟩
   .exact nomatch e
   .injection e with e1 _;rw[e1]
 byValue:=λk v h=>by
  rcases zD h with⟨i,t,rfl,rfl⟩|⟨x,t,rfl,rfl⟩<;>rfl
 pyHash:=λhv h=>by
  rcases zD hv with⟨i,t,rfl,rfl⟩|⟨x,t,rfl,rfl⟩
  .exact wpAny_pyHash_int h
  .exact wpAny_pyHash_str h
 eqBool:=λhu hv h=>by
  rcases zD hu with⟨i,t,rfl,rfl⟩|⟨x,t,rfl,rfl⟩
  .rcases zD hv with⟨j,u,rfl,rfl⟩|⟨y,u,rfl,rfl⟩
   .rw[Ay]at h;exact wpAny_eqBool_int h
   .rw[Aw]at h;exact SeqAt.EqAt.int_str i t y u _ _ _ _ h
  .rcases zD hv with⟨j,u,rfl,rfl⟩|⟨y,u,rfl,rfl⟩
   .rw[Av]at h;exact SeqAt.EqAt.str_int x t j u _ _ _ _ h
   .rw[Ax]at h;exact wpAny_eqBool_str h
 «strs»:=λk x t v h=>by
  rcases zD h with⟨i,u,rfl,e⟩|⟨y,u,rfl,e⟩
  .exact nomatch e
  .injection e with e1 _
   subst e1;cases v<;>rfl
def jR(prog:GT)(w:GV)(i:Int)(t:Tok):(zE prog w).is (.inl i) (.int i t)=true:=Ew i t
def jS(prog:GT)(w:GV)(x:Str)(t:Tok):(zE prog w).is (.inr x) (.str x t)=true:=ky x t
set_option genInjectivity false in
inductive V where
 |non|bl (b:Bool)|int (i:Int)|str (x:Str)|byt (b:Array UInt8)|flt (b:UInt64)|ref (a:Addr)|ty (n:String)
 deriving DecidableEq
noncomputable def RelV:V->Value->Prop
 |.non,u=>u=Value.none
 |.bl b,u=>u=Value.bool b
 |.int i,u=>∃t,u=Value.int i t
 |.str x,u=>∃t,u=Value.str x t
 |.byt b,u=>∃t,u=Value.bytes b t
 |.flt b,u=>∃t,u=Value.float b t
 |.ref a,u=>u=Value.ref a
 |.ty n,u=>u=Value.type n
abbrev ax:List V->List Value->Prop:=GY RelV
theorem ax.length (r:ax xs us):xs.length=us.length:=Paired.length r
theorem ax.get:∀{xs:List V}{us:List Value}{i:Nat}{x:V},ax xs us->xs[i]?=some x->∃u,us[i]?=some u/\RelV x u
 |_,_,_,_,.nil,e=>by simp at e
 |_,_,0,_,.cons r _,e=>by simp at e;subst e;exact⟨_,rfl,r⟩
 |_,_,i+1,x,.cons _ t,e=>by
  obtain⟨u,h1,h2⟩:=ax.get (i:=i) (x:=x) t (by simpa using e);exact⟨u,by simpa using h1,h2⟩
theorem ax.set (r:RelV x u):∀{xs:List V}{us:List Value}(i:Nat),ax xs us->ax (xs.set i x) (us.set i u)
 |_,_,_,.nil=>.nil
 |_,_,0,.cons _ t=>.cons r t
 |_,_,i+1,.cons q t=>.cons q (ax.set r i t)
theorem ax.append:∀{xs ys:List V}{us ws:List Value},ax xs us->ax ys ws->ax (xs++ys) (us++ws)
 |_,_,_,_,.nil,s=>s
 |_,_,_,_,.cons r t,s=>.cons r (ax.append t s)
noncomputable def cZ:Option V->Option Value->Prop
 |some v,some u=>RelV v u
 |none,none=>True
 |_,_=>False
noncomputable def KV{κ:Type}:List (κ×V)->List (κ×Value)->Prop:=GY λ(p:κ×V) (q:κ×Value)=>p.1=q.1/\RelV p.2 q.2
noncomputable def kV:bv->V
 |.inl i=>.int i
 |.inr x=>.str x
set_option genInjectivity false in
inductive HO where
 /-- a list -/
 |lst (xs:List V)
 /-- a tuple (never changes) -/
 |tup (xs:List V)
 /-- a dict whose keys are ints and texts;one whose keys are tuples of ints and texts (the empty one is both) -/
 |dK (kvs:List (bv×V))|dT (kvs:List (List bv×V))
 /-- a set of ints: its members,its size -/
 |set (S:Int->Bool) (n:Nat)
 /-- an instance of the class at C,its dict at dx,its attributes -/
 |ins (C dx:Addr) (fs:List (Str×V))
 /-- the dict of the instance at x -/
 |own (x:Addr)
 /-- the dict of an exception -/
 |xd (fs:List (Str×V))
 /-- a bound method,f of x -/
 |met (f x:Addr)
 /-- a range object lo,lo+1,.. below hi -/
 |rng (lo hi:Int)
 /-- a thing that is known to the object (the script;a dict while a loop walks it): read,never written while it is so -/
 |frz (o:Obj) (u:HO)
 /-- a code object's table -/
 |tbl (ps:Array Value)
 /-- any other thing,by what is true of its one object (a def of one's own: SetO a S n:=HO.ext λh=>..) -/
 |ext (φ:GZ->Prop)
abbrev Hp:=Addr->Option HO
noncomputable def aE(H:Hp)(a:Addr)(o:HO):Hp:=λb=>if b=a then some o else H b
def ze:aE H a o a=some o:=by unfold aE;rw[Jh rfl]
def za (h:b≠a):aE H a o b=H b:=by unfold aE;rw[Ji h]
def zm {H:Hp}(h:H a=some o)(h':H b=none):a≠b:=by
 intro e;subst e;rw[h]at h';cases h'
section
variable(P:GT)(w:GV)
noncomputable def aS(H:Hp)(h:GZ)(a:Addr):HO->Prop
 |.lst xs=>xs.length<=sizeLine/\∃(its:List Value) (n:Nat),ax xs its/\h.get? a=some {cls:=.type "list",data:=.seq its.toArray n}
 |.tup xs=>xs.length<=sizeLine/\∃its:List Value,ax xs its/\IsTup h a its.toArray
 |.dK kvs=>kvs.length<=sizeLine/\(a==G6)=false/\∃vs,KV kvs vs/\h.DictOf (zE P w) a vs
 |.dT kvs=>kvs.length<=sizeLine/\(a==G6)=false/\∃xs:List (List bv×Addr×Value),
   GY (λ(p:List bv×V) (q:List bv×Addr×Value)=>p.1=q.1/\H q.2.1=some (.tup (p.1.map kV))/\RelV p.2 q.2.2) kvs xs /\
   ∃o es ep,h.get? a=some o/\o.ExactDict/\o.data=.dict es ep/\es.toList=xs.map (G7 (G8 (zE P w)))/\(xs.map (·.1)).Nodup
 |.set S n=>h.SetOf (G9 P w) a S n
 |.ins C dx fs=>H dx=some (.own a)/\fs.length<=1000/\dx≠a/\h.get? a=some (Vw C dx) /\
   ∃mA,h.Ns1 dx mA/\(∀f,cZ (fs.lookup f) (mA f))/\PySem.Within mA (fs.map (·.1))
 |.own _=>∃o,h.get? a=some o
 |.xd fs=>∃mA,h.Ns1 a mA/\∀f,cZ (fs.lookup f) (mA f)
 |.rng lo hi=>∃t u v,h.get? a=some {cls:=.type "range",data:=.fields #[.int lo t,.int hi u,.int 1 v]}
 |.frz o u=>h.get? a=some o/\aS H h a u
 |.tbl ps=>h.get? a=some {cls:=.none,data:=.fields ps}
 |.met f x=>h.get? a=some (Vs (.ref f) (.ref x))
 |.ext φ=>φ h/\(∃o,h.get? a=some o)/\∀h1 h2:GZ,φ h1->(∀o,h1.get? a=some o->h2.get? a=some o)->φ h2
noncomputable def bT(H:Hp)(h:GZ):Prop:=∀a o,H a=some o->aS P w H h a o
end
section
variable{P:GT}{w:GV}{H H':Hp}{h h':GZ}{a:Addr}{o:HO}
theorem aS.lt(x:aS P w H h a o):a<h.objs.size:=by
 cases o with
 |lst xs=>obtain⟨_,_,_,_,e⟩:=x;exact Qi e
 |tup xs=>obtain⟨_,_,_,p⟩:=x;exact p.lt
 |dK kvs=>obtain⟨_,_,_,_,o,_,_,e,_⟩:=x;exact Qi e
 |dT kvs=>obtain⟨_,_,_,_,o,_,_,e,_⟩:=x;exact Qi e
 |set S n=>obtain⟨o,_,_,_,e,_⟩:=x;exact Qi e
 |ins C dx fs=>obtain⟨_,_,_,e,_⟩:=x;exact Qi e
 |own y=>obtain⟨_,e⟩:=x;exact Qi e
 |xd fs=>obtain⟨_,⟨_,_,_,e,_⟩,_⟩:=x;exact Qi e
 |rng lo hi=>obtain⟨_,_,_,e⟩:=x;exact Qi e
 |frz ob u=>obtain⟨e,_⟩:=x;exact Qi e
 |tbl ps=>exact Qi (show h.get? a=some _ from x)
 |met f y=>exact Qi (show h.get? a=some _ from x)
 |ext φ=>obtain⟨_,⟨_,e⟩,_⟩:=x;exact Qi e
theorem nY:∀{l₁:List α}{l₂:List β},GY F l₁ l₂->(∀a b,F a b->G a b)->GY G l₁ l₂
 |_,_,.nil,_=>.nil
 |_,_,.cons r t,f=>.cons (f _ _ r) (nY t f)
def aS.stay(x:aS P w H h a o)(k:∀b u,(b=a\/H b=some (.own a))->h.get? b=some u->h'.get? b=some u)
  (ho:∀b,H b=some (.own a)->H' b=some (.own a)) (ht:∀b xs,H b=some (.tup xs)->H' b=some (.tup xs)):aS P w H' h' a o:=by
 induction o with
 |lst xs=>obtain⟨z,its,n,r,e⟩:=x;exact⟨z,its,n,r,k _ _ (.inl rfl) e⟩
 |tup xs=>obtain⟨z,its,r,ob,e,c⟩:=x;exact⟨z,its,r,ob,k _ _ (.inl rfl) e,c⟩
 |dK kvs=>obtain⟨z,y,vs,r,ob,es,ep,e,c⟩:=x;exact⟨z,y,vs,r,ob,es,ep,k _ _ (.inl rfl) e,c⟩
 |dT kvs=>
  obtain⟨z,y,xs,r,ob,es,ep,e,c⟩:=x;exact⟨z,y,xs,nY r λp q z=>⟨z.1,ht _ _ z.2.1,z.2.2⟩,ob,es,ep,k _ _ (.inl rfl) e,c⟩
 |set S n=>obtain⟨ob,es,ep,t,e,c⟩:=x;exact⟨ob,es,ep,t,k _ _ (.inl rfl) e,c⟩
 |ins C dx fs=>
  obtain⟨d,z,ne,e,mA,⟨od,es,ep,e2,c⟩,r⟩:=x;exact⟨ho _ d,z,ne,k _ _ (.inl rfl) e,mA,⟨od,es,ep,k _ _ (.inr d) e2,c⟩,r⟩
 |own y=>obtain⟨ob,e⟩:=x;exact⟨ob,k _ _ (.inl rfl) e⟩
 |xd fs=>obtain⟨mA,⟨od,es,ep,e,c⟩,r⟩:=x;exact⟨mA,⟨od,es,ep,k _ _ (.inl rfl) e,c⟩,r⟩
 |rng lo hi=>obtain⟨t,u,v,e⟩:=x;exact⟨t,u,v,k _ _ (.inl rfl) e⟩
 |frz ob u ih=>obtain⟨e,q⟩:=x;exact⟨k _ _ (.inl rfl) e,ih q⟩
 |tbl ps=>
  have e:h.get? a=some {cls:=.none,data:=.fields ps}:=x;show h'.get? a=some {cls:=.none,data:=.fields ps};exact k a _ (.inl rfl) e
 |met f y=>
  have e:h.get? a=some (Vs (.ref f) (.ref y)):=x;show h'.get? a=some (Vs (.ref f) (.ref y));exact k a _ (.inl rfl) e
 |ext φ=>obtain⟨p,⟨o,e⟩,st⟩:=x;exact⟨st _ _ p λo q=>k _ _ (.inl rfl) q,⟨o,k _ _ (.inl rfl) e⟩,st⟩
theorem bT.lt(x:bT P w H h)(e:H a=some o):a<h.objs.size:=(x a o e).lt
def bT.fresh(x:bT P w H h)(e:h.objs.size<=a):H a=none:=by
 cases q:H a with
 |none=>rfl
 |some u=>exact Jj (Qg (x.lt q) e) (Wk _)
def bT.kept(x:bT P w H h)(k:∀b u,h.get? b=some u->h'.get? b=some u):bT P w H h':=λa o e=>
 (x a o e).stay (λb u _ q=>k b u q) (λ_ q=>q) λ_ _ q=>q
def bT.laid(x:bT P w H h)(k:∀b u,h.get? b=some u->h'.get? b=some u)(hp:h.objs.size<=a)(new:aS P w (aE H a o) h' a o):bT P w (aE H a o) h':=λb u e=>by
 have hn:=x.fresh hp;by_cases hb:b=a
 .subst hb;rw[ze]at e;cases e;exact new
 .rw[za hb]at e;exact(x b u e).stay (λc v _ q=>k c v q) (λc q=>by rw[za (zm q hn)];exact q) λc xs q=>by rw[za (zm q hn)];exact q
end
noncomputable def Rd(H:Hp)(a:Addr)(u:HO):Prop:=H a=some u\/∃o,H a=some (.frz o u)
def Rd.ok (r:Rd H a u)(x:bT P w H h):aS P w H h a u:=by
 rcases r with r|⟨o,r⟩
 .exact x a u r
 .obtain ⟨_,q⟩:=x a _ r;exact q
noncomputable def fw:Option HO->Prop
 |some (.lst _)=>True
 |some (.dK _)=>True
 |some (.dT _)=>True
 |some (.set _ _)=>True
 |some (.ins _ _ _)=>True
 |some (.ext _)=>True
 |_=>False
section
variable{P:GT}{w:GV}{H:Hp}{h h':GZ}{x e:Addr}{o':HO}
def bT.write(ok:bT P w H h)(mu:fw (H x))(he:e=x\/H e=some (.own x))(k:∀b u,b≠e->h.get? b=some u->h'.get? b=some u)(heo:∃u,h'.get? e=some u)
  (new:aS P w (aE H x o') h' x o'):bT P w (aE H x o') h':=λb u q=>by
 have nown:∀c y,H c=some (.own y)->c≠x:=λc y r z=>by subst z;rw[r]at mu;exact mu
 have ntup:∀c xs,H c=some (.tup xs)->c≠x:=λc xs r z=>by subst z;rw[r]at mu;exact mu
 by_cases hb:b=x
 .subst hb;rw[ze]at q;cases q;exact new
 .rw[za hb]at q;by_cases hbe:b=e
  .have q':H b=some (.own x):=by
    rcases he with z|z
    .exact Jj (hbe.trans z) hb
    .rw[hbe];exact z
   rw[q]at q';cases q';obtain⟨v,hv⟩:=heo;exact⟨v,by rw[hbe];exact hv⟩
  .refine (ok b u q).stay (λc v hc r=>k c v ?_ r) (λc r=>by rw[za (nown c b r)];exact r) λc xs r=>by rw[za (ntup c xs r)];exact r
   rcases hc with rfl|hc
   .exact hbe
   .rintro rfl;rcases he with z|z
    .exact nown c b hc z
    .rw[hc]at z;cases z;exact hb rfl
end
structure Un(fs ex:List Addr)(H H':Hp)(h h':GZ):Prop where
 keep:∀b o,h.get? b=some o->H b=none->b∉fs->b∉ex->h'.get? b=some o
 slot:∀b o,h.get? b=some o->H b=none->b∈fs->b∉ex->∃sl,h'.get? b=some {o with slots:=sl}
 free:∀b o,h.get? b=some o->H b=none->b∉ex->H' b=none
 there:∀b o,h.get? b=some o->b∉ex->∃o',h'.get? b=some o'
 tups:∀b xs,H b=some (.tup xs)->H' b=some (.tup xs)
 frzs:∀b o u,H b=some (.frz o u)->H' b=some (.frz o u)
 tbls:∀b ps,H b=some (.tbl ps)->∃more,H' b=some (.tbl (ps++more))
section
variable{fs ex:List Addr}{H H1:Hp}{h h1 h':GZ}{a x e:Addr}{o:HO}
def Un.any (u:Un fs ex H H1 h h1)(q:h.get? b=some ob)(n:H b=none)(hx:b∉ex):∃sl,h1.get? b=some {ob with slots:=sl}:=by
 by_cases hb:b∈fs
 .exact u.slot b ob q n hb hx
 .exact ⟨ob.slots,u.keep b ob q n hb hx⟩
def Un.kept(k:∀b u,h.get? b=some u->h'.get? b=some u):Un fs ex H H h h':=
 ⟨λb ob q _ _ _=>k b ob q,λb ob q _ _ _=>⟨ob.slots,k b ob q⟩,λ_ _ _ n _=>n,λb ob q _=>⟨ob,k b ob q⟩,λ_ _ q=>q,λ_ _ _ q=>q,λ_ ps q=>⟨#[],by rw[q];simp⟩⟩
def Un.refl:Un fs ex H H h h:=Un.kept λ_ _ q=>q
def Un.laid(k:∀b u,h.get? b=some u->h'.get? b=some u)(hp:h.objs.size<=a)(hn:H a=none):Un fs ex H (aE H a o) h h' where
 keep:=λb u q _ _ _=>k b u q
 slot:=λb u q _ _ _=>⟨u.slots,k b u q⟩
 free:=λb u q n _=>by rw[za (QI (Qg (Qi q) hp))];exact n
 there:=λb u q _=>⟨u,k b u q⟩
 tups:=λb xs q=>by rw[za (zm q hn)];exact q
 frzs:=λb u xs q=>by rw[za (zm q hn)];exact q
 tbls:=λb ps q=>⟨#[],by rw[za (zm q hn),q];simp⟩
def Un.write(mu:fw (H x))(he:e=x\/H e=some (.own x))(k:∀b u,b≠e->h.get? b=some u->h'.get? b=some u)(heo:∃u,h'.get? e=some u):Un fs ex H (aE H x o) h h':=by
 have hx:∀b,H b=none->b≠x:=λb n z=>by subst z;rw[n]at mu;exact mu
 have hb:∀b,H b=none->b≠e:=λb n z=>by
  subst z;rcases he with r|r
  .exact hx b n r
  .rw[n]at r;cases r
 have hm:∀b u,H b=some u->¬fw (some u)->b≠x:=λb u q nm z=>by subst z;rw[q]at mu;exact nm mu
 refine⟨λb u q n _ _=>k b u (hb b n) q,λb u q n _ _=>⟨u.slots,k b u (hb b n) q⟩,λb u q n _=>by rw[za (hx b n)];exact n,λb u q _=>?_,
  λb xs q=>by rw[za (hm b _ q λz=>z)];exact q,λb u xs q=>by rw[za (hm b _ q λz=>z)];exact q,λb ps q=>⟨#[],by rw[za (hm b _ q λz=>z),q];simp⟩⟩
 by_cases hbe:b=e
 .subst hbe;exact heo
 .exact ⟨u,k b u hbe q⟩
end
noncomputable def fY(h:GZ)(H:Hp):List Addr:=(Wn h.objs.size).filter λa=>(H a).isSome
noncomputable def kY(h:GZ)(H:Hp):GZ:=PySem.W.hideAll h (fY h H)
def Ev(h:GZ)(H:Hp):(kY h H).objs.size=h.objs.size:=PySem.W.hideAll_size _ _
def D7 (e:h.get? b=some o)(n:H b=none):(kY h H).get? b=some o:=
 PySem.W.hideAll_get _ e λhm=>by
  have q:(H b).isSome=true:=(VE.mp hm).2;rw[n]at q;simp at q
def CQ (e:(kY h H).get? b=some o):h.get? b=some o/\H b=none:=by
 have e':h.get? b=some o:=PySem.W.of_hideAll (fY h H) e;refine⟨e',?_⟩;cases q:H b with
 |none=>rfl
 |some x=>
  have hm:b∈fY h H:=VE.mpr ⟨List.mem_range.mpr (Qi e'),by simp[q]⟩;have z:(kY h H).get? b=none:=PySem.W.hideAll_none (fY h H) hm;rw[z]at e;cases e
structure Mod(K:Qb)(mg:Str->Option Value)(base:GZ):Prop where
 kin:K.In base
 glob:base.Ns Ha mg
 blt:∃mb,base.Ns builtinsNs mb/\∀x:Str,x ≠ "__name__" -> mb x=Hb x
 nolimit:base.NoLimit
set_option genInjectivity false in
structure Cx where
 prog:GT
 w:GV
 K:Qb
 mg:Str->Option Value
 base:GZ
 A:Hc
 N:List Str
 s₀:GU
 H₀:Hp
 env:Env
 outer:List Env
 stack:List Env
 ex:List Addr
 fn:Str->Bool
 calm:Bool
 pn:List (Addr×Obj)
 xe:Value->GU->Prop
noncomputable def cY(l:List Env):List Addr:=l.filterMap (·.frame)
abbrev Cx.fs(X:Cx):List Addr:=cY X.outer
noncomputable def eR(sc:GR)(x:Str):Prop:=sc.names.lookup x=some .local\/sc.names.lookup x=some .cell\/sc.names.lookup x=some .free
noncomputable def Loc(sc:GR)(x:Str):Prop:=sc.names.lookup x=some .local\/sc.names.lookup x=some .cell
noncomputable def Look(env:Env)(h:GZ)(m:Str->Option Value)(x:Str)(u:Value):Prop:=
 (env.kindOf x=some .local/\m x=some u)\/((env.kindOf x=some .cell\/env.kindOf x=some .free)/\∃c,env.cells.lookup x=some c/\h.IsCell c (some u))
structure Cx.Ok(X:Cx):Prop where
 mod:Mod X.K X.mg X.base
 kind:X.env.scope.kind=.function
 glob:X.env.globals=Ha
 blt:X.env.builtins=builtinsNs
 above:X.s₀.heap.objs.size<=X.env.locals
 inj:∀x y c,X.env.cells.lookup x=some c->X.env.cells.lookup y=some c->x=y
 has:∀x,(X.env.kindOf x=some .cell\/X.env.kindOf x=some .free)->∃c,X.env.cells.lookup x=some c
 cab:∀x c,X.fn x=true->X.env.cells.lookup x=some c->X.s₀.heap.objs.size<=c
 hd:X.calm=true->X.A.handled=none
 frames:X.A.frames=some X.stack
 stk:X.stack=X.outer\/(X.stack=X.env::X.outer/\X.env.frame=some X.env.locals)
 exf:∀b∈X.ex,b≠X.env.locals/\∀x c,X.env.cells.lookup x=some c->c≠b
 bs:∀b o,X.base.get? b=some o->X.s₀.heap.get? b=some o/\X.H₀ b=none
 bsz:X.base.objs.size<=X.s₀.heap.objs.size
 noex:∀b o,X.base.get? b=some o->b∉X.ex
 exfs:∀b∈X.ex,b∉X.fs
 funs:X.s₀.heap.FunFrames X.base X.outer
 frf:∀b∈X.fs,X.H₀ b=none
structure Inv(X:Cx)(pins:List (Addr×Obj))(σ:List (Option V))(H:Hp)(s:GU):Prop where
 ok:X.Ok
 os:s.os=X.s₀.os
 bare:Hd s.gens
 base:Un X.fs X.ex X.H₀ H X.s₀.heap s.heap
 loc:∃m,s.heap.Ns X.env.locals m/\∀(i:Nat) (x:Str) (v:V),X.N[i]?=some x->σ[i]?=some (some v)->eR X.env.scope x->∃u,RelV v u/\Look X.env s.heap m x u
 cell:∀x c,X.env.cells.lookup x=some c->∃v,s.heap.IsCell c v
 free:H X.env.locals=none
 freeC:∀x c,X.env.cells.lookup x=some c->H c=none
 pin:∀p∈X.pn++pins,s.heap.get? p.1=some p.2/\H p.1=none/\p.1≠X.env.locals/\p.1∉X.fs/\∀v,p.2.data≠.cell v
 hok:bT X.prog X.w H s.heap
 len:σ.length=X.N.length
section
variable{X:Cx}{pins:List (Addr×Obj)}{σ:List (Option V)}{H H':Hp}{s:GU}{h':GZ}
def Cx.Ok.nofr (ok:X.Ok)(e:X.base.get? b=some o):b∉X.fs:=λhb=>by
 have:=(ok.funs.mem hb).1;rw[e]at this;cases this
theorem Inv.bs(I:Inv X pins σ H s):∀b o,X.base.get? b=some o->s.heap.get? b=some o/\H b=none:=λb o e=>
 ⟨I.base.keep b o (I.ok.bs b o e).1 (I.ok.bs b o e).2 (I.ok.nofr e) (I.ok.noex b o e),I.base.free b o (I.ok.bs b o e).1 (I.ok.bs b o e).2 (I.ok.noex b o e)⟩
def Inv.bk(I:Inv X pins σ H s):∀b o,X.base.get? b=some o->s.heap.get? b=some o:=λb o e=>(I.bs b o e).1
theorem Inv.mod(I:Inv X pins σ H s):Mod X.K X.mg X.base:=I.ok.mod
def Inv.kIn(I:Inv X pins σ H s):X.K.In s.heap:=I.ok.mod.kin.keeps I.bk
theorem Inv.lt(I:Inv X pins σ H s):X.env.locals<s.heap.objs.size:=let⟨_,hn,_⟩:=I.loc;hn.lt
def Inv.sz(I:Inv X pins σ H s):X.s₀.heap.objs.size<=s.heap.objs.size:=Qs I.ok.above (W3 I.lt)
def Inv.nofs (I:Inv X pins σ H s)(h:s.heap.objs.size<=a):a∉X.fs:=λhb=>by
 obtain⟨_,o,ho,_⟩:=I.ok.funs.mem hb;exact Jj (Qg (Qi ho) (Qs I.sz h)) (Wk _)
def Inv.cne(I:Inv X pins σ H s):∀x c,X.env.cells.lookup x=some c->c≠X.env.locals:=λx c e z=>by
 obtain⟨v,o,ho,hd⟩:=I.cell x c e;obtain⟨m,⟨o',es,ep,ho',hd',_⟩,_⟩:=I.loc;rw[z,ho']at ho;cases ho;rw[hd']at hd;cases hd
theorem Inv.funs(I:Inv X pins σ H s):s.heap.FunFrames X.base X.outer:=by
 have all:∀(l:List Env),(∀b∈cY l,b∈X.fs)->X.s₀.heap.FunFrames X.base l->s.heap.FunFrames X.base l:=by
  intro l
  induction l with
  |nil=>intro _ _;trivial
  |cons env r ih=>
   intro hs hl;obtain⟨hk,⟨L,o,hf,hn,ho,hd⟩,hr⟩:=hl;have hL:L∈X.fs:=hs L (by unfold cY;rw[Vr,hf];exact QR);obtain⟨sl,e⟩:=I.base.slot L o ho (I.ok.frf L hL) hL λz=>I.ok.exfs L z hL;exact⟨hk,⟨L,_,hf,hn,e,hd⟩,ih (λb hb=>hs b (by unfold cY;rw[Vr,hf];exact Qh _ hb)) hr⟩
 exact all X.outer (λ_ hb=>hb) I.ok.funs
theorem Inv.stack(I:Inv X pins σ H s):s.heap.FunFrames X.base X.stack:=by
 rcases I.ok.stk with e|⟨e,hf⟩
 .rw[e];exact I.funs
 .rw[e];obtain⟨m,hn,_⟩:=I.loc;refine .cons (by rw[I.ok.kind];decide) hf hn ?_ I.funs;exact Heap.get?_none_of_le (Qs I.ok.bsz I.ok.above)
def Inv.stkSub(I:Inv X pins σ H s):∀b∈cY X.stack,b∈X.env.locals::X.fs:=λb hb=>by
 rcases I.ok.stk with e|⟨e,hf⟩
 .rw[e]at hb;exact Qh _ hb
 .rw[e]at hb;unfold cY at hb;rw[Vr,hf]at hb;exact hb
def Inv.stkFree(I:Inv X pins σ H s):∀b∈cY X.stack,H b=none:=λb hb=>by
 rcases Qk.mp (I.stkSub b hb)with e|hb
 .rw[e];exact I.free
 .obtain ⟨_,o,ho,_⟩:=I.ok.funs.mem hb;exact I.base.free b o ho (I.ok.frf b hb) λz=>I.ok.exfs b z hb
def Inv.step{g':Array GenState}{t':Nat}{d':Drawn}{ch:List Addr}(I:Inv X pins σ H s)
  (hch:∀b∈ch,(b∈X.ex\/X.s₀.heap.objs.size<=b)/\b≠X.env.locals/\(∀x c,X.env.cells.lookup x=some c->c≠b)/\∀p∈X.pn++pins,p.1≠b)
  (keep:∀b o,b≠X.env.locals->b∉X.fs->b∉ch->s.heap.get? b=some o->H b=none->h'.get? b=some o)
  (slot:∀b o,b≠X.env.locals->b∈X.fs->b∉ch->s.heap.get? b=some o->H b=none->∃sl,h'.get? b=some {o with slots:=sl}) (free:∀b o,b∉ch->s.heap.get? b=some o->H b=none->H' b=none)
  (there:∀b o,b∉ch->s.heap.get? b=some o->∃o',h'.get? b=some o')
  (tups:∀b xs,H b=some (.tup xs)->H' b=some (.tup xs)) (frzs:∀b o u,H b=some (.frz o u)->H' b=some (.frz o u)) (tbls:∀b ps,H b=some (.tbl ps)->∃more,H' b=some (.tbl (ps++more)))
  (ns:∀m,s.heap.Ns X.env.locals m->h'.Ns X.env.locals m) (hok:bT X.prog X.w H' h') (hg:Hd g') :
  Inv X pins σ H' {s with heap:=h',gens:=g',drawn:=d',toks:=t' }:=by
 have neL:∀b o,X.s₀.heap.get? b=some o->b≠X.env.locals:=λb o e=>QI (Qg (Qi e) I.ok.above);have neC:∀b o,X.s₀.heap.get? b=some o->b∉X.ex->b∉ch:=λb o e hx hb=>by
  rcases(hch b hb).1 with z|z
  .exact hx z
  .exact Jj (Qg (Qi e) z) (Wk _)
 have cellK:∀x c,X.env.cells.lookup x=some c->∀v,s.heap.IsCell c v->h'.IsCell c v:=λx c e v ⟨o,ho,hd⟩=>by
  have nch:c∉ch:=λz=>(hch c z).2.2.1 x c e rfl;by_cases hc:c∈X.fs
  .obtain ⟨sl,q⟩:=slot c o (I.cne x c e) hc nch ho (I.freeC x c e);exact⟨_,q,hd⟩
  .exact ⟨o,keep c o (I.cne x c e) hc nch ho (I.freeC x c e),hd⟩
 refine⟨I.ok,I.os,hg,⟨λb o e n hb hx=>?_,λb o e n hb hx=>?_,λb o e n hx=>?_,λb o e hx=>?_,λb xs e=>tups b xs (I.base.tups b xs e),λb o xs e=>frzs b o xs (I.base.frzs b o xs e),λb ps e=>?_⟩,?_,λx c e=>?_,?_,λx c e=>?_,λp hp=>?_,hok,I.len⟩
 .exact keep b o (neL b o e) hb (neC b o e hx) (I.base.keep b o e n hb hx) (I.base.free b o e n hx)
 .obtain ⟨sl,e1⟩:=I.base.slot b o e n hb hx;obtain⟨sl',e2⟩:=slot b _ (neL b o e) hb (neC b o e hx) e1 (I.base.free b o e n hx);exact⟨sl',e2⟩
 .obtain ⟨o',e1⟩:=I.base.there b o e hx;exact free b o' (neC b o e hx) e1 (I.base.free b o e n hx)
 .obtain ⟨o',e1⟩:=I.base.there b o e hx;exact there b o' (neC b o e hx) e1
 .obtain ⟨m1,e1⟩:=I.base.tbls b ps e;obtain⟨m2,e2⟩:=tbls b _ e1;exact⟨m1++m2,by rw[e2,Array.append_assoc]⟩
 .obtain ⟨m,hn,hl⟩:=I.loc;refine⟨m,ns m hn,λi x v e1 e2 e3=>?_⟩;obtain⟨u,r,l⟩:=hl i x v e1 e2 e3;refine⟨u,r,?_⟩;rcases l with l|⟨k,c,e,z⟩
  .exact .inl l
  .exact .inr ⟨k,c,e,cellK x c e _ z⟩
 .obtain ⟨v,z⟩:=I.cell x c e;exact⟨v,cellK x c e v z⟩
 .obtain ⟨m,⟨o,_,_,ho,_⟩,_⟩:=I.loc;exact free _ o (λz=>(hch _ z).2.1 rfl) ho I.free
 .obtain ⟨v,o,ho,hd⟩:=I.cell x c e;exact free c o (λz=>(hch c z).2.2.1 x c e rfl) ho (I.freeC x c e)
 .obtain ⟨e,n,ne,nf,d⟩:=I.pin p hp;have nch:p.1∉ch:=λz=>(hch p.1 z).2.2.2 p hp rfl;exact⟨keep p.1 p.2 ne nf nch e n,free p.1 p.2 nch e n,ne,nf,d⟩
def Inv.un{t':Nat}(I:Inv X pins σ H s)(u:Un X.fs [] H H' s.heap h')(hok:bT X.prog X.w H' h'):Inv X pins σ H' {s with heap:=h',toks:=t' }:=by
 obtain⟨m,⟨o,es,ep,ho,r⟩,_⟩:=id I.loc;obtain⟨sl,hL⟩:=u.any ho I.free (by simp);exact I.step (g':=s.gens) (d':=s.drawn) (ch:=[]) (λ_ z=>nomatch z) (λb o _ hb _ e n=>u.keep b o e n hb (by simp)) (λb o _ hb _ e n=>u.slot b o e n hb (by simp)) (λb o _ e n=>u.free b o e n (by simp)) (λb o _ e=>u.there b o e (by simp)) u.tups u.frzs u.tbls (λm' hm=>by
  obtain⟨o',es',ep',ho',r'⟩:=hm;rw[ho]at ho';cases ho';exact⟨_,es',ep',hL,r'⟩) hok I.bare
def Inv.call{g':Array GenState}{t':Nat}{d':Drawn}{ch:List Addr}(I:Inv X pins σ H s)(u:Un (cY X.stack) ch H H' s.heap h')(hok:bT X.prog X.w H' h')(hg:Hd g')
  (hch:∀b∈ch,(b∈X.ex\/X.s₀.heap.objs.size<=b)/\b≠X.env.locals/\(∀x c,X.env.cells.lookup x=some c->c≠b)/\∀p∈X.pn++pins,p.1≠b) :
  Inv X pins σ H' {s with heap:=h',gens:=g',drawn:=d',toks:=t' }:=by
 obtain⟨m,⟨o,es,ep,ho,r⟩,_⟩:=id I.loc;obtain⟨sl,hL⟩:=u.any ho I.free λz=>(hch _ z).2.1 rfl;exact I.step (ch:=ch) hch (λb o hL hb hc e n=>u.keep b o e n (λz=>(Qk.mp (I.stkSub b z)).elim hL hb) hc) (λb o _ _ hc e n=>u.any e n hc) (λb o hc e n=>u.free b o e n hc) (λb o hc e=>u.there b o e hc) u.tups u.frzs u.tbls (λm' hm=>by
  obtain⟨o',es',ep',ho',r'⟩:=hm;rw[ho]at ho';cases ho';exact⟨_,es',ep',hL,r'⟩) hok hg
def Inv.turned{t':Nat}{it:Addr}(I:Inv X pins σ H s)(k:∀b o,b≠it->s.heap.get? b=some o->h'.get? b=some o)(hn:H it=none)(hL:it≠X.env.locals)
  (h1:it∈X.ex\/X.s₀.heap.objs.size<=it) (h2:∀x c,X.env.cells.lookup x=some c->c≠it) (h3:∀p∈X.pn++pins,p.1≠it):Inv X pins σ H {s with heap:=h',toks:=t' }:=by
 have nit:∀b u,H b=some u->b≠it:=λb u e z=>by rw[z,hn]at e;cases e
 refine I.step (g':=s.gens) (d':=s.drawn) (ch:=[it]) (λb hb=>?_) (λb o _ _ hc e _=>k b o (λz=>hc (by simp[z])) e) (λb o _ _ hc e _=>⟨o.slots,k b o (λz=>hc (by simp[z])) e⟩) (λ_ _ _ _ n=>n)
  (λb o hc e=>⟨o,k b o (λz=>hc (by simp[z])) e⟩) (λ_ _ e=>e) (λ_ _ _ e=>e) (λb ps e=>⟨#[],by rw[e];simp⟩) (λm hm=>?_) (λb u e=>?_) I.bare
 .have e:b=it:=by simpa using hb
  subst e;exact⟨h1,hL,h2,h3⟩
 .obtain ⟨o,es,ep,ho,r⟩:=hm;exact⟨o,es,ep,k _ o (Ne.symm hL) ho,r⟩
 .refine (I.hok b u e).stay (λc v hc q=>k c v ?_ q) (λ_ q=>q) λ_ _ q=>q;rcases hc with z|z
  .rw[z];exact nit b u e
  .exact nit c _ z
def Inv.tok(I:Inv X pins σ H s)(t:Nat):Inv X pins σ H {s with toks:=t}:=I.un (h':=s.heap) (t':=t) Un.refl I.hok
theorem Inv.kept{t':Nat}(I:Inv X pins σ H s)(k:∀b u,s.heap.get? b=some u->h'.get? b=some u):Inv X pins σ H {s with heap:=h',toks:=t' }:=I.un (Un.kept k) (I.hok.kept k)
theorem Inv.laid{a:Addr}{o:HO}{t':Nat}(I:Inv X pins σ H s)(k:∀b u,s.heap.get? b=some u->h'.get? b=some u)(hp:s.heap.objs.size<=a)(new:aS X.prog X.w (aE H a o) h' a o):
  Inv X pins σ (aE H a o) {s with heap:=h',toks:=t' }:=I.un (Un.laid k hp (I.hok.fresh hp)) (I.hok.laid k hp new)
theorem Inv.write{x e:Addr}{o:HO}{t':Nat}(I:Inv X pins σ H s)(mu:fw (H x))(he:e=x\/H e=some (.own x))(k:∀b u,b≠e->s.heap.get? b=some u->h'.get? b=some u)(heo:∃u,h'.get? e=some u)
  (new:aS X.prog X.w (aE H x o) h' x o):Inv X pins σ (aE H x o) {s with heap:=h',toks:=t' }:=I.un (Un.write mu he k heo) (I.hok.write mu he k heo new)
def Inv.pins_of{pins':List (Addr×Obj)}(I:Inv X pins σ H s)(h:∀p∈pins',s.heap.get? p.1=some p.2/\H p.1=none/\p.1≠X.env.locals/\p.1∉X.fs/\∀v,p.2.data≠.cell v):Inv X pins' σ H s:=
 ⟨I.ok,I.os,I.bare,I.base,I.loc,I.cell,I.free,I.freeC,λp hp=>(Ql.mp hp).elim (λz=>I.pin p (Q3 _ z)) (h p),I.hok,I.len⟩
def jT {N:List Str}(hN:N.Nodup){j:Nat}(a:N[i]?=some x)(b:N[j]?=some x):i=j:=by
 obtain⟨h1,e1⟩:=Qa.mp a;obtain⟨h2,e2⟩:=Qa.mp b;exact(WU hN).mp (e1.trans e2.symm)
def kz (I:Inv X pins σ H s)(hN:X.N.Nodup)(hi:X.N[i]?=some x)(hx:Loc X.env.scope x)(r:RelV v u)(h:∀s',Inv X pins (σ.set i (some v)) H s'->(∃a,Wc a s.heap s'.heap/\(a=X.env.locals\/X.env.cells.lookup x=some a))->Q () s')(hf:X.fn x=true\/X.env.scope.names.lookup x=some .local:=by first|exact .inl rfl|exact .inr rfl|assumption):He M A (storeName X.env x u) Q E s:=by
 obtain⟨m,hn,hl⟩:=id I.loc;have hcls:(X.env.scope.kind == .class || (X.env.scope.kind == .module&&X.env.locals != X.env.globals))=false:=by rw[I.ok.kind];rfl
 have hiσ:i<σ.length:=by rw[I.len];exact(Qa.mp hi).1
 have cne:=I.cne;have tracked:∀{a:Addr}{h':GZ},(∃o,s.heap.get? a=some o/\H a=none)->Wc a s.heap h'->bT X.prog X.w H h':=λ{a h'} ha hs b ob e=>by
  obtain⟨_,_,hfree⟩:=ha;refine(I.hok b ob e).stay (λc w' hc q=>(hs.2 c ?_).trans q) (λ_ q=>q) λ_ _ q=>q;rintro rfl;rcases hc with rfl|hc
  .rw[hfree]at e;cases e
  .rw[hfree]at hc;cases hc
 rcases hx with hk|hk
 .refine wpAny_storeName_local hk hn (λh' hn' hs=>?_) hcls;obtain⟨oL,_,_,hoL,_⟩:=id hn;refine h _ ⟨I.ok,I.os,I.bare,⟨λb o e n hb hx=>?_,λb o e n hb hx=>?_,I.base.free,λb o e hx=>?_,I.base.tups,I.base.frzs,I.base.tbls⟩,⟨_,hn',λj y v' e1 e2 e3=>?_⟩,λy c e=>?_,I.free,I.freeC,λp hp=>?_,tracked ⟨oL,hoL,I.free⟩ hs,by simpa using I.len⟩ ⟨_,hs,.inl rfl⟩
  .exact (hs.2 b (QI (Qg (Qi e) I.ok.above))).trans (I.base.keep b o e n hb hx)
  .obtain ⟨sl,e1⟩:=I.base.slot b o e n hb hx;exact⟨sl,(hs.2 b (QI (Qg (Qi e) I.ok.above))).trans e1⟩
  .obtain ⟨o',e1⟩:=I.base.there b o e hx;exact⟨o',(hs.2 b (QI (Qg (Qi e) I.ok.above))).trans e1⟩
  .by_cases hj:j=i
   .subst hj;rw[hi]at e1;cases e1;rw[Q7 hiσ]at e2;cases e2;exact⟨u,r,.inl ⟨hk,by simp⟩⟩
   .rw[Qp (Ne.symm hj)]at e2;obtain⟨u',r',q⟩:=hl j y v' e1 e2 e3;refine⟨u',r',?_⟩;rcases q with⟨k,e⟩|⟨k,c,e,z⟩
    .refine .inl ⟨k,?_⟩;have:y≠x:=λe=>hj (jT hN e1 (e▸hi));simp[this,e]
    .exact .inr ⟨k,c,e,z.sameBut hs (cne y c e)⟩
  .obtain ⟨w',z⟩:=I.cell y c e;exact⟨w',z.sameBut hs (cne y c e)⟩
  .obtain ⟨e,n,ne,nf,d⟩:=I.pin p hp;exact⟨(hs.2 p.1 ne).trans e,n,ne,nf,d⟩
 .have hfn:X.fn x=true:=by
   rcases hf with z|z
   .exact z
   .rw[z]at hk;cases hk
  obtain⟨c,hc⟩:=I.ok.has x (.inl hk);obtain⟨w',z⟩:=I.cell x c hc;refine wpAny_storeName_cell I.ok.kind hk hc z (λh' hc' hs=>?_);obtain⟨oc,hoc,hocd⟩:=id z;refine h {s with heap:=h' } ⟨I.ok,I.os,I.bare,⟨λb o e n hb hx=>?_,λb o e n hb hx=>?_,I.base.free,λb o e hx=>?_,I.base.tups,I.base.frzs,I.base.tbls⟩,⟨m,hn.sameBut hs (Ne.symm (cne x c hc)),λj y v' e1 e2 e3=>?_⟩,λy c' e=>?_,I.free,I.freeC,λp hp=>?_,tracked ⟨oc,hoc,I.freeC x c hc⟩ hs,by simpa using I.len⟩ ⟨c,hs,.inr hc⟩
  .exact (hs.2 b (QI (Qg (Qi e) (I.ok.cab x c hfn hc)))).trans (I.base.keep b o e n hb hx)
  .obtain ⟨sl,e1⟩:=I.base.slot b o e n hb hx;exact⟨sl,(hs.2 b (QI (Qg (Qi e) (I.ok.cab x c hfn hc)))).trans e1⟩
  .obtain ⟨o',e1⟩:=I.base.there b o e hx;exact⟨o',(hs.2 b (QI (Qg (Qi e) (I.ok.cab x c hfn hc)))).trans e1⟩
  .by_cases hj:j=i
   .subst hj;rw[hi]at e1;cases e1;rw[Q7 hiσ]at e2;cases e2;exact⟨u,r,.inr ⟨.inl hk,c,hc,hc'⟩⟩
   .rw[Qp (Ne.symm hj)]at e2;obtain⟨u',r',q⟩:=hl j y v' e1 e2 e3;refine⟨u',r',?_⟩;rcases q with q|⟨k,c',e,z'⟩
    .exact .inl q
    .refine .inr ⟨k,c',e,z'.sameBut hs ?_⟩;rintro rfl;exact hj (jT hN e1 (I.ok.inj _ _ _ e hc▸hi))
  .by_cases hcc:c'=c
   .subst hcc;exact⟨_,hc'⟩
   .obtain ⟨w2,z2⟩:=I.cell y c' e;exact⟨w2,z2.sameBut hs hcc⟩
  .obtain ⟨e,n,ne,nf,d⟩:=I.pin p hp;refine⟨(hs.2 p.1 ?_).trans e,n,ne,nf,d⟩;intro q;rw[q,hoc]at e;have q':oc=p.2:=Option.some.inj e;exact d w' (by rw[<-q'];exact hocd)
def vt (I:Inv X pins σ H s)(hN:X.N.Nodup)(hi:X.N[i]?=some x)(hx:Loc X.env.scope x)(r:RelV v u)(h:∀s',Inv X pins (σ.set i (some v)) H s'->Q () s')(hf:X.fn x=true\/X.env.scope.names.lookup x=some .local:=by first|exact .inl rfl|exact .inr rfl|assumption):He M A (storeName X.env x u) Q E s:=
 kz I hN hi hx r (λs' I' _=>h s' I') hf
def Inv.call'{s':GU}{ch:List Addr}(I:Inv X pins σ H s)(ho:s'.os=s.os)(u:Un (cY X.stack) ch H H' s.heap s'.heap)(hok:bT X.prog X.w H' s'.heap)(hg:Hd s'.gens)
  (hch:∀b∈ch,(b∈X.ex\/X.s₀.heap.objs.size<=b)/\b≠X.env.locals/\(∀x c,X.env.cells.lookup x=some c->c≠b)/\∀p∈X.pn++pins,p.1≠b):Inv X pins σ H' s':=by
 obtain⟨h',g',d',t',o'⟩:=s';have e:o'=s.os:=ho;subst e;exact I.call (g':=g') (t':=t') (d':=d') u hok hg hch
end
abbrev XK:=Value->Option Addr->Hp->Prop
abbrev St:=List (Option V)
abbrev VK:=V->Hp->Prop
abbrev TE:=St->Hp->VK->Prop
abbrev TT:=St->Hp->(Bool->Hp->Prop)->Prop
abbrev TA:=St->Hp->(List V->Hp->Prop)->Prop
set_option genInjectivity false in
structure bJ where
 nx:St->Hp->Prop
 rt:VK
 bk:St->Hp->Prop:=λ_ _=>False
 ct:St->Hp->Prop:=λ_ _=>False
abbrev TS:=bJ->St->Hp->Prop
noncomputable def EP(X:Cx)(pins:List (Addr×Obj))(σ:St)(Q:VK)(u:Value)(s':GU):Prop:=∃v H',Inv X pins σ H' s'/\RelV v u/\Q v H'
noncomputable def TP(X:Cx)(pins:List (Addr×Obj))(σ:St)(Q:Bool->Hp->Prop)(b:Bool)(s':GU):Prop:=∃H',Inv X pins σ H' s'/\Q b H'
noncomputable def AP(X:Cx)(pins:List (Addr×Obj))(σ:St)(Q:List V->Hp->Prop)(us:List Value)(s':GU):Prop:=∃vs H',Inv X pins σ H' s'/\ax vs us/\Q vs H'
noncomputable def SP(X:Cx)(pins:List (Addr×Obj))(D:bJ)(f:Flow)(s':GU):Prop:=
 match f with
 |.next=>∃σ' H',Inv X pins σ' H' s'/\D.nx σ' H'
 |.brk=>∃σ' H',Inv X pins σ' H' s'/\D.bk σ' H'
 |.cont=>∃σ' H',Inv X pins σ' H' s'/\D.ct σ' H'
 |.ret u=>∃v σ' H',Inv X pins σ' H' s'/\RelV v u/\D.rt v H'
noncomputable def PE(X:Cx)(e:Expr)(t:TE):Prop:=
 ∀(pins:List (Addr×Obj)) (s:GU) (σ:St) (H:Hp) (Q:VK),Inv X pins σ H s->t σ H Q->He (Hf X.prog X.w) X.A (eval e X.env) (EP X pins σ Q) X.xe s
noncomputable def PT(X:Cx)(e:Expr)(t:TT):Prop:=
 ∀(pins:List (Addr×Obj)) (s:GU) (σ:St) (H:Hp) (Q:Bool->Hp->Prop),Inv X pins σ H s->t σ H Q->He (Hf X.prog X.w) X.A (isTrue e X.env (eval e X.env)) (TP X pins σ Q) X.xe s
noncomputable def PW(X:Cx)(e:Expr)(t:TT):Prop:=
 ∀(whole:Sem Value) (pins:List (Addr×Obj)) (s:GU) (σ:St) (H:Hp) (Q:Bool->Hp->Prop),Inv X pins σ H s->t σ H Q->He (Hf X.prog X.w) X.A (isTrue e X.env whole) (TP X pins σ Q) X.xe s
def PW.pt (h:PW X e t):PT X e t:=h _
noncomputable def PA(X:Cx)(es:List Expr)(t:TA):Prop:=
 ∀(pos:Pos) (pins:List (Addr×Obj)) (s:GU) (σ:St) (H:Hp) (Q:List V->Hp->Prop),Inv X pins σ H s->t σ H Q->He (Hf X.prog X.w) X.A (spliced (Hg pos (Hh es X.env))) (AP X pins σ Q) X.xe s
noncomputable def PS(X:Cx)(st:Stmt)(t:TS):Prop:=
 ∀(pins:List (Addr×Obj)) (s:GU) (σ:St) (H:Hp) (D:bJ),Inv X pins σ H s->t D σ H->He (Hf X.prog X.w) X.A (exec st X.env) (SP X pins D) X.xe s
noncomputable def bW(X:Cx)(st:List Stmt)(t:TS):Prop:=
 ∀(pins:List (Addr×Obj)) (s:GU) (σ:St) (H:Hp) (D:bJ),Inv X pins σ H s->t D σ H->He (Hf X.prog X.w) X.A (execs st X.env) (SP X pins D) X.xe s
def aQ (h:He M A t Q E s)(hQ:∀a s,Q a s->Q' a s):He M A t Q' E s:=Hi h hQ λ_ _ x=>x
section
variable{X:Cx}
noncomputable def kj(i:Nat):TE:=λσ H Q=>∃v,σ[i]?=some (some v)/\Q v H
noncomputable def tC(v:V):TE:=λ_ H Q=>Q v H
def vu (hN:X.N[i]?=some x)(hv:eR X.env.scope x)(hd:(x==("__debug__":Str))=false:=by decide)(hcd:(x==("__classdict__":Str))=false:=by decide):PE X (.Name x pos) (kj i):=by
 intro pins s σ H Q I h;obtain⟨v,e,h⟩:=h;obtain⟨m,hn,hl⟩:=I.loc;obtain⟨u,r,l⟩:=hl i x v hN e hv;have fin:EP X pins σ Q u s:=⟨v,H,I,r,h⟩;rcases l with⟨hk,hm⟩|⟨hk,c,hc,hcell⟩
 .exact wpAny_Name (Hj I.ok.kind hk hn hm fin) hd
 .rcases hk with hk|hk
  .exact wpAny_Name (Hk I.ok.kind hk hc hcell fin) hd
  .exact wpAny_Name (wpAny_loadName_free I.ok.kind hk hc hcell fin hcd) hd
def Au{i j pos}:PE X (.Constant (.int i) j pos) (tC (.int i)):=λ_ _ _ H _ I h=>wpAny_Constant_int ⟨.int i,H,I.tok _,⟨_,rfl⟩,h⟩
def Al{b j pos}:PE X (.Constant (.bool b) j pos) (tC (.bl b)):=λ_ _ _ H _ I h=>Constant_bool ⟨.bl b,H,I,rfl,h⟩
def At{j pos}:PE X (.Constant .none j pos) (tC .non):=λ_ _ _ H _ I h=>Constant_none ⟨.non,H,I,rfl,h⟩
def vv{x j pos}:PE X (.Constant (.str x) j pos) (tC (.str x)):=λ_ _ _ H _ I h=>Calls.Constant_str ⟨.str x,H,I.tok _,⟨_,rfl⟩,h⟩
noncomputable def Gl(X:Cx)(x:Str):Prop:=X.env.kindOf x=some .globalImplicit
def p9 (I:Inv X pins σ H s)(hg:Gl X x)(hm:X.mg x=some u)(h:Q u s)(hd:(x==("__debug__":Str))=false:=by decide):He (Hf X.prog X.w) X.A (eval (.Name x pos) X.env) Q E s:=
 Calls.Name_function_global I.ok.kind hg (Calls.loadGlobal_global (by rw[I.ok.glob];exact I.mod.glob.keeps I.bk) hm h) hd
def xR (I:Inv X pins σ H s)(hg:Gl X x)(hm:X.mg x=none)(hv:Hb x=some u)(h:Q u s)(hn:x ≠ "__name__":=by decide)(hd:(x==("__debug__":Str))=false:=by decide):He (Hf X.prog X.w) X.A (eval (.Name x pos) X.env) Q E s:=by
 obtain⟨mb,h1,h2⟩:=I.mod.blt;exact Calls.Name_function_global I.ok.kind hg (Calls.loadGlobal_builtin (by rw[I.ok.glob];exact I.mod.glob.keeps I.bk) hm (by rw[I.ok.blt];exact h1.keeps I.bk) ((h2 x hn).trans hv) h) hd
def p8 (hg:Gl X x)(hm:X.mg x=some u)(r:RelV v u)(hd:(x==("__debug__":Str))=false:=by decide):PE X (.Name x pos) (tC v):=
 λ_ _ _ H _ I h=>p9 I hg hm ⟨v,H,I,r,h⟩ hd
def CP (hg:Gl X x)(hm:X.mg x=none)(hv:Hb x=some u)(r:RelV v u)(hn:x ≠ "__name__":=by decide)(hd:(x==("__debug__":Str))=false:=by decide):PE X (.Name x pos) (tC v):=
 λ_ _ _ H _ I h=>xR I hg hm hv ⟨v,H,I,r,h⟩ hn hd
variable{a b:Expr}{ta tb:TE}{pos:Pos}
noncomputable def tB(t:TE):TT:=λσ H Q=>t σ H λx H1=>∃c,x=.bl c/\Q c H1
def As (h:PE X e t)(he:∀whole,isTrue e X.env whole=(do let v <-whole;standAt e.pos;holding [v] (truthy v)):=by intro _;rfl):PT X e (tB t):=by
 intro pins s σ H Q I hw;refine isTrue_plain (aQ (h pins s σ H _ I hw) λv s1 ⟨x,H1,I1,r1,q1⟩=>?_) (he _);obtain⟨d,rfl,q⟩:=q1;cases r1;exact Hl ⟨H1,I1,q⟩
variable{tA tB':TT}{rest:List Expr}
noncomputable def lf(t u:TT):TT:=λσ H Q=>t σ H λc H1=>if c=true then u σ H1 Q else Q false H1
noncomputable def EC(t u:TT):TT:=λσ H Q=>t σ H λc H1=>if c=true then Q true H1 else u σ H1 Q
noncomputable def i5(t:TT):TT:=λσ H Q=>t σ H λc H1=>Q (! c) H1
def CO(ha:PT X a tA):PW X (.BoolOp .And [a] pos) tA:=by
 intro wh pins s σ H Q I h;refine isTrue_and (aQ (ha pins s σ H Q I h) λc s1 e=>?_);cases c with
 |true=>exact isTrue_and_nil e
 |false=>exact e
def Ar(ha:PT X a tA):PW X (.BoolOp .Or [a] pos) tA:=by
 intro wh pins s σ H Q I h;refine isTrue_or (aQ (ha pins s σ H Q I h) λc s1 e=>?_);cases c with
 |false=>exact isTrue_or_nil e
 |true=>exact e
def Aq(ha:PT X a tA)(hb:PW X (.BoolOp .And (b::rest) pos) tB'):PW X (.BoolOp .And (a::b::rest) pos) (lf tA tB'):=by
 intro wh pins s σ H Q I h;refine isTrue_and (aQ (ha pins s σ H _ I h) λc s1 ⟨H1,I1,q1⟩=>?_);cases c with
 |true=>exact hb wh pins s1 σ H1 Q I1 q1
 |false=>exact⟨H1,I1,q1⟩
def Ak(ha:PT X a tA)(hb:PW X (.BoolOp .Or (b::rest) pos) tB'):PW X (.BoolOp .Or (a::b::rest) pos) (EC tA tB'):=by
 intro wh pins s σ H Q I h;refine isTrue_or (aQ (ha pins s σ H _ I h) λc s1 ⟨H1,I1,q1⟩=>?_);cases c with
 |true=>exact⟨H1,I1,q1⟩
 |false=>exact hb wh pins s1 σ H1 Q I1 q1
def Ap(ha:PT X a tA):PT X (.UnaryOp .Not a pos) (i5 tA):=by
 intro pins s σ H Q I h;exact isTrue_not (ha pins s σ H (λc H1=>Q (! c) H1) I h)
noncomputable def Aj(ta tb:TE):TE:=λσ H Q=>ta σ H λx H1=>∃c,x=.bl c/\if c=true then tb σ H1 Q else Q (.bl false) H1
noncomputable def i4(ta tb:TE):TE:=λσ H Q=>ta σ H λx H1=>∃c,x=.bl c/\if c=true then Q (.bl true) H1 else tb σ H1 Q
noncomputable def Ai(ta:TE):TE:=λσ H Q=>ta σ H λx H1=>∃c,x=.bl c/\Q (.bl (! c)) H1
def pM {op}(h:PE X a t):PE X (.BoolOp op [a] pos) t:=λpins s σ H Q I hw=>BoolOp_one (h pins s σ H Q I hw)
def Ao(ha:PE X a ta)(hb:PE X (.BoolOp .And (b::rest) pos) tb):PE X (.BoolOp .And (a::b::rest) pos) (Aj ta tb):=by
 intro pins s σ H Q I h;refine BoolOp_and (aQ (ha pins s σ H _ I h) λv s1 ⟨x,H1,I1,r1,q1⟩=>?_);obtain⟨c,rfl,q1⟩:=q1;cases r1;refine Hl ?_;cases c with
 |true=>exact hb pins s1 σ H1 Q I1 q1
 |false=>exact⟨.bl false,H1,I1,rfl,q1⟩
def Ah(ha:PE X a ta)(hb:PE X (.BoolOp .Or (b::rest) pos) tb):PE X (.BoolOp .Or (a::b::rest) pos) (i4 ta tb):=by
 intro pins s σ H Q I h;refine BoolOp_or (aQ (ha pins s σ H _ I h) λv s1 ⟨x,H1,I1,r1,q1⟩=>?_);obtain⟨c,rfl,q1⟩:=q1;cases r1;refine Hl ?_;cases c with
 |false=>exact hb pins s1 σ H1 Q I1 q1
 |true=>exact⟨.bl true,H1,I1,rfl,q1⟩
def An(ha:PE X a ta):PE X (.UnaryOp .Not a pos) (Ai ta):=by
 intro pins s σ H Q I h;refine UnaryOp_ (aQ (ha pins s σ H _ I h) λv s1 ⟨x,H1,I1,r1,q1⟩=>?_);obtain⟨c,rfl,q1⟩:=q1;cases r1;exact not_of (Hl ⟨.bl (! c),H1,I1,rfl,q1⟩)
noncomputable def sf(t:TT)(ta tb:TE):TE:=λσ H Q=>t σ H λc H1=>if c=true then ta σ H1 Q else tb σ H1 Q
def D6 (hc:PT X c tA)(ha:PE X a ta)(hb:PE X b tb):PE X (.IfExp c a b pos) (sf tA ta tb):=by
 intro pins s σ H Q I h;refine wpAny_IfExp (aQ (hc pins s σ H _ I h) λd s1 ⟨H1,I1,q1⟩=>?_);cases d with
 |true=>exact ha pins s1 σ H1 Q I1 q1
 |false=>exact hb pins s1 σ H1 Q I1 q1
end
noncomputable def bg(K:Qb)(H:Hp)(a:Addr)(xs:List V):Prop:=
 Rd H a (.lst xs) \/
  ∃(o:Obj) (its:Array Value) (n:Nat),K.lookup a=some o/\o.cls=.type "list" /\ o.dict=none/\o.data=.seq its n/\its.size<=sizeLine/\ax xs its.toList
noncomputable def bG(K:Qb)(H:Hp)(a:Addr)(xs:List V):Prop:=
 Rd H a (.tup xs) \/
  ∃(o:Obj) (its:Array Value) (n:Nat),K.lookup a=some o/\o.cls=.type "tuple" /\ o.data=.seq its n/\its.size<=sizeLine/\ax xs its.toList
noncomputable def nM:Value->Option V
 |.none=>some .non
 |.bool b=>some (.bl b)
 |.int i _=>some (.int i)
 |.str x _=>some (.str x)
 |.bytes b _=>some (.byt b)
 |.float b _=>some (.flt b)
 |.ref a=>some (.ref a)
 |.type n=>some (.ty n)
 |_=>none
def RelV.abs (r:RelV x u):nM u=some x:=by
 cases x with
 |non=>cases r;rfl
 |bl _=>cases r;rfl
 |int _=>obtain⟨t,rfl⟩:=r;rfl
 |str _=>obtain⟨t,rfl⟩:=r;rfl
 |byt _=>obtain⟨t,rfl⟩:=r;rfl
 |flt _=>obtain⟨t,rfl⟩:=r;rfl
 |ref _=>cases r;rfl
 |ty _=>cases r;rfl
theorem RelV.inj (r:RelV x u)(q:RelV y u):x=y:=Option.some.inj (r.abs.symm.trans q.abs)
theorem ax.inj:∀{xs ys:List V}{us:List Value},ax xs us->ax ys us->xs=ys
 |_,_,_,.nil,.nil=>rfl
 |_,_,_,.cons r t,.cons r' t'=>by rw[r.inj r',ax.inj t t']
section
variable{X:Cx}{pins:List (Addr×Obj)}{σ:St}{H:Hp}{s:GU}{a:Addr}{xs ys:List V}
def bg.of{K:Qb}(h:H a=some (.lst xs)):bg K H a xs:=.inl (.inl h)
def bG.of{K:Qb}(h:H a=some (.tup xs)):bG K H a xs:=.inl (.inl h)
def Inv.list(I:Inv X pins σ H s)(h:bg X.K H a xs):∃its:List Value,ax xs its/\PlainL s.heap a its.toArray/\xs.length<=sizeLine:=by
 rcases h with h|⟨o,its,n,hk,hc,hd,hs,hz,r⟩
 .obtain ⟨z,its,n,r,e⟩:=h.ok I.hok;exact⟨its,r,⟨_,n,e,rfl,rfl,rfl⟩,z⟩
 .refine ⟨its.toList,r,⟨o,n,I.kIn a o hk,hc,hd,by simpa using hs⟩,?_⟩;have e:=r.length;simp only[Q0]at e;lia
def Inv.tuple(I:Inv X pins σ H s)(h:bG X.K H a xs):∃its:List Value,ax xs its/\IsTup s.heap a its.toArray/\xs.length<=sizeLine:=by
 rcases h with h|⟨o,its,n,hk,hc,hs,hz,r⟩
 .obtain ⟨z,its,r,p⟩:=h.ok I.hok;exact⟨its,r,p,z⟩
 .refine ⟨its.toList,r,⟨o,I.kIn a o hk,hc,n,by simpa using hs⟩,?_⟩;have e:=r.length;simp only[Q0]at e;lia
def Inv.list_inj(I:Inv X pins σ H s)(h:bg X.K H a xs)(h':bg X.K H a ys):xs=ys:=by
 obtain⟨its,r,⟨o,n,e,_,_,d⟩,_⟩:=I.list h;obtain⟨its',r',⟨o',n',e',_,_,d'⟩,_⟩:=I.list h';rw[e]at e';cases e';rw[d]at d';injection d' with d1 _
 have:its=its':=by simpa using Jf WO d1
 subst this;exact r.inj r'
def Inv.tuple_inj(I:Inv X pins σ H s)(h:bG X.K H a xs)(h':bG X.K H a ys):xs=ys:=by
 obtain⟨its,r,⟨o,e,_,n,d⟩,_⟩:=I.tuple h;obtain⟨its',r',⟨o',e',_,n',d'⟩,_⟩:=I.tuple h';rw[e]at e';cases e';rw[d]at d';injection d' with d1 _
 have:its=its':=by simpa using Jf WO d1
 subst this;exact r.inj r'
end
abbrev Cx.wish(X:Cx)(E:Value->GU->Prop):Cx:={X with xe:=E}
abbrev Cx.nox(X:Cx):Cx:=X.wish λ_ _=>False
theorem Cx.Ok.wish{X:Cx}(ok:X.Ok)(E:Value->GU->Prop):(X.wish E).Ok:=
 ⟨ok.mod,ok.kind,ok.glob,ok.blt,ok.above,ok.inj,ok.has,ok.cab,ok.hd,ok.frames,ok.stk,ok.exf,ok.bs,ok.bsz,ok.noex,ok.exfs,ok.funs,ok.frf⟩
def Cx.Ok.unwish {X:Cx}(ok:(X.wish E).Ok):X.Ok:=
 ⟨ok.mod,ok.kind,ok.glob,ok.blt,ok.above,ok.inj,ok.has,ok.cab,ok.hd,ok.frames,ok.stk,ok.exf,ok.bs,ok.bsz,ok.noex,ok.exfs,ok.funs,ok.frf⟩
section
variable{X:Cx}{pins:List (Addr×Obj)}{σ:St}{H:Hp}{s:GU}{E:Value->GU->Prop}
theorem Inv.wish(I:Inv X pins σ H s)(E:Value->GU->Prop):Inv (X.wish E) pins σ H s:=⟨I.ok.wish E,I.os,I.bare,I.base,I.loc,I.cell,I.free,I.freeC,I.pin,I.hok,I.len⟩
theorem Inv.unwish(I:Inv (X.wish E) pins σ H s):Inv X pins σ H s:=⟨I.ok.unwish,I.os,I.bare,I.base,I.loc,I.cell,I.free,I.freeC,I.pin,I.hok,I.len⟩
theorem SP.unwish{D:bJ}{f:Flow}{s':GU}(h:SP (X.wish E) pins D f s'):SP X pins D f s':=by
 cases f with
 |next=>obtain⟨σ',H',I,q⟩:=h;exact⟨σ',H',I.unwish,q⟩
 |brk=>obtain⟨σ',H',I,q⟩:=h;exact⟨σ',H',I.unwish,q⟩
 |cont=>obtain⟨σ',H',I,q⟩:=h;exact⟨σ',H',I.unwish,q⟩
 |ret u=>obtain⟨v,σ',H',I,r,q⟩:=h;exact⟨v,σ',H',I.unwish,r,q⟩
theorem bW.nox{st:List Stmt}{t:TS}(h:bW X.nox st t):bW X st t:=λpins s σ H D I hw=>
 Hi (h pins s σ H D (I.wish _) hw) (λ_ _ q=>q.unwish) λ_ _ z=>False.elim z
end
section
variable{X:Cx}{st:Stmt}{rest:List Stmt}{t u:TS}{e:Expr}{te:TE}{pos:Pos}
noncomputable def Ag:TS:=λD σ H=>D.nx σ H
noncomputable def iY(t u:TS):TS:=λD σ H=>t {D with nx:=u D} σ H
def CN:bW X [] Ag:=λ_ _ σ H _ I h=>Hm ⟨σ,H,I,h⟩
set_option tactic.hygienic true in
def jU(h1:PS X st t)(h2:bW X rest u):bW X (st::rest) (iY t u):=by
 intro pins s σ H D I h;refine wpAny_execs_cons (aQ (h1 pins s σ H {D with nx:=u D} I h) λf s1 q=>?_);cases f with
 |next=>
  obtain⟨σ',H',I',q⟩:=q;exact h2 pins s1 σ' H' D I' q
 |ret v=>exact q
 |brk=>exact q
 |cont=>exact q
def pZ(h1:PS X st t):bW X [st] t:=by
 intro pins s σ H D I h;refine wpAny_execs_cons (aQ (h1 pins s σ H D I h) λf s1 q=>?_);cases f with
 |next=>exact Hm q
 |ret v=>exact q
 |brk=>exact q
 |cont=>exact q
def Inv.quiet (I:Inv X pins σ H s):interactive X.env=false:=by simp[interactive,I.ok.kind]
noncomputable def Af(te:TE):TS:=λD σ H=>te σ H λ_ H1=>D.nx σ H1
def CM(he:PE X e te)(hs:Hn e none pos.line X.env=pure false:=by rfl):PS X (.Expr e pos) (Af te):=by
 intro pins s σ H D I h;exact wpAny_Expr_any (aQ (he pins s σ H _ I h) λv s1 ⟨x,H1,I1,r1,q1⟩=>⟨σ,H1,I1,q1⟩) I.quiet hs
noncomputable def iZ(te:TE):TS:=λD σ H=>te σ H D.rt
def pL(he:PE X e te):PS X (.Return (some e) pos) (iZ te):=by
 intro pins s σ H D I h;exact wpAny_Return_some (aQ (he pins s σ H _ I h) λv s1 ⟨x,H1,I1,r1,q1⟩=>⟨x,σ,H1,I1,r1,q1⟩)
noncomputable def i7(c:TT)(t u:TS):TS:=λD σ H=>c σ H λb H1=>if b=true then t D σ H1 else u D σ H1
def Ae (hc:PT X c tc)(ha:bW X a t)(hb:bW X b u):PS X (.If c a b pos) (i7 tc t u):=by
 intro pins s σ H D I h;refine wpAny_If (aQ (hc pins s σ H _ I h) λd s1 ⟨H1,I1,q1⟩=>?_);cases d with
 |true=>exact ha pins s1 σ H1 D I1 q1
 |false=>exact hb pins s1 σ H1 D I1 q1
noncomputable def Am:TS:=λ_ _ _=>False
def D5:PS X st Am:=λ_ _ _ _ _ _ h=>h.elim
end
abbrev TG:=V->St->Hp->(St->Hp->Prop)->Prop
abbrev em:=List V->St->Hp->(St->Hp->Prop)->Prop
noncomputable def PG(X:Cx)(target:Expr)(t:TG):Prop:=
 ∀(pins:List (Addr×Obj)) (s:GU) (σ:St) (H:Hp) (v:V) (u:Value) (Q:St->Hp->Prop),Inv X pins σ H s->RelV v u->t v σ H Q ->
  He (Hf X.prog X.w) X.A (assign target X.env u) (λ_ s'=>∃σ' H',Inv X pins σ' H' s'/\Q σ' H') X.xe s
noncomputable def il(X:Cx)(ts:List Expr)(t:em):Prop:=
 ∀(pins:List (Addr×Obj)) (s:GU) (σ:St) (H:Hp) (vs:List V) (us:List Value) (Q:St->Hp->Prop),Inv X pins σ H s->ax vs us->t vs σ H Q ->
  He (Hf X.prog X.w) X.A (assignInOrder ((Ho ts X.env).map (·.2)) us) (λ_ s'=>∃σ' H',Inv X pins σ' H' s'/\Q σ' H') X.xe s
abbrev iB:=V->V->V->Hp->(Hp->Prop)->Prop
noncomputable def iA(X:Cx)(t:iB):Prop:=
 ∀(pins:List (Addr×Obj)) (s:GU) (σ:St) (H:Hp) (o i v:V) (ov iv u:Value) (Q:Hp->Prop),Inv X pins σ H s->RelV o ov->RelV i iv->RelV v u->t o i v H Q ->
  He (Hf X.prog X.w) X.A (Hq ov iv u) (λ_ s'=>∃H',Inv X pins σ H' s'/\Q H') X.xe s
abbrev fu:=V->V->Hp->VK->Prop
noncomputable def ik(X:Cx)(op:Hr)(t:fu):Prop:=
 ∀(pins:List (Addr×Obj)) (s:GU) (σ:St) (H:Hp) (x y:V) (v u:Value) (Q:VK),Inv X pins σ H s->RelV x v->RelV y u->t x y H Q ->
  He (Hf X.prog X.w) X.A (inplaceOp op v u) (EP X pins σ Q) X.xe s
section
variable{X:Cx}{pos:Pos}
noncomputable def yG(i:Nat):TG:=λv σ H Q=>Q (σ.set i (some v)) H
def yg (hN:X.N.Nodup)(hi:X.N[i]?=some x)(hx:Loc X.env.scope x)(hf:X.fn x=true\/X.env.scope.names.lookup x=some .local:=by first|exact .inl rfl|exact .inr rfl|assumption):PG X (.Name x pos) (yG i):=by
 intro pins s σ H v u Q I r h;exact wpAny_assign_Name (vt I hN hi hx r (λs' I'=>⟨_,H,I',h⟩) hf)
noncomputable def ff:em:=λvs σ H Q=>vs=[]/\Q σ H
noncomputable def xY(t:TG)(u:em):em:=λvs σ H Q=>∃v r,vs=v::r/\t v σ H λσ' H'=>u r σ' H' Q
def vk:il X [] ff:=by
 intro pins s σ H vs us Q I r h;obtain⟨e,h⟩:=h;subst e;cases r;exact assignInOrder_nil ⟨σ,H,I,h⟩
def yx (h1:PG X e t)(h2:il X es u)(hs:(Ho (e::es) X.env).map (·.2)=assign e X.env::(Ho es X.env).map (·.2):=by rfl):il X (e::es) (xY t u):=by
 intro pins s σ H vs us Q I r h;obtain⟨v,vr,e1,h⟩:=h;subst e1;cases r with
 |cons r rr=>
  rw[hs];refine assignInOrder_cons (aQ (h1 pins s σ H _ _ _ I r h) λ_ s1 ⟨σ1,H1,I1,q1⟩=>?_);exact h2 pins s1 σ1 H1 _ _ Q I1 rr q1
noncomputable def fe(K:Qb)(n:Nat)(t:em):TG:=λv σ H Q=>∃a xs,v=.ref a/\bG K H a xs/\xs.length=n/\t xs σ H Q
def kZ (hc:X.calm=true)(h:il X es t)(hn:(Ho es X.env).length=n:=by rfl)(hst:(Ho es X.env).findIdx? (·.1)=none:=by rfl):PG X (.Tuple es k pos) (fe X.K n t):=by
 intro pins s σ H v u Q I r hw;obtain⟨a,xs,e1,hq,hl,hw⟩:=hw;subst e1;cases r;obtain⟨its,rv,ht,hz⟩:=I.tuple hq;refine assign_Tuple_tuple (I.ok.hd hc) ht (by simp[hn,<-hl,rv.length]) hst λh' hx=>?_;have I1:Inv X pins σ H {s with heap:=h' }:=I.kept (t':=s.toks) λb o e=>hx b o (QI (Qi e)) e;exact h pins _ σ H xs _ Q I1 (by simpa using rv) hw
noncomputable def mE(to ti:TE)(t:iB):TG:=λv σ H Q=>to σ H λo H1=>ti σ H1 λi H2=>t o i v H2 λH3=>Q σ H3
def pK (ho:PE X o to)(hi:PE X i ti)(hs:iA X t)(ha:∀v,assign (.Subscript o i pos) X.env v=(do
   let ov <-holding [v] (eval o X.env)
   let iv <-holding [v,ov] (eval i X.env)
   standAt pos
   holding [v,ov,iv] (Hq ov iv v)
   release [v,ov,iv] []):=by intro _;rfl):PG X (.Subscript o i pos) (mE to ti t):=by
 intro pins s σ H v u Q I r h;rw[ha];refine Hs (Ht (aQ (ho pins s σ H _ I h) λov s1 ⟨x,H1,I1,r1,q1⟩=>?_));refine Hs (Ht (aQ (hi pins s1 σ H1 _ I1 q1) λiv s2 ⟨y,H2,I2,r2,q2⟩=>?_));refine Hs (Hu (Hs (Ht (aQ (hs pins s2 σ H2 x y v ov iv u _ I2 r1 r2 r q2) λ_ s3 ⟨H3,I3,q3⟩=>?_))));exact wpAny_release ⟨σ,H3,I3,q3⟩
noncomputable def e8(te:TE)(g:TG):TS:=λD σ H=>te σ H λx H1=>g x σ H1 D.nx
def qu (he:PE X e te)(hg:PG X tg g)(hs:swapsWithSole [tg] e pos.line X.env=pure false:=by rfl)(hw:swappedStores [tg] e X.env=pure none:=by rfl)(h1:(Ho [tg] X.env).map (·.2)=[assign tg X.env]:=by rfl):PS X (.Assign [tg] e pos) (e8 te g):=by
 intro pins s σ H D I h;refine wpAny_Assign_stores (aQ (he pins s σ H _ I h) λv s1 ⟨x,H1,I1,r1,q1⟩=>?_) hs hw;rw[h1];exact aQ (hg pins s1 σ H1 x v _ I1 r1 q1) λ_ s2 q=>q
def qw (hN:X.N.Nodup)(hi:X.N[i]?=some x)(hx:Loc X.env.scope x)(he:PE X e te)(hs:Hn e (some (.Name x pos')) pos.line X.env=pure false:=by rfl)(hf:X.fn x=true\/X.env.scope.names.lookup x=some .local:=by first|exact .inl rfl|exact .inr rfl|assumption):
  PS X (.Assign [.Name x pos'] e pos) (e8 te (yG i)):=by
 intro pins s σ H D I h;refine wpAny_Assign_Name (aQ (he pins s σ H _ I h) λv s1 ⟨y,H1,I1,r1,q1⟩=>?_) hs;exact vt I1 hN hi hx r1 (λs2 I2=>⟨_,H1,I2,q1⟩) hf
noncomputable def lc(i:Nat)(te:TE)(ti:fu):TS:=λD σ H=>∃x,σ[i]?=some (some x)/\te σ H λy H1=>ti x y H1 λz H2=>D.nx (σ.set i (some z)) H2
def AW (hN:X.N.Nodup)(hi:X.N[i]?=some x)(hx:Loc X.env.scope x)(he:PE X e te)(ho:ik X op ti)(hf:X.fn x=true\/X.env.scope.names.lookup x=some .local:=by first|exact .inl rfl|exact .inr rfl|assumption):
  PS X (.AugAssign (.Name x pos') op e pos) (lc i te ti):=by
 intro pins s σ H D I h;obtain⟨v,e1,h⟩:=h;obtain⟨m,hn,hl⟩:=I.loc;have vis:eR X.env.scope x:=by rcases hx with k|k;exact .inl k;exact .inr (.inl k)
 obtain⟨u,r,l⟩:=hl i x v hi e1 vis;refine wpAny_AugAssign_Name ?_;have go:He (Hf X.prog X.w) X.A (eval e X.env) (λw s₂=>He (Hf X.prog X.w) X.A (inplaceOp op u w) (λr s₃=>He (Hf X.prog X.w) X.A (storeName X.env x r) (λ_=>SP X pins D .next) X.xe s₃) X.xe s₂) X.xe s:=by
  refine aQ (he pins s σ H _ I h) λw s1 ⟨y,H1,I1,r1,q1⟩=>?_;refine aQ (ho pins s1 σ H1 v y u w _ I1 r r1 q1) λz s2 ⟨zv,H2,I2,r2,q2⟩=>?_;exact vt I2 hN hi hx r2 (λs3 I3=>⟨_,H2,I3,q2⟩) hf
 rcases l with⟨hk,hm⟩|⟨hk,c,hc,hcell⟩
 .exact Hj I.ok.kind hk hn hm go
 .rcases hk with hk|hk
  .exact Hk I.ok.kind hk hc hcell go
  .rcases hx with k|k
   .have:X.env.scope.names.lookup x=some .free:=hk;rw[k]at this;cases this
   .have:X.env.scope.names.lookup x=some .free:=hk;rw[k]at this;cases this
noncomputable def sm(f:Int->Int->Int):fu:=λx y H Q=>∃i j,x=.int i/\y=.int j/\Q (.int (f i j)) H
def AV:ik X .Add (sm λi j=>i+j):=by
 intro pins s σ H x y v u Q I r1 r2 h;obtain⟨i,j,e1,e2,q⟩:=h;subst e1;subst e2;obtain⟨t,rfl⟩:=r1;obtain⟨t',rfl⟩:=r2;exact iadd_int ⟨.int _,H,I.tok _,⟨_,rfl⟩,q⟩
def AU:ik X .Sub (sm λi j=>i-j):=by
 intro pins s σ H x y v u Q I r1 r2 h;obtain⟨i,j,e1,e2,q⟩:=h;subst e1;subst e2;obtain⟨t,rfl⟩:=r1;obtain⟨t',rfl⟩:=r2;exact isub_int ⟨.int _,H,I.tok _,⟨_,rfl⟩,q⟩
end
section
variable{X:Cx}{pos:Pos}
noncomputable def pJ(c:TT)(tb:TS):TS:=λD σ H=>∃W:Nat->St->Hp->Prop,(∃m,W m σ H)/\∀m σ H,W m σ H ->
 c σ H λb H1=>if b=true then ∃N:St->Hp->Prop,(∀σ' H',N σ' H'->∃m',m'<m/\W m' σ' H')/\tb {D with nx:=N,ct:=N,bk:=D.nx} σ H1 else D.nx σ H1
set_option tactic.hygienic true in
def D4 (hp:PassesOwn (Hf X.prog X.w) X.A X.env X.xe)(hc:PT X c tc)(hb:bW X body tb):PS X (.While c body [] pos) (pJ tc tb):=by
 intro pins s σ H D I h;obtain⟨W,⟨m0,w0⟩,turn⟩:=h;refine wpAny_While (codeAny_whileLoop (λn s'=>∃σ' H',Inv X pins σ' H' s'/\W n σ' H') ?_ m0 ⟨σ,H,I,w0⟩);rintro n s1 ⟨σ1,H1,I1,w1⟩;refine Hv hp (aQ (hc pins s1 σ1 H1 _ I1 (turn n σ1 H1 w1)) λb s2 ⟨H2,I2,q2⟩=>?_);cases b with
 |true=>
  obtain⟨N,hN,q2⟩:=q2;rw[Jh rfl];refine Hv hp (aQ (hb pins s2 σ1 H2 _ I2 q2) λf s3 q3=>?_);cases f with
  |next=>
   obtain⟨σ3,H3,I3,n3⟩:=q3;obtain⟨m',hm,w3⟩:=hN σ3 H3 n3;exact⟨m',hm,σ3,H3,I3,w3⟩
  |cont=>
   obtain⟨σ3,H3,I3,n3⟩:=q3;obtain⟨m',hm,w3⟩:=hN σ3 H3 n3;exact⟨m',hm,σ3,H3,I3,w3⟩
  |brk=>exact q3
  |ret v=>exact q3
 |false=>
  rw[Ji QS];exact Hm ⟨σ1,H2,I2,q2⟩
end
set_option genInjectivity false in
structure It where
 go:Nat->Hp->Prop
 yld:Nat->Hp->V->Hp->Prop
 stop:Nat->Hp->Prop
noncomputable def vg(X:Cx)(pins:List (Addr×Obj))(H:Hp)(b:Addr):Prop:=
 H b=none/\b≠X.env.locals/\b∉X.fs/\(b∈X.ex\/X.s₀.heap.objs.size<=b)/\(∀x c,X.env.cells.lookup x=some c->c≠b)/\∀p∈X.pn++pins,p.1≠b
def Inv.fpOk (I:Inv X pins σ H s)(hb:s.heap.objs.size<=b)(hn:H' b=none):vg X pins H' b:=by
 refine⟨hn,W2 (Qg I.lt hb),I.nofs hb,.inr (Qs I.sz hb),λx c e z=>?_,λp hp z=>?_⟩
 .obtain ⟨v,q⟩:=I.cell x c e;exact Jj (Qg q.lt (by rw[z];exact hb)) (Wk _)
 .exact Jj (Qg (Qi (I.pin p hp).1) (by rw[z];exact hb)) (Wk _)
structure cq(P:GT)(w:GV)(K:Qb)(tg:Expr)(J:It)(fp:List Addr)(it:Addr)(tn:Nat->GZ->Prop):Prop where
 mem:it∈fp
 obj:∀i h,tn i h->∀b∈fp,∃o,h.get? b=some o/\∀v,o.data≠.cell v
 keep:∀i h h',tn i h->(∀b∈fp,∀o,h.get? b=some o->h'.get? b=some o)->tn i h'
 item:∀(X:Cx),X.prog=P->X.w=w->X.K=K->X.calm=true->∀(i:Nat) (pins:List (Addr×Obj)) (s:GU) (σ:St) (H:Hp) (E:Value->GU->Prop),Inv X pins σ H s->(∀b∈fp,vg X pins H b)->tn i s.heap->J.go i H ->
  He (Hf P w) X.A (Hw (.ref it)) (λr s1=>∃u,r=some u /\
   He (Hf P w) X.A (Hx tg (.ref it) u) (λ_ s2=>∃x H',Inv X pins σ H' s2/\RelV x u/\J.yld i H x H'/\tn (i+1) s2.heap/\∀b∈fp,H' b=none) E s1) E s
 done:∀(X:Cx),X.prog=P->X.w=w->X.K=K->X.calm=true->∀(i:Nat) (pins:List (Addr×Obj)) (s:GU) (σ:St) (H:Hp) (E:Value->GU->Prop),Inv X pins σ H s->(∀b∈fp,vg X pins H b)->tn i s.heap->J.stop i H ->
  He (Hf P w) X.A (Hw (.ref it)) (λr s1=>r=none/\Inv X pins σ H s1) E s
 self:∀(A:Hc) (i:Nat) (s:GU) (Q:Value->GU->Prop) (E:Value->GU->Prop),tn i s.heap->Q (.ref it) s->He (Hf P w) A (pyIter (.ref it)) Q E s
abbrev TI:=St->Hp->(It->Hp->Prop)->Prop
noncomputable def tN(X:Cx)(pins:List (Addr×Obj))(σ:St)(tg:Expr)(R:It->Hp->Prop)(itv:Value)(s2:GU):Prop:=
 ∃(it:Addr) (fp:List Addr) (tn:Nat->GZ->Prop) (J:It) (H':Hp),itv=.ref it/\Inv X pins σ H' s2/\cq X.prog X.w X.K tg J fp it tn/\tn 0 s2.heap/\(∀b∈fp,vg X pins H' b)/\R J H'
noncomputable def PI(X:Cx)(tg iter:Expr)(wi:TI):Prop:=
 ∀(pins:List (Addr×Obj)) (s:GU) (σ:St) (H:Hp) (R:It->Hp->Prop),Inv X pins σ H s->wi σ H R ->
  He (Hf X.prog X.w) X.A (eval iter X.env) (λv s1=>He (Hf X.prog X.w) X.A (pyIter v) (tN X pins σ tg R) X.xe s1) X.xe s
def jV (ho:s.heap.get? it=some o)(hc:o.cls=.type n)(hd:o.data=.fields vs)(hn:["enumerate","zip","dict_itemiterator","dict_reverseitemiterator","odict_iterator","itertools.zip_longest","itertools.pairwise"].contains n=false)(hQ:Q () s):He M A (Hx tg (.ref it) u) Q E s:=by
 unfold Hx;cases tg<;>first
  |exact Hy hQ
  | (cases u <;> first
    |exact Hy hQ
    | (refine Hs (wpAny_load ho ?_)
       rw[hc,hd];show He M A (if(["enumerate","zip","dict_itemiterator","dict_reverseitemiterator","odict_iterator","itertools.zip_longest","itertools.pairwise"].contains n&&vs[0]?==some (Hz _))=true then _ else _) Q E s;rw[Ji (by intro h;rw[hn,Bool.false_and]at h;cases h)];exact Hy hQ))
noncomputable def nQ(K:Qb)(a:Addr):It:=
 ⟨λi H=>∃xs x,bg K H a xs/\xs[i]?=some x,λi H x H'=>H'=H/\∀xs,bg K H a xs->xs[i]?=some x,λi H=>∃xs,bg K H a xs/\xs.length<=i⟩
noncomputable def tO(K:Qb)(a:Addr):It:=
 ⟨λi H=>∃xs x,bG K H a xs/\xs[i]?=some x,λi H x H'=>H'=H/\∀xs,bG K H a xs->xs[i]?=some x,λi H=>∃xs,bG K H a xs/\xs.length<=i⟩
noncomputable def eS(lo:Int)(n:Nat):It:=⟨λi _=>i<n,λi H x H'=>H'=H/\x=.int (lo+i),λi _=>n<=i⟩
def Eu {K:Qb}(a it:Addr):cq P w K tg (nQ K a) [it] it (λi h=>h.IsListIter it a i) where
 mem:=by simp
 obj:=λi h st b hb=>by
  have e:b=it:=by simpa using hb
  subst e;obtain⟨o,e,c,d⟩:=st;exact⟨o,e,λv z=>by rw[d]at z;cases z⟩
 keep:=λi h h' st k=>st.at λo e=>k it (by simp) o e
 item:=by
  intro X hP hw hK hc i pins s σ H E I hf st hg;subst hP hw hK;obtain⟨xs,x,hq,hx⟩:=hg;obtain⟨its,rv,p,hz⟩:=I.list hq;obtain⟨u,hu,ru⟩:=rv.get hx;obtain⟨f0,f1,f2,f3,f4,f5⟩:=hf it (by simp);refine wpAny_pyNext_list_item st p.isList (x:=u) (by simpa using hu) λh' st' sb=>?_;have I1:Inv X pins σ H {s with heap:=h' }:=I.turned (t':=s.toks) (λb o hb e=>(sb.2 b hb).trans e) f0 f1 f3 f4 f5;obtain⟨o,e,c,d⟩:=id st';exact⟨u,rfl,jV (s:={s with heap:=h' }) e c d (by decide) ⟨x,H,I1,ru,⟨rfl,λys hy=>by rw[I.list_inj hy hq];exact hx⟩,st',λb hb=>(hf b hb).1⟩⟩
 done:=by
  intro X hP hw hK hc i pins s σ H E I hf st hg;subst hP hw hK;obtain⟨xs,hq,hx⟩:=hg;obtain⟨its,rv,p,hz⟩:=I.list hq;obtain⟨f0,f1,f2,f3,f4,f5⟩:=hf it (by simp);have hl:=rv.length;exact wpAny_pyNext_list_end (I.ok.hd hc) st p.isList (by simp;lia) λh' eb=>⟨rfl,I.turned (t':=s.toks) (λb o hb e=>eb b o hb e) f0 f1 f3 f4 f5⟩
 self:=λ_ _ _ _ _ st h=>wpAny_pyIter_listiter st h
def qx {K:Qb}(a it:Addr):cq P w K tg (tO K a) [it] it (λi h=>h.IsTupleIter it a i) where
 mem:=by simp
 obj:=λi h st b hb=>by
  have e:b=it:=by simpa using hb
  subst e;obtain⟨o,e,c,d⟩:=st;exact⟨o,e,λv z=>by rw[d]at z;cases z⟩
 keep:=λi h h' st k=>st.at λo e=>k it (by simp) o e
 item:=by
  intro X hP hw hK hc i pins s σ H E I hf st hg;subst hP hw hK;obtain⟨xs,x,hq,hx⟩:=hg;obtain⟨its,rv,p,hz⟩:=I.tuple hq;obtain⟨u,hu,ru⟩:=rv.get hx;obtain⟨f0,f1,f2,f3,f4,f5⟩:=hf it (by simp);refine wpAny_pyNext_tuple_item st (show s.heap.IsTuple a its.toArray from p) (x:=u) (by simpa using hu) λh' st' sb=>?_;have I1:Inv X pins σ H {s with heap:=h' }:=I.turned (t':=s.toks) (λb o hb e=>(sb.2 b hb).trans e) f0 f1 f3 f4 f5;obtain⟨o,e,c,d⟩:=id st';exact⟨u,rfl,jV (s:={s with heap:=h' }) e c d (by decide) ⟨x,H,I1,ru,⟨rfl,λys hy=>by rw[I.tuple_inj hy hq];exact hx⟩,st',λb hb=>(hf b hb).1⟩⟩
 done:=by
  intro X hP hw hK hc i pins s σ H E I hf st hg;subst hP hw hK;obtain⟨xs,hq,hx⟩:=hg;obtain⟨its,rv,p,hz⟩:=I.tuple hq;obtain⟨f0,f1,f2,f3,f4,f5⟩:=hf it (by simp);have hl:=rv.length;exact wpAny_pyNext_tuple_end (I.ok.hd hc) st (show s.heap.IsTuple a its.toArray from p) (by simp;lia) λh' eb=>⟨rfl,I.turned (t':=s.toks) (λb o hb e=>eb b o hb e) f0 f1 f3 f4 f5⟩
 self:=λ_ _ _ _ _ st h=>wpAny_pyIter_tupleiter st h
def qy {K:Qb}(it:Addr)(lo:Int)(n:Nat):cq P w K tg (eS lo n) [it] it (λi h=>IsRangeIter h it (lo+(i:Nat)*1) ((n:Int)-(i:Nat)) 1) where
 mem:=by simp
 obj:=λi h st b hb=>by
  have e:b=it:=by simpa using hb
  subst e;exact⟨_,st,λv z=>by
   have z':Data.fields _=Data.cell v:=z;cases z'⟩
 keep:=λi h h' st k=>k it (by simp) _ st
 item:=by
  intro X hP hw hK hc i pins s σ H E I hf st hg;subst hP hw hK;obtain⟨f0,f1,f2,f3,f4,f5⟩:=hf it (by simp);have W:=Walks.range (prog:=X.prog) (w:=X.w) (I.ok.hd hc) it lo 1 n;refine W.item i s _ _ hg st λv h' tk hv st' kk=>?_;obtain⟨t,rfl⟩:=hv;have I1:Inv X pins σ H {s with heap:=h',toks:=tk}:=I.turned (λb o hb e=>kk b o (by simpa using hb) e) f0 f1 f3 f4 f5;refine⟨_,rfl,jV (s:={s with heap:=h',toks:=tk}) (n:="range_iterator") st' rfl rfl (by decide) ⟨.int (lo+i),H,I1,⟨t,?_⟩,⟨rfl,rfl⟩,st',λb hb=>(hf b hb).1⟩⟩;rw[Int.mul_one]
 done:=by
  intro X hP hw hK hc i pins s σ H E I hf st hg;subst hP hw hK;obtain⟨f0,f1,f2,f3,f4,f5⟩:=hf it (by simp);exact wpAny_pyNext_range_end (I.ok.hd hc) st (by have:n<=i:=hg;lia) λh' eb=>⟨rfl,I.turned (t':=s.toks) (λb o hb e=>eb b o hb e) f0 f1 f3 f4 f5⟩
 self:=λ_ _ _ _ _ st h=>wpAny_pyIter_rangeiter st h
section
variable{X:Cx}{tg:Expr}
noncomputable def Ad(K:Qb)(tl:TE):TI:=λσ H R=>tl σ H λx H1=>∃a,x=.ref a/\(∃xs,bg K H1 a xs)/\R (nQ K a) H1
noncomputable def mD(K:Qb)(tl:TE):TI:=λσ H R=>tl σ H λx H1=>∃a,x=.ref a/\(∃xs,bG K H1 a xs)/\R (tO K a) H1
def CL (hl:PE X l tl):PI X tg l (Ad X.K tl):=by
 intro pins s σ H R I h;refine aQ (hl pins s σ H _ I h) λv s1 ⟨x,H1,I1,r1,q1⟩=>?_;obtain⟨a,e,⟨xs,hq⟩,q⟩:=q1;subst e;cases r1;obtain⟨its,rv,p,hz⟩:=I1.list hq;refine wpAny_pyIter_list p.isList ?_;refine⟨s1.heap.objs.size,[s1.heap.objs.size],_,_,H1,rfl,I1.kept (t':=s1.toks) λb o e=>Qe _ e,Eu a _,⟨_,Qw _ rfl,rfl,rfl⟩,λb hb=>?_,q⟩;have e:b=s1.heap.objs.size:=by simpa using hb
 subst e;exact I1.fpOk (Qf _) (I1.hok.fresh (Qf _))
def AT (hl:PE X l tl):PI X tg l (mD X.K tl):=by
 intro pins s σ H R I h;refine aQ (hl pins s σ H _ I h) λv s1 ⟨x,H1,I1,r1,q1⟩=>?_;obtain⟨a,e,⟨xs,hq⟩,q⟩:=q1;subst e;cases r1;obtain⟨its,rv,p,hz⟩:=I1.tuple hq;refine wpAny_pyIter_tuple (show s1.heap.IsTuple a its.toArray from p) ?_;refine⟨s1.heap.objs.size,[s1.heap.objs.size],_,_,H1,rfl,I1.kept (t':=s1.toks) λb o e=>Qe _ e,qx a _,⟨_,Qw _ rfl,rfl,rfl⟩,λb hb=>?_,q⟩;have e:b=s1.heap.objs.size:=by simpa using hb
 subst e;exact I1.fpOk (Qf _) (I1.hok.fresh (Qf _))
def jW {lo:Int}(I:Inv X pins σ H s)(h1:-(2^62)<=lo)(h2:lo<2^62)(h3:-(2^62)<=hi)(h4:hi<2^62)(q:R (eS lo (hi-lo).toNat) H):He (Hf X.prog X.w) X.A (pyIter (.ref s.heap.objs.size)) (tN X pins σ tg R) E {s with heap:=s.heap.push {cls:=.type "range",data:=.fields #[.int lo t,.int hi u,.int 1 v]},toks:=tk}:=by
 refine wpAny_pyIter_range (IsRange.new ..) (small_one h1 h2 h3 h4) ?_;have I1:Inv X pins σ H {s with heap:=s.heap.push {cls:=.type "range",data:=.fields #[.int lo t,.int hi u,.int 1 v]},toks:=tk}:=I.kept λb o e=>Qe _ e;refine⟨(s.heap.push {cls:=.type "range",data:=.fields #[.int lo t,.int hi u,.int 1 v]}).objs.size,[(s.heap.push {cls:=.type "range",data:=.fields #[.int lo t,.int hi u,.int 1 v]}).objs.size],_,_,H,rfl,
  I1.kept (t':=tk) λb o e=>Qe _ e,qy _ lo (hi-lo).toNat,?_,λb hb=>?_,q⟩
 .have e1:lo+((0:Nat):Int)*1=lo:=by simp
  have e2:(((hi-lo).toNat:Nat):Int)-((0:Nat):Int)=Builtin.Range.rangeSize lo hi 1:=by rw[rangeSize_one];split<;>lia
  show IsRangeIter _ _ (lo+((0:Nat):Int)*1) ((((hi-lo).toNat:Nat):Int)-((0:Nat):Int)) 1;rw[e1,e2];exact Qw _ rfl
 .have e:b=(s.heap.push {cls:=.type "range",data:=.fields #[.int lo t,.int hi u,.int 1 v]}).objs.size:=by simpa using hb
  subst e;exact I1.fpOk (Qf _) (I1.hok.fresh (Qf _))
noncomputable def Ac(ta:TA):TI:=λσ H R=>ta σ H λvs H1=>∃j:Int,vs=[.int j]/\-(2^62)<=j/\j<2^62/\R (eS 0 j.toNat) H1
noncomputable def ua(ta:TA):TI:=λσ H R=>ta σ H λvs H1=>∃i j:Int,vs=[.int i,.int j]/\(-(2^62)<=i/\i<2^62/\-(2^62)<=j/\j<2^62)/\R (eS i (j-i).toNat) H1
def Et (hg:Gl X "range")(hm:X.mg "range"=none)(ha:PA X [a] ta)(hs:Hh [a] X.env=[(false,eval a X.env)]:=by rfl):PI X tg (.Call (.Name "range" p) [a] [] pos) (Ac ta):=by
 intro pins s σ H R I h;refine Call_ (xR I hg hm boot_range (PyProof.Rows.callWith_type1 (aQ (ha pos pins s σ H _ I h) λus s1 ⟨vs,H1,I1,r1,q1⟩=>?_) hs rfl));obtain⟨j,e,q1,q2,q⟩:=q1;subst e;cases r1 with
 |cons r rr=>
  cases rr;obtain⟨t,rfl⟩:=r;exact call_range_1 (jW I1 (by lia) (by lia) q1 q2 (by simpa using q))
def Es (hg:Gl X "range")(hm:X.mg "range"=none)(ha:PA X [a,b] ta)(hs:Hh [a,b] X.env=[(false,eval a X.env),(false,eval b X.env)]:=by rfl)(hs2:Hh [b] X.env=[(false,eval b X.env)]:=by rfl):
  PI X tg (.Call (.Name "range" p) [a,b] [] pos) (ua ta):=by
 intro pins s σ H R I h;refine Call_ (xR I hg hm boot_range (PyProof.Rows.callWith_type1 (aQ (ha pos pins s σ H _ I h) λus s1 ⟨vs,H1,I1,r1,q1⟩=>?_) (by rw[hs,hs2]) (by rw[hs2];rfl)));obtain⟨i,j,e,⟨q1,q2,q3,q4⟩,q⟩:=q1;subst e;cases r1 with
 |cons r rr=>
  cases rr with
  |cons r' rr=>
   cases rr;obtain⟨t,rfl⟩:=r;obtain⟨t',rfl⟩:=r';exact call_range_2 (jW I1 q1 q2 q3 q4 q)
noncomputable def fG(wi:TI)(g:TG)(tb:TS):TS:=λD σ H=>wi σ H λJ H1=>∃W:Nat->Nat->St->Hp->Prop,(∃m,W 0 m σ H1)/\∀i m σ H,W i m σ H ->
 (J.stop i H/\D.nx σ H)\/(J.go i H/\∃N:St->Hp->Prop,(∀σ' H',N σ' H'->∃m',m'<m/\W (i+1) m' σ' H')/\∀x H',J.yld i H x H'->g x σ H' λσ2 H2=>tb {D with nx:=N,ct:=N,bk:=D.nx} σ2 H2)
noncomputable def vA(fp:List Addr)(h:GZ):List (Addr×Obj):=fp.filterMap λb=>(h.get? b).map λo=>(b,o)
def y7 (hb:b∈fp)(e:h.get? b=some o):(b,o)∈vA fp h:=Vv.mpr ⟨b,hb,by rw[e];rfl⟩
def D1 (hp:p∈vA fp h):p.1∈fp/\h.get? p.1=some p.2:=by
 obtain⟨b,hb,e⟩:=Vv.mp hp;cases q:h.get? b with
 |none=>rw[q]at e;cases e
 |some o=>
  rw[q]at e;have e':(b,o)=p:=Option.some.inj e;subst e';exact⟨hb,q⟩
def Inv.pinned{pins:List (Addr×Obj)}{σ:St}{H:Hp}{s:GU}{fp:List Addr}(I:Inv X pins σ H s)(hf:∀b∈fp,vg X pins H b)(ho:∀b∈fp,∃o,s.heap.get? b=some o/\∀v,o.data≠.cell v):Inv X (pins++vA fp s.heap) σ H s:=
 I.pins_of λp hp=>(Ql.mp hp).elim (λz=>I.pin p (Qt _ z)) λz=>by
  obtain⟨hb,e⟩:=D1 z;obtain⟨f0,f1,f2,_⟩:=hf p.1 hb;obtain⟨o,e',d⟩:=ho p.1 hb;rw[e]at e';cases e';exact⟨e,f0,f1,f2,d⟩
def Inv.unpinned{pins pl:List (Addr×Obj)}{σ:St}{H:Hp}{s:GU}(I:Inv X (pins++pl) σ H s):Inv X pins σ H s:=I.pins_of λp hp=>I.pin p (Qt _ (Q3 _ hp))
def k8 (hp:PassesOwn (Hf X.prog X.w) X.A X.env X.xe)(hc:X.calm=true)(hi:PI X tg iter wi)(hg:PG X tg g)(hb:bW X body tb)(hs:∀x,HA iter X.env x=pure x:=by intro _;rfl):PS X (.For tg iter body [] pos) (fG wi g tb):=by
 intro pins s σ H D I h;refine wpAny_For (aQ (hi pins s σ H _ I h) λv s1 h1=>aQ h1 λitv s2 h2=>?_) hs;obtain⟨it,fp,tn,J,H2,e,I2,T,st2,f2,W,⟨m0,w0⟩,turn⟩:=h2;subst e
 -- what stays true of the iterator's objects through the loop
 have stat:∀{H':Hp},(∀b∈fp,H' b=none)->∀b∈fp,vg X pins H' b:=λhn b hb=>⟨hn b hb,(f2 b hb).2⟩;refine codeAny_forLoop_any (λn s'=>∃i σ' H',Inv X pins σ' H' s'/\tn i s'.heap/\(∀b∈fp,H' b=none)/\W i n σ' H') ?_ m0 ⟨0,σ,H2,I2,st2,λb hb=>(f2 b hb).1,w0⟩;rintro n s3 ⟨i,σ3,H3,I3,st3,fr3,w3⟩;rcases turn i n σ3 H3 w3 with⟨stop,qn⟩|⟨go,N,hN,step⟩
 .refine Hv hp (aQ (T.done X rfl rfl rfl hc i pins s3 σ3 H3 X.xe I3 (stat fr3) st3 stop) λr s4 ⟨hr,I4⟩=>?_);subst hr;exact Hm ⟨σ3,H3,I4,qn⟩
 .refine Hv hp (aQ (T.item X rfl rfl rfl hc i pins s3 σ3 H3 X.xe I3 (stat fr3) st3 go) λr s4 ⟨u,hr,h4⟩=>?_);subst hr;refine Hv hp (aQ h4 λ_ s5 ⟨x,H5,I5,r5,y5,st5,fr5⟩=>?_);have I5':=I5.pinned (stat fr5) (T.obj _ _ st5);refine Hv hp (aQ (hg _ s5 σ3 H5 x u _ I5' r5 (step x H5 y5)) λ_ s6 ⟨σ6,H6,I6,q6⟩=>?_);refine Hv hp (aQ (hb _ s6 σ6 H6 _ I6 q6) λf s7 q7=>?_);have again:∀{σ7:St}{H7:Hp},Inv X (pins++vA fp s5.heap) σ7 H7 s7->N σ7 H7->∃m,m<n/\∃i σ' H',Inv X pins σ' H' s7/\tn i s7.heap/\(∀b∈fp,H' b=none)/\W i m σ' H':=λ{σ7 H7} I7 n7=>by
   obtain⟨m',hm,w7⟩:=hN σ7 H7 n7;refine⟨m',hm,i+1,σ7,H7,I7.unpinned,T.keep _ _ _ st5 λb hb o e=>(I7.pin (b,o) (Qt _ (Qt _ (y7 hb e)))).1,λb hb=>?_,w7⟩;obtain⟨o,e,d⟩:=T.obj _ _ st5 b hb;exact(I7.pin (b,o) (Qt _ (Qt _ (y7 hb e)))).2.1
  cases f with
  |next=>obtain⟨σ7,H7,I7,n7⟩:=q7;exact again I7 n7
  |cont=>obtain⟨σ7,H7,I7,n7⟩:=q7;exact again I7 n7
  |brk=>obtain⟨σ7,H7,I7,q7⟩:=q7;exact⟨σ7,H7,I7.unpinned,q7⟩
  |ret v=>obtain⟨x7,σ7,H7,I7,r7,q7⟩:=q7;exact⟨x7,σ7,H7,I7.unpinned,r7,q7⟩
end
abbrev R2:=V->V->Hp->VK->Prop
noncomputable def bL(X:Cx)(f:Value->Value->Sem Value)(r:R2):Prop:=
 ∀(pins:List (Addr×Obj)) (s:GU) (σ:St) (H:Hp) (x y:V) (v u:Value) (Q:VK),Inv X pins σ H s->RelV x v->RelV y u->r x y H Q ->
  He (Hf X.prog X.w) X.A (f v u) (EP X pins σ Q) X.xe s
noncomputable def nN(X:Cx)(f:Value->Sem Value)(r:V->Hp->VK->Prop):Prop:=
 ∀(pins:List (Addr×Obj)) (s:GU) (σ:St) (H:Hp) (x:V) (v:Value) (Q:VK),Inv X pins σ H s->RelV x v->r x H Q ->
  He (Hf X.prog X.w) X.A (f v) (EP X pins σ Q) X.xe s
noncomputable def bj(X:Cx)(f:Value)(r:List V->Hp->VK->Prop):Prop:=
 ∀(pins:List (Addr×Obj)) (s:GU) (σ:St) (H:Hp) (xs:List V) (us:List Value) (Q:VK),Inv X pins σ H s->ax xs us->r xs H Q ->
  He (Hf X.prog X.w) X.A (call f us) (EP X pins σ Q) X.xe s
noncomputable def dt(r:R2)(ta tb:TE):TE:=λσ H Q=>ta σ H λx H1=>tb σ H1 λy H2=>r x y H2 Q
noncomputable def EB(r:V->Hp->VK->Prop)(ta:TE):TE:=λσ H Q=>ta σ H λx H1=>r x H1 Q
noncomputable def rI(C:Int->Int->Prop)(g:Int->Int->V):R2:=λx y H Q=>∃i j,x=.int i/\y=.int j/\C i j/\Q (g i j) H
noncomputable def dg(g:Int->Int->V):R2:=λx y H Q=>∃i j,x=.int i/\y=.int j/\Q (g i j) H
noncomputable def rU(g:Int->V):V->Hp->VK->Prop:=λx H Q=>∃i,x=.int i/\Q (g i) H
section
variable{X:Cx}{a b:Expr}{ta tb:TE}{pos:Pos}
def iz (ha:PE X a ta)(hb:PE X b tb){R:V->V->Hp->Prop}(I:Inv X pins σ H s)(h:ta σ H λx H1=>tb σ H1 λy H2=>R x y H2){f:Value->Value->Sem Value}(hf:∀v u s2 x y H2,Inv X pins σ H2 s2->RelV x v->RelV y u->R x y H2->He (Hf X.prog X.w) X.A (f v u) Q X.xe s2):
  He (Hf X.prog X.w) X.A (eval a X.env) (λv s₁=>He (Hf X.prog X.w) X.A (eval b X.env) (λu s₂=>He (Hf X.prog X.w) X.A (f v u) Q X.xe s₂) X.xe s₁) X.xe s:=by
 refine aQ (ha pins s σ H _ I h) λv s1 ⟨x,H1,I1,r1,q1⟩=>?_;refine aQ (hb pins s1 σ H1 _ I1 q1) λu s2 ⟨y,H2,I2,r2,q2⟩=>?_;exact hf v u s2 x y H2 I2 r1 r2 q2
def t9 (ho:bL X (HB op) r)(ha:PE X a ta)(hb:PE X b tb):PE X (.BinOp a op b pos) (dt r ta tb):=by
 intro pins s σ H Q I h;exact wpAny_BinOp (iz ha hb I h λv u s2 x y H2 I2 rx ry q=>ho pins s2 σ H2 x y v u Q I2 rx ry q)
def t8 (ho:nN X (unaryOp op) r)(ha:PE X a ta):PE X (.UnaryOp op a pos) (EB r ta):=by
 intro pins s σ H Q I h;exact UnaryOp_ (aQ (ha pins s σ H _ I h) λv s1 ⟨x,H1,I1,r1,q1⟩=>ho pins s1 σ H1 x v Q I1 r1 q1)
def fm {g:Int->Int->Int}(rule:∀(i j:Int) (t u:Tok) (s:GU) (Q:Value->GU->Prop) (E:Value->GU->Prop),C i j->Q (.int (g i j) s.toks) {s with toks:=s.toks+1}->He (Hf X.prog X.w) X.A (f (.int i t) (.int j u)) Q E s):
  bL X f (rI C λi j=>.int (g i j)):=by
 intro pins s σ H x y v u Q I rx ry h;obtain⟨i,j,rfl,rfl,hc,q⟩:=h;obtain⟨t,rfl⟩:=rx;obtain⟨t',rfl⟩:=ry;exact rule i j t t' s _ _ hc ⟨.int (g i j),H,I.tok _,⟨_,rfl⟩,q⟩
def iy {g:Int->Int->Int}(rule:∀(i j:Int) (t u:Tok) (s:GU) (Q:Value->GU->Prop) (E:Value->GU->Prop),Q (.int (g i j) s.toks) {s with toks:=s.toks+1}->He (Hf X.prog X.w) X.A (f (.int i t) (.int j u)) Q E s):
  bL X f (dg λi j=>.int (g i j)):=by
 intro pins s σ H x y v u Q I rx ry h;obtain⟨i,j,rfl,rfl,q⟩:=h;obtain⟨t,rfl⟩:=rx;obtain⟨t',rfl⟩:=ry;exact rule i j t t' s _ _ ⟨.int (g i j),H,I.tok _,⟨_,rfl⟩,q⟩
def oC {g:Int->Int->Bool}(rule:∀(i j:Int) (t u:Tok) (s:GU) (Q:Value->GU->Prop) (E:Value->GU->Prop),Q (.bool (g i j)) s->He (Hf X.prog X.w) X.A (f (.int i t) (.int j u)) Q E s):
  bL X f (dg λi j=>.bl (g i j)):=by
 intro pins s σ H x y v u Q I rx ry h;obtain⟨i,j,rfl,rfl,q⟩:=h;obtain⟨t,rfl⟩:=rx;obtain⟨t',rfl⟩:=ry;exact rule i j t t' s _ _ ⟨.bl (g i j),H,I,rfl,q⟩
noncomputable def oB(i j:Int):Prop:=0<j/\j<1073741824
noncomputable def oA(i j:Int):Prop:=0<=j/\j<=1000000/\i.natAbs<2^64
noncomputable def dJ(i j:Int):Prop:=(-(2^64)<i/\i<2^64)\/(-(2^64)<j/\j<2^64)
def dJ.ok (h:dJ i j):IntMulOk i j:=by
 rcases h with⟨h1,h2⟩|⟨h1,h2⟩
 .exact .of_left (intBits_le_64 h1 h2)
 .exact .of_right (intBits_le_64 h1 h2)
def qz(k:Nat):(0:Int)<=2^k:=by
 rw[two_pow_cast];exact Int.natCast_nonneg _
def dZ:bL X (HB .Add) (dg λi j=>.int (i+j)):=iy λ_ _ _ _ _ _ _ q=>add_int q
def AS:bL X (HB .Sub) (dg λi j=>.int (i-j)):=iy λ_ _ _ _ _ _ _ q=>sub_int q
def dX:bL X (HB .Mult) (rI dJ λi j=>.int (i*j)):=fm λ_ _ _ _ _ _ _ hc q=>mul_int q hc.ok
def CK:bL X (HB .FloorDiv) (rI oB λi j=>.int (i/j)):=fm λi j _ _ _ _ _ hc q=>by
 have h1:(0:Int)<j:=hc.1;have h2:j<1073741824:=hc.2;exact floordiv_int (by lia) (by rw[VM i (by lia)];exact q) (.inl (PyProof.noPylong_small (by lia)))
def AR:bL X (HB .Mod) (rI (λ_ j=>0<j) λi j=>.int (i%j)):=fm λi j _ _ _ _ _ hc q=>by
 have h1:(0:Int)<j:=hc;exact mod_int' (by lia) (by rw[Int.fmod_eq_emod_of_nonneg i (by lia)];exact q)
def AQ:bL X (HB .Pow) (rI oA λi j=>.int (i^j.toNat)):=fm λ_ _ _ _ _ _ _ hc q=>pow_int_small hc.1 hc.2.1 hc.2.2 q
def AO:bL X (HB .RShift) (rI (λ_ j=>0<=j) λi j=>.int (i/2^j.toNat)):=fm λi j _ _ _ _ _ hc q=>
 rshift_int hc (by rw[VM i (qz _)];exact q)
def AN:bL X (HB .BitAnd) (dg λi j=>.int (Builtin.bitAnd i j)):=iy λ_ _ _ _ _ _ _ q=>and_int q
def EA {g:Int->Int}(rule:∀(i:Int) (t:Tok) (s:GU) (Q:Value->GU->Prop) (E:Value->GU->Prop),Q (.int (g i) s.toks) {s with toks:=s.toks+1}->He (Hf X.prog X.w) X.A (f (.int i t)) Q E s):
  nN X f (rU λi=>.int (g i)):=by
 intro pins s σ H x v Q I rx h;obtain⟨i,rfl,q⟩:=h;obtain⟨t,rfl⟩:=rx;exact rule i t s _ _ ⟨.int (g i),H,I.tok _,⟨_,rfl⟩,q⟩
def AM:nN X (unaryOp .USub) (rU λi=>.int (-i)):=EA λ_ _ _ _ _ q=>neg_int q
end
section
variable{X:Cx}{a b c:Expr}{ta tb tc:TE}{pos:Pos}
def pI (I:Inv X pins σ H s)(q:Q (.bl k) H)(e:k=k'):EP X pins σ Q (.bool k') s:=by
 subst e;exact⟨.bl k,H,I,rfl,q⟩
def t7:bL X (HC .Lt) (dg λi j=>.bl (decide (i<j))):=oC λ_ _ _ _ _ _ _ q=>lt_int q
def t6:bL X (HC .LtE) (dg λi j=>.bl (decide (i<=j))):=oC λ_ _ _ _ _ _ _ q=>le_int q
def AL:bL X (HC .Is) (λx y H Q=>y=.non/\Q (.bl (decide (x=.non))) H):=by
 intro pins s σ H x y v u Q I rx ry h;obtain⟨rfl,q⟩:=h;cases ry;refine is_none_gen (pI I q ?_);cases x<;>first
  |(cases rx;rfl)
  |(obtain⟨t,rfl⟩:=rx;rfl)
def CJ:bL X (HC .IsNot) (λx y H Q=>y=.non/\Q (.bl (! decide (x=.non))) H):=by
 intro pins s σ H x y v u Q I rx ry h;obtain⟨rfl,q⟩:=h;cases ry;refine isnot_none_gen (pI I q ?_);cases x<;>first
  |(cases rx;rfl)
  |(obtain⟨t,rfl⟩:=rx;rfl)
def bL.or{f:Value->Value->Sem Value}{r r':R2}(h:bL X f r)(h':bL X f r'):bL X f (λx y H Q=>r x y H Q\/r' x y H Q):=by
 intro pins s σ H x y v u Q I rx ry q;rcases q with q|q
 .exact h pins s σ H x y v u Q I rx ry q
 .exact h' pins s σ H x y v u Q I rx ry q
def CI (ho:bL X (HC op) r)(ha:PE X a ta)(hb:PE X b tb)(hm:HE op b=false):PE X (.Compare a [op] [b] pos) (dt r ta tb):=by
 intro pins s σ H Q I h;exact wpAny_Compare1 (iz ha hb I h λv u s2 x y H2 I2 rx ry q=>ho pins s2 σ H2 x y v u Q I2 rx ry q) hm
noncomputable def fN(t:TE):TT:=λσ H Q=>t σ H λx H'=>∃k,x=.bl k/\Q k H'
def pY (ho:bL X (HC op) r)(ha:PE X a ta)(hb:PE X b tb)(hm:HE op b=false):PT X (.Compare a [op] [b] pos) (fN (dt r ta tb)):=by
 intro pins s σ H Q I h;refine wpAny_isTrue_Compare1 (aQ (ha pins s σ H _ I h) λv s1 ⟨x,H1,I1,r1,q1⟩=>aQ (hb pins s1 σ H1 _ I1 q1) λu s2 ⟨y,H2,I2,r2,q2⟩=>
  aQ (ho pins s2 σ H2 x y v u _ I2 r1 r2 q2) λc s3 ⟨z,H3,I3,r3,k,e,q3⟩=>?_) hm
 subst e;cases r3;exact Hl ⟨H3,I3,q3⟩
noncomputable def qA(r r':R2)(ta tb tc:TE):TE:=λσ H Q=>ta σ H λx H1=>tb σ H1 λy H2=>r x y H2 λz H3=>∃k,z=.bl k /\
 (if k=true then tc σ H3 λw' H4=>r' y w' H4 Q else Q (.bl false) H3)
def D3 (ho:bL X (HC op) r)(ho':bL X (HC op') r')(ha:PE X a ta)(hb:PE X b tb)(hc:PE X c tc)(hm:lastMarks [op,op'] [b,c]=false:=by with_unfolding_all rfl):PE X (.Compare a [op,op'] [b,c] pos) (qA r r' ta tb tc):=by
 intro pins s σ H Q I h;refine Compare_chain (aQ (ha pins s σ H _ I h) λv s1 ⟨x,H1,I1,r1,q1⟩=>chain_link (aQ (hb pins s1 σ H1 _ I1 q1) λu s2 ⟨y,H2,I2,r2,q2⟩=>
  aQ (ho pins s2 σ H2 x y v u _ I2 r1 r2 q2) λd s3 ⟨z,H3,I3,r3,k,e,q3⟩=>?_)) hm
 subst e;cases r3;refine Hl ?_;cases k with
 |false=>exact ite_ff ⟨.bl false,H3,I3,rfl,q3⟩
 |true=>exact ite_tt (chain_last (aQ (hc pins s3 σ H3 _ I3 q3) λw' s4 ⟨z',H4,I4,r4,q4⟩=>ho' pins s4 σ H4 y z' u w' Q I4 r2 r4 q4))
def El (ho:bL X (HC op) r)(ho':bL X (HC op') r')(ha:PE X a ta)(hb:PE X b tb)(hc:PE X c tc)(hm:lastMarks [op,op'] [b,c]=false:=by with_unfolding_all rfl):PT X (.Compare a [op,op'] [b,c] pos) (fN (qA r r' ta tb tc)):=by
 intro pins s σ H Q I h;refine isTrue_chain (aQ (ha pins s σ H _ I h) λv s1 ⟨x,H1,I1,r1,q1⟩=>test_link (aQ (hb pins s1 σ H1 _ I1 q1) λu s2 ⟨y,H2,I2,r2,q2⟩=>
  aQ (ho pins s2 σ H2 x y v u _ I2 r1 r2 q2) λd s3 ⟨z,H3,I3,r3,k,e,q3⟩=>?_)) hm
 subst e;cases r3;refine Hl ?_;cases k with
 |false=>
  obtain⟨k',e',q'⟩:=q3;cases e';exact ite_ff ⟨H3,I3,q'⟩
 |true=>
  refine ite_tt (test_last (aQ (hc pins s3 σ H3 _ I3 q3) λw' s4 ⟨z',H4,I4,r4,q4⟩=>aQ (ho' pins s4 σ H4 y z' u w' _ I4 r2 r4 q4) λd' s5 ⟨z2,H5,I5,r5,k2,e2,q5⟩=>?_));subst e2;cases r5;exact Hl ⟨H5,I5,q5⟩
def vB:(sizeLine:Nat)<2^63:=by rw[sizeLine_eq];decide
def xZ (r:ax [x] us):∃u,us=[u]/\RelV x u:=by
 cases r with
 |cons r1 r2=>cases r2;exact⟨_,rfl,r1⟩
def iO (r:ax [x,y] us):∃u w',us=[u,w']/\RelV x u/\RelV y w':=by
 cases r with
 |cons r1 r2=>
  cases r2 with
  |cons r3 r4=>cases r4;exact⟨_,_,rfl,r1,r3⟩
def D0(hc:X.calm=true):bj X (.builtin "max") (λxs H Q=>∃i j,xs=[.int i,.int j]/\Q (.int (if j > i then j else i)) H):=by
 intro pins s σ H xs us Q I r h;obtain⟨i,j,rfl,q⟩:=h;obtain⟨u,w',rfl,⟨t,rfl⟩,⟨t',rfl⟩⟩:=iO r;refine max_two_ints (I.ok.hd hc) λh' tk k=>⟨_,H,I.kept k,?_,q⟩;by_cases hj:j > i
 .rw[Jh hj,Jh hj];exact⟨_,rfl⟩
 .rw[Ji hj,Ji hj];exact⟨_,rfl⟩
def DZ(hc:X.calm=true):bj X (.builtin "min") (λxs H Q=>∃i j,xs=[.int i,.int j]/\Q (.int (if j<i then j else i)) H):=by
 intro pins s σ H xs us Q I r h;obtain⟨i,j,rfl,q⟩:=h;obtain⟨u,w',rfl,⟨t,rfl⟩,⟨t',rfl⟩⟩:=iO r;refine min_two_ints (I.ok.hd hc) λh' tk k=>⟨_,H,I.kept k,?_,q⟩;by_cases hj:j<i
 .rw[Jh hj,Jh hj];exact⟨_,rfl⟩
 .rw[Ji hj,Ji hj];exact⟨_,rfl⟩
def DY:bj X (.type "int") (λxs H Q=>(∃i,xs=[.int i]/\Q (.int i) H)\/∃k,xs=[.bl k]/\Q (.int (if k then 1 else 0)) H):=by
 intro pins s σ H xs us Q I r h;rcases h with⟨i,rfl,q⟩|⟨k,rfl,q⟩
 .obtain ⟨u,rfl,t,rfl⟩:=xZ r;exact call_int_int ⟨.int i,H,I,⟨_,rfl⟩,q⟩
 .obtain ⟨u,rfl,r1⟩:=xZ r;cases r1;exact call_int_bool ⟨.int (if k then 1 else 0),H,I.tok _,⟨_,rfl⟩,q⟩
end
structure eo(h:GZ)(x dx C:Addr)(mA:Str->Option Value):Prop where
 obj:h.get? x=some (Vw C dx)
 ns:h.Ns1 dx mA
 ne:dx≠x
set_option tactic.hygienic true in
def DX {h:GZ}(n:h.Ns1 dx mA):∃od,h.get? dx=some od/\∀name,VA name od=some (mA name):=by
 obtain⟨o,es,ep,ho,hd,hk,_,hm⟩:=n;refine⟨o,ho,λname=>?_⟩;have e:=hm name;unfold nsFind findBy at e;rw[<-Array.find?_toList]at e;unfold VA;rw[hd];dsimp only;split
 .rename_i y q;rw[q]at e;exact Jf some e
 .rename_i q;rw[q]at e;have a:es.toList.any (·.refKey)=false:=by
   rw[List.any_eq_false];intro y hy;obtain⟨z,t,hkey⟩:=hk y (Vo.mp hy);simp[DictEntry.refKey,hkey]
  have a':¬es.toList.any (·.refKey)=true:=by rw[a];exact QS
  rw[Ji a'];exact Jf some e
def eo.look (I:eo h x dx C mA):∃od,PySem.W.InstAt h x (Vw C dx) C (some od)/\∀name,VA name od=some (mA name):=
 let⟨od,ho,hl⟩:=DX I.ns
 ⟨od,⟨I.obj,rfl,rfl,ho⟩,hl⟩
def nZ (r:cZ (some v) o):∃u,o=some u/\RelV v u:=by
 cases o with
 |none=>exact(show False from r).elim
 |some u=>exact⟨u,rfl,r⟩
section
variable{P:GT}{w:GV}{H:Hp}{h:GZ}{a C dx:Addr}{fs:List (Str×V)}
def CH(hok:bT P w H h)(e:H a=some (.ins C dx fs)):∃mA,eo h a dx C mA/\(∀f,cZ (fs.lookup f) (mA f))/\PySem.Within mA (fs.map (·.1))/\fs.length<=1000/\H dx=some (.own a):=by
 obtain⟨d,z,ne,ob,mA,n,r,q⟩:=(show aS P w H h a (.ins C dx fs)from hok a _ e);exact⟨mA,⟨ob,n,ne⟩,r,q,z,d⟩
end
structure nU(K:Qb)(C:Addr):Prop where
 pg:PySem.W.plainGet K C Str.empty=true
 hd:PySem.W.hasDictIn K C=true
 po:PySem.W.plainOver K C=true
 sa:PySem.W.findIn K (.ref C) "__setattr__"=some (some (.builtin "object.__setattr__"))
def nU.get {K:Qb}(c:nU K C)(f:Str):PySem.W.plainGet K C f=true:=c.pg
section
variable{X:Cx}{pins:List (Addr×Obj)}{σ:St}{H:Hp}{s:GU}{A:Hc}{E:Value->GU->Prop}{Q:Value->GU->Prop}{c:Value}{b:Bool}
inductive bV(K:Qb)(H:Hp):V->Value->Prop where
 |non:bV K H .non (.type "NoneType")
 |bl (x:Bool):bV K H (.bl x) (.type "bool")
 |int (i:Int):bV K H (.int i) (.type "int")
 |str (x:Str):bV K H (.str x) (.type "str")
 |flt (x:UInt64):bV K H (.flt x) (.type "float")
 |lst {a:Addr}{xs:List V}(e:H a=some (.lst xs)):bV K H (.ref a) (.type "list")
 |frz {a:Addr}{o:Obj}{xs:List V}(e:H a=some (.frz o (.lst xs))):bV K H (.ref a) (.type "list")
 |tup {a:Addr}{xs:List V}(e:H a=some (.tup xs)):bV K H (.ref a) (.type "tuple")
 |dK {a:Addr}{kvs:List (bv×V)}(e:H a=some (.dK kvs)):bV K H (.ref a) (.type "dict")
 |dT {a:Addr}{kvs:List (List bv×V)}(e:H a=some (.dT kvs)):bV K H (.ref a) (.type "dict")
 |ins {a C dx:Addr}{fs:List (Str×V)}(e:H a=some (.ins C dx fs)) (cl:nU K C) (ha:PySem.W.findIn K (.ref C) "__class__"=some (some (.builtin "object.__class__")))
   (hn:PySem.W.specialIn K (.builtin "object.__class__") "__get__"=some (some (.builtin "getset_descriptor.__get__"))) (htk:PySem.W.takesIn K (.builtin "object.__class__")=some true)
   (hm:PySem.W.mroIn K C (.type "object")=some true):bV K H (.ref a) (.ref C)
def yU (I:Inv X pins σ H s)(rx:RelV x u)(ty:bV X.K H x t)(e:Wt X.K t c=some b)(h:∀tk,Q (.bool b) {s with toks:=tk}):
  He (Hf X.prog X.w) A (call (.builtin "isinstance") [u,c]) Q E s:=by
 cases ty with
 |non=>cases(show u=Value.none from rx);exact QZ PySem.W.kitx_none I.kIn True.intro e (λz=>nomatch z) h
 |bl y=>cases(show u=Value.bool y from rx);exact QZ PySem.W.kitx_bool I.kIn True.intro e (λz=>nomatch z) h
 |int i=>obtain⟨t,q⟩:=(show ∃t,u=Value.int i t from rx);cases q;exact QZ PySem.W.kitx_int I.kIn True.intro e (λz=>nomatch z) h
 |str y=>obtain⟨t,q⟩:=(show ∃t,u=Value.str y t from rx);cases q;exact QZ PySem.W.kitx_str I.kIn True.intro e (λz=>nomatch z) h
 |flt y=>obtain⟨t,q⟩:=(show ∃t,u=Value.float y t from rx);cases q;exact QZ PySem.W.kitx_float I.kIn True.intro e (λz=>nomatch z) h
 |@lst a xs ea=>
  cases(show u=Value.ref a from rx);obtain⟨_,_,n,_,h1⟩:=(show aS X.prog X.w H s.heap a (.lst xs)from I.hok a _ ea);exact QZ Vt I.kIn ⟨_,h1,rfl⟩ e (λz=>nomatch z) h
 |@frz a ob xs ea=>
  cases(show u=Value.ref a from rx);obtain⟨_,_,_,n,_,h1⟩:=(show aS X.prog X.w H s.heap a (.frz ob (.lst xs))from I.hok a _ ea);exact QZ Vt I.kIn ⟨_,h1,rfl⟩ e (λz=>nomatch z) h
 |@tup a xs ea=>
  cases(show u=Value.ref a from rx);obtain⟨_,_,_,p⟩:=(show aS X.prog X.w H s.heap a (.tup xs)from I.hok a _ ea);obtain⟨o,h1,h2,_⟩:=p;exact QZ PySem.W.kitx_tuple I.kIn ⟨o,h1,h2⟩ e (λz=>nomatch z) h
 |@dK a kvs ea=>
  cases(show u=Value.ref a from rx);obtain⟨_,_,vs,_,p⟩:=(show aS X.prog X.w H s.heap a (.dK kvs)from I.hok a _ ea);obtain⟨o,es,ep,h1,h2,_⟩:=p;exact QZ Vu I.kIn ⟨o,h1,h2.1⟩ e (λz=>nomatch z) h
 |@dT a kvs ea=>
  cases(show u=Value.ref a from rx);obtain⟨_,_,xs,_,o,es,ep,h1,h2,_⟩:=(show aS X.prog X.w H s.heap a (.dT kvs)from I.hok a _ ea);exact QZ Vu I.kIn ⟨o,h1,h2.1⟩ e (λz=>nomatch z) h
 |@ins a C dx fs ea cl ha hn htk hm=>
  cases(show u=Value.ref a from rx);obtain⟨mA,O,_⟩:=CH I.hok ea;obtain⟨od,J,_⟩:=O.look;exact QZ (PySem.W.kitx_own (cl.get _) cl.hd ha hn htk hm) I.kIn J e (λz=>nomatch z) h
end
structure bK(k:Nat)(A:Hc):Prop where
 hd:A.handled=none
 dp:A.depth+3*k+5<recursionLimit
 un:A.units+16*k+200<HF
theorem bK.deeper{k:Nat}{A:Hc}(r:bK (k+1) A)(env:Env):bK k (A.deeper env):=
 ⟨r.hd,by have:=r.dp;show A.depth+1+3*k+5<_;lia,by have:=r.un;show A.units+3+16*k+200<_;lia⟩
theorem bK.depth (r:bK k A):A.depth<recursionLimit:=by have:=r.dp;lia
theorem bK.units (r:bK k A):A.units+64<HF:=by have:=r.un;lia
noncomputable def fF:TA:=λ_ H Q=>Q [] H
noncomputable def jX(ta:TE)(tr:TA):TA:=λσ H Q=>ta σ H λx H1=>tr σ H1 λxs H2=>Q (x::xs) H2
section
variable{X:Cx}{e:Expr}{es:List Expr}{te:TE}{t:TA}{pos:Pos}
def yh:PA X [] fF:=λ_ _ _ _ H Q I h=>Calls.spliced_nil ⟨[],H,I,.nil,h⟩
def zy(ha:PE X e te)(hr:PA X es t)(hs:Hh (e::es) X.env=(false,eval e X.env)::Hh es X.env:=by rfl):PA X (e::es) (jX te t):=by
 intro pos pins s σ H Q I h;rw[hs];show He _ _ (spliced ((false,eval e X.env)::Hg pos (Hh es X.env))) _ _ s;refine Calls.spliced_cons (aQ (ha pins s σ H _ I h) λu s1 ⟨x,H1,I1,r1,q1⟩=>?_);exact aQ (hr pos pins s1 σ H1 _ I1 q1) λus s2 ⟨xs,H2,I2,r2,q2⟩=>⟨x::xs,H2,I2,.cons r1 r2,q2⟩
noncomputable def iX(t:TA):TE:=λσ H Q=>t σ H λxs H1=>xs.length<=sizeLine/\∀p,H1 p=none->Q (.ref p) (aE H1 p (.tup xs))
noncomputable def i6(t:TA):TE:=λσ H Q=>t σ H λxs H1=>xs.length<=sizeLine/\∀p,H1 p=none->Q (.ref p) (aE H1 p (.lst xs))
def AK{x1}(h:PA X es t):PE X (.Tuple es x1 pos) (iX t):=by
 intro pins s σ H Q I hq;refine wpAny_Tuple_spliced (aQ (h pos pins s σ H _ I hq) λus s1 ⟨xs,H1,I1,r,z,q⟩=>⟨by rw[<-r.length];exact z,?_⟩);have hf:H1 s1.heap.objs.size=none:=I1.hok.fresh (Qf _);refine⟨.ref s1.heap.objs.size,aE H1 s1.heap.objs.size (.tup xs),I1.laid (t':=s1.toks) (λb u e=>Qe _ e) (Qf _) ?_,rfl,q _ hf⟩;exact⟨z,us,r,⟨_,Qw _ rfl,rfl,_,rfl⟩⟩
def AJ(h:PA X es t):PE X (.List es pos) (i6 t):=by
 intro pins s σ H Q I hq;refine wpAny_List_spliced (aQ (h pos pins s σ H _ I hq) λus s1 ⟨xs,H1,I1,r,z,q⟩=>⟨by rw[<-r.length];exact z,?_⟩);have hf:H1 s1.heap.objs.size=none:=I1.hok.fresh (Qf _);refine⟨.ref s1.heap.objs.size,aE H1 s1.heap.objs.size (.lst xs),I1.laid (t':=s1.toks) (λb u e=>Qe _ e) (Qf _) ?_,rfl,q _ hf⟩;exact⟨z,us,0,r,Qw _ rfl⟩
end
abbrev Sp:=List V->Hp->VK->XK->Prop
abbrev dq:=List Env->Hp->GU->XK->Value->GU->Prop
structure dI(P:GT)(w:GV)(K:Qb)(mg:Str->Option Value)(base:GZ)(A:Hc)(outer:List Env)(s:GU)(H:Hp):Prop where
 frames:A.frames=some outer
 mod:Mod K mg base
 bs:∀b o,base.get? b=some o->s.heap.get? b=some o/\H b=none
 bsz:base.objs.size<=s.heap.objs.size
 funs:s.heap.FunFrames base outer
 frf:∀b∈cY outer,H b=none
 hok:bT P w H s.heap
 bare:Hd s.gens
noncomputable def CE(outer:List Env)(P:GT)(w:GV)(H:Hp)(s:GU)(Q:VK)(u:Value)(s':GU):Prop:=
 ∃v H',s'.os=s.os/\Hd s'.gens/\Un (cY outer) [] H H' s.heap s'.heap/\bT P w H' s'.heap/\RelV v u/\Q v H'
noncomputable def CR(CX:dq)(outer:List Env)(P:GT)(w:GV)(H:Hp)(s:GU)(Q:VK)(E:XK)(r:Result)(s':GU):Prop:=
 match r with
 |.ok (.ret u)=>CE outer P w H s Q u s'
 |.ok _=>False
 |.error e=>CX outer H s E e s'
structure cb(P:GT)(w:GV)(K:Qb)(mg:Str->Option Value)(base:GZ)(CX:dq)(k:Nat)(f:Addr)(fd:HG)(ps:List Str)(sp:Sp):Prop where
 len:∀vs H Q E,sp vs H Q E->vs.length=ps.length
 run:∀(A:Hc) (outer:List Env) (s:GU) (H:Hp) (args:Args) (us:List Value) (vs:List V) (Q:VK) (E:XK),bK k A->dI P w K mg base A outer s H->BindsTo s fd args (ps.zip us)->ax vs us->sp vs H Q E ->
  HH (Hf P w) A (.call (.ref f) args) (CR CX outer P w H s Q E) s
section
variable{X:Cx}{pins:List (Addr×Obj)}{σ:St}{H:Hp}{s s':GU}
def Inv.env0(I:Inv X pins σ H s):dI X.prog X.w X.K X.mg X.base X.A X.stack s H:=
 ⟨I.ok.frames,I.ok.mod,I.bs,Qs I.ok.bsz I.sz,I.stack,I.stkFree,I.hok,I.bare⟩
def Inv.after (I:Inv X pins σ H s)(h:CE X.stack X.prog X.w H s Q u s'):EP X pins σ Q u s':=by
 obtain⟨v,H',os,bare,un,hok,r,q⟩:=h;obtain⟨hh,g,d,t,os'⟩:=s';obtain rfl:os'=s.os:=os;exact⟨v,H',I.call (h':=hh) (g':=g) (d':=d) (t':=t) (ch:=[]) un hok bare (λb z=>Jj z (by simp)),r,q⟩
end
noncomputable def t5(sp:Sp)(dvs:List V)(E:XK)(t:TA):TE:=λσ H Q=>t σ H λvs H1=>sp (vs++dvs) H1 Q E
noncomputable def Binds(K:Qb)(fd:HG)(ps:List Str)(ds:List Value):Prop:=
 ∀(s:GU) (us:List Value),K.In s.heap->(us++ds).length=ps.length->BindsTo s fd ⟨us,[]⟩ (ps.zip (us++ds))
def Binds.all{K:Qb}{fd:HG}{ps:List Str}(h:∀us:List Value,us.length=ps.length->bindArgs fd ⟨us,[]⟩=pure (ps.zip us)):Binds K fd ps []:=λs us _ hl=>by
 rw[QW]at hl ⊢;exact .of_eq (h us hl)
noncomputable def qB(CX:dq)(X:Cx)(E:XK):Prop:=∀(pins:List (Addr×Obj)) (σ:St) (H:Hp) (s:GU) (e:Value) (s':GU),Inv X pins σ H s->CX X.stack H s E e s'->X.xe e s'
section
variable{X:Cx}{CX:dq}{k:Nat}{f:Addr}{fd:HG}{ps:List Str}{sp:Sp}{dvs:List V}{ds:List Value}{E:XK}{x:Str}{p pos:Pos}{e:Expr}{es:List Expr}{t:TA}
def AI (F:cb X.prog X.w X.K X.mg X.base CX k f fd ps sp)(hr:bK k X.A)(hb:Binds X.K fd ps ds)(hd:ax dvs ds)(hx:qB CX X E)(I:Inv X pins σ H s)(r:ax vs us)(h:sp (vs++dvs) H Q E):He (Hf X.prog X.w) X.A (call (.ref f) us) (EP X pins σ Q) X.xe s:=by
 have r2:ax (vs++dvs) (us++ds):=r.append hd;have hl:(us++ds).length=ps.length:=by rw[<-r2.length];exact F.len _ _ _ _ h
 refine wpAny_call (HI (F.run X.A X.stack s H ⟨us,[]⟩ (us++ds) (vs++dvs) Q E hr I.env0 (hb s us I.kIn hl) r2 h) λr s' hq=>?_);cases r with
 |error e=>exact hx pins σ H s e s' I hq
 |ok fl=>
  cases fl with
  |ret u=>exact I.after hq
  |next=>exact False.elim hq
  |brk=>exact False.elim hq
  |cont=>exact False.elim hq
def CG(F:cb X.prog X.w X.K X.mg X.base CX k f fd ps sp)(hr:bK k X.A)(hg:Gl X x)(hm:X.mg x=some (.ref f))(hk:WM X.K (.ref f)=true)(hb:Binds X.K fd ps ds)(hd:ax dvs ds)(hx:qB CX X E)
  (ha:PA X (e::es) t) (hdb:(x==("__debug__":Str))=false:=by decide) (he:Hh (e::es) X.env=(false,eval e X.env)::Hh es X.env:=by rfl) (hpl:(Hg pos (Hh es X.env)).any (·.1)=false:=by rfl) :
  PE X (.Call (.Name x p) (e::es) [] pos) (t5 sp dvs E t):=by
 intro pins s σ H Q I h;refine HJ (p9 I hg hm ?_ hdb);refine PySem.W.callWith_K (h₀:=X.base) I.ok.mod.kin hk (aQ (ha pos pins s σ H _ I h) λus s1 ⟨vs,H1,I1,r,q⟩=>⟨I1.kIn,?_⟩) he hpl;exact AI F hr hb hd hx I1 r q
end
structure bX(N P:List Str)(sc:GR):Prop where
 kind:sc.kind=.function
 co:sc.isCoroutine=false
 gen:sc.isGenerator=false
 nd:N.Nodup
 pre:N.take P.length=P
 par:∀x∈P,sc.names.lookup x=some .local\/sc.names.lookup x=some .cell
 nofree:∀y∈sc.names,y.2≠.free
theorem kB {kindOf:Str->Option HK}:∀{binds:List (Str×Value)}{m:Str->Option Value},(∀v,(x,v)∉binds)->HL kindOf binds m x=m x
 |[],_,_=>rfl
 |(n,v)::r,m,h=>by
  unfold HL;rw[kB λw hw=>h w (Qh _ hw)];split
  .have:x≠n:=by rintro rfl;exact h v QR
   simp[this]
  .rfl
theorem kC {kindOf:Str->Option HK}:∀{binds:List (Str×Value)}{m:Str->Option Value},(∀v,(x,v)∉binds)->HM kindOf binds m x=m x
 |[],_,_=>rfl
 |(n,v)::r,m,h=>by
  unfold HM;rw[kC λw hw=>h w (Qh _ hw)];split
  .rfl
  .have:x≠n:=by rintro rfl;exact h v QR
   simp[this]
theorem kD {kindOf:Str->Option HK}:∀{P:List Str}{vs:List Value}{i:Nat}{m:Str->Option Value},P.Nodup->P[i]?=some x->vs[i]?=some v->kindOf x=some .local ->
  HL kindOf (P.zip vs) m x=some v
 |[],_,_,_,_,h,_,_=>by simp at h
 |_::_,[],_,_,_,_,h,_=>by simp at h
 |p::P,w::vs,0,m,nd,h1,h2,hk=>by
  simp at h1 h2;subst h1;subst h2;show HL kindOf ((p,w)::P.zip vs) m p=_;unfold HL;rw[kB λv hv=>(QA.mp nd).1 (VD hv).1,Jh hk];simp
 |p::P,w::vs,i+1,m,nd,h1,h2,hk=>by
  show HL kindOf ((p,w)::P.zip vs) m x=_;unfold HL;exact kD (i:=i) (QA.mp nd).2 (by simpa using h1) (by simpa using h2) hk
theorem kE {kindOf:Str->Option HK}:∀{P:List Str}{vs:List Value}{i:Nat}{m:Str->Option Value},P.Nodup->P[i]?=some x->vs[i]?=some v->kindOf x≠some .local ->
  HM kindOf (P.zip vs) m x=some v
 |[],_,_,_,_,h,_,_=>by simp at h
 |_::_,[],_,_,_,_,h,_=>by simp at h
 |p::P,w::vs,0,m,nd,h1,h2,hk=>by
  simp at h1 h2;subst h1;subst h2;show HM kindOf ((p,w)::P.zip vs) m p=_;unfold HM;rw[kC λv hv=>(QA.mp nd).1 (VD hv).1,Ji hk];simp
 |p::P,w::vs,i+1,m,nd,h1,h2,hk=>by
  show HM kindOf ((p,w)::P.zip vs) m x=_;unfold HM;exact kE (i:=i) (QA.mp nd).2 (by simpa using h1) (by simpa using h2) hk
noncomputable def start(N:List Str)(vs:List V):St:=vs.map some++QJ (N.length-vs.length) none
noncomputable def jY(CX:dq)(P:GT)(w:GV)(K:Qb)(mg:Str->Option Value)(base:GZ)(N:List Str)(qual:Str)(scope:GR)(f:Addr)(cd:Value)(A:Hc)(outer:List Env)(s:GU)(H:Hp)(E:XK):Cx where
 prog:=P
 w:=w
 K:=K
 mg:=mg
 base:=base
 A:=A.deeper (HN qual scope s.heap.objs.size f cd)
 N:=N
 s₀:=s
 H₀:=H
 env:=HN qual scope s.heap.objs.size f cd
 outer:=outer
 stack:=HN qual scope s.heap.objs.size f cd::outer
 ex:=[]
 calm:=true
 fn:=λ_=>true
 pn:=[]
 xe:=λe s'=>He (Hf P w) (A.deeper (HN qual scope s.heap.objs.size f cd)) (leaving (HN qual scope s.heap.objs.size f cd) e) (λ_ s''=>CX outer H s E e s'') (λe' s''=>CX outer H s E e' s'') s'
def jZ {sc:GR}(h:sc.names.lookup x=some .cell):∃c,(HP n sc.names []).lookup x=some c:=by
 have q:=Vb sc.names n [] (.inl h);exact WG.mp q
def DW {K:Qb}(S:bX N ps scope)(hd:A.handled=none)(e0:dI P w K mg base A outer s H)(hl:vs.length=ps.length)(r:ax vs us)(x:InCallC s s.heap.objs.size (HL (HN qual scope s.heap.objs.size f cd).kindOf (ps.zip us) λ_=>none) (HP (s.heap.objs.size+1) scope.names []) (HM (HN qual scope s.heap.objs.size f cd).kindOf (ps.zip us) λ_=>none) s1):
  Inv (jY CX P w K mg base N qual scope f cd A outer s H E) [] (start N vs) H s1:=by
 have hpl:ps.length<=N.length:=by have:=Jf List.length S.pre;rw[QQ]at this;lia
 obtain⟨h1,tk,rfl,hk⟩:=x.done;have noA:∀b:Addr,b∉(jY CX P w K mg base N qual scope f cd A outer s H E).ex:=λb z=>Jj (show b∈([]:List Addr)from z) (by simp);refine⟨⟨e0.mod,S.kind,rfl,rfl,Qf _,λy z c h1 h2=>?_,λy hy=>?_,λy c _ h=>?_,λ_=>hd,Around.frames_deeper e0.frames,.inr ⟨rfl,rfl⟩,λb z=>Jj z (noA b),e0.bs,e0.bsz,λb _ _=>noA b,λb z=>Jj z (noA b),e0.funs,e0.frf⟩,
  rfl,e0.bare,Un.kept hk,⟨_,x.toInCall.ns,λi y v h1 h2 h3=>?_⟩,λy c h=>⟨_,x.cell y c h⟩,e0.hok.fresh (Qf _),λy c h=>?_,λp hp=>Jj (show p∈([]:List (Addr×Obj))from hp) (by simp),e0.hok.kept hk,?_⟩
 .exact name_of_addr x.apart (PySem.mem_of_lookup h1) (PySem.mem_of_lookup h2)
 .have hy:scope.names.lookup y=some .cell\/scope.names.lookup y=some .free:=hy;rcases hy with hy|hy
  .exact jZ hy
  .exact Jj rfl (S.nofree _ (PySem.mem_of_lookup hy))
 .exact W3 (x.above y c (PySem.mem_of_lookup h))
 .have hi:i<vs.length:=by
   unfold start at h2;by_cases hi:i<vs.length
   .exact hi
   .rw[Qc (by simpa using hi)]at h2;rw[Vd]at h2;split at h2<;>cases h2
  have ha:vs[i]?=some v:=by
   unfold start at h2;rw[Qd (by simpa using hi),Qu]at h2;cases e:vs[i]? with
   |none=>rw[e]at h2;cases h2
   |some a=>rw[e]at h2;cases h2;rfl
  obtain⟨u,hu,rv⟩:=r.get ha;have hp:ps[i]?=some y:=by
   rw[<-S.pre,Qo (by lia)];exact h1
  have ndP:ps.Nodup:=by rw[<-S.pre];exact S.nd.sublist (Wa _ _)
  refine⟨u,rv,?_⟩;rcases S.par y (Qm hp)with k|k
  .exact .inl ⟨k,kD ndP hp hu k⟩
  .obtain ⟨c,e⟩:=jZ (n:=s.heap.objs.size+1) k;refine .inr ⟨.inl k,c,e,?_⟩;have q:=x.cell y c e;rw[kE ndP hp hu (by show scope.names.lookup y≠_;rw[k];decide)]at q;exact q
 .exact e0.hok.fresh (W3 (x.above y c (PySem.mem_of_lookup h)))
 .unfold start;show _=N.length;rw[QF,QN,List.length_replicate];lia
set_option tactic.hygienic true in
def tZ {K:Qb}{kV:Value}(lk:K.lookup f=some ⟨oc,od,.func (WD name qual params body scope dV kV doc pm an cdv ct),osl⟩)(hcd:Vh K cdv qual=true)(S:bX N ps scope)(len:∀vs H Q E,sp vs H Q E->vs.length=ps.length)(hbody:∀(A:Hc) (outer:List Env) (s:GU) (H:Hp) (vs:List V) (Q:VK) (E:XK),bK k (A.deeper (HN qual scope s.heap.objs.size f cdv))->sp vs H Q E ->
   ∃t,bW (jY CX P w K mg base N qual scope f cdv A outer s H E) body t/\t {nx:=λ_ H'=>Q .non H',rt:=Q} (start N vs) H):
  cb P w K mg base CX (k+1) f (WD name qual params body scope dV kV doc pm an cdv ct) ps sp:=by
 refine⟨len,λA outer s H args us vs Q E hr e0 hb r hsp=>?_⟩;have hl:=len _ _ _ _ hsp;have KX:K.In s.heap:=e0.mod.kin.keeps λb o e=>(e0.bs b o e).1;have aF:s.heap.NoLimit:=e0.mod.nolimit.keeps λb o e=>(e0.bs b o e).1;have hkind:∀y∈ps.zip us,scope.names.lookup y.1=some .local\/(scope.names.lookup y.1=some .cell/\((HP (s.heap.objs.size+1) scope.names []).lookup y.1).isSome=true):=λ⟨n,v⟩ hy=>by
  rcases S.par n (VD hy).1 with q|q
  .exact .inl q
  .exact .inr ⟨q,Vb _ _ _ (.inl q)⟩
 refine codeAny_call_function hr.depth (KX _ _ lk) rfl S.co S.gen rfl (PySem.W.codeRec_of KX hcd) (hb _ _ _ _ ?_);refine wpAny_newFunctionEnv_cells S.kind hkind λenv he s1 x=>?_;subst he;refine⟨aF.keeps x.toInCall.keep,codeAny_func ?_⟩;obtain⟨t,ht,hq⟩:=hbody A outer s H vs Q E (hr.deeper _) hsp;have I:Inv (jY CX P w K mg base N qual scope f cdv A outer s H E) [] (start N vs) H s1:=DW S hr.hd e0 hl r x;refine Hi (ht [] s1 (start N vs) H _ I hq) (λfl s' hs=>?_) λe s' hs=>hs;have fin:∀{σ':St}{H':Hp}{v:V}{u:Value},Inv (jY CX P w K mg base N qual scope f cdv A outer s H E) [] σ' H' s'->RelV v u->Q v H'->CE outer P w H s Q u s':=
  λ{σ' H' v u} J rv q=>⟨v,H',J.os,J.bare,J.base,J.hok,rv,q⟩
 cases fl with
 |ret u=>
  obtain⟨v,σ',H',J,rv,q⟩:=hs;exact fin J rv q
 |next=>
  obtain⟨σ',H',J,q⟩:=hs;exact fin (v:=V.non) (u:=Value.none) J rfl q
 |brk=>
  obtain⟨_,_,_,q⟩:=hs;exact False.elim q
 |cont=>
  obtain⟨_,_,_,q⟩:=hs;exact False.elim q
section
variable{X:Cx}{x:Str}{p pos:Pos}{e:Expr}{es:List Expr}{t:TA}{id T:String}{r:List V->Hp->VK->Prop}
noncomputable def i9(r:List V->Hp->VK->Prop)(t:TA):TE:=λσ H Q=>t σ H λvs H1=>r vs H1 Q
def yy(hc:bj X (.builtin id) r)(hg:Gl X x)(hm:X.mg x=none)(hv:Hb x=some (.builtin id))(ha:PA X (e::es) t)(hn:x ≠ "__name__":=by decide)(hdb:(x==("__debug__":Str))=false:=by decide)
  (he:Hh (e::es) X.env=(false,eval e X.env)::Hh es X.env:=by rfl) (hpl:(Hg pos (Hh es X.env)).any (·.1)=false:=by rfl):PE X (.Call (.Name x p) (e::es) [] pos) (i9 r t):=by
 intro pins s σ H Q I h;refine HJ (xR I hg hm hv ?_ hn hdb);exact PyProof.Rows.callWith_builtin1 (aQ (ha pos pins s σ H _ I h) λus s1 ⟨vs,H1,I1,r1,q1⟩=>hc pins s1 σ H1 vs us Q I1 r1 q1) he hpl
def wI(hc:bj X (.type T) r)(hg:Gl X x)(hm:X.mg x=none)(hv:Hb x=some (.type T))(ha:PA X (e::es) t)(hn:x ≠ "__name__":=by decide)(hdb:(x==("__debug__":Str))=false:=by decide)
  (he:Hh (e::es) X.env=(false,eval e X.env)::Hh es X.env:=by rfl) (hpl:(Hg pos (Hh es X.env)).any (·.1)=false:=by rfl):PE X (.Call (.Name x p) (e::es) [] pos) (i9 r t):=by
 intro pins s σ H Q I h;refine HJ (xR I hg hm hv ?_ hn hdb);exact PyProof.Rows.callWith_type1 (aQ (ha pos pins s σ H _ I h) λus s1 ⟨vs,H1,I1,r1,q1⟩=>hc pins s1 σ H1 vs us Q I1 r1 q1) he hpl
end
end L2
namespace HT
open PySem PyProof.Rows
noncomputable def lexLt:List Int->List Int->Bool
 |[],[]=>false
 |[],_::_=>true
 |_::_,[]=>false
 |x::xs,y::ys=>if x=y then lexLt xs ys else decide (x<y)
def aZ(x y:Int)(xs ys:List Int):lexLt (x::xs) (y::ys)=if x=y then lexLt xs ys else decide (x<y):=rfl
def cW(A:Hc)(s:GU)(a:Int)(t:Tok)(c:Int)(u:Tok)(prog:GT)(w:GV)(E:Value->GU->Prop)(Q:Value->GU->Prop)(h:Q (.bool (decide (a<c))) s):
  He (Hf prog w) A (richCompare .Lt (.int a t) (.int c u)) Q E s:=
 (PyProof.Rows.lt_int h:He (Hf prog w) A (HC .Lt (.int a t) (.int c u)) Q E s)
section
variable{prog:GT}{w:GV}{A:Hc}{E:Value->GU->Prop}{s:GU}
def dD (ht:IsTup s.heap t vs.toArray)(hb:IsTup s.heap b ws.toArray)(hv:vs≠[])(h1:ws=[]->Q (.ref t) s)(h2:ws≠[]->Q (.ref s.heap.objs.size) {s with heap:=s.heap.push {cls:=.type "tuple",data:=.seq (vs++ws).toArray} })(hsz:vs.length+ws.length<=sizeLine):He (Hf prog w) A (HB .Add (.ref t) (.ref b)) Q E s:=by
 obtain⟨⟨cls,dd,data,sl⟩,ho,hc,n,hd⟩:=id ht;obtain⟨⟨cls2,dd2,data2,sl2⟩,ho2,hc2,n2,hd2⟩:=id hb;simp only at hc hd hc2 hd2;subst hc hd hc2 hd2;have e:vs.toArray++ws.toArray=(vs++ws).toArray:=by simp
 by_cases hw:ws=[]
 .exact HQ ⟨_,ho,rfl⟩ ⟨_,ho2,rfl⟩ HR HS PySem.F.slot_tuple_add PySem.F.entry_tuple_add (PySem.F.args_tuple_add_2 _ _)
   (tuple_addW1 t b vs.toArray ws.toArray n n2 dd dd2 sl sl2 (by simpa using hv) (by simp[hw])) ⟨ho,ho2,h1 hw⟩
 .refine HQ ⟨_,ho,rfl⟩ ⟨_,ho2,rfl⟩ HR HS PySem.F.slot_tuple_add PySem.F.entry_tuple_add (PySem.F.args_tuple_add_2 _ _)
   (tuple_addW2 t b vs.toArray ws.toArray n n2 dd dd2 sl sl2 (by simpa using hv) (by simpa using hw) (by rw[Qy,Qy];exact hsz)) ⟨ho,ho2,?_⟩
  rw[e];exact h2 hw
noncomputable def EF(n d:Nat):Option Int->Nat
 |none=>d
 |some v=>if v<0 then(v+(n:Int)).toNat else min v.toNat n
end
end HT
namespace L2
open PySem PySem.Spec PyProof.Rows
abbrev TO:=St->Hp->(Option Int->Hp->Prop)->Prop
section
variable{X:Cx}{p2:Pos}
noncomputable def oU(K:Qb):R2:=λx y H Q=>∃a b xs ys,x=.ref a/\y=.ref b/\bG K H a xs/\bG K H b ys/\xs≠[]/\xs.length+ys.length<=sizeLine /\
 (ys=[]->Q (.ref a) H)/\(ys≠[]->∀p,H p=none->Q (.ref p) (aE H p (.tup (xs++ys))))
def ax.nil_iff (r:ax xs us):us=[]↔xs=[]:=by
 cases r with
 |nil=>simp
 |cons _ _=>simp
def du:bL X (HB .Add) (oU X.K):=by
 intro pins s σ H x y v u Q I rx ry h;obtain⟨a,b,xs,ys,rfl,rfl,ha,hb,hx,hz,q1,q2⟩:=h;cases rx;cases ry;obtain⟨its,r1,p1,_⟩:=I.tuple ha;obtain⟨its2,r2,p2,_⟩:=I.tuple hb;refine HT.dD p1 p2 (λz=>hx (r1.nil_iff.mp z)) (λz=>⟨.ref a,H,I,rfl,q1 (r2.nil_iff.mp z)⟩) (λz=>?_) (by rw[<-r1.length,<-r2.length];exact hz);refine⟨.ref s.heap.objs.size,_,I.laid (t':=s.toks) (o:=.tup (xs++ys)) (λb ob q=>Qe _ q) (Qf _) ?_,rfl,q2 (λw=>z (r2.nil_iff.mpr w)) _ (I.hok.fresh (Qf _))⟩;exact⟨by rw[QF];exact hz,_,r1.append r2,IsTup.new _ _⟩
end
noncomputable def eO(n:Nat)(i:Int):Option Nat:=if 0<=i then(if i<n then some i.toNat else none)else if -(n:Int)<=i then some (i+n).toNat else none
noncomputable def eh{α:Type}(xs:List α)(i:Int):Option α:=(eO xs.length i).bind λj=>xs[j]?
def pX (h:eO n i=some j):seqIndex? i n=some j/\j<n/\-(n:Int)<=i/\i<n:=by
 unfold eO at h;by_cases h0:0<=i
 .rw[Jh h0]at h;by_cases h1:i<n
  .rw[Jh h1]at h;have e:i.toNat=j:=Option.some.inj h;exact⟨by rw[HU h0 h1,e],by lia,by lia,h1⟩
  .rw[Ji h1]at h;cases h
 .rw[Ji h0]at h;by_cases h1:-(n:Int)<=i
  .rw[Jh h1]at h;have e:(i+n).toNat=j:=Option.some.inj h;exact⟨by rw[HV (by lia) h1,e],by lia,h1,by lia⟩
  .rw[Ji h1]at h;cases h
def k9 (h:eh xs i=some v):∃j,seqIndex? i xs.length=some j/\xs[j]?=some v/\j<xs.length/\-(xs.length:Int)<=i/\i<xs.length:=by
 unfold eh at h;cases e:eO xs.length i with
 |none=>rw[e]at h;cases h
 |some j=>
  rw[e]at h;obtain⟨h1,h2,h3,h4⟩:=pX e;exact⟨j,h1,h,h2,h3,h4⟩
noncomputable def ja(b:Expr):Prop:=∀o i,subscripted b false o i=operate [o,i] (getItem o i)
noncomputable def cU(X:Cx)(r:R2):Prop:=
 ∀(value slice:Expr) (pins:List (Addr×Obj)) (s:GU) (σ:St) (H:Hp) (x y:V) (v u:Value) (Q:VK),Inv X pins σ H s->RelV x v->RelV y u->r x y H Q ->
  subscripted slice false v u=operate [v,u] (getItem v u)->He (Hf X.prog X.w) X.A (subscriptTail value slice v u) (EP X pins σ Q) X.xe s
noncomputable def et(X:Cx)(id:String)(r:V->List V->Hp->VK->Prop):Prop:=
 ∀(pins:List (Addr×Obj)) (s:GU) (σ:St) (H:Hp) (x:V) (xs:List V) (v:Value) (us:List Value) (Q:VK),Inv X pins σ H s->RelV x v->ax xs us->r x xs H Q ->
  He (Hf X.prog X.w) X.A (call (.builtin id) (v::us)) (EP X pins σ Q) X.xe s
section
variable{X:Cx}{a b:Expr}{ta tb:TE}{pos:Pos}
def cU.or{r r':R2}(h:cU X r)(h':cU X r'):cU X (λx y H Q=>r x y H Q\/r' x y H Q):=by
 intro value slice pins s σ H x y v u Q I rx ry q hs;rcases q with q|q
 .exact h value slice pins s σ H x y v u Q I rx ry q hs
 .exact h' value slice pins s σ H x y v u Q I rx ry q hs
def fM (hr:cU X r)(ha:PE X a ta)(hb:PE X b tb)(hs:ja b):PE X (.Subscript a b pos) (dt r ta tb):=by
 intro pins s σ H Q I h;exact Subscript_ (iz ha hb I h λv u s2 x y H2 I2 rx ry q=>hr a b pins s2 σ H2 x y v u Q I2 rx ry q (hs _ _))
noncomputable def oz(K:Qb):R2:=λx y H Q=>∃p xs i v,x=.ref p/\y=.int i/\bg K H p xs/\eh xs i=some v/\Q v H
noncomputable def oy(K:Qb):R2:=λx y H Q=>∃p xs i v,x=.ref p/\y=.int i/\bG K H p xs/\eh xs i=some v/\Q v H
noncomputable def ow:R2:=λx y H Q=>∃z i c,x=.str z/\y=.int i/\z.length<=sizeLine/\eh z.cps.toList i=some c/\Q (.str ⟨#[c]⟩) H
def dy:cU X (oz X.K):=by
 intro value slice pins s σ H x y v u Q I rx ry h hs;obtain⟨p,xs,i,z,rfl,rfl,hq,he,q⟩:=h;cases rx;obtain⟨t,rfl⟩:=ry;obtain⟨its,r,pl,hz⟩:=I.list hq;obtain⟨j,h1,h2,h3,h4,h5⟩:=k9 he;obtain⟨w,ew,rw'⟩:=r.get h2;have hl:=r.length;have hn:=vB;have fin:EP X pins σ Q w s:=⟨z,H,I,rw',q⟩;by_cases h0:0<=i
 .have hj:i.toNat=j:=by
   rw[HU h0 h5]at h1;exact Option.some.inj h1
  exact item_listR pl.isList h0 (by lia) (by rw[hj];simpa using ew) fin hs
 .have hj:(i+(its.toArray.size:Int)).toNat=j:=by
   rw[HV (by lia) h4]at h1;rw[Qy,<-hl];exact Option.some.inj h1
  exact HW (x:=w) pl.isList.typeIs slot_list_getitem.lookup
   (wpAny_getItem_list_neg (Q:=λr s'=>r=w/\EP X pins σ Q r s') pl.isList (by lia) (by rw[Qy]<;>lia) (by lia) (by rw[hj];simpa using ew) ⟨rfl,fin⟩) hs
def eg:cU X (oy X.K):=by
 intro value slice pins s σ H x y v u Q I rx ry h hs;obtain⟨p,xs,i,z,rfl,rfl,hq,he,q⟩:=h;cases rx;obtain⟨t,rfl⟩:=ry;obtain⟨its,r,pl,hz⟩:=I.tuple hq;obtain⟨j,h1,h2,h3,h4,h5⟩:=k9 he;obtain⟨w,ew,rw'⟩:=r.get h2;have hl:=r.length;have hn:=vB;have fin:EP X pins σ Q w s:=⟨z,H,I,rw',q⟩;exact HW (x:=w) pl.typeIs slot_tuple_getitem.lookup
  (getItem_tuple (j:=j) (Q:=λr s'=>r=w/\EP X pins σ Q r s') pl (by lia) (by lia) (by rw[Qy,<-hl];exact h1) (by simpa using ew) ⟨rfl,fin⟩) hs
def AH:cU X ow:=by
 intro value slice pins s σ H x y v u Q I rx ry h hs;obtain⟨z,i,c,rfl,rfl,hz,he,q⟩:=h;obtain⟨t,rfl⟩:=rx;obtain⟨t',rfl⟩:=ry;obtain⟨j,h1,h2,h3,h4,h5⟩:=k9 he;have hl:z.cps.toList.length=z.length:=by simp[Str.length]
 rw[hl]at h1 h4 h5;have hn:=vB;exact tail_any (typeIs_str s z t) slot_str_getitem.lookup (getItem_str (c:=c) (by
  have e1:decide (i < -(2^63:Int))=false:=Jg (by lia);have e2:decide (i ≥ 2^63)=false:=Jg (by lia);rw[e1,e2,Bool.or_false]) (by rw[h1];simpa using h2) ⟨.str ⟨#[c]⟩,H,I.tok _,⟨_,rfl⟩,q⟩) hs
noncomputable def sg(K:Qb):R2:=λx y H Q=>oz K x y H Q\/oy K x y H Q\/ow x y H Q
def AG:cU X (sg X.K):=dy.or (eg.or AH)
def qC(its:List Value)(n j:Nat)(u:Value):Obj.mapSeq (·.setIfInBounds j u) {cls:=.type "list",data:=.seq its.toArray n}={cls:=.type "list",data:=.seq (its.set j u).toArray n}:=by
 simp[Obj.mapSeq]
theorem Inv.lst (I:Inv X pins σ H s)(h:H p=some (.lst xs)):
  ∃(its:List Value) (n:Nat),ax xs its/\s.heap.get? p=some {cls:=.type "list",data:=.seq its.toArray n}/\xs.length<=sizeLine:=by
 obtain⟨z,its,n,r,e⟩:=I.hok p _ h;exact⟨its,n,r,e,z⟩
def Inv.lstUpd{pins:List (Addr×Obj)}{σ:St}{H:Hp}{s:GU}{p:Addr}{xs ys:List V}{its its':List Value}{n n':Nat}{f:Obj->Obj}(I:Inv X pins σ H s)(h:H p=some (.lst xs))
  (ho:s.heap.get? p=some {cls:=.type "list",data:=.seq its.toArray n}) (hf:f {cls:=.type "list",data:=.seq its.toArray n}={cls:=.type "list",data:=.seq its'.toArray n' }) (r:ax ys its') (hz:ys.length<=sizeLine) (t:Nat) :
  Inv X pins σ (aE H p (.lst ys)) {s with heap:=s.heap.update p f,toks:=t}:=by
 have e:(s.heap.update p f).get? p=some {cls:=.type "list",data:=.seq its'.toArray n' }:=by
  rw[WC f ho (by rw[hf]<;>rfl),hf]
 refine I.write (x:=p) (e:=p) (by rw[h];trivial) (.inl rfl) (λb u hb q=>(VT _ _ (Ne.symm hb)).trans q) ⟨_,e⟩ ?_;exact⟨hz,its',n',r,e⟩
noncomputable def iN:V->V->V->Hp->(Hp->Prop)->Prop:=λo i v H Q=>∃p xs k j,o=.ref p/\i=.int k/\H p=some (.lst xs)/\eO xs.length k=some j/\Q (aE H p (.lst (xs.set j v)))
def Ek:iA X iN:=by
 intro pins s σ H o i v ov iv u Q I ro ri rv h;obtain⟨p,xs,k,j,rfl,rfl,hp,hj,q⟩:=h;cases ro;obtain⟨t,rfl⟩:=ri;obtain⟨its,n,r,ho,hz⟩:=I.lst hp;obtain⟨h1,h2,h3,h4⟩:=pX hj;have hl:=r.length;have hn:=vB;have I':Inv X pins σ (aE H p (.lst (xs.set j v))) {s with heap:=s.heap.update p (Obj.mapSeq (·.setIfInBounds j u))} :=
  I.lstUpd hp ho (qC its n j u) (r.set rv j) (by rw[WA];exact hz) s.toks
 by_cases h0:0<=k
 .have hk:k.toNat=j:=by
   rw[HU h0 h4]at h1;exact Option.some.inj h1
  exact PySem.W.ki_setAt ho h0 (by lia) (by rw[Qy,<-hl];exact h4) (by rw[hk];exact⟨_,I',q⟩)
 .have hk:(k+(its.toArray.size:Int)).toNat=j:=by
   rw[HV (by lia) h3]at h1;rw[Qy,<-hl];exact Option.some.inj h1
  exact PySem.W.ki_setBack ho (by lia) (by rw[Qy,<-hl];exact h3) (by lia) (by rw[hk];exact⟨_,I',q⟩)
def jb:bj X (.builtin "len") (λxs H Q=>∃p ys,xs=[.ref p]/\(bg X.K H p ys\/bG X.K H p ys)/\Q (.int ys.length) H):=by
 intro pins s σ H xs us Q I r h;obtain⟨p,ys,rfl,hq,q⟩:=h;obtain⟨u,rfl,rx⟩:=xZ r;cases rx;have hn:=vB;rcases hq with hq|hq
 .obtain ⟨its,r',pl,hz⟩:=I.list hq;have hlen:=r'.length;exact Calls.call_len_list pl.isList (by simp only[Qy]<;>lia) ⟨.int ys.length,H,I.tok _,⟨s.toks+1,by rw[Qy,hlen]⟩,q⟩
 .obtain ⟨its,r',pl,hz⟩:=I.tuple hq;have hlen:=r'.length;exact len_tuple pl (by simp only[Qy]<;>lia) ⟨.int ys.length,H,I.tok _,⟨s.toks+1,by rw[Qy,hlen]⟩,q⟩
def jc:bj X (.type "list") (λxs H Q=>∃p ys,xs=[.ref p]/\(bg X.K H p ys\/bG X.K H p ys)/\∀l,H l=none->Q (.ref l) (aE H l (.lst ys))):=by
 intro pins s σ H xs us Q I r h;obtain⟨p,ys,rfl,hq,q⟩:=h;obtain⟨u,rfl,rx⟩:=xZ r;cases rx;have fin:∀(its:List Value),ax ys its->ys.length<=sizeLine->∀(h':GZ) (c':Nat),(∀b o',s.heap.get? b=some o'->h'.get? b=some o') ->
   h'.get? s.heap.objs.size=some {cls:=.type "list",dict:=none,data:=.seq its.toArray c',slots:=#[]}->EP X pins σ Q (.ref s.heap.objs.size) {s with heap:=h' }:=λits r' hz h' c' kp e=>
  ⟨.ref s.heap.objs.size,_,I.laid (t':=s.toks) kp (Qf _) (show aS X.prog X.w _ h' _ (.lst ys)from⟨hz,its,c',r',e⟩),rfl,q _ (I.hok.fresh (Qf _))⟩
 rcases hq with hq|hq
 .obtain ⟨its,r',pl,hz⟩:=I.list hq;have hlen:=r'.length;obtain⟨o,ho,hc,n,hd⟩:=pl.isList;exact call_list_seq p (.inl rfl) ho hc hd (λh' c' kp e=>fin its r' hz h' c' kp e) (by simp only[Qy]<;>lia)
 .obtain ⟨its,r',pl,hz⟩:=I.tuple hq;have hlen:=r'.length;obtain⟨o,ho,hc,n,hd⟩:=pl;exact call_list_seq p (.inr rfl) ho hc hd (λh' c' kp e=>fin its r' hz h' c' kp e) (by simp only[Qy]<;>lia)
def kl:bj X (.type "tuple") (λxs H Q=>∃p ys,xs=[.ref p]/\((bg X.K H p ys/\∀l,H l=none->Q (.ref l) (aE H l (.tup ys)))\/(bG X.K H p ys/\Q (.ref p) H))):=by
 intro pins s σ H xs us Q I r h;obtain⟨p,ys,rfl,h⟩:=h;obtain⟨u,rfl,rx⟩:=xZ r;cases rx;rcases h with⟨hq,q⟩|⟨hq,q⟩
 .obtain ⟨its,r',pl,hz⟩:=I.list hq;have hlen:=r'.length;refine call_tuple_list pl.isList (λh' kp=>?_) (by simp only[Qy]<;>lia);have I1:Inv X pins σ H {s with heap:=h' }:=I.kept (t':=s.toks) kp;have I2:Inv X pins σ (aE H h'.objs.size (.tup ys)) {s with heap:=h'.push {cls:=.type "tuple",data:=.seq its.toArray} } :=
   I1.laid (t':=s.toks) (λb o e=>Qe _ e) (Qf _) (show aS X.prog X.w _ _ _ (.tup ys)from⟨hz,its,r',IsTup.new _ _⟩)
  exact⟨.ref h'.objs.size,_,I2,rfl,q _ (I1.hok.fresh (Qf _))⟩
 .obtain ⟨its,r',pl,hz⟩:=I.tuple hq;exact call_tuple_same pl ⟨.ref p,H,I,rfl,q⟩
noncomputable def iV(K:Qb)(T:String)(x:V)(H:Hp):Prop:=match x with
 |.str _=>T="str"
 |.int _=>T="int"
 |.ref p=>(T="list" /\ ∃xs,bg K H p xs)\/(T="tuple" /\ ∃o,K.lookup p=some o/\o.cls=.type "tuple" /\ o.dict=none) \/
   (T="dict" /\ ((∃kvs,H p=some (.dK kvs))\/∃kvs,H p=some (.dT kvs)))\/(T="set" /\ ∃S n,H p=some (.set S n))
 |_=>False
def AF (I:Inv X pins σ H s)(r:RelV x v)(ty:iV X.K T x H):
  s.TypeIs v T/\∀a,v=.ref a->∃ob,s.heap.get? a=some ob/\ob.dict=none:=by
 cases x with
 |str z=>
  obtain⟨t,rfl⟩:=r;cases(show T="str" from ty);exact⟨typeIs_str s z t,λ_ e=>nomatch e⟩
 |int i=>
  obtain⟨t,rfl⟩:=r;cases(show T="int" from ty);exact⟨typeIs_int s i t,λ_ e=>nomatch e⟩
 |ref p=>
  cases r;rcases ty with⟨rfl,xs,hq⟩|⟨rfl,o,hk,hc,hd⟩|⟨rfl,hk⟩|⟨rfl,S,n,hk⟩
  .obtain ⟨its,_,pl,_⟩:=I.list hq;refine⟨pl.isList.typeIs,λa e=>?_⟩;cases e;obtain⟨o,n,e,c,hd,_⟩:=pl;exact⟨o,e,hd⟩
  .refine ⟨⟨o,I.kIn p o hk,hc⟩,λa e=>?_⟩;cases e;exact⟨o,I.kIn _ o hk,hd⟩
  .have z:∃o,s.heap.get? p=some o/\o.ExactDict:=by
    rcases hk with⟨kvs,hk⟩|⟨kvs,hk⟩
    .obtain ⟨_,_,_,_,o,_,_,e,ex,_⟩:=I.hok p _ hk;exact⟨o,e,ex⟩
    .obtain ⟨_,_,_,_,o,_,_,e,ex,_⟩:=I.hok p _ hk;exact⟨o,e,ex⟩
   obtain⟨o,e,ex⟩:=z;refine⟨⟨o,e,ex.1⟩,λa e2=>?_⟩;cases e2;exact⟨o,e,ex.2.1⟩
  .obtain ⟨o,_,_,_,e,ex,_⟩:=I.hok p _ hk;refine⟨⟨o,e,ex.1⟩,λa e2=>?_⟩;cases e2;exact⟨o,e,ex.2.1⟩
 |_=>exact False.elim ty
noncomputable def EE(K:Qb)(T:String)(r:V->List V->Hp->VK->Prop)(to:TE)(t:TA):TE:=λσ H Q=>to σ H λx H1=>iV K T x H1/\t σ H1 λxs H2=>r x xs H2 Q
variable{o e:Expr}{es:List Expr}{to:TE}{t:TA}{name:Str}{apos cpos:Pos}{T id:String}{r:V->List V->Hp->VK->Prop}
def oT(pa:PlainAttrs T)(slot:Slot T name id)(hty:typeOf (.builtin id)=pure (.type "method_descriptor"))(hm:et X id r)(ho:PE X o to)(ha:PA X (e::es) t)
  (hbase:HX o name X.env (eval o X.env)=eval o X.env:=by rfl)
  (hfew:((Hg cpos (Hh (e::es) X.env)).all (λx=>! x.1)&&(HY cpos (HZ [] X.env)).all (λx=>x.1.isSome)
   && decide ((e::es).length+([]:List H0).length+(if([]:List H0).isEmpty then 0 else 1)<30))=true:=by rfl)
  (hline:(apos.endLine==cpos.line)=true:=by rfl) (hs:Hh (e::es) X.env=(false,eval e X.env)::Hh es X.env:=by rfl) (hplain:(Hg cpos (Hh es X.env)).any (·.1)=false:=by rfl) :
  PE X (.Call (.Attribute o name apos) (e::es) [] cpos) (EE X.K T r to t):=by
 intro pins s σ H Q I h;refine Ia hbase hfew hline rfl (aQ (ho pins s σ H _ I h) λv s1 ⟨x,H1,I1,r1,ty,q1⟩=>?_);obtain⟨h1,h2⟩:=AF I1 r1 ty;refine⟨T,id,pa,slot,hty,h1,h2,?_⟩;have hA:=ha cpos pins s1 σ H1 _ I1 q1;rw[hs]at hA ⊢;refine Calls.callWith_builtin (by show(false || (Hg cpos (Hh es X.env)).any (·.1))=false;rw[hplain]<;>rfl) (Calls.evalArgs_plain ?_);exact aQ hA λus s2 ⟨vs,H2,I2,r2,q2⟩=>hm pins s2 σ H2 x vs v us Q I2 r1 r2 q2
end
noncomputable def im(X:Cx)(id:String)(r:V->List V->Hp->VK->Prop):Prop:=
 ∀(pins:List (Addr×Obj)) (s:GU) (σ:St) (H:Hp) (x:V) (xs:List V) (v:Value) (us:List Value) (Q:VK),Inv X pins σ H s->RelV x v->ax xs us->r x xs H Q ->
  He (Hf X.prog X.w) X.A (call (.builtin id) (v::us)) (EP X pins σ Q) X.xe s
def ax.one:∀{x:V}{us:List Value},ax [x] us->∃u,us=[u]/\RelV x u
 |_,_,.cons r .nil=>⟨_,rfl,r⟩
def ax.zero:∀{us:List Value},ax [] us->us=[]
 |_,.nil=>rfl
theorem ax.dropLast{xs:List V}{us:List Value}(h:ax xs us):ax xs.dropLast us.dropLast:=by
 induction h with
 |nil=>exact .nil
 |cons r t ih=>
  cases t with
  |nil=>exact .nil
  |cons q t'=>exact .cons r ih
theorem ax.eraseIdx:∀{xs:List V}{us:List Value}(i:Nat),ax xs us->ax (xs.eraseIdx i) (us.eraseIdx i)
 |_,_,_,.nil=>.nil
 |_,_,0,.cons _ t=>t
 |_,_,i+1,.cons r t=>.cons r (ax.eraseIdx i t)
theorem ax.reverse{xs:List V}{us:List Value}(h:ax xs us):ax xs.reverse us.reverse:=by
 induction h with
 |nil=>exact .nil
 |cons r t ih=>rw[Wm,Wm];exact ax.append ih (.cons r .nil)
theorem ax.rep (h:ax xs us):∀k:Nat,ax (QJ k xs).flatten (QJ k us).flatten
 |0=>.nil
 |k+1=>by
  rw[Q8,Q8,QX,QX];exact ax.append h (ax.rep h k)
def qD{α:Type}(l:List α):l.eraseIdx (l.length-1)=l.dropLast:=by
 induction l with
 |nil=>rfl
 |cons a r ih=>
  cases r with
  |nil=>rfl
  |cons b r=>
   have e:(a::b::r).length-1=((b::r).length-1)+1:=by
    have h1:(a::b::r).length=r.length+2:=rfl;have h2:(b::r).length=r.length+1:=rfl;lia
   rw[e,List.eraseIdx_cons_succ,ih]
   all_goals rfl
theorem kF(its:List Value):∀(k:Nat) (acc:List Value),
  VI (λx1 x2=>x1++x2) acc.toArray (QJ k its.toArray)=(acc++(QJ k its).flatten).toArray
 |0,acc=>by simp
 |k+1,acc=>by
  have e:acc.toArray++its.toArray=(acc++its).toArray:=by simp
  have e2:(acc++its)++(QJ k its).flatten=acc++(QJ (k+1) its).flatten:=by
   rw[Q8,QX,Qj]
  rw[<-e2,<-kF its k (acc++its),<-e,Q8,List.foldl_cons]
section
variable{X:Cx}{pins:List (Addr×Obj)}{σ:St}{H:Hp}{s:GU}{l:Addr}{xs ys:List V}
def Inv.lset{its its':List Value}{n:Nat}{f:Array Value->Array Value}{t':Nat}(I:Inv X pins σ H s)(hH:H l=some (.lst xs))
  (e:s.heap.get? l=some {cls:=.type "list",data:=.seq its.toArray n}) (hf:f its.toArray=its'.toArray) (hv:ax ys its') (hz:ys.length<=sizeLine) :
  Inv X pins σ (aE H l (.lst ys)) {s with heap:=s.heap.update l (Obj.mapSeq f),toks:=t' }:=by
 have q:=PySem.IsL.update e f;rw[hf]at q;refine I.write (x:=l) (e:=l) (by rw[hH];exact trivial) (.inl rfl) (λb' u hb hu=>(VT s.heap (Obj.mapSeq f) (Ne.symm hb)).trans hu) ⟨_,q⟩ ?_;exact⟨hz,its',_,hv,q⟩
def Inv.lnew{its:List Value}{t':Nat}(I:Inv X pins σ H s)(hv:ax ys its)(hz:ys.length<=sizeLine):
  Inv X pins σ (aE H s.heap.objs.size (.lst ys)) {s with heap:=s.heap.push {cls:=.type "list",data:=.seq its.toArray},toks:=t' } :=
 I.laid (λ_ _ q=>Qe _ q) (Qf _) ⟨hz,its,0,hv,Qw _ rfl⟩
theorem Inv.fresh(I:Inv X pins σ H s):H s.heap.objs.size=none:=I.hok.fresh (Qf _)
def Inv.lstM(I:Inv X pins σ H s)(hH:H l=some (.lst xs)):xs.length<=sizeLine/\∃(its:List Value) (n:Nat),ax xs its/\xs.length=its.length/\s.heap.get? l=some {cls:=.type "list",data:=.seq its.toArray n}:=by
 obtain⟨z,its,n,r,e⟩:=I.hok l _ hH;exact⟨z,its,n,r,r.length,e⟩
def Ej (h:n<=sizeLine):Builtin.List.listTooLong n=false:=by
 unfold Builtin.List.listTooLong;exact Jg (by lia)
end
section
variable{X:Cx}
noncomputable def CF:V->List V->Hp->VK->Prop:=λx vs H Q=>∃l xs y,x=.ref l/\vs=[y]/\H l=some (.lst xs)/\xs.length<sizeLine/\Q .non (aE H l (.lst (xs++[y])))
def kG:im X "list.append" CF:=by
 intro pins s σ H x vs v us Q I rx rv h;obtain⟨l,xs,y,rfl,rfl,hH,hz,q⟩:=h;cases rx;obtain⟨u,rfl,ru⟩:=rv.one;obtain⟨z,its,n,r,hl,e⟩:=I.lstM hH;refine Ib F.slot_list_append ⟨_,e,rfl⟩ F.entry_list_append (F.args_list_append_2 _ _) (PySem.list_append l its.toArray n u (by rw[Qy];lia)) ⟨e,?_⟩;refine⟨.non,_,I.lset (its':=its++[u]) hH e (by simp) (r.append (.cons ru .nil)) ?_,rfl,q⟩;rw[QF,List.length_singleton];lia
noncomputable def ln:V->List V->Hp->VK->Prop:=λx vs H Q=>∃l xs y,x=.ref l/\vs=[]/\H l=some (.lst xs)/\xs[xs.length-1]?=some y/\Q y (aE H l (.lst xs.dropLast))
def AE:im X "list.pop" ln:=by
 intro pins s σ H x vs v us Q I rx rv h;obtain⟨l,xs,y,rfl,rfl,hH,hy,q⟩:=h;cases rx;have hus:=rv.zero;subst hus;obtain⟨z,its,n,r,hl,e⟩:=I.lstM hH;obtain⟨u,hu,ru⟩:=r.get hy;have hy':its.toArray[its.toArray.size-1]?=some u:=by
  show its.toArray[its.length-1]?=some u;rw[<-QC,<-hl];exact hu
 refine Ib F.slot_list_pop ⟨_,e,rfl⟩ F.entry_list_pop (F.args_list_pop_1 _) (MeetsSeq.list_pop_last l its.toArray n u hy' (by rw[Qy];lia)) ⟨e,?_⟩;refine⟨y,_,I.lset (its':=its.dropLast) hH e ?_ r.dropLast ?_,ru,q⟩
 .show its.toArray.eraseIdxIfInBounds (its.toArray.size-1)=its.dropLast.toArray;rw[Qy,List.eraseIdxIfInBounds_toArray,qD]
 .rw[List.length_dropLast];lia
noncomputable def Ei:V->List V->Hp->VK->Prop:=λx vs H Q=>∃l xs,x=.ref l/\vs=[]/\H l=some (.lst xs)/\Q .non (aE H l (.lst xs.reverse))
def qE:im X "list.reverse" Ei:=by
 intro pins s σ H x vs v us Q I rx rv h;obtain⟨l,xs,rfl,rfl,hH,q⟩:=h;cases rx;have hus:=rv.zero;subst hus;obtain⟨z,its,n,r,hl,e⟩:=I.lstM hH;refine Ib F.slot_list_reverse ⟨_,e,rfl⟩ F.entry_list_reverse (F.args_list_reverse_1 _) (AutoSeq1.list_reverse_list_0 l its.toArray n (by rw[Qy];lia)) ⟨e,?_⟩;refine⟨.non,_,I.lset (its':=its.reverse) hH e (by simp) r.reverse ?_,rfl,q⟩;rw[List.length_reverse];lia
noncomputable def ou:R2:=λx y H Q=>∃l b xs zs,x=.ref l/\y=.ref b/\H l=some (.lst xs)/\H b=some (.lst zs)/\xs.length+zs.length<=sizeLine/\∀p,H p=none->Q (.ref p) (aE H p (.lst (xs++zs)))
def dY:bL X (HB .Add) ou:=by
 intro pins s σ H x y v u Q I rx ry h;obtain⟨l,b,xs,zs,rfl,rfl,hH,hB,hz,q⟩:=h;cases rx;cases ry;obtain⟨z,its,n,r,hl,e⟩:=I.lstM hH;obtain⟨z2,its2,n2,r2,hl2,e2⟩:=I.lstM hB;refine PySem.P.add_list e e2 ?_ (by rw[Qy,Qy];lia);have ea:its.toArray++its2.toArray=(its++its2).toArray:=by simp
 rw[ea];exact⟨.ref _,_,I.lnew (t':=s.toks) (r.append r2) (by rw[QF];lia),rfl,q _ I.fresh⟩
noncomputable def ot:R2:=λx y H Q=>∃l k xs,x=.ref l/\y=.int k/\H l=some (.lst xs)/\-(2^63)<=k/\k<2^63/\xs.length*k.toNat<=sizeLine /\
 ∀p,H p=none->Q (.ref p) (aE H p (.lst (QJ k.toNat xs).flatten))
def pW{α:Type}(xs:List α)(k:Nat):(QJ k xs).flatten.length=k*xs.length:=by
 induction k with
 |zero=>simp
 |succ k ih=>rw[Q8,QX,QF,ih,Nat.succ_mul,Nat.add_comm]
def AD:bL X (HB .Mult) ot:=by
 intro pins s σ H x y v u Q I rx ry h;obtain⟨l,k,xs,rfl,rfl,hH,h1,h2,hz,q⟩:=h;cases rx;obtain⟨t,rfl⟩:=ry;obtain⟨z,its,n,r,hl,e⟩:=I.lstM hH;have hlen:its.toArray.size*k.toNat<=sizeLine:=by rw[Qy,<-hl];exact hz
 have hcap:¬its.toArray.size*k.toNat > (2^63-1)/8:=by
  have:(sizeLine:Nat)<=(2^63-1)/8:=by decide
  lia
 have hfit:¬(! Builtin.List.listFitsIndex k)=true:=by
  rw[fitsIndex_both h1 h2];exact QS
 have hlong:¬Builtin.List.listTooLong (its.toArray.size*k.toNat)=true:=by
  rw[Ej hlen];exact QS
 have hnew:VI (λx1 x2=>x1++x2) #[] (QJ (if its.toArray.isEmpty=true then 0 else k.toNat) its.toArray)=(QJ k.toNat its).flatten.toArray:=by
  have f0:∀m:Nat,VI (λx1 x2=>x1++x2) #[] (QJ m its.toArray)=(QJ m its).flatten.toArray:=λm=>by
   have:=kF its m [];rw[Wz]at this;exact this
  rw[f0];cases its with
  |nil=>simp
  |cons a r'=>rw[Ji (by simp)]
 refine wpAny_binaryOp_repeat_ref (T:="list") (U:="int") (by decide) ⟨_,e,rfl⟩ (λs'=>typeIs_int s' k t) noFill_list_mul F.fills_int_mul F.slot_int_rmul repeat_list F.slot_int_index.lookup
  (Ib F.slot_int_rmul (typeIs_int s k t) F.entry_int_rmul (F.args_int_rmul_2 _ _) (int___rmul___int_list k t l its.toArray n)
   ⟨e,rfl,⟨_,e,rfl⟩,Ib F.slot_list_mul ⟨_,e,rfl⟩ F.entry_list_mul (F.args_list_mul_2 _ _) (AutoListH.list___mul___list_int_3 l its.toArray n k t hfit hcap hlong) ⟨e,?_⟩⟩)
 rw[hnew];exact⟨.ref _,_,I.lnew (t':=s.toks) (r.rep k.toNat) (by rw[pW,Nat.mul_comm];exact hz),rfl,q _ I.fresh⟩
end
end L2
namespace Att
open PySem PySem.W PySem.Calls PyProof.Rows
def vh:∀(ns:List Int) (vs:List Value),WellAll P h vs (ns.map WData.int)->Ic vs ns:=by
 intro ns
 induction ns with
 |nil=>
  intro vs w;rw[List.map_nil]at w;cases w;exact .nil
 |cons n ns ih=>
  intro vs w;rw[Q2]at w;cases w with
  |cons a b=>
   cases a;exact .cons _ _ (ih _ b)
def DV {l:OpenLaw}(hn:l.most=some n)(hpre:l.row.toRowW.claim.pre args=true)(hwl:WellAll P h vals args):
  ∃a vs ns,vals=[Value.ref a]/\args=[WData.list (ns.map WData.int)]/\h.get? a=some {cls:=.type "list",data:=.seq vs.toArray}/\Ic vs ns/\ns.length<=n:=by
 have hsh:WShape.hasAll [] args [.list .int]=true:=(pre_splitW hpre).1;have hc:l.pre.holds [] {args:=args}=true:=(pre_splitW hpre).2;obtain⟨d,r,rfl,h1,h2⟩:=hasAllW_cons hsh;obtain rfl:=hasAllW_nil h2;obtain⟨xs,rfl,h3⟩:=hasW_list h1;obtain⟨ns,rfl⟩:=items_int h3;have hlen:ns.length<=n:=by
  unfold OpenLaw.pre at hc;have h4:(WTm.not (.lt (.lit (.int (n:Int))) (.len (.arg 0)))).holds [] {args:=[.list (ns.map .int)]}=true:=by
   have h4:=(holds_andW hc).1;rw[hn]at h4;exact h4
  have h5:=condW_of h4 (w_not (w_lt w_lit (w_len_list (w_arg rfl))));rw[QN]at h5;refine Nat.le_of_not_lt λq=>?_;have q':(n:Int)<((ns.length:Nat):Int):=by lia
  first
   |(rw[Jk q']at h5;exact Jj h5 (by decide))
   |(simp at h5;lia)
 cases hwl with
 |cons w1 w2=>
  cases w2;cases w1 with
  |list ho hall=>exact⟨_,_,ns,rfl,rfl,ho,vh ns _ hall,hlen⟩
def DU(l:OpenLaw)(args:List WData):l.row.toRowW.claim.post args (.bool true) args=true:=
 postW_of (r:=l.row.toRowW) (X:=(true==true))
  (show WShape.has [] (.bool true) .bool=true by first|rfl|decide|simp[WShape.has,WShape.arms,WShape.armsAll])
  (show(WTm.eq .res (.lit (.bool true))).value [] {args:=args,res:=some (.bool true),after:=args}=some (.bool (true==true))from w_eq_bool (w_res rfl) w_lit) rfl
def cy {l:OpenLaw}(hn:l.most=some n)(hdf:d.params.defaults=[])(call:∀(w:GV) (s₀ s₁:GU) (mg mb:Str->Option Value) (fa:Addr) (o:Obj) (pm cd doc:Value) (a:Addr) (vs:List Value) (ns:List Int),
   Ground q loose [] XP w s₀ mg mb s₁.heap->YP w s₁.heap ->
   s₁.heap.get? fa=some o->o.data=.func (docDef d.name d.params d.body d.scope pm cd doc)->s₁.heap.CodeRec cd d.name->mg d.name=some (.ref fa) ->
   s₁.heap.get? a=some {cls:=.type "list",data:=.seq vs.toArray}->Ic vs ns->ns.length<=n->s₁.gens=#[] ->
   HH (Hf l.prog w) Ie (.call (.ref fa) ⟨[.ref a],[]⟩) (λr s'=>r=.ok (.ret (.bool true))/\OldK s₁.heap s'.heap/\s'.os=s₁.os/\Hd s'.gens) s₁):
  WalkO q loose XP YP l.row.toRowW d [] (λf vs=>PySem.call f vs):=by
 intro w s₀ s₁ mg mb G Y fa o pm cd doc dV kV ho hd hcd hD hmg hg args vals as hpre hlay hrd hwl hlo;obtain rfl:dV=.none:=Dflts.none hD hdf;obtain rfl:kV=.none:=Dflts.noKw hD;obtain⟨a,vs,ns,rfl,rfl,hobj,hints,hlen⟩:=DV hn hpre hwl;refine enter_call (HI (call w s₀ s₁ mg mb fa o pm cd doc a vs ns G Y ho (fd_plain hd) hcd hmg hobj hints hlen hg) λr s' hq=>?_);obtain⟨rfl,h2,h3,h4⟩:=hq;exact⟨.inl ⟨.bool true,.bool true,[],rfl,λ_=>rfl,.bool true,DU l _,λ_=>⟨List.Pairwise.nil,λ_ hm=>(nomatch hm)⟩⟩,h2,h3,h4⟩
end Att
namespace L2
open PySem PySem.Spec PyProof.Rows
theorem kH:∀{vs:List Value}{ns:List Int},Ic vs ns->ax (ns.map V.int) vs
 |_,_,.nil=>.nil
 |_,_,.cons n t h=>.cons ⟨t,rfl⟩ (kH h)
noncomputable def fE(H:Hp):Prop:=∀b,H b=none\/∃o xs,H b=some (.frz o (.lst xs))
def Eh {K:Qb}(KX:K.In s₁.heap)(hns:s₁.heap.Ns Ha mg)(hb:s₁.heap.Ns builtinsNs mb)(hbb:∀x:Str,x ≠ "__name__" -> mb x=Hb x)(hlim:s₁.heap.NoLimit)(hg:s₁.gens=#[])(ha:s₁.heap.get? a=some {cls:=.type "list",data:=.seq vs.toArray})(hi:Ic vs ns)(hl:ns.length<=sizeLine)(hr:bK k Ie)(F:∀base:GZ,K.In base->base.Ns Ha mg->cb P w K mg base CX k fa fd [x] sp)(hbind:∀(s:GU) (u:Value),BindsTo s fd ⟨[u],[]⟩ [(x,u)])(hsp:∀H:Hp,fE H->bg K H a (ns.map V.int)->sp [.ref a] H (λv _=>v=.bl true) λ_ _ _=>False)(hCX:∀H e s',CX [] H s₁ (λ_ _ _=>False) e s'->False):
  HH (Hf P w) Ie (.call (.ref fa) ⟨[.ref a],[]⟩) (λr s'=>r=.ok (.ret (.bool true))/\OldK s₁.heap s'.heap/\s'.os=s₁.os/\Hd s'.gens) s₁:=by
 have rv:=kH hi;have lenV:=hi.length
 -- from an abstract heap in which nothing but the script may be tracked
 have core:∀H:Hp,fE H->bg K H a (ns.map V.int)->bT P w H s₁.heap->(∀b,H b≠none->b=a)->(H a≠none->K.lookup a=none) ->
   HH (Hf P w) Ie (.call (.ref fa) ⟨[.ref a],[]⟩) (λr s'=>r=.ok (.ret (.bool true))/\OldK s₁.heap s'.heap/\s'.os=s₁.os/\Hd s'.gens) s₁:=by
  intro H hO hS hok hA hK;have bB:∀{b:Addr}{o:Obj},s₁.heap.get? b=some o->H b=none->(kY s₁.heap H).get? b=some o:=λe n=>D7 e n;have noA:∀{b:Addr}{o:Obj}{es:Array DictEntry}{ep:Nat},s₁.heap.get? b=some o->o.data=.dict es ep->H b=none:=λ{b o es ep} e d=>by
   cases q:H b with
   |none=>rfl
   |some u=>
    have e':b=a:=hA b (by rw[q];simp);subst e';rw[ha]at e;cases e;have d':Data.seq vs.toArray _=Data.dict es ep:=d;cases d'
  have nsK:∀{b:Addr}{m:Str->Option Value},s₁.heap.Ns b m->(kY s₁.heap H).Ns b m:=λ{b m} ⟨o,es,ep,e,d,r⟩=>⟨o,es,ep,bB e (noA e d),d,r⟩;have hKb:K.In (kY s₁.heap H):=λb o e=>bB (KX b o e) (by
   cases q:H b with
   |none=>rfl
   |some u=>
    have e':b=a:=hA b (by rw[q];simp);subst e';rw[hK (by rw[q];simp)]at e;cases e)
  have hM:Mod K mg (kY s₁.heap H):=⟨hKb,nsK hns,⟨mb,nsK hb,hbb⟩,let⟨mc,h1,h2⟩:=hlim;⟨mc,nsK h1,h2⟩⟩;have e0:dI P w K mg (kY s₁.heap H) Ie [] s₁ H:=⟨rfl,hM,λb o e=>CQ e,Vx (Ev _ _),trivial,λb hb=>Jj (show b∈([]:List Addr)from hb) (by simp),hok,.of_eq hg⟩;refine HI ((F _ hKb (nsK hns)).run Ie [] s₁ H ⟨[.ref a],[]⟩ [.ref a] [.ref a] _ _ hr e0 (hbind s₁ (.ref a)) (.cons rfl .nil) (hsp H hO hS)) λr s' h=>?_;cases r with
  |error e=>exact(hCX H e s' h).elim
  |ok fl=>
   cases fl with
   |next=>exact False.elim h
   |brk=>exact False.elim h
   |cont=>exact False.elim h
   |ret u=>
    obtain⟨v,H',os,bare,un,hok',r',q⟩:=h;have q':v=.bl true:=q;subst q';obtain rfl:u=Value.bool true:=r';refine⟨rfl,OldK.of_keep λb o e=>?_,os,bare⟩;cases q:H b with
    |none=>exact un.keep b o e q (by intro z;exact Jj (show b∈([]:List Addr)from z) (by simp)) (by simp)
    |some u=>
     rcases hO b with z|⟨ob,xs,z⟩
     .rw[q]at z;cases z
     .have z2:=un.frzs b ob _ z;obtain⟨e1,_⟩:=hok b _ z;obtain⟨e2,_⟩:=hok' b _ z2;rw[e]at e1;cases e1;exact e2
 cases hk:K.lookup a with
 |some o=>
  -- the script is one of the module's own objects
  have e:=KX a o hk;rw[ha]at e;cases e;refine core (λ_=>none) (λ_=>.inl rfl) (.inr ⟨_,vs.toArray,_,hk,rfl,rfl,rfl,by rw[Qy,lenV];exact hl,by simpa using rv⟩) (λb u z=>by have z':(none:Option HO)=some u:=z;cases z') (λb z=>Jj rfl z) λz=>Jj rfl z
 |none=>
  refine core (λb=>if b=a then some (.frz {cls:=.type "list",data:=.seq vs.toArray} (.lst (ns.map V.int)))else none) (λb=>?_) (.inl (.inr ⟨{cls:=.type "list",data:=.seq vs.toArray},Jh rfl⟩)) (λb u z=>?_) (λb z=>?_) λ_=>hk
  .by_cases hb:b=a
   .exact .inr ⟨_,_,Jh hb⟩
   .exact .inl (Ji hb)
  .by_cases hb:b=a
   .have z':=(Jh hb).symm.trans z;cases z';subst hb;exact⟨ha,by rw[QN];exact hl,vs,_,rv,ha⟩
   .have z':=(Ji hb).symm.trans z;cases z'
  .by_cases hb:b=a
   .exact hb
   .exact Jj (Ji hb) z
def CC {l:PySem.W.OpenLaw}{K:GS->Qb}{CX:GV->dq}{sp:GV->Sp}(hn:l.most=some n)(hn2:n<=sizeLine)(hdf:d.params.defaults=[])(hr:bK k Ie)(hY:∀(w:GV) (h:GZ),YP w h->(K w.params).In h)(F:∀(w:GV) (mg:Str->Option Value) (fa:Addr) (h:GZ),(K w.params).In h->h.Ns Ha mg->mg d.name=some (.ref fa) ->
   ∃fd:HG,(∀(s:GU) (u:Value),BindsTo s fd ⟨[u],[]⟩ [(x,u)]) /\
    ∀base:GZ,(K w.params).In base->base.Ns Ha mg->cb l.prog w (K w.params) mg base (CX w) k fa fd [x] (sp w))(hsp:∀(w:GV) (H:Hp) (a:Addr) (ns:List Int),ns.length<=n->fE H->bg (K w.params) H a (ns.map V.int)->sp w [.ref a] H (λv _=>v=.bl true) λ_ _ _=>False)(hCX:∀(w:GV) (H:Hp) (s:GU) (e:Value) (s':GU),CX w [] H s (λ_ _ _=>False) e s'->False):
  VG q loose XP YP l.row.toRowW d [] (λf vs=>PySem.call f vs):=by
 refine Att.cy hn hdf λw s₀ s₁ mg mb fa o pm cd doc a vs ns G Y ho hd hcd hmg hobj hints hlen hg=>?_;have KX:=hY w _ Y;obtain⟨fd,hb,hF⟩:=F w mg fa _ KX G.T.g hmg;exact Eh KX G.T.g G.T.b G.T.builtins G.T.nolimit hg hobj hints (Qs hlen hn2) hr hF hb (λH hO hS=>hsp w H a ns hlen hO hS) λH e s'=>hCX w H s₁ e s'
abbrev dr:dq:=λ_ _ _ _ _ _=>False
abbrev E0:XK:=λ_ _ _=>False
def tY:qB dr X E0:=λ_ _ _ _ _ _ _ h=>h.elim
structure dQ(K:Qb)(x qual:Str)(st:Stmt)(f:Addr)(fd:HG):Prop where
 ex:∃(oc:Value) (od:Option Addr) (kV doc pm:Value) (an:Option Addr) (cdv ct:Value) (osl:Array (Option Value)),
  fd=WD x qual (y8 st) (yF st) (zF st) .none kV doc pm an cdv ct/\K.lookup f=some ⟨oc,od,.func fd,osl⟩/\Vh K cdv qual=true
 kp:WM K (.ref f)=true
section
variable{P:GT}{w:GV}{K:Qb}{mg:Str->Option Value}{base:GZ}
def dQ.ok {st:Stmt}(F:dQ K x qual st f fd)(S:bX N ps (zF st))(len:∀vs H Q E,sp vs H Q E->vs.length=ps.length)(hbody:∀(cdv:Value) (A:Hc) (outer:List Env) (s:GU) (H:Hp) (vs:List V) (Q:VK) (E:XK),bK k (A.deeper (HN qual (zF st) s.heap.objs.size f cdv))->sp vs H Q E ->
   ∃t,bW (jY dr P w K mg base N qual (zF st) f cdv A outer s H E).nox (yF st) t/\t {nx:=λ_ H'=>Q .non H',rt:=Q} (start N vs) H):cb P w K mg base dr (k+1) f fd ps sp:=by
 obtain⟨oc,od,kV,doc,pm,an,cdv,ct,osl,rfl,lk,hcd⟩:=F.ex;refine tZ lk hcd S len λA outer s H vs Q E hr hsp=>?_;obtain⟨t,h,q⟩:=hbody cdv A outer s H vs Q E hr hsp;exact⟨t,h.nox,q⟩
def dQ.binds {st:Stmt}(F:dQ K x qual st f fd)(h:∀(kV doc pm:Value) (an:Option Addr) (cdv ct:Value) (us:List Value),us.length=ps.length->bindArgs (WD x qual (y8 st) (yF st) (zF st) .none kV doc pm an cdv ct) ⟨us,[]⟩=pure (ps.zip us)):Binds K fd ps []:=by
 obtain⟨oc,od,kV,doc,pm,an,cdv,ct,osl,rfl,lk,hcd⟩:=F.ex;exact .all (h kV doc pm an cdv ct)
def AC {st:Stmt}{kV:Value}(l:K.lookup f=some ⟨oc,od,.func (WD x qual (y8 st) (yF st) (zF st) .none kV doc pm an cdv ct),osl⟩)(c:Vh K cdv qual=true)(k:WM K (.ref f)=true):dQ K x qual st f (WD x qual (y8 st) (yF st) (zF st) .none kV doc pm an cdv ct):=⟨⟨oc,od,kV,doc,pm,an,cdv,ct,osl,rfl,l,c⟩,k⟩
end
def j0 {B:Prop}(h:B):if false=true then A else B:=by
 rw[Ji QS];exact h
def j4 {B:Prop}(h:A):if true=true then A else B:=by
 rw[Jh rfl];exact h
noncomputable def xS(env:Env):List (Str×HK)->List (Str×Addr)->List (Str×Addr)
 |[],acc=>acc
 |(n,k)::r,acc=>if k == .free then xS env r ((n,(env.cells.lookup n).getD 0)::acc)else xS env r acc
theorem x5 (f:Str×HK->List (Str×Addr)->Sem (ForInStep (List (Str×Addr))))(hf:∀n k cs,f (n,k) cs=if k == .free then(do let a <-cellOf env n;pure (.yield ((n,a)::cs)))else pure (.yield cs)):
  ∀(names:List (Str×HK)) (acc:List (Str×Addr)),(∀y∈names,y.2=.free->∃c,env.cells.lookup y.1=some c)->forIn names acc f=pure (xS env names acc)
 |[],acc,_=>by rw[List.forIn_nil];rfl
 |(n,k)::r,acc,h=>by
  have ih:=x5 f hf r;rw[List.forIn_cons,hf];unfold xS;cases hk:k==NameKind.free with
  |true=>
   obtain⟨c,hc⟩:=h (n,k) QR (by simpa using hk);have hc':env.cells.lookup n=some c:=hc;have e1:cellOf env n=pure c:=by unfold cellOf;rw[hc']
   simp only[if_true,e1,hc',Wg,pure_bind];exact ih _ λy hy=>h y (Qh _ hy)
  |false=>
   simp only[QT,if_false,pure_bind];exact ih _ λy hy=>h y (Qh _ hy)
def vC (h:∀y∈scope.names,y.2=.free->∃c,env.cells.lookup y.1=some c):closureFor scope env=pure (xS env scope.names []):=by
 unfold closureFor;simp only[];rw[x5 (env:=env) _ (λn k cs=>by cases hk:k==NameKind.free<;>simp[hk]) scope.names [] h];rfl
theorem xC:∀{names:List (Str×HK)}{acc:List (Str×Addr)},(∀z∈names,z.2=.free->∃c,env.cells.lookup z.1=some c)->(xS env names acc).lookup y=some c ->
  acc.lookup y=some c\/((y,NameKind.free)∈names/\env.cells.lookup y=some c)
 |[],acc,_,e=>.inl e
 |(n,k)::r,acc,h,e=>by
  unfold xS at e;have h':∀z∈r,z.2=.free->∃c,env.cells.lookup z.1=some c:=λz hz=>h z (Qh _ hz);cases hk:k==NameKind.free with
  |true=>
   have hk':k=.free:=by simpa using hk
   subst hk';rw[hk,Jh rfl]at e;rcases xC h' e with q|⟨q1,q2⟩
   .rw[QU]at q;cases hy:y==n with
    |true=>
     rw[hy]at q;have:y=n:=by simpa using hy
     subst this;obtain⟨c',hc'⟩:=h (y,.free) QR rfl;have hc'':env.cells.lookup y=some c':=hc';rw[hc'']at q;refine .inr ⟨QR,?_⟩;rw[hc''];exact q
    |false=>rw[hy]at q;exact .inl q
   .exact .inr ⟨Qh _ q1,q2⟩
  |false=>
   rw[hk,Ji (by simp)]at e;rcases xC h' e with q|⟨q1,q2⟩
   .exact .inl q
   .exact .inr ⟨Qh _ q1,q2⟩
theorem wJ:∀{names:List (Str×HK)}{acc:List (Str×Addr)},((y,NameKind.free)∈names\/(acc.lookup y).isSome=true)->((xS env names acc).lookup y).isSome=true
 |[],acc,h=>by
  rcases h with h|h
  .cases h
  .exact h
 |(n,k)::r,acc,h=>by
  unfold xS;cases hk:k==NameKind.free with
  |true=>
   rw[Jh rfl];refine wJ ?_;rcases h with h|h
   .rcases Qk.mp h with e|e
    .cases e;exact .inr (by rw[QU];simp)
    .exact .inl e
   .refine .inr ?_;rw[QU];split
    .rfl
    .exact h
  |false=>
   rw[Ji (by simp)];refine wJ ?_;rcases h with h|h
   .rcases Qk.mp h with e|e
    .cases e;cases hk
    .exact .inl e
   .exact .inr h
theorem iM:∀{names:List (Str×HK)}{h:GZ}{acc:List (Str×Addr)},(HP h.objs.size names acc).lookup y=some c ->
  acc.lookup y=some c\/(h.objs.size<=c/\(Ig h names).IsCell c none/\(y,NameKind.cell)∈names)
 |[],h,acc,e=>.inl e
 |(n,k)::r,h,acc,e=>by
  unfold HP at e;cases hk:k==NameKind.cell with
  |true=>
   have hk':k=.cell:=by simpa using hk
   subst hk';rw[hk,Jh rfl]at e;have ih:=iM (y:=y) (c:=c) (names:=r) (h:=h.push {cls:=.type "cell",data:=.cell none}) (acc:=(n,h.objs.size)::acc);rw[VJ]at ih;have hp:Ig h ((n,NameKind.cell)::r)=Ig (h.push {cls:=.type "cell",data:=.cell none}) r:=by
    exact Jh hk
   rcases ih e with q|⟨q1,q2,q3⟩
   .rw[QU]at q;cases hy:y==n with
    |true=>
     rw[hy]at q;cases q;have hyn:y=n:=by simpa using hy
     subst hyn;refine .inr ⟨Qf _,?_,QR⟩;rw[hp];exact⟨_,Ih _ _ _ _ (Qw _ rfl),rfl⟩
    |false=>rw[hy]at q;exact .inl q
   .exact .inr ⟨Qs (W8 _) q1,by rw[hp];exact q2,Qh _ q3⟩
  |false=>
   rw[hk,Ji (by simp)]at e;have hp:Ig h ((n,k)::r)=Ig h r:=by
    show(if(k==NameKind.cell)=true then _ else _)=_;rw[hk,Ji (by simp)]
   rcases iM e with q|⟨q1,q2,q3⟩
   .exact .inl q
   .exact .inr ⟨q1,by rw[hp];exact q2,Qh _ q3⟩
theorem iL {lo:Nat}:∀{names:List (Str×HK)}{n:Nat}{acc:List (Str×Addr)},((y,NameKind.cell)∈names\/∀c,acc.lookup y=some c->lo<=c)->lo<=n->(HP n names acc).lookup y=some c->lo<=c
 |[],n,acc,h,_,e=>by
  rcases h with h|h
  .cases h
  .exact h c e
 |(m,k)::r,n,acc,h,hn,e=>by
  unfold HP at e;cases hk:k==NameKind.cell with
  |true=>
   rw[hk,Jh rfl]at e;refine iL ?_ (Qs hn (W8 _)) e;by_cases hy:y=m
   .subst hy;refine .inr λc hc=>?_;rw[QU,beq_self_eq_true]at hc;cases hc;exact hn
   .rcases h with h|h
    .rcases Qk.mp h with z|z
     .cases z;exact Jj rfl hy
     .exact .inl z
    .refine .inr λc hc=>?_;rw[QU]at hc;have:(y==m)=false:=by simpa using hy
     rw[this]at hc;exact h c hc
  |false=>
   rw[hk,Ji (by simp)]at e;refine iL ?_ hn e;rcases h with h|h
   .rcases Qk.mp h with z|z
    .cases z;cases hk
    .exact .inl z
   .exact .inr h
theorem qF:∀{names:List (Str×HK)}{n:Nat}{acc:List (Str×Addr)},(∀y z c,acc.lookup y=some c->acc.lookup z=some c->y=z)->(∀y c,acc.lookup y=some c->c<n) ->
  ∀y z c,(HP n names acc).lookup y=some c->(HP n names acc).lookup z=some c->y=z
 |[],n,acc,hi,_=>hi
 |(m,k)::r,n,acc,hi,hl=>by
  unfold HP;cases hk:k==NameKind.cell with
  |true=>
   rw[Jh rfl];refine qF (λy z c e1 e2=>?_) λy c e=>?_
   .rw[QU]at e1 e2;cases hy:y==m<;>cases hz:z==m<;>rw[hy]at e1<;>rw[hz]at e2
    .exact hi y z c e1 e2
    .cases e2;exact Jj (hl y _ e1) (Wk _)
    .cases e1;exact Jj (hl z _ e2) (Wk _)
    .exact (by simpa using hy:y=m).trans (by simpa using hz:z=m).symm
   .rw[QU]at e;cases hy:y==m<;>rw[hy]at e
    .exact Ws (hl y c e)
    .cases e;exact Wj _
  |false=>
   rw[Ji (by simp)];exact qF hi hl
def j5 (hQ:Q {scope:=scope,locals:=s.heap.objs.size,globals:=globals,cells:=HP (s.heap.objs.size+1) scope.names cl,qual:=qual,func:=none,code:=outer.code,frame:=outer.frame,builtins:=outer.builtins}
   {s with heap:=Ig (s.heap.push {cls:=.type "dict",data:=.dict #[]}) scope.names}):
  He M A (Ii scope globals cl [] qual none .none (some outer)) Q E s:=by
 simp only[Ii,Option.isSome_some,if_true];refine Hs (wpAny_alloc ?_);refine Hs (wpAny_layCells _ (λname kind cells=>by cases hkc:kind==NameKind.cell<;>simp[hkc]) _ _ _ _ ?_);rw[show({s with heap:=s.heap.push {cls:=.type "dict",data:=.dict #[]} }:GU).heap.objs.size=s.heap.objs.size+1 from VJ ..];simp only[List.forIn_nil];exact Hs (Hy (Hy hQ))
def zI:(Ij scope env).names.lookup y=(scope.names.lookup y).map λk=>if(k==NameKind.free&&env.scope.kind == .function&&env.kindOf y==some .cell)then NameKind.cell else k:=by
 have all:∀l:List (Str×HK),(l.map λ(n,k)=>if(k==NameKind.free&&env.scope.kind == .function&&env.kindOf n==some .cell)then(n,NameKind.cell)else(n,k)).lookup y=(l.lookup y).map λk=>if(k==NameKind.free&&env.scope.kind == .function&&env.kindOf y==some .cell)then NameKind.cell else k:=by
  intro l
  induction l with
  |nil=>rfl
  |cons p r ih=>
   obtain⟨n,k⟩:=p;rw[Q2,QU];by_cases hc:(k==NameKind.free&&env.scope.kind == .function&&env.kindOf n==some .cell)=true
   .simp only[hc,if_true,QU];cases hy:y==n with
    |true=>
     have:y=n:=by simpa using hy
     subst this;simp only[QP,hc,if_true]
    |false=>exact ih
   .simp only[Ji hc,QU];cases hy:y==n with
    |true=>
     have:y=n:=by simpa using hy
     subst this;simp only[QP,Ji hc]
    |false=>exact ih
 exact all scope.names
noncomputable def ig(x:Str):Str:=⟨x.cps.push 0⟩
noncomputable def zL(N xs:List Str):List Str:=(N.map λy=>if y∈xs then ig y else y)++xs
def DT(N xs:List Str):(zL N xs).length=N.length+xs.length:=by simp[zL]
def xT(N xs:List Str)(j:Nat):(zL N xs)[N.length+j]?=xs[j]?:=by
 unfold zL;rw[Qc (by simp)];simp
def DS (hi:i<N.length)(h:(zL N xs)[i]?=some y):(∃x∈xs,y=ig x)\/(N[i]?=some y/\y∉xs):=by
 unfold zL at h;rw[Qd (by simpa using hi),Qu]at h;obtain⟨z,hz⟩:∃z,N[i]?=some z:=⟨N[i],by simp[hi]⟩;rw[hz]at h;by_cases e:z∈xs
 .simp only[QP,Jh e]at h;exact .inl ⟨z,e,(Option.some.inj h).symm⟩
 .simp only[QP,Ji e]at h;have e2:z=y:=Option.some.inj h;subst e2;exact .inr ⟨hz,e⟩
structure bh(X:Cx)(scope:GR)(xs:List Str)(Xc:Cx):Prop where
 prog:Xc.prog=X.prog
 w:Xc.w=X.w
 K:Xc.K=X.K
 mg:Xc.mg=X.mg
 base:Xc.base=X.base
 A:Xc.A=X.A
 N:Xc.N=zL X.N xs
 sc:Xc.env.scope=Ij scope X.env
 calm:Xc.calm=true
 stack:Xc.stack=X.stack
noncomputable def en(X:Cx)(ifs:List Expr)(t:TT):Prop:=
 ∀(pins:List (Addr×Obj)) (s:GU) (σ:St) (H:Hp) (Q:Bool->Hp->Prop),Inv X pins σ H s->t σ H Q ->
  He (Hf X.prog X.w) X.A (forIn ifs true λc r=>if r=true then do let ok <-isTrue c X.env (eval c X.env);pure (ForInStep.yield ok)else pure (ForInStep.yield r)) (TP X pins σ Q) X.xe s
def x6:en X [] (λ_ H Q=>Q true H):=λ_ _ _ H _ I h=>wpAny_tests_nil ⟨H,I,h⟩
def vl (h:PT X c t):en X [c] t:=λpins s σ H Q I q=>wpAny_tests_one (h pins s σ H Q I q)
structure bx(X:Cx)(scope:GR)(xs:List Str):Prop where
 kind:scope.kind=.function
 own:∀x∈xs,scope.names.lookup x=some .local\/scope.names.lookup x=some .cell
 locs:∀y∈scope.names,y.2=.local->scope.names.lookup y.1=some .local
 free:∀y∈scope.names,y.2=.free->X.env.scope.names.lookup y.1=some .cell\/X.env.scope.names.lookup y.1=some .free
 alone:∀y∈X.N,y∉xs->scope.names.lookup y≠some .local/\scope.names.lookup y≠some .cell
 one:∀y∈scope.names,y.2=.cell->scope.names.lookup y.1≠some .free
 nd:(zL X.N xs).Nodup
 dumN:∀x∈xs,scope.names.lookup (ig x)=none
def jd{prog:GT}{w:GV}{A:Hc}{R:Result->GU->Prop}{s:GU}{elt target iter:Expr}{ifs:List Expr}{scope:GR}{pos:Pos}{it acc:Value}{env:Env}(I:Nat->GU->Prop)
  (turn:∀n s,I n s->He (Hf prog w) A (Hw it) (λr s₁=>match r with
   |none=>R (.ok .next) s₁
   |some v=>He (Hf prog w) A (Hx target it v) (λ_ s₁'=>He (Hf prog w) A (assign target env v) (λ_ s₂=>
     He (Hf prog w) A (forIn ifs true λc r=>if r=true then do let ok <-isTrue c env (eval c env);pure (ForInStep.yield ok)else pure (ForInStep.yield r)) (λok s₃=>
      if ok=true then He (Hf prog w) A (eval elt env) (λx s₄=>
       He (Hf prog w) A (call (.builtin "list.append") [acc,x]) (λ_ s₅=>∃m,m<n/\I m s₅) (Ik (Hf prog w) A env λe s'=>R (.error e) s') s₄) (Ik (Hf prog w) A env λe s'=>R (.error e) s') s₃
      else ∃m,m<n/\I m s₃) (Ik (Hf prog w) A env λe s'=>R (.error e) s') s₂) (Ik (Hf prog w) A env λe s'=>R (.error e) s') s₁') (Ik (Hf prog w) A env λe s'=>R (.error e) s') s₁) (Ik (Hf prog w) A env λe s'=>R (.error e) s') s)
  (n:Nat) (h:I n s):HH (Hf prog w) A (.compLoop (.ListComp elt [⟨target,iter,ifs,0⟩] scope pos) 0 it acc env) R s:=by
 refine codeAny_loop rfl I (λn s hI=>?_) n h;show He _ A ((compTurn (.ListComp elt [⟨target,iter,ifs,0⟩] scope pos) 0 it acc env).onRaise (λx=>do noteFrame x env;theTreesLotGoes x)) _ _ s;refine wpAny_noted ?_;rw[compTurn_list];refine Hs (Hu (Hs (Hi (turn n s hI) (λr s₁ h₁=>?_) λ_ _ h'=>h')));cases r with
 |none=>exact Hy h₁
 |some v=>
  refine Hs (Hi h₁ (λ_ s₁' h₁'=>?_) λ_ _ h'=>h');refine Hs (Hi h₁' (λ_ s₂ h₂=>Hs (Hi h₂ (λok s₃ h₃=>?_) λ_ _ h'=>h')) λ_ _ h'=>h');cases ok with
  |false=>exact Hy ⟨rfl,h₃⟩
  |true=>
   exact Hs (Hs (Hi h₃ (λx s₄ h₄=>Hs (Hi h₄ (λ_ s₅ h₅=>Hy (Hy ⟨rfl,h₅⟩)) λ_ _ h'=>h')) λ_ _ h'=>h'))
noncomputable def vD(un:V->Hp->List V->Prop)(wi:TI)(tc:TT)(te:TE):TE:=λσ H Q=>wi σ H λJ H1=>∀D,H1 D=none->∃W:Nat->Nat->List V->Hp->Prop,(∃m,W 0 m [] (aE H1 D (.lst [])))/\∀i m ys H,W i m ys H ->
 (J.stop i H/\Q (.ref D) H)\/(J.go i H/\∀v H',J.yld i H v H'->∃vs,un v H' vs/\tc (σ++vs.map some) H' λb H2=>if b=true then te (σ++vs.map some) H2 λy H3=>H3 D=some (.lst ys)/\ys.length<sizeLine/\∃m',m'<m/\W (i+1) m' (ys++[y]) (aE H3 D (.lst (ys++[y])))
  else ∃m',m'<m/\W (i+1) m' ys H2)
def vE {un:V->Hp->List V->Prop}(B:bx X scope xs)(hc:X.calm=true)(hpg:∀Xc,bh X scope xs Xc->(∀x∈xs,Loc Xc.env.scope x/\(Xc.fn x=true\/Xc.env.scope.names.lookup x=some .local))->PG Xc tg g)(hun:∀v H vs os,os.length=xs.length->un v H vs->vs.length=xs.length/\g v (σ++os) H λσ2 H2=>σ2=σ++vs.map some/\H2=H)(hbody:∀Xc,bh X scope xs Xc->en Xc ifs tc/\PE Xc elt te)(I:Inv X pins σ H s)(T:cq X.prog X.w X.K tg J fp it tn)(st:tn 0 s.heap)(hfp:∀b∈fp,vg X pins H b)(W:Nat->Nat->List V->Hp->Prop)(m0:Nat)(w0:W 0 m0 [] H)(turn:∀i m ys H,W i m ys H->(J.stop i H/\∀s' m' C,Inv X pins σ H s'->s'.heap.Ns C m'->s.heap.objs.size<=C->H C=none->compPost (Hf X.prog X.w) X.A X.xe use Q (.ref D) C (.ok .next) s') \/
   (J.go i H/\∀v H',J.yld i H v H'->∃vs,un v H' vs/\tc (σ++vs.map some) H' λb H2=>if b=true then te (σ++vs.map some) H2 λy H3=>H3 D=some (.lst ys)/\ys.length<sizeLine/\∃m',m'<m/\W (i+1) m' (ys++[y]) (aE H3 D (.lst (ys++[y])))
    else ∃m',m'<m/\W (i+1) m' ys H2)):
  He (Hf X.prog X.w) X.A (Ii scope X.env.globals (xS X.env scope.names []) [] X.env.qual none .none (some X.env)) (λcenv s₄=>
   HH (Hf X.prog X.w) X.A (.compStart (.ListComp elt [⟨tg,iter,ifs,0⟩] scope pos) 0 (.ref it) (.ref D) {cenv with scope:=Ij scope X.env}) (compPost (Hf X.prog X.w) X.A X.xe use Q (.ref D) cenv.locals) s₄) X.xe s:=by
 refine j5 ?_;have hcl:∀y∈scope.names,y.2=.free->∃c,X.env.cells.lookup y.1=some c:=λy hy hf=>by
  rcases B.free y hy hf with q|q
  .exact I.ok.has y.1 (.inl q)
  .exact I.ok.has y.1 (.inr q)
 -- the block's own parts
 generalize hC:s.heap.objs.size=C;generalize hcs:HP (C+1) scope.names (xS X.env scope.names [])=cs;generalize hh4:Ig (s.heap.push {cls:=.type "dict",data:=.dict #[]}) scope.names=h4;have szP:(s.heap.push {cls:=.type "dict",data:=.dict #[]}).objs.size=C+1:=by rw[VJ,hC]
 have keep4:∀b o,s.heap.get? b=some o->h4.get? b=some o:=λb o e=>hh4▸Ih _ _ _ _ (Qe _ e);have nsC:h4.Ns C (λ_=>none):=by
  have q:=(Heap.Ns.new s.heap (.type "dict")).keeps (Ih scope.names (s.heap.push {cls:=.type "dict",data:=.dict #[]}));rw[hC,hh4]at q;exact q
 -- a cell of the block: one of its own,or one of those around
 have csIn:∀y c,cs.lookup y=some c->((y,NameKind.free)∈scope.names/\X.env.cells.lookup y=some c)\/(C+1<=c/\h4.IsCell c none/\(y,NameKind.cell)∈scope.names):=λy c e=>by
  have q:=iM (y:=y) (c:=c) (names:=scope.names) (h:=s.heap.push {cls:=.type "dict",data:=.dict #[]}) (acc:=xS X.env scope.names []);rw[szP,hcs,hh4]at q;rcases q e with q|q
  .rcases xC hcl q with z|z
   .cases z
   .exact .inl z
  .exact .inr q
 have oldC:∀y c,X.env.cells.lookup y=some c->c<C:=λy c e=>by
  obtain⟨v,q⟩:=I.cell y c e;rw[<-hC];exact q.lt
 have fpC:∀b∈fp,b<C:=λb hb=>by
  obtain⟨o,e,_⟩:=T.obj _ _ st b hb;rw[<-hC];exact Qi e
 let cenv:Env:={scope:=Ij scope X.env,locals:=C,globals:=X.env.globals,cells:=cs,qual:=X.env.qual,func:=none,code:=X.env.code,frame:=X.env.frame,builtins:=X.env.builtins}
 let RR:Result->GU->Prop:=compPost (Hf X.prog X.w) X.A X.xe use Q (.ref D) C
 let Xc:Cx:={X with N:=zL X.N xs,s₀:=s,H₀:=H,env:=cenv,outer:=X.stack,stack:=X.stack,ex:=fp,fn:=λy=>decide (scope.names.lookup y=some .cell),calm:=true,pn:=[],xe:=Ik (Hf X.prog X.w) X.A cenv λe s'=>RR (.error e) s' }
 have hXc:bh X scope xs Xc:=⟨rfl,rfl,rfl,rfl,rfl,rfl,rfl,rfl,rfl,rfl⟩;obtain⟨hT,hE⟩:=hbody Xc hXc;have ok:Xc.Ok:=by
  refine⟨I.ok.mod,B.kind,I.ok.glob,I.ok.blt,Vx hC,?_,λy hy=>?_,λy c hf e=>?_,λ_=>I.ok.hd hc,I.ok.frames,.inl rfl,λb hb=>⟨QI (fpC b hb),λy c e=>?_⟩,I.bs,Qs I.ok.bsz I.sz,λb o e hb=>?_,λb hb hf=>?_,I.stack,I.stkFree⟩
  .show ∀y z c,cs.lookup y=some c->cs.lookup z=some c->y=z;rw[<-hcs];refine qF (λy z c e1 e2=>?_) λy c e=>?_
   .rcases xC hcl e1 with q|q
    .cases q
    .rcases xC hcl e2 with q'|q'
     .cases q'
     .exact I.ok.inj y z c q.2 q'.2
   .rcases xC hcl e with q|q
    .cases q
    .exact Ws (oldC y c q.2)
  .have hy':(Ij scope X.env).names.lookup y=some .cell\/(Ij scope X.env).names.lookup y=some .free:=hy;rw[zI]at hy';show ∃c,cs.lookup y=some c;rw[<-hcs];refine WG.mp (Vb _ _ _ ?_);cases hk:scope.names.lookup y with
   |none=>rw[hk]at hy';rcases hy' with z|z<;>cases z
   |some k=>
    rw[hk]at hy';have kk:k=.cell\/k=.free:=by
     simp only[QP]at hy';by_cases hcnd:(k==NameKind.free&&X.env.scope.kind == .function&&X.env.kindOf y==some .cell)=true
     .refine .inr ?_;have:=(QB.mp (QB.mp hcnd).1).1;simpa using this
     .rw[Ji hcnd]at hy';rcases hy' with z|z
      .exact .inl (Option.some.inj z)
      .exact .inr (Option.some.inj z)
    rcases kk with rfl|rfl
    .exact .inl rfl
    .exact .inr (wJ (.inl (PySem.mem_of_lookup hk)))
  .show s.heap.objs.size<=c;rw[hC];have e':cs.lookup y=some c:=e;rw[<-hcs]at e';exact Qs (W8 _) (iL (lo:=C+1) (.inl (PySem.mem_of_lookup (Jl hf))) (Qf _) e')
  .show c≠b;rintro rfl;rcases csIn y c e with⟨_,z⟩|⟨z,_,_⟩
   .exact (hfp c hb).2.2.2.2.1 y c z rfl
   .exact Jj (Qg (fpC c hb) (Qs (W8 _) z)) (Wk _)
  .rcases (hfp b hb).2.2.2.1 with z|z
   .exact I.ok.noex b o e z
   .exact Jj (Qg (Qi (I.ok.bs b o e).1) z) (Wk _)
  .rcases Qk.mp (I.stkSub b hf)with z|z
   .exact (hfp b hb).2.1 z
   .exact (hfp b hb).2.2.1 z
 have frC:H C=none:=I.hok.fresh (Vx hC);have frN:∀c,C<=c->H c=none:=λc hc'=>I.hok.fresh (by rw[hC];exact hc');have hσ:σ.length=X.N.length:=I.len;have I4:Inv Xc [] (σ++xs.map λ_=>none) H {s with heap:=h4}:=by
  refine⟨ok,rfl,I.bare,Un.kept keep4,⟨_,nsC,λi y v e1 e2 e3=>?_⟩,λy c e=>?_,frC,λy c e=>?_,λp hp=>Jj (show p∈([]:List (Addr×Obj))from hp) (by simp),I.hok.kept keep4,?_⟩
  .have hi:i<σ.length:=by
    by_cases hi:i<σ.length
    .exact hi
    .rw[Qc (by lia),Qu]at e2;cases hz:xs[i-σ.length]? with
     |none=>rw[hz]at e2;simp at e2
     |some k=>rw[hz]at e2;simp at e2
   rw[Qd hi]at e2;have vis:scope.names.lookup y=some .local\/scope.names.lookup y=some .cell\/scope.names.lookup y=some .free:=by
    have e3':eR (Ij scope X.env) y:=e3;unfold eR at e3';rw[zI]at e3';cases hk:scope.names.lookup y with
    |none=>rw[hk]at e3';rcases e3' with z|z|z<;>cases z
    |some k=>
     rw[hk]at e3';simp only[QP]at e3';by_cases hcnd:(k==NameKind.free&&X.env.scope.kind == .function&&X.env.kindOf y==some .cell)=true
     .have:=(QB.mp (QB.mp hcnd).1).1;exact .inr (.inr (by rw[show k=.free by simpa using this]))
     .rw[Ji hcnd]at e3';exact e3'
   rcases DS (by rw[<-hσ];exact hi) e1 with z|⟨z,zx⟩
   .obtain ⟨x,hx,z⟩:=z;subst z;rw[B.dumN x hx]at vis;rcases vis with q|q|q<;>cases q
   .have hfree:scope.names.lookup y=some .free:=by
     rcases vis with q|q|q
     .exact Jj q (B.alone y (Qm z) zx).1
     .exact Jj q (B.alone y (Qm z) zx).2
     .exact q
    have kout:=B.free _ (PySem.mem_of_lookup hfree) rfl;obtain⟨m,hn,hl⟩:=I.loc;obtain⟨u,r,l⟩:=hl i y v z e2 (kout.elim (λq=>.inr (.inl q)) λq=>.inr (.inr q));refine⟨u,r,?_⟩;rcases l with⟨k,_⟩|⟨_,c,ec,zc⟩
    .have k':X.env.scope.names.lookup y=some .local:=k;rcases kout with q|q<;>rw[k']at q<;>cases q
    .have hsome:∃c',cs.lookup y=some c':=ok.has y (by
      show(Ij scope X.env).names.lookup y=some .cell\/(Ij scope X.env).names.lookup y=some .free;rw[zI,hfree];simp only[QP];split
      .exact .inl rfl
      .exact .inr rfl)
     obtain⟨c',ec'⟩:=hsome;refine .inr ⟨?_,c',ec',?_⟩
     .show (Ij scope X.env).names.lookup y=some .cell\/(Ij scope X.env).names.lookup y=some .free;rw[zI,hfree];simp only[QP];split
      .exact .inl rfl
      .exact .inr rfl
     .rcases csIn y c' ec' with⟨_,q⟩|⟨_,_,q⟩
      .rw[ec]at q;cases q;exact zc.keeps keep4
      .exact Jj hfree (B.one (y,.cell) q rfl)
  .rcases csIn y c e with⟨_,q⟩|⟨_,q,_⟩
   .obtain ⟨v,z⟩:=I.cell y c q;exact⟨v,z.keeps keep4⟩
   .exact ⟨_,q⟩
  .rcases csIn y c e with⟨_,q⟩|⟨q,_,_⟩
   .exact I.freeC y c q
   .exact frN c (by lia)
  .show (σ++xs.map λ_=>none).length=(zL X.N xs).length;rw[DT,QF,hσ,QN]
 -- the loop
 have hLoc:∀x∈xs,Loc Xc.env.scope x/\(Xc.fn x=true\/Xc.env.scope.names.lookup x=some .local):=λx hx=>by
  constructor
  .show (Ij scope X.env).names.lookup x=some .local\/(Ij scope X.env).names.lookup x=some .cell;rw[zI];rcases B.own x hx with q|q<;>rw[q]
   .exact .inl rfl
   .exact .inr rfl
  .rcases B.own x hx with q|q
   .refine .inr ?_;show(Ij scope X.env).names.lookup x=some .local;rw[zI,q];rfl
   .exact .inl (Jk q)
 have hg:PG Xc tg g:=hpg Xc hXc hLoc;have fpX:∀{H':Hp},(∀b∈fp,H' b=none)->∀b∈fp,vg Xc [] H' b:=λhn b hb=>
  ⟨hn b hb,QI (fpC b hb),λz=>ok.exfs b hb z,.inl hb,λy c e=>(ok.exf b hb).2 y c e,λp hp=>Jj (show p∈([]:List (Addr×Obj))from hp) (by simp)⟩
 have loop:HH (Hf X.prog X.w) X.A (.compLoop (.ListComp elt [⟨tg,iter,ifs,0⟩] scope pos) 0 (.ref it) (.ref D) cenv) RR {s with heap:=h4}:=by
  refine jd (λn s'=>∃i os ys H',os.length=xs.length/\Inv Xc [] (σ++os) H' s'/\tn i s'.heap/\(∀b∈fp,H' b=none)/\W i n ys H') ?_ m0 ⟨0,_,[],H,QN _,I4,T.keep _ _ _ st λb _ o e=>keep4 b o e,λb hb=>(hfp b hb).1,w0⟩;rintro n s3 ⟨i,os,ys,H3,hos,I3,st3,fr3,w3⟩;rcases turn i n ys H3 w3 with⟨stop,fin⟩|⟨go,step⟩
  .refine aQ (T.done Xc rfl rfl rfl rfl i [] s3 (σ++os) H3 Xc.xe I3 (fpX fr3) st3 stop) λr s4 ⟨hr,I4⟩=>?_;subst hr;obtain⟨m,hn,_⟩:=id I4.loc;refine fin s4 m C ?_ hn (Vx hC) I4.free;exact I.call' (ch:=fp) I4.os I4.base I4.hok I4.bare λb hb=>⟨(hfp b hb).2.2.2.1,(hfp b hb).2.1,(hfp b hb).2.2.2.2.1,(hfp b hb).2.2.2.2.2⟩
  .refine aQ (T.item Xc rfl rfl rfl rfl i [] s3 (σ++os) H3 Xc.xe I3 (fpX fr3) st3 go) λr s4 ⟨u,hr,h4'⟩=>?_;subst hr;refine aQ h4' λ_ s5 ⟨v,H5,I5,r5,y5,st5,fr5⟩=>?_;have I5':=I5.pinned (fpX fr5) (T.obj _ _ st5);obtain⟨vs,hvs,step5⟩:=step v H5 y5;obtain⟨hvl,hset⟩:=hun v H5 vs os hos hvs;refine aQ (hg _ s5 (σ++os) H5 v u (λσ2 H2=>σ2=σ++vs.map some/\H2=H5) I5' r5 hset) λ_ s6 ⟨σ6,H6,I6,e6,e6'⟩=>?_;subst e6;subst e6';have back:∀{H7:Hp}{s7:GU},Inv Xc ([]++vA fp s5.heap) (σ++vs.map some) H7 s7->tn (i+1) s7.heap/\(∀b∈fp,H7 b=none)/\Inv Xc [] (σ++vs.map some) H7 s7:=λ{H7 s7} I7=>by
    refine⟨T.keep _ _ _ st5 λb hb ob e=>(I7.pin (b,ob) (Qt _ (Qt _ (y7 hb e)))).1,λb hb=>?_,I7.unpinned⟩;obtain⟨ob,e,_⟩:=T.obj _ _ st5 b hb;exact(I7.pin (b,ob) (Qt _ (Qt _ (y7 hb e)))).2.1
   refine aQ (hT _ s6 (σ++vs.map some) H6 _ I6 step5) λb s7 ⟨H7,I7,q7⟩=>?_;cases b with
   |false=>
    rw[Ji QS]at q7 ⊢;obtain⟨m',hm,w7⟩:=q7;obtain⟨t1,t2,t3⟩:=back I7;exact⟨m',hm,i+1,_,ys,H7,(by rw[QN];exact hvl),t3,t1,t2,w7⟩
   |true=>
    rw[Jh rfl]at q7 ⊢;refine aQ (hE _ s7 (σ++vs.map some) H7 _ I7 q7) λyv s8 ⟨y,H8,I8,r8,hD8,hl8,m',hm,w8⟩=>?_;refine aQ (kG (X:=Xc) _ s8 (σ++vs.map some) H8 (.ref D) [y] (.ref D) [yv] (λ_ H9=>H9=aE H8 D (.lst (ys++[y]))) I8 rfl (.cons r8 .nil) ⟨D,ys,y,rfl,rfl,hD8,hl8,rfl⟩) λ_ s9 ⟨_,H9,I9,_,e9⟩=>?_;subst e9;obtain⟨t1,t2,t3⟩:=back I9;exact⟨m',hm,i+1,_,ys++[y],_,(by rw[QN];exact hvl),t3,t1,t2,w8⟩
 refine codeAny_compStart_list loop ?_;exact T.self X.A 0 _ _ _ (T.keep _ _ _ st λb _ o e=>keep4 b o e) loop
section
variable{X:Cx}{elt iter tg:Expr}{xs:List Str}{y:Str}{g:TG}{un:V->Hp->List V->Prop}{py:Pos}{ifs:List Expr}{scope:GR}{pos spos:Pos}{wi:TI}{tc:TT}{te:TE}
def Inv.aside{pins:List (Addr×Obj)}{σ:St}{H:Hp}{s:GU}{C lo:Addr}{h':GZ}(I:Inv X pins σ H s)(hlo:lo<=C)(hL:X.env.locals<lo)(hcell:∀y c,X.env.cells.lookup y=some c->c<lo)(hpin:∀p∈X.pn++pins,p.1<lo)
  (hn:H C=none) (hs:Wc C s.heap h'):Inv X pins σ H {s with heap:=h' } :=
 I.turned (it:=C) (t':=s.toks) (λb o hb e=>(hs.2 b hb).trans e) hn (W2 (Qg hL hlo)) (.inr (Qs I.ok.above (Qs (W3 hL) hlo)))
  (λy c e=>QI (Qg (hcell y c e) hlo)) λp hp=>QI (Qg (hpin p hp) hlo)
def Inv.below (I:Inv X pins σ H s):X.env.locals<s.heap.objs.size/\(∀y c,X.env.cells.lookup y=some c->c<s.heap.objs.size)/\∀p∈X.pn++pins,p.1<s.heap.objs.size:=
 ⟨I.lt,λy c e=>let⟨_,z⟩:=I.cell y c e;z.lt,λp hp=>Qi (I.pin p hp).1⟩
def xN(B:bx X scope xs)(ok:X.Ok):closureFor scope X.env=pure (xS X.env scope.names []):=
 vC λy hy hf=>(B.free y hy hf).elim (λq=>ok.has y.1 (.inl q)) λq=>ok.has y.1 (.inr q)
structure ft(X:Cx)(scope:GR)(xs:List Str)(tg:Expr)(g:TG)(un:V->Hp->List V->Prop):Prop where
 pg:∀Xc,bh X scope xs Xc->(∀x∈xs,Loc Xc.env.scope x/\(Xc.fn x=true\/Xc.env.scope.names.lookup x=some .local))->PG Xc tg g
 un:∀v H vs os (σ:St),σ.length=X.N.length->os.length=xs.length->un v H vs->vs.length=xs.length/\g v (σ++os) H λσ2 H2=>σ2=σ++vs.map some/\H2=H
noncomputable def fX(v:V)(_:Hp)(vs:List V):Prop:=vs=[v]
def pN{α:Type}{l:List α}(h:l.length=1):∃a,l=[a]:=by
 cases l with
 |nil=>cases h
 |cons a t=>
  cases t with
  |nil=>exact⟨a,rfl⟩
  |cons b t=>cases h
def o9{α:Type}{l:List α}(h:l.length=2):∃a b,l=[a,b]:=by
 cases l with
 |nil=>cases h
 |cons a t=>
  obtain⟨b,rfl⟩:=pN (Nat.succ.inj h);exact⟨a,b,rfl⟩
def vm (B:bx X scope [x]):ft X scope [x] (.Name x px) (yG X.N.length) fX:=by
 refine⟨λXc c h=>?_,λv H vs os σ hσ ho hv=>?_⟩
 .exact yg (by rw[c.N];exact B.nd) (by rw[c.N];exact xT X.N [x] 0) (h x (by simp)).1 (h x (by simp)).2
 .cases hv;refine⟨rfl,?_,rfl⟩;obtain⟨o,rfl⟩:=pN ho;rw[<-hσ,Vk _ _ (Qf _)];simp
noncomputable def fW(K:Qb)(v:V)(H:Hp)(vs:List V):Prop:=∃a,v=.ref a/\bG K H a vs/\vs.length=2
def x8 (hc:X.calm=true)(B:bx X scope [x,y]):ft X scope [x,y] (.Tuple [.Name x px,.Name y py] k pt) (fe X.K 2 (xY (yG X.N.length) (xY (yG (X.N.length+1)) ff))) (fW X.K):=by
 refine⟨λXc c h=>?_,λv H vs os σ hσ ho hv=>?_⟩
 .have nd:Xc.N.Nodup:=by rw[c.N];exact B.nd
  rw[<-c.K];exact kZ c.calm (yx (yg nd (by rw[c.N];exact xT X.N [x,y] 0) (h x (by simp)).1 (h x (by simp)).2) (yx (yg nd (by rw[c.N];exact xT X.N [x,y] 1) (h y (by simp)).1 (h y (by simp)).2) vk))
 .obtain ⟨a,e1,e2,e3⟩:=hv;obtain⟨u,w,rfl⟩:=o9 e3;obtain⟨o,p,rfl⟩:=o9 ho;refine⟨rfl,a,[u,w],e1,e2,rfl,u,[w],rfl,w,[],rfl,rfl,?_,rfl⟩;rw[<-hσ,Vk _ _ (Qf _),Vk _ _ (by lia)];simp
def xD(B:bx X scope xs)(hc:X.calm=true)(hT:ft X scope xs tg g un)(hi:PI X tg iter wi)(hbody:∀Xc,bh X scope xs Xc->en Xc ifs tc/\PE Xc elt te)
  (hs:∀v,HA iter X.env v=pure v:=by intro _;rfl):PE X (.ListComp elt [⟨tg,iter,ifs,0⟩] scope pos) (vD un wi tc te):=by
 intro pins s σ H Q I h;rw[eval_ListComp];refine Il (use:=none) (cl:=xS X.env scope.names []) rfl hs (xN B I.ok) B.kind B.locs ?_;refine aQ (hi pins s σ H _ I h) λxv s1 h1=>aQ h1 λitv s2 h2=>?_;obtain⟨it,fp,tn,J,H2,e,I2,T,st2,f2,q2⟩:=h2;subst e;refine Im ?_;have I3:=I2.lnew (its:=[]) (ys:=[]) (t':=s2.toks) .nil (Ww _);obtain⟨W,⟨m0,w0⟩,turn⟩:=q2 s2.heap.objs.size (I2.hok.fresh (Qf _));have fp3:∀b∈fp,vg X pins (aE H2 s2.heap.objs.size (.lst [])) b:=λb hb=>by
  obtain⟨o,e,_⟩:=T.obj _ _ st2 b hb;exact⟨by rw[za (QI (Qi e))];exact(f2 b hb).1,(f2 b hb).2⟩
 obtain⟨b1,b2,b3⟩:=I3.below;refine vE B hc hT.pg (λv H vs os h1 h2=>hT.un v H vs os σ I.len h1 h2) hbody I3 T (T.keep _ _ _ st2 λb _ o e=>Qe _ e) fp3 W m0 w0 λi m ys H4 w=>?_;rcases turn i m ys H4 w with⟨stop,q⟩|r
 .exact .inl ⟨stop,λs' m' C I' hn hC hCn=>⟨m',hn,λh' hsb=>⟨.ref s2.heap.objs.size,H4,I'.aside hC b1 b2 b3 hCn hsb,rfl,q⟩⟩⟩
 .exact .inr r
def qG (B:bx X scope xs)(hc:X.calm=true)(hT:ft X scope xs tg g un)(hi:PI X tg iter wi)(hbody:∀Xc,bh X scope xs Xc->en Xc ifs tc/\PE Xc elt te)(hN:X.N.Nodup)(hy:X.N[i]?=some y)(hx:Loc X.env.scope y)(hf:X.fn y=true\/X.env.scope.names.lookup y=some .local)(hsw:Hn (.ListComp elt [⟨tg,iter,ifs,0⟩] scope pos) (some (.Name y py)) spos.line X.env=pure true)(hs:∀v,HA iter X.env v=pure v:=by intro _;rfl):PS X (.Assign [.Name y py] (.ListComp elt [⟨tg,iter,ifs,0⟩] scope pos) spos) (e8 (vD un wi tc te) (yG i)):=by
 intro pins s σ H D I h;rw[exec_Assign_Name_used _ _ _ _ hsw];refine Hs (Hu (Hs ?_));show He _ X.A (do let _ <-comprehension (.ListComp elt [⟨tg,iter,ifs,0⟩] scope pos) scope X.env _ (newList []) false (eval iter X.env) (some (assign (.Name y py) X.env))) _ _ s;refine Hs (Hi (Il (use:=some (assign (.Name y py) X.env)) (cl:=xS X.env scope.names []) (Q:=λ_ s'=>SP X pins D .next s') rfl hs (xN B I.ok) B.kind B.locs ?_)
  (λ_ s' hq=>Hy (Hy hq)) λ_ _ e=>e)
 refine aQ (hi pins s σ H _ I h) λxv s1 h1=>aQ h1 λitv s2 h2=>?_;obtain⟨it,fp,tn,J,H2,e,I2,T,st2,f2,q2⟩:=h2;subst e;refine Im ?_;have I3:=I2.lnew (its:=[]) (ys:=[]) (t':=s2.toks) .nil (Ww _);obtain⟨W,⟨m0,w0⟩,turn⟩:=q2 s2.heap.objs.size (I2.hok.fresh (Qf _));have fp3:∀b∈fp,vg X pins (aE H2 s2.heap.objs.size (.lst [])) b:=λb hb=>by
  obtain⟨o,e,_⟩:=T.obj _ _ st2 b hb;exact⟨by rw[za (QI (Qi e))];exact(f2 b hb).1,(f2 b hb).2⟩
 obtain⟨b1,b2,b3⟩:=I3.below;refine vE B hc hT.pg (λv H vs os h1 h2=>hT.un v H vs os σ I.len h1 h2) hbody I3 T (T.keep _ _ _ st2 λb _ o e=>Qe _ e) fp3 W m0 w0 λi' m ys H4 w=>?_;rcases turn i' m ys H4 w with⟨stop,q⟩|r
 .refine .inl ⟨stop,λs' m' C I' hn hC hCn=>?_⟩;refine wpAny_assign_Name (kz I' hN hy hx (v:=.ref s2.heap.objs.size) rfl (λs'' I'' ⟨a,sb,ha⟩=>?_) hf);have hCa:C≠a:=by
   rcases ha with rfl|ha
   .exact W2 (Qg b1 hC)
   .exact W2 (Qg (b2 _ _ ha) hC)
  exact⟨m',hn.sameBut sb hCa,λh' hsb=>⟨_,H4,I''.aside hC b1 b2 b3 hCn hsb,q⟩⟩
 .exact .inr r
end
section
variable{X:Cx}
theorem ax.at (h:ax xs us){i:Nat}(e:us[i]?=some u):∃x,xs[i]?=some x/\RelV x u:=by
 have hl:=h.length;have hi:=(Qa.mp e).1;have hx:xs[i]?=some xs[i]:=Qz (by lia);obtain⟨u',h1,h2⟩:=h.get hx;rw[e]at h1;cases h1;exact⟨_,hx,h2⟩
theorem xp(ns:List Int):∀n,n<=ns.length->preSum (λi=>ns.getD i 0) n=(ns.take n).sum
 |0,_=>by simp[preSum]
 |n+1,h=>by
  have e:ns[n]?=some (ns.getD n 0):=by rw[QL,Qz (by lia)];rfl
  rw[preSum,xp ns n (by lia),List.take_add_one,e,List.sum_append];simp
def j6(hc:X.calm=true):bj X (.builtin "sum") (λxs H Q=>∃(p:Addr) (ns:List Int),xs=[.ref p]/\bg X.K H p (ns.map V.int)/\Q (.int ns.sum) H):=by
 intro pins s σ H xs us Q I r h;obtain⟨p,ns,rfl,hq,q⟩:=h;obtain⟨u,rfl,rx⟩:=xZ r;cases rx;obtain⟨its,r',pl,hz⟩:=I.list hq;have hlen:=r'.length;have hp:∃o,s.heap.get? p=some o:=by obtain⟨o,ho,_⟩:=pl.isList;exact⟨o,ho⟩
 obtain⟨o,ho⟩:=hp;have hlt:=Qi ho;refine call_sum_walkG (wpAny_pyIter_list pl.isList ?_);refine⟨s.heap.objs.size,_,_,_,_,_,λi=>ns.getD i 0,rfl,Walks.list (A:=X.A.in1) (I.ok.hd hc) s.heap.objs.size p (QI hlt) its.toArray,⟨⟨_,Qw _ rfl,rfl,rfl⟩,pl.isList.at λo e=>Qe _ e⟩,?_,?_,λh' tk t' hk=>?_⟩
 .intro b hb;have h1:s.heap.objs.size<(s.heap.push {cls:=.type "list_iterator",data:=.fields #[.ref p,.int 0 0]}).objs.size:=Qi (Qw _ rfl);have:b=s.heap.objs.size\/b=p:=by simpa using hb
  rcases this with rfl|rfl
  .exact h1
  .exact Nat.lt_trans hlt h1
 .intro i v hv;have hv':its[i]?=some v:=by simpa using hv
  obtain⟨y,hy,ry⟩:=r'.at hv';rw[Qu]at hy;cases hb:ns[i]? with
  |none=>rw[hb]at hy;cases hy
  |some b=>
   rw[hb]at hy;cases hy;obtain⟨t,rfl⟩:=(ry:∃t,v=.int b t);have e:ns.getD i 0=b:=by rw[QL,hb];rfl
   exact⟨t,by show Value.int b t=Value.int (ns.getD i 0) t;rw[e]⟩
 .have e:its.toArray.size=ns.length:=by simp at hlen ⊢;lia
  rw[e,xp ns ns.length (Qf _),Vc];exact⟨.int ns.sum,H,I.kept (t':=tk) λb o e=>hk b o (λhb=>by
   have:b=s.heap.objs.size:=by simpa using hb
   exact Jj (Qi e) (by rw[this];exact Wk _)) (Qe _ e),⟨t',rfl⟩,q⟩
end
abbrev TK:=List Int×Addr×Value
noncomputable def j7(x:TK):DictEntry:=⟨reduceHash (Builtin.Tuple.tupleHashOf (x.1.map hashInt)),.ref x.2.1,x.2.2⟩
noncomputable def xj(d:Addr)(xs:List TK):HO:=.ext λh=>(d==G6)=false/\∃o es,h.get? d=some o/\o.ExactDict/\o.data=.dict es xs.length/\es.toList=xs.map j7/\(xs.map (·.1)).Nodup
theorem pV:∀{k:List Int}{us:List Value},ax (k.map V.int) us->ItemsAre (G9 P w) k us
 |[],_,.nil=>.nil
 |i::_,_,.cons p q=>by
  obtain⟨t,rfl⟩:=p;exact .cons (by show Value.isInt i (.int i t)=true;simp[Value.isInt]) (pV q)
noncomputable def yi(K:Qb)(H:Hp)(d:Addr)(xs:List TK):Prop:=H d=some (xj d xs)/\∀x∈xs,bG K H x.2.1 (x.1.map V.int)
section
variable{prog:GT}{w:GV}{T:Type}[DecidableEq T]{kd:HeapKind prog w T}{A:Hc}{E:Value->GU->Prop}{s:GU}{d a:Addr}{k:T}{xs:List (T×Addr×Value)}
noncomputable def fL(kd:HeapKind prog w T)(h:GZ)(d:Addr)(xs:List (T×Addr×Value)):Prop:=∃o es,h.get? d=some o/\o.ExactDict/\o.data=.dict es xs.length/\es.toList=xs.map (G7 kd)/\(xs.map (·.1)).Nodup
def lh (room:kd.room A)(hk:kd.is s.heap k a)(D:fL kd s.heap d xs)(all:∀x∈xs,kd.is s.heap x.1 x.2.1)(hz:xs.length<=sizeLine)(end':∀h',fL kd h' d (storedH xs k a v)->Wc d s.heap h'->R () {s with heap:=h',toks:=s.toks+kd.draws k}):He (Hf prog w) A (dictSet d (.ref a) v) R E s:=by
 obtain⟨o,es,g,ex,dat,rows,nd⟩:=D;have sz:=size_of_entries rows
 let s1:GU:={s with toks:=s.toks+kd.draws k}
 unfold dictSet;apply Ht;apply Hs;apply kd.pyHash room hk;unfold dictSetHashed;apply Ht;apply Hs;apply wpAny_dictFind_heap (s:=s1) room hk g dat rows all nd
 .intro no;have e1:storedH xs k a v=xs++[(k,a,v)]:=storedH_new (atKey_none_of_get no) a v;have g1:=WC (Obj.mapDictKeys (·.push ⟨kd.hash k,.ref a,v⟩)) g (Obj.isFreed_of_dict (Obj.data_mapDictKeys dat _));apply Hs;apply Io;apply wpAny_updateDictKeys (s:=s1) g dat _ (by lia);refine end' _ ⟨_,es.push ⟨kd.hash k,.ref a,v⟩,g1,ex.mapDictKeys _,?_,?_,?_⟩ (Wc.update ..)
  .rw[e1,QF];exact Obj.data_mapDictKeys dat _
  .simp[e1,rows,G7]
  .have z:=not_mem_keys_of_get no;rw[e1,WZ,Qn];refine⟨nd,by simp,λx hx y hy e=>?_⟩;have f:y=k:=by simpa using hy
   exact z (f▸e▸hx)
 .intro j p at_;have e1:storedH xs k a v=xs.map (Ip k v):=storedH_old (atKey_of_get nd at_) a v;have g1:=WC (Obj.mapDict (·.modify j λe=>{e with val:=v})) g (Obj.isFreed_of_dict (Obj.data_mapDict dat _));apply Hs;apply Io;apply Hs;apply wpAny_updateDict (s:=s1) g dat;apply wpAny_point;refine end' _ ⟨_,es.modify j λe=>{e with val:=v},g1,ex.mapDict _,?_,?_,?_⟩ (Wc.update ..)
  .rw[e1,QN];exact Obj.data_mapDict dat _
  .have q:=modify_map_putAt (G7 kd) (λe:DictEntry=>{e with val:=v}) k v (λ_ _=>rfl) nd at_;rw[<-rows]at q;rw[e1,Array.toList_modify];exact q
  .rw[e1,keys_map_putAt];exact nd
def Dn (room:kd.room A.in1)(hk:kd.is s.heap k a)(D:fL kd s.heap d xs)(all:∀x∈xs,kd.is s.heap x.1 x.2.1)(hz:xs.length<=sizeLine)(end':∀h',fL kd h' d (storedH xs k a v)->Wc d s.heap h'->R () {s with heap:=h',toks:=s.toks+kd.draws k}):He (Hf prog w) A (Hq (.ref d) (.ref a) v) R E s:=by
 have ty:s.TypeIs (.ref d) "dict":=let⟨o,_,g,ex,_⟩:=D;⟨o,g,ex.1⟩;unfold Hq;apply Ht;apply Hs;apply wpAny_sequenceKey ty (by decide);apply Hs;apply Iq ty slot_dict_setitem;refine Ir slot_dict_setitem ty entry_dict_setitem ?_ (args_dict_setitem _ _ _);apply Hs (m:=Builtin.Dict.notOrdered "__setitem__" ⟨[.ref d,.ref a,v],[]⟩);apply Iu ty;apply Hs (m:=dictSet d (.ref a) v);exact lh room hk D all hz λh' q sb=>Hy ⟨.none,rfl,Hy (end' h' q sb)⟩
end
section
variable{X:Cx}{pins:List (Addr×Obj)}{σ:St}{H:Hp}{s:GU}
def y9 (I:Inv X pins σ H s)(h:bG X.K H a (k.map V.int)):Iv (G9 X.prog X.w) s.heap k a:=by
 obtain⟨its,r,⟨o,ho,hc,n,hd⟩,_⟩:=I.tuple h;exact⟨o,its.toArray,n,ho,hc,hd,pV r⟩
def yH (I:Inv X pins σ H s)(h:yi X.K H d xs):(d==G6)=false/\s.heap.DictOfH (G8 (G9 X.prog X.w)) d xs:=by
 obtain⟨h1,h2⟩:=h;obtain⟨⟨a0,o,es,a1,a2,a3,a4,a5⟩,_,_⟩:=I.hok d _ h1;exact⟨a0,o,es,_,a1,a2,a3,a4,λx hx=>y9 I (h2 x hx),a5⟩
def DR:PE X (.Dict [] [] pos) (λ_ H Q=>∀d,H d=none->Q (.ref d) (aE H d (xj d []))):=by
 intro pins s σ H Q I h;have hd:(s.heap.objs.size==G6)=false:=by
  obtain⟨o,_,_,ho,_⟩:=I.ok.mod.glob;have h1:(3:Nat)<X.base.objs.size:=Qi ho;have h2:=Qs I.ok.bsz I.sz;have:s.heap.objs.size≠(1:Nat):=by lia
  exact beq_eq_false_iff_ne.mpr this
 refine wpAny_Dict_empty ⟨.ref s.heap.objs.size,aE H s.heap.objs.size (xj s.heap.objs.size []),I.laid (t':=s.toks) (λb u e=>Qe _ e) (Qf _) ?_,rfl,h _ I.fresh⟩;refine⟨⟨hd,_,#[],Qw _ rfl,⟨rfl,rfl,rfl⟩,rfl,rfl,QK⟩,⟨_,Qw _ rfl⟩,λh1 h2 hx k=>?_⟩;obtain⟨a0,o,es,a1,r⟩:=hx;exact⟨a0,o,es,k o a1,r⟩
noncomputable def oS(K:Qb):V->V->V->Hp->(Hp->Prop)->Prop:=λo i v H Q=>∃d a ks xs,o=.ref d/\i=.ref a/\bG K H a (ks.map V.int)/\yi K H d xs/\xs.length<=100000/\∀u,RelV v u->Q (aE H d (xj d (storedH xs ks a u)))
def tX(hu:X.A.units+64<HF):iA X (oS X.K):=by
 intro pins s σ H o i v ov iv u Q I ro ri rv h;obtain⟨d,a,ks,xs,rfl,rfl,hk,hd,hl,q⟩:=h;cases ro;cases ri;obtain⟨d0,dm⟩:=yH I hd;obtain⟨⟨_,o1,es1,b1,b2,b3,b4,b5⟩,_,_⟩:=I.hok d _ hd.1;refine Dn (kd:=G8 (G9 X.prog X.w)) (by show X.A.units+1<HF;lia) (y9 I hk) ⟨o1,es1,b1,b2,b3,b4,b5⟩ (λx hx=>y9 I (hd.2 x hx)) (Qs hl (by decide)) λh' ⟨o',es,a1,a2,a3,a4,a6⟩ sb=>?_;refine⟨aE H d (xj d (storedH xs ks a u)),?_,q u rv⟩;refine I.write (x:=d) (e:=d) (by rw[hd.1];trivial) (.inl rfl) (λb u' hb e=>(sb.2 b hb).trans e) ⟨_,a1⟩ ?_;refine⟨⟨d0,o',es,a1,a2,a3,a4,a6⟩,⟨_,a1⟩,λh1 h2 hx k=>?_⟩;obtain⟨b0,o,es,b1,r⟩:=hx;exact⟨b0,o,es,k o b1,r⟩
noncomputable def oR(K:Qb):R2:=λx y H Q=>∃d a ks xs p,x=.ref d/\y=.ref a/\bG K H a (ks.map V.int)/\yi K H d xs/\Iw xs ks=some p/\∃v,RelV v p.2/\Q v H
def mo(hu:X.A.units+64<HF):cU X (oR X.K):=by
 intro value slice pins s σ H x y v u Q I rx ry h hs;obtain⟨d,a,ks,xs,p,rfl,rfl,hk,hd,hp,z,rz,q⟩:=h;cases rx;cases ry;obtain⟨d0,dm⟩:=yH I hd;exact HW (x:=p.2) dm.typeIs slot_dict_getitem.lookup
  (wpAny_getItem_heap (knd:=G8 (G9 X.prog X.w)) (Q:=λr s'=>r=p.2/\EP X pins σ Q r s') (by show X.A.units+1<HF;lia) (y9 I hk) dm hp ⟨rfl,z,H,I.tok _,rz,q⟩) hs
end
end L2
namespace Mini
inductive Wd where
 |non|bl (b:Bool)|int (i:Int)|str (s:List Nat)|tup (xs:List Wd)|rol (xs:List Wd)|ref (l:Nat)
deriving Inhabited
set_option genInjectivity false in
inductive Ob where
 |lst (xs:List Wd)|dct (ks:List (List Int)) (ws:List Wd)
deriving Inhabited
abbrev Me:=List Ob
set_option tactic.hygienic true in
abbrev En:=List (Option Wd)
set_option genInjectivity false in
inductive Rz where
 |ok (w:Wd) (m:Me)|no
deriving Inhabited
set_option genInjectivity false in
inductive Rs where
 |next (e:En) (m:Me)|ret (w:Wd) (m:Me)
 |no
deriving Inhabited
inductive Bo where|add|sub|mul|fdiv|mod|pow|shr|band
deriving DecidableEq
inductive Co where|eq|ne|lt|le|isN|notN|isin
deriving DecidableEq
inductive Tg where|int|bool|list|tuple|str|dict
deriving DecidableEq
inductive df where|len|int|list|tuple|sum|min2|max2|sorted|sortI
deriving DecidableEq
inductive dh where|append|pop|reverse|clear
deriving DecidableEq
inductive Kd where|zip|enum|prs|ptp
deriving DecidableEq
inductive Dk where|get|sum|lix
deriving DecidableEq
set_option genInjectivity false in
inductive Ex where
 |var (i:Nat)|lit (w:Wd)
 |bin (op:Bo) (a b:Ex)|neg (a:Ex)|not (a:Ex)|and (a b:Ex)|or (a b:Ex)
 |cmp (op:Co) (a b:Ex)|chain (p q:Co) (a b c:Ex)|ife (c a b:Ex)
 |unit|pair (a b:Ex)
 |call (k:Nat) (args:Ex)|blt (b:df) (args:Ex)|isi (t:Tg) (a:Ex)
 |lst (args:Ex)|tup (args:Ex)|dict0
 |idx (a b:Ex)
 |meth (n:dh) (o args:Ex)
 |rng (a b c:Ex)
 |comp (elt it cond:Ex)
 |compP (k:Kd) (elt a b cond:Ex)
 |dget (a b:Ex)
 |dop (k:Dk) (a b c:Ex)
deriving Inhabited
set_option genInjectivity false in
inductive Sm where
 |skip|seq (a b:Sm)
 |asg (i:Nat) (e:Ex)|asgS (o i e:Ex)  |aug (i:Nat) (op:Bo) (e:Ex)
 |ite (c:Ex) (a b:Sm)|forv (i:Nat) (it:Ex) (body:Sm)|fort (i j:Nat) (it:Ex) (body:Sm)|while (c:Ex) (body:Sm)
 |ret (e:Ex)  |expr (e:Ex)|never
 |forE (i j:Nat) (a:Ex) (body:Sm)
 |dput (x:Nat) (k e:Ex)
 |forD (i x:Nat) (body:Sm)
deriving Inhabited
noncomputable def aF:Nat:=100000
noncomputable def nL:Int:=18446744073709551616
noncomputable def xk(i:Int):Bool:=decide (-nL<i)&&decide (i<nL)
noncomputable def cg(p:Wd->Wd->Option Bool):List Wd->List Wd->Option Bool
 |x::xs,y::ys=>match p x y with
  |some a=>(cg p xs ys).map (a && ·)
  |none=>none
 |_,_=>some true
noncomputable def b2i(b:Bool):Int:=if b then 1 else 0
noncomputable def aJ(m:Me)(l:Nat):Bool:=match m[l]? with
 |some (.lst _)=>true
 |_=>false
noncomputable def o8:Wd->Bool
 |.rol _=>false
 |_=>true
noncomputable def bM(m:Me):Nat->Wd->Wd->Option Bool
 |0,_,_=>none
 |k+1,x,y=>match x,y with
  |.tup a,.tup b=>(cg (bM m k) a b).map (· && decide (a.length=b.length))
  |.ref a,.ref b=>if a=b then(if aJ m a then some true else none)else match m[a]?,m[b]? with
   |some (.lst xs),some (.lst ys)=>if xs.length=ys.length then cg (bM m k) xs ys else some false
   |_,_=>none
  |.ref a,y=>if aJ m a&&o8 y then some false else none
  |x,.ref b=>if aJ m b&&o8 x then some false else none
  |.rol _,_=>none
  |_,.rol _=>none
  |.non,.non=>some true
  |.bl a,.bl b=>some (a==b)
  |.int a,.int b=>some (decide (a=b))
  |.bl a,.int b=>some (decide (b2i a=b))
  |.int a,.bl b=>some (decide (a=b2i b))
  |.str a,.str b=>some (decide (a=b))
  |_,_=>some false
noncomputable def zS:Nat:=12
noncomputable def dz(p:Wd->Wd->Option Bool)(x:Wd):List Wd->Option Bool
 |[]=>some false
 |y::ys=>match p y x with
  |some a=>(dz p x ys).map (a || ·)
  |none=>none
noncomputable def ix(n:Nat)(i:Int):Option Nat:=
 if 0<=i then(if i<n then some i.toNat else none)else if -(n:Int)<=i then some (i+n).toNat else none
noncomputable def alloc(m:Me)(xs:List Wd):Rz:=if xs.length<=aF then .ok (.ref m.length) (m++[.lst xs])else .no
noncomputable def zi(m:Me)(l:Nat):Option (List Wd):=match m[l]? with
 |some (.lst xs)=>some xs
 |_=>none
noncomputable def yz(m:Me):Wd->Option (List Wd)
 |.tup xs=>some xs
 |.rol xs=>some xs
 |.ref l=>zi m l
 |_=>none
noncomputable def ci(op:Bo)(x y:Wd)(m:Me):Rz:=match x,y with
 |.int i,.int j=>match op with
  |.add=>.ok (.int (i+j)) m
  |.sub=>.ok (.int (i-j)) m
  |.mul=>if xk i || xk j then .ok (.int (i*j)) m else .no
  |.fdiv=>if 0<j/\j<1073741824 then .ok (.int (i/j)) m else .no
  |.mod=>if 0<j then .ok (.int (i%j)) m else .no
  |.pow=>if 0<=j/\j<=1000000/\xk i=true then .ok (.int (i^j.toNat)) m else .no
  |.shr=>if 0<=j/\j<=1000 then .ok (.int (i/2^j.toNat)) m else .no
  |.band=>if 0<=i/\j=1 then .ok (.int (i%2)) m else .no
 |.ref a,.ref b=>match op,m[a]?,m[b]? with
  |.add,some (.lst xs),some (.lst ys)=>alloc m (xs++ys)
  |_,_,_=>.no
 |.ref a,.int k=>match op,m[a]? with
  |.mul,some (.lst xs)=>if -aF<=k/\k<=aF then alloc m (QJ k.toNat xs).flatten else .no
  |_,_=>.no
 |.tup xs,.tup ys=>match op with
  |.add=>if xs.length+ys.length<=aF then .ok (.tup (xs++ys)) m else .no
  |_=>.no
 |_,_=>.no
noncomputable def cI(o:Option Bool)(m:Me):Rz:=match o with
 |some b=>.ok (.bl b) m
 |none=>.no
noncomputable def j8(r:Int->Int->Bool)(x y:Wd)(m:Me):Rz:=match x,y with
 |.int i,.int j=>.ok (.bl (r i j)) m
 |_,_=>.no
noncomputable def zX:List Wd->Option (List Int)
 |[]=>some []
 |.int i::r=>(zX r).map (i::·)
 |_=>none
noncomputable def ie(m:Me)(x y:Wd):Option Bool:=match y with
 |.ref l=>match m[l]? with
  |some (.dct ks _)=>match x with
   |.int _=>some false
   |.tup ws=>(zX ws).map λk=>decide (k∈ks)
   |_=>none
  |_=>none
 |_=>none
noncomputable def cn(op:Co)(x y:Wd)(m:Me):Rz:=match op with
 |.eq=>cI (bM m zS x y) m
 |.ne=>cI ((bM m zS x y).map (!·)) m
 |.isN=>match y,x with
  |.non,.non=>.ok (.bl true) m
  |.non,_=>.ok (.bl false) m
  |_,_=>.no
 |.notN=>match y,x with
  |.non,.non=>.ok (.bl false) m
  |.non,_=>.ok (.bl true) m
  |_,_=>.no
 |.isin=>match yz m y with
  |some ys=>cI (dz (bM m zS) x ys) m
  |none=>cI (ie m x y) m
 |.lt=>j8 (λi j=>decide (i<j)) x y m
 |.le=>j8 (λi j=>decide (i<=j)) x y m
noncomputable def cE(t:Tg)(x:Wd)(m:Me):Option Bool:=match t,x with
 |.int,.int _=>some true
 |.int,.bl _=>some true
 |.bool,.bl _=>some true
 |.str,.str _=>some true
 |.tuple,.tup _=>some true
 |.list,.rol _=>some true
 |t,.ref l=>match m[l]? with
  |some (.lst _)=>some (decide (t=.list))
  |some (.dct _ _)=>some (decide (t=.dict))
  |none=>none
 |_,_=>some false
noncomputable def EF(n d:Nat):Option Int->Nat
 |none=>d
 |some v=>if v<0 then(v+(n:Int)).toNat else min v.toNat n
noncomputable def km:List Wd->Option Int
 |[]=>some 0
 |.int i::r=>(km r).map (i+·)
 |_=>none
noncomputable def kn(m:Me):Wd->Option (List Wd)
 |.rol xs=>some xs
 |.ref l=>zi m l
 |_=>none
noncomputable def b8:List Int->List Int->Bool
 |[],[]=>false
 |[],_::_=>true
 |_::_,[]=>false
 |x::xs,y::ys=>if x=y then b8 xs ys else decide (x<y)
noncomputable def wY(m:Me):List Wd->Option (List (List Int))
 |[]=>some []
 |.ref l::r=>match zi m l with
  |some xs=>match zX xs,wY m r with
   |some k,some ks=>some (k::ks)
   |_,_=>none
  |none=>none
 |_=>none
noncomputable def fK:List (List Int)->Option (List Int)
 |r::rs=>if r.length≠0/\rs.all (λq=>q.length==r.length)=true then some (((r.length:Int)+1)::(r::rs).flatten)else none
 |[]=>none
noncomputable def j9(m:Me)(xs:List Wd):Option (List Int):=match zX xs with
 |some k=>some (0::k)
 |none=>(wY m xs).bind fK
noncomputable def xq(m:Me):List Wd->Option (List (List Int))
 |[]=>some []
 |.ref l::r=>match zi m l with
  |some xs=>match j9 m xs,xq m r with
   |some k,some ks=>some (k::ks)
   |_,_=>none
  |none=>none
 |_=>none
noncomputable def yM:List (List Int)->Bool
 |x::y::r=>b8 x y&&(decide (x.length=y.length)&&decide (x.head?=y.head?))&&yM (y::r)
 |_=>true
noncomputable def eE{α β:Type}:List α->(List α->β)->β
 |[],k=>k []
 |x::xs,k=>eE xs λys=>k (x::ys)
theorem x9:∀(xs:List α) (k:List α->β),eE xs k=k xs
 |[],_=>rfl
 |x::xs,k=>x9 xs λys=>k (x::ys)
noncomputable def iw{β:Type}(i:Int)(k:Int->β):β:=match i with
 |.ofNat 0=>k 0
 |.ofNat (n+1)=>k (.ofNat (n+1))
 |.negSucc 0=>k (-1)
 |.negSucc (n+1)=>k (.negSucc (n+1))
def CB (i:Int)(k:Int->β):iw i k=k i:=by
 cases i with
 |ofNat n=>cases n<;>rfl
 |negSucc n=>cases n<;>rfl
noncomputable def eY{β:Type}:List Int->(List Int->β)->β
 |[],k=>k []
 |x::xs,k=>iw x λy=>eY xs λys=>k (y::ys)
theorem pU:∀(xs:List Int) (k:List Int->β),eY xs k=k xs
 |[],_=>rfl
 |x::xs,k=>by
  show iw x (λy=>eY xs λys=>k (y::ys))=_;rw[CB,pU]
noncomputable def fJ{β:Type}:List (List Int)->(List (List Int)->β)->β
 |[],k=>k []
 |x::xs,k=>eY x λy=>fJ xs λys=>k (y::ys)
theorem ga:∀(xs:List (List Int)) (k:List (List Int)->β),fJ xs k=k xs
 |[],_=>rfl
 |x::xs,k=>by
  show eY x (λy=>fJ xs λys=>k (y::ys))=_;rw[pU,ga]
noncomputable def zP{α:Type}(p:List Int×α):List (List Int×α)->List (List Int×α)
 |[]=>[p]
 |q::r=>if b8 p.1 q.1 then p::q::r else q::zP p r
noncomputable def zr{α:Type}:List (List Int×α)->List (List Int×α)
 |[]=>[]
 |p::r=>eE (zr r) λs=>zP p s
def yn (p:List Int×α)(r:List (List Int×α)):zr (p::r)=zP p (zr r):=x9 (zr r) λs=>zP p s
noncomputable def yN(α:Type)(ks:List (List Int))(xs:List α):Option (List α):=fJ ks λks=>eE xs λxs=>eE (ks.zip xs) λz=>eE (zr z) λs=>if yM (s.map Prod.fst)then some (s.map Prod.snd)else none
def we(α:Type)(ks:List (List Int))(xs:List α):yN α ks xs=if yM ((zr (ks.zip xs)).map Prod.fst)then some ((zr (ks.zip xs)).map Prod.snd)else none:=by
 unfold yN;rw[ga,x9,x9,x9]
noncomputable def eD(ns:List Int):List Int:=ns.mergeSort λa b=>decide (a<=b)
noncomputable def vj(b:df)(ws:List Wd)(m:Me):Rz:=match b with
 |.sortI=>match ws with
  |[x]=>match (kn m x).bind zX with
   |some k=>if k.length<64 then alloc m ((eD k).map Wd.int)else .no
   |none=>.no
  |_=>.no
 |.sorted=>match ws with
  |[.ref l]=>match zi m l with
   |some xs=>match (xq m xs).bind λks=>yN Wd ks xs with
    |some ys=>alloc m ys
    |none=>.no
   |none=>.no
  |_=>.no
 |.len=>match ws with
  |[x]=>match yz m x with
   |some xs=>.ok (.int xs.length) m
   |none=>.no
  |_=>.no
 |.int=>match ws with
  |[.int i]=>.ok (.int i) m
  |[.bl b]=>.ok (.int (b2i b)) m
  |_=>.no
 |.list=>match ws with
  |[x]=>match yz m x with
   |some xs=>alloc m xs
   |none=>.no
  |_=>.no
 |.tuple=>match ws with
  |[x]=>match yz m x with
   |some xs=>.ok (.tup xs) m
   |none=>.no
  |_=>.no
 |.sum=>match ws with
  |[x]=>match (kn m x).bind km with
   |some i=>.ok (.int i) m
   |none=>.no
  |_=>.no
 |.max2=>match ws with
  |[.int i,.int j]=>.ok (.int (if j > i then j else i)) m
  |_=>.no
 |.min2=>match ws with
  |[.int i,.int j]=>.ok (.int (if j<i then j else i)) m
  |_=>.no
noncomputable def cO(n:dh)(o:Wd)(ws:List Wd)(m:Me):Rz:=match o with
 |.ref l=>match m[l]? with
  |some (.lst xs)=>match n,ws with
   |.append,[y]=>if xs.length<aF then .ok .non (m.set l (.lst (xs++[y])))else .no
   |.pop,[]=>match xs[xs.length-1]? with
    |some y=>.ok y (m.set l (.lst xs.dropLast))
    |none=>.no
   |.reverse,[]=>.ok .non (m.set l (.lst xs.reverse))
   |_,_=>.no
  |_=>.no
 |_=>.no
noncomputable def ye(x:Wd)(m:Me):Bool:=match x with
 |.ref l=>aJ m l
 |_=>false
noncomputable def je(o i v:Wd)(m:Me):Rz:=match o,i with
 |.ref l,.int k=>match m[l]? with
  |some (.lst xs)=>match ix xs.length k with
   |some j=>.ok .non (m.set l (.lst (xs.set j v)))
   |none=>.no
  |_=>.no
 |_,_=>.no
noncomputable def xo(x y:Wd)(m:Me):Rz:=match y with
 |.int i=>match yz m x with
  |some xs=>match (ix xs.length i).bind λj=>xs[j]? with
   |some v=>.ok v m
   |none=>.no
  |none=>.no
 |_=>.no
noncomputable def jf:Wd->Option (List Int)
 |.tup ws=>zX ws
 |_=>none
noncomputable def bO{α:Type}:List (List Int)->List α->List Int->Option α
 |k::ks,w::ws,q=>if k=q then some w else bO ks ws q
 |_,_,_=>none
noncomputable def wf(ks:List (List Int))(q:List Int):List (List Int):=if q∈ks then ks else ks++[q]
noncomputable def zQ{α:Type}:List (List Int)->List α->List Int->α->List α
 |k::ks,w::ws,q,v=>if k=q then v::ws else w::zQ ks ws q v
 |_,ws,_,v=>ws++[v]
noncomputable def vF(x y:Wd)(m:Me):Rz:=match x with
 |.ref l=>match m[l]? with
  |some (.dct ks ws)=>match (jf y).bind (bO ks ws)with
   |some v=>.ok v m
   |none=>.no
  |_=>.no
 |_=>.no
noncomputable def kI(x y v:Wd)(m:Me):Rz:=match x with
 |.ref l=>match m[l]? with
  |some (.dct ks ws)=>match jf y with
   |some q=>if ks.length<aF then .ok .non (m.set l (.dct (wf ks q) (zQ ks ws q v)))else .no
   |none=>.no
  |_=>.no
 |_=>.no
noncomputable def eX(lo st:Int):Nat->List Wd
 |0=>[]
 |n+1=>.int lo::eX (lo+st) st n
noncomputable def gb{α:Type}[DecidableEq α](k:α):List α->Nat->Option Nat
 |[],_=>none
 |x::r,i=>if x=k then some i else gb k r (i+1)
noncomputable def cL{α:Type}(p:α->Option Bool):List α->Option (List Bool)
 |[]=>some []
 |x::r=>match p x,cL p r with
  |some b,some bs=>some (b::bs)
  |_,_=>none
noncomputable def fD(k:Dk)(x:Wd)(m:Me):Bool:=match k with
 |.lix=>ye x m
 |_=>match x with
  |.ref l=>match m[l]? with
   |some (.dct _ _)=>true
   |_=>false
  |_=>false
noncomputable def jg(k:Dk)(x y z:Wd)(m:Me):Rz:=match k with
 |.get=>match x with
  |.ref l=>match m[l]? with
   |some (.dct ks ws)=>match jf y with
    |some q=>match bO ks ws q with
     |some v=>.ok v m
     |none=>.ok z m
    |none=>.no
   |_=>.no
  |_=>.no
 |.sum=>match x with
  |.ref l=>match m[l]? with
   |some (.dct _ ws)=>match km ws with
    |some i=>.ok (.int i) m
    |none=>.no
   |_=>.no
  |_=>.no
 |.lix=>match x with
  |.ref l=>match ((zi m l).bind (cL λw=>bM m zS w y)).bind λbs=>gb true bs 0 with
   |some j=>.ok (.int (j:Nat)) m
   |none=>.no
  |_=>.no
noncomputable def fH(a b c:Int):Nat:=if c=1 then(b-a).toNat else if c=-1 then(a-b).toNat else if c=-2 then((a-b+1)/2).toNat else if c=2 then((b-a+1)/2).toNat else 0
noncomputable def eC(a b c:Wd)(m:Me):Rz:=match a,b,c with
 |.int a,.int b,.int c=>if -aF<=a/\a<=aF/\-aF<=b/\b<=aF/\(c=1\/c=-1\/c=-2\/c=2)then .ok (.tup (eX a c (fH a b c))) m else .no
 |_,_,_=>.no
noncomputable def Rz.bind(r:Rz)(f:Wd->Me->Rz):Rz:=match r with
 |.ok w m=>f w m
 |r=>r
noncomputable def yC(c e:Wd->Me->Rz):List Wd->List Wd->Me->Rz
 |[],acc,m=>alloc m acc
 |x::xs,acc,m=>(c x m).bind λb m1=>match b with
  |.bl true=>(e x m1).bind λy m2=>if acc.length<aF then yC c e xs (acc++[y]) m2 else .no
  |.bl false=>yC c e xs acc m1
  |_=>.no
noncomputable def yD(c e:Wd->Me->Rz)(l:Nat):Nat->Nat->List Wd->Me->Rz
 |0,_,_,_=>.no
 |k+1,i,acc,m=>match zi m l with
  |none=>.no
  |some xs=>match xs[i]? with
   |none=>alloc m acc
   |some x=>(c x m).bind λb m1=>match b with
    |.bl true=>(e x m1).bind λy m2=>if acc.length<aF then yD c e l k (i+1) (acc++[y]) m2 else .no
    |.bl false=>yD c e l k (i+1) acc m1
    |_=>.no
noncomputable def iH:Wd->Option (Wd×Wd)
 |.tup [x,y]=>some (x,y)
 |_=>none
noncomputable def wK(m:Me):Wd->Option (List Wd)
 |.ref l=>zi m l
 |_=>none
noncomputable def zo(k:Kd)(x y:Wd)(i:Nat)(m:Me):Option (Option (Wd×Wd)):=match k,x,y with
 |.zip,x,y=>match wK m x,wK m y with
  |some xs,some ys=>some (match xs[i]?,ys[i]? with
   |some x,some y=>some (x,y)
   |_,_=>none)
  |_,_=>none
 |.enum,.ref la,.int s=>match zi m la with
  |some xs=>some (xs[i]?.map λx=>(.int (s+(i:Int)),x))
  |none=>none
 |.prs,.ref la,.int _=>match zi m la with
  |some xs=>match xs[i]? with
   |none=>some none
   |some w=>(iH w).map some
  |none=>none
 |.ptp,.tup xs,.int _=>match xs[i]? with
  |none=>some none
  |some w=>(iH w).map some
 |_,_,_=>none
noncomputable def zJ(c e:Wd->Wd->Me->Rz)(g:Nat->Me->Option (Option (Wd×Wd))):Nat->Nat->List Wd->Me->Rz
 |0,_,_,_=>.no
 |k+1,i,acc,m=>match g i m with
  |none=>.no
  |some none=>alloc m acc
  |some (some (x,y))=>(c x y m).bind λb m1=>match b with
   |.bl true=>(e x y m1).bind λz m2=>if acc.length<aF then zJ c e g k (i+1) (acc++[z]) m2 else .no
   |.bl false=>zJ c e g k (i+1) acc m1
   |_=>.no
noncomputable def zj:Wd->List Wd
 |.tup xs=>xs
 |_=>[]
noncomputable def ae(cl:Nat->List Wd->Me->Rz):Ex->En->Me->Rz
 |.var i,env,m=>match env[i]? with
  |some (some w)=>.ok w m
  |_=>.no
 |.lit w,_,m=>.ok w m
 |.bin op a b,env,m=>(ae cl a env m).bind λx m1=>(ae cl b env m1).bind λy m2=>ci op x y m2
 |.neg a,env,m=>(ae cl a env m).bind λx m1=>match x with
  |.int i=>.ok (.int (-i)) m1
  |_=>.no
 |.not a,env,m=>(ae cl a env m).bind λx m1=>match x with
  |.bl b=>.ok (.bl (! b)) m1
  |_=>.no
 |.and a b,env,m=>(ae cl a env m).bind λx m1=>match x with
  |.bl true=>ae cl b env m1
  |.bl false=>.ok (.bl false) m1
  |_=>.no
 |.or a b,env,m=>(ae cl a env m).bind λx m1=>match x with
  |.bl false=>ae cl b env m1
  |.bl true=>.ok (.bl true) m1
  |_=>.no
 |.cmp op a b,env,m=>(ae cl a env m).bind λx m1=>(ae cl b env m1).bind λy m2=>cn op x y m2
 |.chain p q a b c,env,m=>(ae cl a env m).bind λx m1=>(ae cl b env m1).bind λy m2=>(cn p x y m2).bind λz m3=>match z with
  |.bl true=>(ae cl c env m3).bind λu m4=>cn q y u m4
  |.bl false=>.ok (.bl false) m3
  |_=>.no
 |.ife c a b,env,m=>(ae cl c env m).bind λx m1=>match x with
  |.bl true=>ae cl a env m1
  |.bl false=>ae cl b env m1
  |_=>.no
 |.unit,_,m=>.ok (.tup []) m
 |.pair a b,env,m=>(ae cl a env m).bind λx m1=>(ae cl b env m1).bind λy m2=>.ok (.tup (x::zj y)) m2
 |.call k a,env,m=>(ae cl a env m).bind λx m1=>cl k (zj x) m1
 |.blt b a,env,m=>(ae cl a env m).bind λx m1=>vj b (zj x) m1
 |.isi t a,env,m=>(ae cl a env m).bind λx m1=>cI (cE t x m1) m1
 |.lst a,env,m=>(ae cl a env m).bind λx m1=>alloc m1 (zj x)
 |.tup a,env,m=>(ae cl a env m).bind λx m1=>if(zj x).length<=aF then .ok (.tup (zj x)) m1 else .no
 |.dict0,_,m=>.ok (.ref m.length) (m++[.dct [] []])
 |.idx a b,env,m=>(ae cl a env m).bind λx m1=>(ae cl b env m1).bind λy m2=>xo x y m2
 |.dget a b,env,m=>(ae cl a env m).bind λx m1=>(ae cl b env m1).bind λy m2=>vF x y m2
 |.dop k a b c,env,m=>(ae cl a env m).bind λx m1=>match fD k x m1 with
  |true=>(ae cl b env m1).bind λy m2=>(ae cl c env m2).bind λz m3=>jg k x y z m3
  |false=>.no
 |.meth n o a,env,m=>(ae cl o env m).bind λx m1=>match ye x m1 with
  |true=>(ae cl a env m1).bind λy m2=>cO n x (zj y) m2
  |false=>.no
 |.rng a b c,env,m=>(ae cl a env m).bind λx m1=>(ae cl b env m1).bind λy m2=>(ae cl c env m2).bind λz m3=>eC x y z m3
 |.comp elt it cond,env,m=>(ae cl it env m).bind λx m1=>match x with
  |.tup xs=>yC (λx m=>ae cl cond (env++[some x]) m) (λx m=>ae cl elt (env++[some x]) m) xs [] m1
  |.rol xs=>yC (λx m=>ae cl cond (env++[some x]) m) (λx m=>ae cl elt (env++[some x]) m) xs [] m1
  |.ref l=>yD (λx m=>ae cl cond (env++[some x]) m) (λx m=>ae cl elt (env++[some x]) m) l (aF+1) 0 [] m1
  |_=>.no
 |.compP k elt a b cond,env,m=>(ae cl a env m).bind λx m1=>(ae cl b env m1).bind λy m2=>
  zJ (λu v m=>ae cl cond (env++[some u]++[some v]) m) (λu v m=>ae cl elt (env++[some u]++[some v]) m) (zo k x y) (aF+1) 0 [] m2
noncomputable def xr(body:Wd->En->Me->Rs):List Wd->En->Me->Rs
 |[],env,m=>.next env m
 |x::xs,env,m=>match body x env m with
  |.next e1 m1=>xr body xs e1 m1
  |r=>r
noncomputable def xt(body:Wd->En->Me->Rs)(l:Nat):Nat->Nat->En->Me->Rs
 |0,_,_,_=>.no
 |k+1,i,env,m=>match zi m l with
  |none=>.no
  |some xs=>match xs[i]? with
   |none=>.next env m
   |some x=>match body x env m with
    |.next e1 m1=>xt body l k (i+1) e1 m1
    |r=>r
noncomputable def yO(body:Wd->En->Me->Rs)(l n:Nat):Nat->Nat->En->Me->Rs
 |0,_,_,_=>.no
 |k+1,i,env,m=>match m[l]? with
  |some (.dct ks _)=>if ks.length=n then match ks[i]? with
   |none=>.next env m
   |some q=>match body (.tup (q.map Wd.int)) env m with
    |.next e1 m1=>yO body l n k (i+1) e1 m1
    |r=>r
   else .no
  |_=>.no
noncomputable def wg(m:Me)(l:Nat):Nat:=match m[l]? with
 |some (.dct ks _)=>ks.length
 |_=>0
noncomputable def yV(body:Wd->En->Me->Rs)(g:Nat->Me->Option (Option (Wd×Wd))):Nat->Nat->En->Me->Rs
 |0,_,_,_=>.no
 |k+1,i,env,m=>match g i m with
  |none=>.no
  |some none=>.next env m
  |some (some (x,y))=>match body (.tup [x,y]) env m with
   |.next e1 m1=>yV body g k (i+1) e1 m1
   |r=>r
noncomputable def vG(c:En->Me->Rz)(body:En->Me->Rs):Nat->En->Me->Rs
 |0,_,_=>.no
 |k+1,env,m=>match c env m with
  |.ok (.bl true) m1=>match body env m1 with
   |.next e1 m2=>vG c body k e1 m2
   |r=>r
  |.ok (.bl false) m1=>.next env m1
  |_=>.no
noncomputable def Rz.bindS(r:Rz)(env:En)(f:Wd->Me->Rs):Rs:=match r with
 |.ok w m=>f w m
 |.no=>.no
noncomputable def eB(body:Wd->En->Me->Rs)(w:Wd)(env:En)(m:Me):Rs:=match w with
 |.tup xs=>xr body xs env m
 |.rol xs=>xr body xs env m
 |.ref l=>xt body l (aF+1) 0 env m
 |_=>.no
noncomputable def bN(i j:Nat):Wd->En->Option En:=λw env=>match w with
 |.tup [a,b]=>some ((env.set i (some a)).set j (some b))
 |_=>none
noncomputable def zz(st:Wd->En->Option En)(b:En->Me->Rs):Wd->En->Me->Rs:=λw env m=>match st w env with
 |some env'=>b env' m
 |none=>.no
noncomputable def eW(op:Bo)(x y:Wd)(m:Me)(env:En)(f:Wd->Me->Rs):Rs:=match x,y with
 |.int _,.int _=>(ci op x y m).bindS env f
 |_,_=>.no
noncomputable def bi(cl:Nat->List Wd->Me->Rz):Sm->En->Me->Rs
 |.skip,env,m=>.next env m
 |.seq a b,env,m=>match bi cl a env m with
  |.next e1 m1=>bi cl b e1 m1
  |r=>r
 |.asg i e,env,m=>(ae cl e env m).bindS env λw m1=>.next (env.set i (some w)) m1
 |.asgS o i e,env,m=>(ae cl e env m).bindS env λw m1=>(ae cl o env m1).bindS env λx m2=>(ae cl i env m2).bindS env λy m3=>(je x y w m3).bindS env λ_ m4=>.next env m4
 |.aug i op e,env,m=>match env[i]? with
  |some (some x)=>(ae cl e env m).bindS env λy m1=>eW op x y m1 env λz m2=>.next (env.set i (some z)) m2
  |_=>.no
 |.ite c a b,env,m=>(ae cl c env m).bindS env λx m1=>match x with
  |.bl true=>bi cl a env m1
  |.bl false=>bi cl b env m1
  |_=>.no
 |.forv i it body,env,m=>(ae cl it env m).bindS env λw m1=>eB (λx e m=>bi cl body (e.set i (some x)) m) w env m1
 |.fort i j it body,env,m=>(ae cl it env m).bindS env λw m1=>eB (zz (bN i j) (bi cl body)) w env m1
 |.while c body,env,m=>vG (ae cl c) (bi cl body) 1000000 env m
 |.ret e,env,m=>(ae cl e env m).bindS env λw m1=>.ret w m1
 |.expr e,env,m=>(ae cl e env m).bindS env λ_ m1=>.next env m1
 |.forE i j a body,env,m=>(ae cl a env m).bindS env λx m1=>yV (zz (bN i j) (bi cl body)) (zo .enum x (.int 0)) (aF+1) 0 env m1
 |.dput x k e,env,m=>(ae cl e env m).bindS env λv m1=>(ae cl (.var x) env m1).bindS env λd m2=>(ae cl k env m2).bindS env λq m3=>(kI d q v m3).bindS env λ_ m4=>.next env m4
 |.forD i x body,env,m=>(ae cl (.var x) env m).bindS env λw m1=>match w with
  |.ref l=>yO (λq e m=>bi cl body (e.set i (some q)) m) l (wg m1 l) (aF+1) 0 env m1
  |_=>.no
 |.never,_,_=>.no
noncomputable def ko(a b c d:Ex):Ex:=.tup (.pair a (.pair b (.pair c (.pair d .unit))))
noncomputable def cH(k:List Nat)(a:Ex):Ex:=.tup (.pair (.lit (.str k)) (.pair a .unit))
noncomputable def iu(n:Nat)(k1 k2 k3 k4:List Nat)(a b c d mx elt:Ex):Ex:=.compP .ptp elt (ko (cH k1 a) (cH k2 b) (cH k3 c) (cH k4 d)) (.lit (.int 0)) (.cmp .eq (.var (n+1)) mx)
noncomputable def cx(x y:Int):Ex:=.tup (.pair (.lit (.int x)) (.pair (.lit (.int y)) .unit))
noncomputable def gc(i:Nat)(k1 k2 k3 k4:List Nat):Ex:=.ife (.cmp .eq (.var i) (.lit (.str k1))) (.lit (.int 0)) (.ife (.cmp .eq (.var i) (.lit (.str k2))) (.lit (.int 1)) (.ife (.cmp .eq (.var i) (.lit (.str k3))) (.lit (.int 2)) (.ife (.cmp .eq (.var i) (.lit (.str k4))) (.lit (.int 3)) (.lit .non))))
noncomputable def vH{α:Type}(s k1 k2 k3 k4:List Nat)(a b c d:α):Option α:=if s=k1 then some a else if s=k2 then some b else if s=k3 then some c else if s=k4 then some d else none
set_option genInjectivity false in
structure Fn where
 ar:Nat
 sz:Nat
 body:Sm
deriving Inhabited
noncomputable def xa(fn:Fn)(ws:List Wd):En:=ws.map some++QJ (fn.sz-ws.length) none
noncomputable def jh(cl:Nat->List Wd->Me->Rz)(fn:Fn)(ws:List Wd)(m:Me):Rz:=
 if ws.length=fn.ar then match bi cl fn.body (xa fn ws) m with
  |.next _ m1=>.ok .non m1
  |.ret w m1=>.ok w m1
  |_=>.no
 else .no
noncomputable def yE(T:List Fn):Nat->Nat->List Wd->Me->Rz
 |0,_,_,_=>.no
 |d+1,k,ws,m=>match T[k]? with
  |some fn=>jh (yE T d) fn ws m
  |none=>.no
end Mini
namespace Mini
open PySem PySem.Spec PyProof.Rows L2
abbrev St:=L2.St
noncomputable def KL(K:Qb)(a:Addr)(xs:List V):Prop:=
 ∃(o:Obj) (its:Array Value) (n:Nat),K.lookup a=some o/\o.cls=.type "list" /\ o.dict=none/\o.data=.seq its n/\its.size<=sizeLine/\ax xs its.toList
noncomputable def dG(K:Qb)(H:Hp)(a:Addr)(vs:List V):Prop:=(∃o,H a=some (.frz o (.lst vs)))\/KL K a vs
def dG.sq {K:Qb}(h:dG K H a vs):bg K H a vs:=by
 rcases h with h|h
 .exact .inl (.inr h)
 .exact .inr h
mutual
noncomputable def ag(K:Qb)(as:List Addr)(H:Hp):Wd->V->Prop
 |.non,v=>v=.non
 |.bl b,v=>v=.bl b
 |.int i,v=>v=.int i
 |.str s,v=>v=.str ⟨s.toArray⟩
 |.tup xs,v=>∃a vs,v=.ref a/\bG K H a vs/\ab K as H xs vs
 |.rol xs,v=>∃a vs,v=.ref a/\dG K H a vs/\ab K as H xs vs
 |.ref l,v=>∃a,as[l]?=some a/\v=.ref a
noncomputable def ab(K:Qb)(as:List Addr)(H:Hp):List Wd->List V->Prop
 |[],vs=>vs=[]
 |x::xs,vs=>∃v r,vs=v::r/\ag K as H x v/\ab K as H xs r
end
noncomputable def a9(K:Qb)(as:List Addr)(H:Hp):Ob->Addr->Prop
 |.lst ws,a=>∃vs,H a=some (.lst vs)/\ab K as H ws vs
 |.dct ks ws,a=>∃xs vs,yi K H a xs/\xs.map (·.1)=ks/\ab K as H ws vs/\ax vs (xs.map (·.2.2))/\ks.Nodup
structure aH(K:Qb)(as:List Addr)(m:Me)(H:Hp):Prop where
 len:as.length=m.length
 nd:as.Nodup
 obj:∀(l:Nat) (a:Addr) (o:Ob),as[l]?=some a->m[l]?=some o->a9 K as H o a
structure Step(as:List Addr)(H:Hp)(as':List Addr)(H':Hp):Prop where
 pre:∃t,as'=as++t
 frame:∀b o,H b=some o->b∉as->H' b=some o
 fresh:∀a∈as',a∈as\/H a=none
section
variable{K:Qb}{as as' as2:List Addr}{H H' H2:Hp}{m m':Me}
def Step.refl:Step as H as H:=⟨⟨[],by simp⟩,λ_ _ h _=>h,λ_ h=>.inl h⟩
def Step.get (T:Step as H as' H'){l:Nat}(h:as[l]?=some a):as'[l]?=some a:=by
 obtain⟨t,rfl⟩:=T.pre;rw[Qd (Qa.mp h).1];exact h
def Step.out (T:Step as H as' H')(h:H b=some o)(hb:b∉as):b∉as':=λz=>by
 rcases T.fresh b z with q|q
 .exact hb q
 .rw[h]at q;cases q
def Step.trans(T:Step as H as' H')(U:Step as' H' as2 H2):Step as H as2 H2:=by
 refine⟨?_,λb o h hb=>U.frame b o (T.frame b o h hb) (T.out h hb),λa ha=>?_⟩
 .obtain ⟨t,rfl⟩:=T.pre;obtain⟨u,rfl⟩:=U.pre;exact⟨t++u,by simp⟩
 .rcases U.fresh a ha with q|q
  .exact T.fresh a q
  .by_cases z:a∈as
   .exact .inl z
   .refine .inr ?_;cases e:H a with
    |none=>rfl
    |some o=>rw[T.frame a o e z]at q;cases q
def aH.get (S:aH K as m H){l:Nat}(h:m[l]?=some o):∃a,as[l]?=some a/\a9 K as H o a:=by
 have hl:l<as.length:=by rw[S.len];exact(Qa.mp h).1
 exact⟨as[l],by simp[hl],S.obj l _ o (by simp[hl]) h⟩
noncomputable def LD:HO->Prop
 |.lst _=>True
 |.ext _=>True
 |.dK _=>True
 |_=>False
def aH.isLst (S:aH K as m H)(h:a∈as):∃o,H a=some o/\LD o:=by
 obtain⟨l,hl,rfl⟩:=WY.mp h;have hm:l<m.length:=by rw[<-S.len];exact hl
 have q:=S.obj l as[l] m[l] (by simp[hl]) (by simp[hm]);cases e:m[l]with
 |lst ws=>
  rw[e]at q;obtain⟨vs,h1,_⟩:=q;exact⟨_,h1,trivial⟩
 |dct ks ws=>
  rw[e]at q;obtain⟨xs,vs,h1,_⟩:=q;exact⟨_,h1.1,trivial⟩
def Dm (nt:∀a∈as,∃o,H a=some o/\LD o)(T:Step as H as' H')(h:bG K H a vs):bG K H' a vs:=by
 rcases h with h|h
 .have hn:a∉as:=λz=>by
   obtain⟨u,e,hu⟩:=nt a z;rcases h with h|⟨o,h⟩<;>rw[e]at h<;>cases h<;>exact hu
  rcases h with h|⟨o,h⟩
  .exact .inl (.inl (T.frame _ _ h hn))
  .exact .inl (.inr ⟨o,T.frame _ _ h hn⟩)
 .exact .inr h
def Dl (nt:∀a∈as,∃o,H a=some o/\LD o)(T:Step as H as' H')(h:dG K H a vs):dG K H' a vs:=by
 rcases h with⟨o,h⟩|h
 .have hn:a∉as:=λz=>by
   obtain⟨u,e,hu⟩:=nt a z;rw[e]at h;cases h;exact hu
  exact .inl ⟨o,T.frame _ _ h hn⟩
 .exact .inr h
structure Kp(K:Qb)(H H':Hp):Prop where
 t:∀a vs,bG K H a vs->bG K H' a vs
 f:∀a vs,dG K H a vs->dG K H' a vs
def aH.kp(S:aH K as m H)(T:Step as H as' H'):Kp K H H':=⟨λ_ _ h=>Dm (λ_ z=>S.isLst z) T h,λ_ _ h=>Dl (λ_ z=>S.isLst z) T h⟩
def Kp.updL{D:Addr}{u o:HO}(h:H D=some u)(hu:LD u):Kp K H (L2.aE H D o):=by
 refine⟨λa vs q=>?_,λa vs q=>?_⟩
 .rcases q with (q|⟨x,q⟩)|q
  .exact .inl (.inl (by rw[za (by rintro rfl;rw[h]at q;cases q;exact hu)];exact q))
  .exact .inl (.inr ⟨x,by rw[za (by rintro rfl;rw[h]at q;cases q;exact hu)];exact q⟩)
  .exact .inr q
 .rcases q with⟨x,q⟩|q
  .exact .inl ⟨x,by rw[za (by rintro rfl;rw[h]at q;cases q;exact hu)];exact q⟩
  .exact .inr q
def Kp.upd{D:Addr}{ys:List V}{o:HO}(h:H D=some (.lst ys)):Kp K H (L2.aE H D o):=Kp.updL h trivial
mutual
theorem vI(k:Kp K H H')(g:∀(l:Nat) (a:Addr),as[l]?=some a->as'[l]?=some a):∀(w:Wd) (v:V),ag K as H w v->ag K as' H' w v
 |.non,_,h=>by rw[ag]at h ⊢;exact h
 |.bl _,_,h=>by rw[ag]at h ⊢;exact h
 |.int _,_,h=>by rw[ag]at h ⊢;exact h
 |.str _,_,h=>by rw[ag]at h ⊢;exact h
 |.tup xs,v,h=>by
  rw[ag]at h ⊢;obtain⟨a,vs,e,q,r⟩:=h;exact⟨a,vs,e,k.t _ _ q,aW k g xs vs r⟩
 |.rol xs,v,h=>by
  rw[ag]at h ⊢;obtain⟨a,vs,e,q,r⟩:=h;exact⟨a,vs,e,k.f _ _ q,aW k g xs vs r⟩
 |.ref l,v,h=>by
  rw[ag]at h ⊢;obtain⟨a,q,e⟩:=h;exact⟨a,g _ _ q,e⟩
theorem aW(k:Kp K H H')(g:∀(l:Nat) (a:Addr),as[l]?=some a->as'[l]?=some a):∀(ws:List Wd) (vs:List V),ab K as H ws vs->ab K as' H' ws vs
 |[],_,h=>by rw[ab]at h ⊢;exact h
 |x::xs,vs,h=>by
  rw[ab]at h ⊢;obtain⟨v,r,e,q,t⟩:=h;exact⟨v,r,e,vI k g x v q,aW k g xs r t⟩
end
def a9.mono{ob:Ob}{a:Addr}(k:Kp K H H')(g:∀(l:Nat) (a:Addr),as[l]?=some a->as'[l]?=some a)(e:∀o,H a=some o->H' a=some o)(h:a9 K as H ob a):a9 K as' H' ob a:=by
 cases ob with
 |lst ws=>obtain⟨vs,h1,h2⟩:=h;exact⟨vs,e _ h1,aW k g _ _ h2⟩
 |dct ks ws=>obtain⟨xs,vs,h1,h2,h3,h4⟩:=h;exact⟨xs,vs,⟨e _ h1.1,λx hx=>k.t _ _ (h1.2 x hx)⟩,h2,aW k g _ _ h3,h4⟩
def ag.mono{w:Wd}{v:V}(h:ag K as H w v)(S:aH K as m H)(T:Step as H as' H'):ag K as' H' w v:=vI (S.kp T) (λ_ _ e=>T.get e) w v h
def ab.mono{ws:List Wd}{vs:List V}(h:ab K as H ws vs)(S:aH K as m H)(T:Step as H as' H'):ab K as' H' ws vs:=aW (S.kp T) (λ_ _ e=>T.get e) ws vs h
def ab.kp{ws:List Wd}{vs:List V}(h:ab K as H ws vs)(k:Kp K H H'):ab K as H' ws vs:=aW k (λ_ _ e=>e) ws vs h
def ag.kp{w:Wd}{v:V}(h:ag K as H w v)(k:Kp K H H'):ag K as H' w v:=vI k (λ_ _ e=>e) w v h
def am:ag K as H .non v↔v=.non:=by rw[ag]
def ai:ag K as H (.bl b) v↔v=.bl b:=by rw[ag]
def aa:ag K as H (.int i) v↔v=.int i:=by rw[ag]
def ay:ag K as H (.str s) v↔v=.str ⟨s.toArray⟩:=by rw[ag]
def ah:ag K as H (.tup xs) v↔∃a vs,v=.ref a/\bG K H a vs/\ab K as H xs vs:=by rw[ag]
def a8:ag K as H (.rol xs) v↔∃a vs,v=.ref a/\dG K H a vs/\ab K as H xs vs:=by rw[ag]
def aD:ag K as H (.ref l) v↔∃a,as[l]?=some a/\v=.ref a:=by rw[ag]
def au:ab K as H [] vs↔vs=[]:=by rw[ab]
def aj:ab K as H (x::xs) vs↔∃v r,vs=v::r/\ag K as H x v/\ab K as H xs r:=by rw[ab]
theorem ab.length:∀{xs:List Wd}{vs:List V},ab K as H xs vs->xs.length=vs.length
 |[],vs,h=>by rw[au.mp h];rfl
 |x::xs,vs,h=>by
  obtain⟨v,r,rfl,_,t⟩:=aj.mp h;simp[ab.length t]
theorem ab.get:∀{xs:List Wd}{vs:List V}{i:Nat}{x:Wd},ab K as H xs vs->xs[i]?=some x->∃v,vs[i]?=some v/\ag K as H x v
 |[],_,_,_,_,e=>by simp at e
 |x::xs,vs,0,y,h,e=>by
  obtain⟨v,r,rfl,q,t⟩:=aj.mp h;simp at e;subst e;exact⟨v,rfl,q⟩
 |x::xs,vs,i+1,y,h,e=>by
  obtain⟨v,r,rfl,q,t⟩:=aj.mp h;obtain⟨u,h1,h2⟩:=ab.get (i:=i) (x:=y) t (by simpa using e);exact⟨u,by simpa using h1,h2⟩
def ab.back:∀{xs:List Wd}{vs:List V}{i:Nat}{v:V},ab K as H xs vs->vs[i]?=some v->∃x,xs[i]?=some x/\ag K as H x v:=λ{xs vs i v} h e=>by
 have hi:i<xs.length:=by rw[h.length];exact(Qa.mp e).1
 obtain⟨u,h1,h2⟩:=h.get (i:=i) (x:=xs[i]) (by simp[hi]);rw[e]at h1;cases h1;exact⟨xs[i],by simp[hi],h2⟩
theorem ab.append:∀{xs ys:List Wd}{vs us:List V},ab K as H xs vs->ab K as H ys us->ab K as H (xs++ys) (vs++us)
 |[],ys,vs,us,h,h'=>by rw[au.mp h];exact h'
 |x::xs,ys,vs,us,h,h'=>by
  obtain⟨v,r,rfl,q,t⟩:=aj.mp h;exact aj.mpr ⟨v,r++us,rfl,q,t.append h'⟩
def ab.one{x:Wd}{v:V}(h:ag K as H x v):ab K as H [x] [v]:=aj.mpr ⟨v,[],rfl,h,au.mpr rfl⟩
theorem ab.set:∀{xs:List Wd}{vs:List V}{x:Wd}{v:V}(i:Nat),ab K as H xs vs->ag K as H x v->ab K as H (xs.set i x) (vs.set i v)
 |[],vs,_,_,_,h,_=>by rw[au.mp h];exact au.mpr rfl
 |y::xs,vs,x,v,0,h,hx=>by
  obtain⟨u,r,rfl,q,t⟩:=aj.mp h;exact aj.mpr ⟨v,r,rfl,hx,t⟩
 |y::xs,vs,x,v,i+1,h,hx=>by
  obtain⟨u,r,rfl,q,t⟩:=aj.mp h;exact aj.mpr ⟨u,r.set i v,rfl,q,t.set i hx⟩
set_option tactic.hygienic true in
theorem ab.take:∀{xs:List Wd}{vs:List V}(n:Nat),ab K as H xs vs->ab K as H (xs.take n) (vs.take n)
 |_,_,0,_=>au.mpr rfl
 |[],vs,n+1,h=>by rw[au.mp h];exact au.mpr rfl
 |x::xs,vs,n+1,h=>by
  obtain⟨v,r,rfl,q,t⟩:=aj.mp h;exact aj.mpr ⟨v,r.take n,rfl,q,t.take n⟩
theorem ab.reverse:∀{xs:List Wd}{vs:List V},ab K as H xs vs->ab K as H xs.reverse vs.reverse
 |[],vs,h=>by rw[au.mp h];exact au.mpr rfl
 |x::xs,vs,h=>by
  obtain⟨v,r,rfl,q,t⟩:=aj.mp h;rw[Wm,Wm];exact t.reverse.append (.one q)
theorem ab.dropLast:∀{xs:List Wd}{vs:List V},ab K as H xs vs->ab K as H xs.dropLast vs.dropLast:=λ{xs vs} h=>by
 rw[List.dropLast_eq_take,List.dropLast_eq_take,h.length];exact h.take _
theorem ab.rep (h:ab K as H xs vs):∀k:Nat,ab K as H (QJ k xs).flatten (QJ k vs).flatten
 |0=>au.mpr rfl
 |k+1=>by
  rw[Q8,Q8,QX,QX];exact h.append (ab.rep h k)
structure aB(K:Qb)(as:List Addr)(H:Hp)(env:En)(σ:St):Prop where
 len:env.length=σ.length
 get:∀(i:Nat) (w:Wd),env[i]?=some (some w)->∃v,σ[i]?=some (some v)/\ag K as H w v
theorem aB.mono{env:En}{σ:St}(G:aB K as H env σ)(S:aH K as m H)(T:Step as H as' H'):aB K as' H' env σ:=
 ⟨G.len,λi w e=>let⟨v,h1,h2⟩:=G.get i w e;⟨v,h1,h2.mono S T⟩⟩
theorem aB.kp{env:En}{σ:St}(G:aB K as H env σ)(k:Kp K H H'):aB K as H' env σ:=
 ⟨G.len,λi w e=>let⟨v,h1,h2⟩:=G.get i w e;⟨v,h1,h2.kp k⟩⟩
theorem aB.set{env:En}{σ:St}(G:aB K as H env σ){w:Wd}{v:V}(h:ag K as H w v)(i:Nat):aB K as H (env.set i (some w)) (σ.set i (some v)):=by
 refine⟨by simp[G.len],λj x e=>?_⟩;by_cases hj:j=i
 .subst hj;have hl:j<env.length:=by
   have:=(Qa.mp e).1;simpa using this
  rw[Q7 hl]at e;cases e;exact⟨v,Q7 (by rw[<-G.len];exact hl),h⟩
 .rw[Qp (Ne.symm hj)]at e;obtain⟨u,h1,h2⟩:=G.get j x e;exact⟨u,by rw[Qp (Ne.symm hj)];exact h1,h2⟩
def aB.push{env:En}{σ:St}(G:aB K as H env σ){w:Wd}{v:V}(h:ag K as H w v):aB K as H (env++[some w]) (σ++[some v]):=by
 refine⟨by simp[G.len],λj x e=>?_⟩;by_cases hj:j<env.length
 .rw[Qd hj]at e;obtain⟨u,h1,h2⟩:=G.get j x e;exact⟨u,by rw[Qd (by rw[<-G.len];exact hj)];exact h1,h2⟩
 .rw[Qc (by lia)]at e;have hz:j-env.length=0:=by
   cases hq:j-env.length with
   |zero=>rfl
   |succ k=>rw[hq]at e;simp at e
  rw[hz]at e;simp at e;subst e;refine⟨v,?_,h⟩;rw[Qc (by rw[<-G.len];lia),<-G.len,hz];rfl
noncomputable def ak(K:Qb)(as:List Addr)(H:Hp)(Q:VK)(r:Rz):Prop:=match r with
 |.ok w m'=>∀as' H' v,Step as H as' H'->aH K as' m' H'->ag K as' H' w v->Q v H'
 |_=>False
def ak.step{Q:VK}{r:Rz}(h:ak K as H Q r)(T:Step as H as' H'):ak K as' H' Q r:=by
 cases r with
 |ok w m'=>exact λas2 H2 v U S R=>h as2 H2 v (T.trans U) S R
 |no=>exact h
theorem ak.bind{Q Q1:VK}{r:Rz}{f:Wd->Me->Rz}(h:ak K as H Q (r.bind f))
  (k:∀w m' as' H' v,Step as H as' H'->aH K as' m' H'->ag K as' H' w v->ak K as' H' Q (f w m')->Q1 v H'):ak K as H Q1 r:=by
 cases r with
 |ok w m'=>exact λas2 H2 v U S R=>k w m' as2 H2 v U S R (ak.step (r:=f w m') h U)
 |no=>exact h
def dM (h:ak K as H Q (r.bind f))(T:Step as H as' H')(k:∀w m2 as2 H2 v,Step as' H' as2 H2->aH K as2 m2 H2->ag K as2 H2 w v->ak K as H Q (f w m2)->Q1 v H2):ak K as' H' Q1 r:=by
 cases r with
 |ok w m'=>exact λas2 H2 v U S R=>k w m' as2 H2 v U S R h
 |no=>exact h
noncomputable def aG(K:Qb)(g:En->Me->Rz):TE:=λσ H Q=>∃as env m,aH K as m H/\aB K as H env σ/\ak K as H Q (g env m)
noncomputable def yI(K:Qb)(g:En->Me->Rz):TT:=λσ H Q=>aG K g σ H λv H'=>∃b,v=.bl b/\Q b H'
theorem ak.ok (h:ak K as H Q (.ok w m))(S:aH K as m H)(R:ag K as H w v):Q v H:=h as H v .refl S R
end
def PE.imp{X:Cx}{e:Expr}{t t':TE}(h:PE X e t)(k:∀σ H Q,t' σ H Q->t σ H Q):PE X e t':=λpins s σ H Q I q=>h pins s σ H Q I (k σ H Q q)
def PT.imp{X:Cx}{e:Expr}{t t':TT}(h:PT X e t)(k:∀σ H Q,t' σ H Q->t σ H Q):PT X e t':=λpins s σ H Q I q=>h pins s σ H Q I (k σ H Q q)
def PA.imp{X:Cx}{es:List Expr}{t t':TA}(h:PA X es t)(k:∀σ H Q,t' σ H Q->t σ H Q):PA X es t':=λpos pins s σ H Q I q=>h pos pins s σ H Q I (k σ H Q q)
def PS.imp{X:Cx}{st:Stmt}{t t':TS}(h:PS X st t)(k:∀D σ H,t' D σ H->t D σ H):PS X st t':=λpins s σ H D I q=>h pins s σ H D I (k D σ H q)
def bW.imp{X:Cx}{st:List Stmt}{t t':TS}(h:bW X st t)(k:∀D σ H,t' D σ H->t D σ H):bW X st t':=λpins s σ H D I q=>h pins s σ H D I (k D σ H q)
end Mini
namespace L2
open PySem PySem.Spec PyProof.Rows
section
variable{X:Cx}
noncomputable def oQ(K:Qb):R2:=λx y H Q=>∃a b ys,x=.ref a/\y=.ref b/\bG K H a []/\bG K H b ys/\Q (.ref b) H
def C7:bL X (HB .Add) (oQ X.K):=by
 intro pins s σ H x y v u Q I rx ry h;obtain⟨a,b,ys,rfl,rfl,ha,hb,q⟩:=h;cases rx;cases ry;obtain⟨its,r1,p1,_⟩:=I.tuple ha;obtain⟨its2,r2,p2,_⟩:=I.tuple hb;cases r1;obtain⟨⟨c1,d1,f1,l1⟩,g1,e1,n1,k1⟩:=p1;obtain⟨⟨c2,d2,f2,l2⟩,g2,e2,n2,k2⟩:=p2;simp only at e1 e2 k1 k2;subst e1 e2 k1 k2;have m:=tuple_addW0 a b #[] its2.toArray n1 n2 d1 d2 l1 l2 rfl;exact HQ ⟨_,g1,rfl⟩ ⟨_,g2,rfl⟩ HR HS PySem.F.slot_tuple_add PySem.F.entry_tuple_add (PySem.F.args_tuple_add_2 _ _) m ⟨g1,g2,.ref b,H,I,rfl,q⟩
end
end L2
namespace Mini
open PySem PySem.Spec PyProof.Rows L2
section
variable{K:Qb}{as:List Addr}{H H':Hp}{m:Me}{Q:VK}{a p:Addr}{l:Nat}{ws xs:List Wd}{vs us:List V}
def yA:aF<=sizeLine:=by rw[sizeLine_eq];decide
def aH.new(S:aH K as m H)(hp:H p=none):p∉as:=λz=>by
 obtain⟨us,e,_⟩:=S.isLst z;rw[hp]at e;cases e
def aH.alloc(S:aH K as m H)(hp:H p=none)(R:ab K as H ws vs):Step as H (as++[p]) (aE H p (.lst vs))/\aH K (as++[p]) (m++[.lst ws]) (aE H p (.lst vs)):=by
 have hn:=S.new hp;have T:Step as H (as++[p]) (aE H p (.lst vs)):=⟨⟨[p],rfl⟩,λb o h _=>by rw[za (zm h hp)];exact h,λb hb=>by
  rcases Ql.mp hb with z|z
  .exact .inl z
  .exact .inr (by rw[Qr.mp z];exact hp)⟩
 refine⟨T,⟨by simp[S.len],?_,λl b o h1 h2=>?_⟩⟩
 .refine Qn.mpr ⟨S.nd,by simp,λx hx y hy=>?_⟩;rw[Qr.mp hy];rintro rfl;exact hn hx
 .by_cases hl:l<as.length
  .rw[Qd hl]at h1;rw[Qd (by rw[<-S.len];exact hl)]at h2;have q:=S.obj l b o h1 h2;cases o with
   |lst ys=>
    obtain⟨zs,e,r⟩:=q;exact⟨zs,by rw[za (zm e hp)];exact e,r.mono S T⟩
   |dct ks us=>exact a9.mono (ob:=.dct ks us) (S.kp T) (λ_ _ e=>T.get e) (λo e=>by rw[za (zm e hp)];exact e) q
  .rw[Qc (by lia)]at h1;rw[Qc (by rw[<-S.len];lia)]at h2;have hz:l-as.length=0:=by
    cases hq:l-as.length with
    |zero=>rfl
    |succ k=>rw[hq]at h1;simp at h1
   rw[hz]at h1;rw[<-S.len,hz]at h2;simp at h1 h2;subst h1;subst h2;exact⟨vs,ze,R.mono S T⟩
theorem aH.set(S:aH K as m H)(ha:as[l]?=some a)(hm:m[l]?=some (.lst xs))(R:ab K as H ws vs):Step as H as (aE H a (.lst vs))/\aH K as (m.set l (.lst ws)) (aE H a (.lst vs)):=by
 have hin:a∈as:=Qm ha;have T:Step as H as (aE H a (.lst vs)):=⟨⟨[],by simp⟩,λb o h hb=>by
  rw[za (by rintro rfl;exact hb hin)];exact h,λb hb=>.inl hb⟩
 refine⟨T,⟨by simp[S.len],S.nd,λk b o h1 h2=>?_⟩⟩;by_cases hk:k=l
 .subst hk;rw[ha]at h1;cases h1;rw[Q7 (Qa.mp hm).1]at h2;cases h2;exact⟨vs,ze,R.mono S T⟩
 .rw[Qp (Ne.symm hk)]at h2;have q:=S.obj k b o h1 h2;have hb:b≠a:=by
   rintro rfl;obtain⟨i1,e1⟩:=Qa.mp h1;obtain⟨i2,e2⟩:=Qa.mp ha;exact hk ((WU S.nd).mp (e1.trans e2.symm))
  cases o with
  |lst ys=>
   obtain⟨zs,e,r⟩:=q;exact⟨zs,by rw[za hb];exact e,r.mono S T⟩
  |dct ks us=>exact a9.mono (ob:=.dct ks us) (S.kp T) (λ_ _ e=>T.get e) (λo e=>by rw[za hb];exact e) q
def aH.keep(S:aH K as m H)(T:Step as H as H')(hk:∀a∈as,∀o,H a=some o->H' a=some o):aH K as m H':=by
 refine⟨S.len,S.nd,λl b o h1 h2=>?_⟩;have q:=S.obj l b o h1 h2;cases o with
 |lst ys=>
  obtain⟨zs,e,r⟩:=q;exact⟨zs,hk b (Qm h1) _ e,r.mono S T⟩
 |dct ks us=>exact a9.mono (ob:=.dct ks us) (S.kp T) (λ_ _ e=>T.get e) (λo e=>hk b (Qm h1) _ e) q
theorem aH.tup(S:aH K as m H)(hp:H p=none)(R:ab K as H ws vs):Step as H as (aE H p (.tup vs))/\aH K as m (aE H p (.tup vs))/\ag K as (aE H p (.tup vs)) (.tup ws) (.ref p):=by
 have T:Step as H as (aE H p (.tup vs)):=⟨⟨[],by simp⟩,λb o h _=>by rw[za (zm h hp)];exact h,λb hb=>.inl hb⟩;exact⟨T,S.keep T λb _ o e=>by rw[za (zm e hp)];exact e,ah.mpr ⟨p,vs,rfl,bG.of ze,R.mono S T⟩⟩
def yW(S:aH K as m H)(R:ab K as H ws vs)(h:ak K as H Q (alloc m ws)):vs.length<=aF/\∀p,H p=none->Q (.ref p) (aE H p (.lst vs)):=by
 unfold Mini.alloc at h;by_cases hl:ws.length<=aF
 .rw[Jh hl]at h;refine⟨by rw[<-R.length];exact hl,λp hp=>?_⟩;obtain⟨T,S'⟩:=S.alloc hp R;refine h _ _ _ T S' (aD.mpr ⟨p,?_,rfl⟩);rw[<-S.len,Qc (Qf _)];simp
 .rw[Ji hl]at h;exact h.elim
def zG(S:aH K as m H)(hm:m[l]?=some (.lst xs)):∃a vs,as[l]?=some a/\H a=some (.lst vs)/\ab K as H xs vs:=by
 obtain⟨a,ha,vs,e,r⟩:=S.get hm;exact⟨a,vs,ha,e,r⟩
def zw (h:zi m l=some xs):m[l]?=some (.lst xs):=by
 unfold zi at h;cases e:m[l]? with
 |none=>rw[e]at h;cases h
 |some o=>cases o with
  |lst ys=>rw[e]at h;cases h;rfl
  |dct ks us=>rw[e]at h;cases h
def vJ (S:aH K as m H)(R:ag K as H w v)(h:yz m w=some xs):∃p vs,v=.ref p/\(bg K H p vs\/bG K H p vs)/\ab K as H xs vs:=by
 cases w with
 |tup ys=>
  cases h;obtain⟨b,vs,rfl,q,r⟩:=ah.mp R;exact⟨b,vs,rfl,.inr q,r⟩
 |rol ys=>
  cases h;obtain⟨b,vs,rfl,q,r⟩:=a8.mp R;exact⟨b,vs,rfl,.inl q.sq,r⟩
 |ref l=>
  obtain⟨b,hb,rfl⟩:=aD.mp R;obtain⟨a,vs,ha,e,r⟩:=zG S (zw h);rw[hb]at ha;cases ha;exact⟨b,vs,rfl,.inl (bg.of e),r⟩
 |non=>cases h
 |bl b=>cases h
 |int i=>cases h
 |str s=>cases h
noncomputable def eL:Bo->Hr
 |.add=>.Add |.sub=>.Sub |.mul=>.Mult |.fdiv=>.FloorDiv |.mod=>.Mod |.pow=>.Pow |.shr=>.RShift |.band=>.BitAnd
noncomputable def rB(K:Qb):Bo->R2
 |.add=>λx y H Q=>dg (λi j=>.int (i+j)) x y H Q\/(ou x y H Q\/(oU K x y H Q\/oQ K x y H Q))
 |.sub=>dg λi j=>.int (i-j)
 |.mul=>λx y H Q=>rI dJ (λi j=>.int (i*j)) x y H Q\/ot x y H Q
 |.fdiv=>rI oB λi j=>.int (i/j)
 |.mod=>rI (λ_ j=>0<j) λi j=>.int (i%j)
 |.pow=>rI oA λi j=>.int (i^j.toNat)
 |.shr=>rI (λ_ j=>0<=j) λi j=>.int (i/2^j.toNat)
 |.band=>dg λi j=>.int (Builtin.bitAnd i j)
def tW (op:Bo):bL X (HB (eL op)) (rB X.K op):=by
 cases op with
 |add=>exact dZ.or (dY.or (du.or C7))
 |sub=>exact AS
 |mul=>exact dX.or AD
 |fdiv=>exact CK
 |mod=>exact AR
 |pow=>exact AQ
 |shr=>exact AO
 |band=>exact AN
def C6 (h:0<=i):Builtin.bitAnd i 1=i%2:=by
 obtain⟨n,rfl⟩:=Int.eq_ofNat_of_zero_le h;show Int.ofNat (n &&& 1)=_;rw[Nat.and_one_is_mod];rfl
def wL (h:xk i=true):-(2^64)<i/\i<2^64:=by
 unfold xk nL at h;rw[QH,decide_eq_true_iff,decide_eq_true_iff]at h;lia
def yP [Decidable c](h:ak K as H Q (if c then r else .no)):c/\ak K as H Q r:=by
 by_cases hc:c
 .rw[Jh hc]at h;exact⟨hc,h⟩
 .rw[Ji hc]at h;exact h.elim
def C5 (h:ak K as H Q (ci .add (.ref a) (.ref b) m)):∃xs ys,m[a]?=some (.lst xs)/\m[b]?=some (.lst ys)/\ak K as H Q (alloc m (xs++ys)):=by
 unfold ci at h;dsimp only at h;generalize m[a]?=p at h ⊢;generalize m[b]?=q at h ⊢;cases p with
 |none=>exact h.elim
 |some o=>
  cases o with
  |dct ks us=>exact h.elim
  |lst xs=>
   cases q with
   |none=>exact h.elim
   |some o=>
    cases o with
    |dct ks us=>exact h.elim
    |lst ys=>exact⟨xs,ys,rfl,rfl,h⟩
def C4 (h:ak K as H Q (ci .mul (.ref a) (.int k) m)):∃xs,m[a]?=some (.lst xs)/\ak K as H Q (if -aF<=k/\k<=aF then alloc m (QJ k.toNat xs).flatten else .no):=by
 unfold ci at h;dsimp only at h;generalize m[a]?=p at h ⊢;cases p with
 |none=>exact h.elim
 |some o=>
  cases o with
  |dct ks us=>exact h.elim
  |lst xs=>exact⟨xs,rfl,h⟩
set_option tactic.hygienic true in
def A9 (S:aH K as m H)(Rx:ag K as H x v)(Ry:ag K as H y u)(h:ak K as H Q (ci op x y m)):rB K op v u H Q:=by
 cases x with
 |int i=>
  cases y with
  |int j=>
   obtain rfl:=aa.mp Rx;obtain rfl:=aa.mp Ry;cases op with
   |add=>exact .inl ⟨i,j,rfl,rfl,h.ok S (aa.mpr rfl)⟩
   |sub=>exact⟨i,j,rfl,rfl,h.ok S (aa.mpr rfl)⟩
   |mul=>
    obtain⟨hs,h⟩:=yP h;refine .inl ⟨i,j,rfl,rfl,?_,h.ok S (aa.mpr rfl)⟩;rcases Bool.or_eq_true_iff.mp hs with q|q
    .exact .inl (wL q)
    .exact .inr (wL q)
   |fdiv=>
    obtain⟨hs,h⟩:=yP h;exact⟨i,j,rfl,rfl,hs,h.ok S (aa.mpr rfl)⟩
   |mod=>
    obtain⟨hs,h⟩:=yP h;exact⟨i,j,rfl,rfl,hs,h.ok S (aa.mpr rfl)⟩
   |pow=>
    obtain⟨⟨h1,h2,h3⟩,h⟩:=yP h;have h4:=wL h3;exact⟨i,j,rfl,rfl,⟨h1,h2,by lia⟩,h.ok S (aa.mpr rfl)⟩
   |shr=>
    obtain⟨hs,h⟩:=yP h;exact⟨i,j,rfl,rfl,hs.1,h.ok S (aa.mpr rfl)⟩
   |band=>
    obtain⟨⟨h1,rfl⟩,h'⟩:=yP h;refine⟨i,1,rfl,rfl,?_⟩;show Q (.int (Builtin.bitAnd i 1)) H;rw[C6 h1];exact h'.ok S (aa.mpr rfl)
  |_=>exact h.elim
 |ref a=>
  obtain⟨pa,ha,rfl⟩:=aD.mp Rx;cases y with
  |ref b=>
   obtain⟨pb,hb,rfl⟩:=aD.mp Ry;cases op with
   |add=>
    obtain⟨xs,ys,e1,e2,h⟩:=C5 h;obtain⟨pa',va,ha',ea,ra⟩:=zG S e1;rw[ha]at ha';cases ha';obtain⟨pb',vb,hb',eb,rb⟩:=zG S e2;rw[hb]at hb';cases hb';obtain⟨hl,q⟩:=yW S (ra.append rb) h;rw[QF]at hl;exact .inr (.inl ⟨pa,pb,va,vb,rfl,rfl,ea,eb,Qs hl yA,q⟩)
   |_=>exact h.elim
  |int k=>
   obtain rfl:=aa.mp Ry;cases op with
   |mul=>
    obtain⟨xs,e1,h⟩:=C4 h;obtain⟨hk,h⟩:=yP h;obtain⟨pa',va,ha',ea,ra⟩:=zG S e1;rw[ha]at ha';cases ha';obtain⟨hl,q⟩:=yW S (ra.rep k.toNat) h;rw[pW]at hl;have hlim:(aF:Int)=100000:=rfl;exact .inr ⟨pa,k,va,rfl,rfl,ea,by lia,by lia,by rw[Nat.mul_comm];exact Qs hl yA,q⟩
   |_=>exact h.elim
  |_=>exact h.elim
 |tup xs=>
  cases y with
  |tup ys=>
   cases op with
   |add=>
    obtain⟨hc,h⟩:=yP h;obtain⟨pa,va,rfl,qa,ra⟩:=ah.mp Rx;obtain⟨pb,vb,rfl,qb,rb⟩:=ah.mp Ry;have la:=ra.length;have lb:=rb.length;by_cases hv:va=[]
    .subst hv;obtain rfl:xs=[]:=by
      cases xs with
      |nil=>rfl
      |cons x xs=>simp at la
     exact .inr (.inr (.inr ⟨pa,pb,vb,rfl,rfl,qa,qb,h.ok S Ry⟩))
    refine .inr (.inr (.inl ⟨pa,pb,va,vb,rfl,rfl,qa,qb,hv,?_,λe=>?_,λe p hp=>?_⟩))
    .rw[<-la,<-lb];exact Qs hc yA
    .subst e;obtain rfl:ys=[]:=by
      cases ys with
      |nil=>rfl
      |cons y ys=>simp at lb
     refine h.ok S (ah.mpr ⟨pa,va,rfl,qa,?_⟩);rw[QW];exact ra
    .obtain ⟨T,S',R'⟩:=S.tup hp (ra.append rb);exact h _ _ _ T S' R'
   |_=>exact h.elim
  |_=>exact h.elim
 |_=>exact h.elim
end
end Mini
namespace Mini
open PySem PySem.Spec PyProof.Rows L2
open PySem.SeqAt
section
variable{X:Cx}{pins:List (Addr×Obj)}{σ:St}{s:GU}{as:List Addr}{H:Hp}{m:Me}
def gd (I:Inv X pins σ H s)(h1:bG X.K H a xs)(h2:bg X.K H a ys):False:=by
 obtain⟨its,_,p,_⟩:=I.tuple h1;obtain⟨its',_,q,_⟩:=I.list h2;exact ne_of_list_tuple q.isList (show s.heap.IsTuple a its.toArray from p) rfl
def o7 (I:Inv X pins σ H s)(h1:bG X.K H a xs)(h2:H a=some u)(h3:LD u):False:=by
 rcases h1 with (q|⟨o,q⟩)|⟨o,_,_,hk,_⟩
 .rw[h2]at q;cases q;exact h3
 .rw[h2]at q;cases q;exact h3
 .have:=(I.bs a o (I.ok.mod.kin a o hk)).2;rw[this]at h2;cases h2
def kJ (I:Inv X pins σ H s)(h1:KL X.K a xs)(h2:H a=some u):False:=by
 obtain⟨o,_,_,hk,_⟩:=h1;have:=(I.bs a o (I.ok.mod.kin a o hk)).2;rw[this]at h2;cases h2
mutual
theorem xE(I:Inv X pins σ H s)(S:aH X.K as m H):∀(w w':Wd) (v:V),ag X.K as H w v->ag X.K as H w' v->w=w'
 |.non,w',v,h,h'=>by
  obtain rfl:=am.mp h;cases w' with
  |non=>rfl
  |bl b=>cases ai.mp h'
  |int i=>cases aa.mp h'
  |str x=>cases ay.mp h'
  |tup xs=>obtain⟨_,_,e,_⟩:=ah.mp h';cases e
  |rol xs=>obtain⟨_,_,e,_⟩:=a8.mp h';cases e
  |ref l=>obtain⟨_,_,e⟩:=aD.mp h';cases e
 |.bl c,w',v,h,h'=>by
  obtain rfl:=ai.mp h;cases w' with
  |non=>cases am.mp h'
  |bl b=>cases ai.mp h';rfl
  |int i=>cases aa.mp h'
  |str x=>cases ay.mp h'
  |tup xs=>obtain⟨_,_,e,_⟩:=ah.mp h';cases e
  |rol xs=>obtain⟨_,_,e,_⟩:=a8.mp h';cases e
  |ref l=>obtain⟨_,_,e⟩:=aD.mp h';cases e
 |.int c,w',v,h,h'=>by
  obtain rfl:=aa.mp h;cases w' with
  |non=>cases am.mp h'
  |bl b=>cases ai.mp h'
  |int i=>cases aa.mp h';rfl
  |str x=>cases ay.mp h'
  |tup xs=>obtain⟨_,_,e,_⟩:=ah.mp h';cases e
  |rol xs=>obtain⟨_,_,e,_⟩:=a8.mp h';cases e
  |ref l=>obtain⟨_,_,e⟩:=aD.mp h';cases e
 |.str c,w',v,h,h'=>by
  obtain rfl:=ay.mp h;cases w' with
  |non=>cases am.mp h'
  |bl b=>cases ai.mp h'
  |int i=>cases aa.mp h'
  |str x=>
   have e:=ay.mp h';injection e with e
   injection e with e
   have:c=x:=by simpa using Jf WO e
   rw[this]
  |tup xs=>obtain⟨_,_,e,_⟩:=ah.mp h';cases e
  |rol xs=>obtain⟨_,_,e,_⟩:=a8.mp h';cases e
  |ref l=>obtain⟨_,_,e⟩:=aD.mp h';cases e
 |.tup xs,w',v,h,h'=>by
  obtain⟨a,vs,rfl,q,r⟩:=ah.mp h;cases w' with
  |non=>cases am.mp h'
  |bl b=>cases ai.mp h'
  |int i=>cases aa.mp h'
  |str x=>cases ay.mp h'
  |tup ys=>
   obtain⟨b,us,e,q',r'⟩:=ah.mp h';cases e;obtain rfl:=I.tuple_inj q q';rw[bY I S xs ys vs r r']
  |rol ys=>
   obtain⟨b,us,e,q',r'⟩:=a8.mp h';cases e;exact(gd I q q'.sq).elim
  |ref l=>
   obtain⟨b,hb,e⟩:=aD.mp h';cases e;obtain⟨u,e2,e3⟩:=S.isLst (Qm hb);exact(o7 I q e2 e3).elim
 |.rol xs,w',v,h,h'=>by
  obtain⟨a,vs,rfl,q,r⟩:=a8.mp h;cases w' with
  |non=>cases am.mp h'
  |bl b=>cases ai.mp h'
  |int i=>cases aa.mp h'
  |str x=>cases ay.mp h'
  |tup ys=>
   obtain⟨b,us,e,q',r'⟩:=ah.mp h';cases e;exact(gd I q' q.sq).elim
  |rol ys=>
   obtain⟨b,us,e,q',r'⟩:=a8.mp h';cases e;obtain rfl:=I.list_inj q.sq q'.sq;rw[bY I S xs ys vs r r']
  |ref l=>
   obtain⟨b,hb,e⟩:=aD.mp h';cases e;obtain⟨u,e2,e3⟩:=S.isLst (Qm hb);rcases q with⟨o,q⟩|q
   .rw[e2]at q;cases q;exact e3.elim
   .exact (kJ I q e2).elim
 |.ref l,w',v,h,h'=>by
  obtain⟨a,ha,rfl⟩:=aD.mp h;obtain⟨u,e2,e3⟩:=S.isLst (Qm ha);cases w' with
  |non=>cases am.mp h'
  |bl b=>cases ai.mp h'
  |int i=>cases aa.mp h'
  |str x=>cases ay.mp h'
  |tup ys=>
   obtain⟨b,us,e,q',r'⟩:=ah.mp h';cases e;exact(o7 I q' e2 e3).elim
  |rol ys=>
   obtain⟨b,us,e,q',r'⟩:=a8.mp h';cases e;rcases q' with⟨o,q'⟩|q'
   .rw[e2]at q';cases q';exact e3.elim
   .exact (kJ I q' e2).elim
  |ref l'=>
   obtain⟨b,hb,e⟩:=aD.mp h';cases e;obtain⟨i1,e1⟩:=Qa.mp ha;obtain⟨i2,e2⟩:=Qa.mp hb;rw[(WU S.nd).mp (e1.trans e2.symm)]
theorem bY(I:Inv X pins σ H s)(S:aH X.K as m H):∀(xs ys:List Wd) (vs:List V),ab X.K as H xs vs->ab X.K as H ys vs->xs=ys
 |[],ys,vs,h,h'=>by
  obtain rfl:=au.mp h;cases ys with
  |nil=>rfl
  |cons y ys=>obtain⟨_,_,e,_⟩:=aj.mp h';cases e
 |x::xs,ys,vs,h,h'=>by
  obtain⟨v,r,rfl,q,t⟩:=aj.mp h;cases ys with
  |nil=>cases au.mp h'
  |cons y ys=>
   obtain⟨v',r',e,q',t'⟩:=aj.mp h';cases e;rw[xE I S x y v q q',bY I S xs ys r t t']
end
theorem ji:∀{xs ys:List Wd}{r:Bool},cg p xs ys=some r ->
  ∃f:Nat->Bool,(∀j x y,xs[j]?=some x->ys[j]?=some y->p x y=some (f j))/\r=(Wn (min xs.length ys.length)).all f
 |[],ys,r,h=>by
  unfold cg at h;cases h;exact⟨λ_=>true,λj x y e=>by simp at e,by simp⟩
 |_::_,[],r,h=>by
  unfold cg at h;cases h;exact⟨λ_=>true,λj x y _ e=>by simp at e,by simp⟩
 |x::xs,y::ys,r,h=>by
  unfold cg at h;cases hp:p x y with
  |none=>rw[hp]at h;cases h
  |some b=>
   rw[hp]at h;simp only[]at h;cases hr:cg p xs ys with
   |none=>rw[hr]at h;cases h
   |some r'=>
    rw[hr]at h;cases h;obtain⟨f,hf,e⟩:=ji (xs:=xs) (ys:=ys) hr;refine⟨λj=>match j with|0=>b|j+1=>f j,λj x' y' e1 e2=>?_,?_⟩
    .cases j with
     |zero=>simp at e1 e2;subst e1;subst e2;exact hp
     |succ j=>exact hf j x' y' (by simpa using e1) (by simpa using e2)
    .rw[WE,WE,Nat.succ_min_succ,Vf,WX,List.all_map,e];rfl
theorem gf:∀(k:Nat) (w:Wd) (r:Bool),bM m k w w=some r->r=true
 |0,w,r,h=>by cases h
 |k+1,w,r,h=>by
  cases w with
  |non=>cases h;rfl
  |bl b=>cases h;simp
  |int i=>cases h;simp
  |str x=>cases h;simp
  |tup xs=>
   replace h:(cg (bM m k) xs xs).map (· && decide (xs.length=xs.length))=some r:=h
   cases hr:cg (bM m k) xs xs with
   |none=>rw[hr]at h;cases h
   |some r'=>
    rw[hr]at h;simp only[QP,decide_true,Bool.and_true]at h;cases h;obtain⟨f,hf,rfl⟩:=ji hr;rw[Wp];intro j hj;have hj':j<xs.length:=by simpa using hj
    exact gf k xs[j] (f j) (hf j xs[j] xs[j] (by simp[hj']) (by simp[hj']))
  |rol xs=>cases h
  |ref l=>
   replace h:(if l=l then(if aJ m l then some true else none)else match m[l]?,m[l]? with
    |some (.lst xs),some (.lst ys)=>if xs.length=ys.length then cg (bM m k) xs ys else some false
    |_,_=>none)=some r:=h
   simp only[if_true]at h;split at h
   .cases h;rfl
   .cases h
structure EX(A:Hc)(s:GU)(u u':Value)(r:Bool):Prop where
 it:EqAt A s u u' r
 eq:RcAt A s u u' r
 ne:RcNeAt A s u u' (! r)
def aN (S:aH X.K as m H)(I:Inv X pins σ H s)(h:aJ m l=true)(R:ag X.K as H (.ref l) v)(ru:RelV v u):∃b its,u=.ref b/\s.heap.IsList b its:=by
 unfold aJ at h;cases e:m[l]? with
 |none=>rw[e]at h;cases h
 |some o=>
  cases o with
  |dct ks us=>rw[e]at h;cases h
  |lst xs=>
   obtain⟨b,hb,rfl⟩:=aD.mp R;obtain⟨a,vs,ha,ea,ra⟩:=zG S e;rw[hb]at ha;cases ha;obtain rfl:u=.ref b:=ru;obtain⟨its,_,p,_⟩:=I.list (bg.of ea);exact⟨b,_,rfl,p.isList⟩
def xU (I:Inv X pins σ H s)(R:ag X.K as H (.tup xs) v)(ru:RelV v u):∃b vs its,v=.ref b/\u=.ref b/\ab X.K as H xs vs/\ax vs its/\s.heap.IsTuple b its.toArray:=by
 obtain⟨b,vs,rfl,q,r⟩:=ah.mp R;obtain rfl:u=.ref b:=ru;obtain⟨its,rv,p,_⟩:=I.tuple q;exact⟨b,vs,its,rfl,rfl,r,rv,p⟩
set_option tactic.hygienic true in
theorem gh(I:Inv X pins σ H s)(S:aH X.K as m H):∀(k:Nat) (A:Hc) (w w':Wd) (v v':V) (u u':Value) (r:Bool),A.units+k<HF->bM m k w w'=some r ->
  ag X.K as H w v->ag X.K as H w' v'->RelV v u->RelV v' u'->EX A s u u' r
 |0,_,_,_,_,_,_,_,_,_,h,_,_,_,_=>by cases h
 |k+1,A,w,w',v,v',u,u',r,hu,h,R,R',ru,ru'=>by
  have hu0:A.units<HF:=by lia
  have hu1:A.in1.units+k<HF:=by show A.units+1+k<HF;lia
  -- items,pair by pair
  have pairs:∀{xs ys:List Wd}{vs us:List V}{its its':List Value}{r:Bool},ab X.K as H xs vs->ab X.K as H ys us->ax vs its->ax us its'->cg (bM m k) xs ys=some r ->
    ∃f:Nat->Bool,(∀j (h1:j<its.toArray.size) (h2:j<its'.toArray.size),EqAt A.in1 s its.toArray[j] its'.toArray[j] (f j))/\r=(Wn (min its.toArray.size its'.toArray.size)).all f/\its.toArray.size=xs.length/\its'.toArray.size=ys.length:=by
   intro xs ys vs us its its' r r1 r2 rv rv' he;obtain⟨f,hf,e⟩:=ji he;have l1:=r1.length;have l2:=r2.length;have l3:=rv.length;have l4:=rv'.length;have s1:its.toArray.size=xs.length:=by simp;lia
   have s2:its'.toArray.size=ys.length:=by simp;lia
   refine⟨f,λj h1 h2=>?_,by rw[e,s1,s2],s1,s2⟩;have hj:j<xs.length:=by lia
   have hj2:j<ys.length:=by lia
   obtain⟨v1,e1,q1⟩:=r1.get (i:=j) (x:=xs[j]) (by simp[hj]);obtain⟨v2,e2,q2⟩:=r2.get (i:=j) (x:=ys[j]) (by simp[hj2]);obtain⟨u1,e3,q3⟩:=rv.get e1;obtain⟨u2,e4,q4⟩:=rv'.get e2;have z:=gh I S k A.in1 xs[j] ys[j] v1 v2 u1 u2 (f j) hu1 (hf j _ _ (by simp[hj]) (by simp[hj2])) q1 q2 q3 q4;obtain⟨_,e5⟩:=Qa.mp e3;obtain⟨_,e6⟩:=Qa.mp e4;have g1:its.toArray[j]=u1:=by simpa using e5
   have g2:its'.toArray[j]=u2:=by simpa using e6
   rw[g1,g2];exact z.it
  cases w with
  |tup xs=>
   obtain⟨b,vs,its,rfl,rfl,r1,rv,p⟩:=xU I R ru;cases w' with
   |tup ys=>
    obtain⟨b',vs',its',rfl,rfl,r1',rv',p'⟩:=xU I R' ru';have rc:RcAt A s (.ref b) (.ref b') r/\RcNeAt A s (.ref b) (.ref b') (! r):=by
     replace h:(cg (bM m k) xs ys).map (· && decide (xs.length=ys.length))=some r:=h
     cases hr:cg (bM m k) xs ys with
     |none=>rw[hr]at h;cases h
     |some r'=>
      rw[hr]at h;simp only[QP]at h;cases h;obtain⟨f,hf,e,z1,z2⟩:=pairs r1 r1' rv rv' hr;have e2:((Wn (min its.toArray.size its'.toArray.size)).all f&&its.toArray.size==its'.toArray.size)=(r'&&decide (xs.length=ys.length)):=by
       rw[e,z1,z2];congr 1
      exact⟨e2▸RcAt.tuples p p' hu0 hf,e2▸RcNeAt.tuples p p' hu0 hf⟩
    refine⟨?_,rc.1,rc.2⟩;by_cases hb:b=b'
    .subst hb;have e:=xE I S _ _ _ R R';rw[<-e]at h;obtain rfl:=gf _ _ _ h;exact EqAt.same _
    .exact EqAt.of_refs hb rc.1
   |ref l=>
    replace h:(if aJ m l&&true then some false else none)=some r:=h
    split at h
    .rename_i hl;cases h;obtain⟨b',its',rfl,q⟩:=aN S I (QB.mp hl).1 R' ru';exact⟨EqAt.tuple_list p q hu0,RcAt.tuple_list p q hu0,RcNeAt.tuple_list p q hu0⟩
    .cases h
   |rol ys=>cases h
   |non=>
    cases h;obtain rfl:=am.mp R';obtain rfl:u'=.none:=ru';exact⟨EqAt.tuple_none p hu0,RcAt.tuple_none p hu0,RcNeAt.tuple_none p hu0⟩
   |bl c=>
    cases h;obtain rfl:=ai.mp R';obtain rfl:u'=.bool c:=ru';exact⟨EqAt.tuple_bool c p hu0,RcAt.tuple_bool c p hu0,RcNeAt.tuple_bool c p hu0⟩
   |int i=>
    cases h;obtain rfl:=aa.mp R';obtain⟨t,rfl⟩:=ru';exact⟨EqAt.tuple_int i t p hu0,RcAt.tuple_int i t p hu0,RcNeAt.tuple_int i t p hu0⟩
   |str x=>
    cases h;obtain rfl:=ay.mp R';obtain⟨t,rfl⟩:=ru';exact⟨EqAt.tuple_str _ t p hu0,RcAt.tuple_str _ t p hu0,RcNeAt.tuple_str _ t p hu0⟩
  |ref l=>
   cases w' with
   |ref l'=>
    obtain⟨b,hb,rfl⟩:=aD.mp R;obtain⟨b',hb',rfl⟩:=aD.mp R';obtain rfl:u=.ref b:=ru;obtain rfl:u'=.ref b':=ru'
    replace h:(if l=l' then(if aJ m l then some true else none)else match m[l]?,m[l']? with
     |some (.lst xs),some (.lst ys)=>if xs.length=ys.length then cg (bM m k) xs ys else some false
     |_,_=>none)=some r:=h
    by_cases hll:l=l'
    .subst hll;rw[hb]at hb';cases hb';rw[Jh rfl]at h;split at h
     .rename_i hil;cases h;obtain⟨c,its,ec,q⟩:=aN S I hil R (u:=.ref b) rfl;cases ec;have al:(Wn its.size).all (λ_=>true)=true:=by simp
      have e1:=RcAt.lists (A:=A) (e:=λ_=>true) q q rfl hu0 (λj h1 h2=>EqAt.same _);have e2:=RcNeAt.lists (A:=A) (e:=λ_=>true) q q rfl hu0 (λj h1 h2=>EqAt.same _);rw[al]at e1 e2;exact⟨EqAt.same _,e1,e2⟩
     .cases h
    .rw[Ji hll]at h;have hbb:b≠b':=by
      rintro rfl;obtain⟨i1,e1⟩:=Qa.mp hb;obtain⟨i2,e2⟩:=Qa.mp hb';exact hll ((WU S.nd).mp (e1.trans e2.symm))
     split at h
     .rename_i xs ys m1 m2;obtain⟨a1,vs,h1,g1,r1⟩:=zG S m1;rw[hb]at h1;cases h1;obtain⟨a2,us,h2,g2,r2⟩:=zG S m2;rw[hb']at h2;cases h2;obtain⟨its,rv,p,_⟩:=I.list (bg.of g1);obtain⟨its',rv',p',_⟩:=I.list (bg.of g2);split at h
      .rename_i hl;obtain⟨f,hf,e,z1,z2⟩:=pairs r1 r2 rv rv' h;have hsz:its.toArray.size=its'.toArray.size:=by rw[z1,z2,hl]
       rw[<-hsz,Nat.min_self]at e;have e1:=RcAt.lists p.isList p'.isList hsz hu0 hf;have e2:=RcNeAt.lists p.isList p'.isList hsz hu0 hf;rw[<-e]at e1 e2;exact⟨EqAt.of_refs hbb e1,e1,e2⟩
      .rename_i hl;cases h;have l1:=r1.length;have l2:=r2.length;have l3:=rv.length;have l4:=rv'.length;have hsz:(its.toArray.size != its'.toArray.size)=true:=by
        simp;lia
       have e1:=RcAt.lists_lengths (A:=A) p.isList p'.isList hsz hu0;exact⟨EqAt.of_refs hbb e1,e1,RcNeAt.lists_lengths p.isList p'.isList hsz hu0⟩
     .cases h
   |tup ys=>
    replace h:(if aJ m l&&true then some false else none)=some r:=h
    split at h
    .rename_i hl;cases h;obtain⟨b,its,rfl,q⟩:=aN S I (QB.mp hl).1 R ru;obtain⟨b',vs',its',rfl,rfl,r1',rv',p'⟩:=xU I R' ru';exact⟨EqAt.list_tuple q p' hu0,RcAt.list_tuple q p' hu0,RcNeAt.list_tuple q p' hu0⟩
    .cases h
   |rol ys=>
    replace h:(if aJ m l&&false then some false else none)=some r:=h
    simp only[Bool.and_false,QT,if_false]at h;cases h
   |non=>
    replace h:(if aJ m l&&true then some false else none)=some r:=h
    split at h
    .rename_i hl;cases h;obtain⟨b,its,rfl,q⟩:=aN S I (QB.mp hl).1 R ru;obtain rfl:=am.mp R';obtain rfl:u'=.none:=ru';exact⟨EqAt.list_none q hu0,RcAt.list_none q hu0,RcNeAt.list_none q hu0⟩
    .cases h
   |bl c=>
    replace h:(if aJ m l&&true then some false else none)=some r:=h
    split at h
    .rename_i hl;cases h;obtain⟨b,its,rfl,q⟩:=aN S I (QB.mp hl).1 R ru;obtain rfl:=ai.mp R';obtain rfl:u'=.bool c:=ru';exact⟨EqAt.list_bool c q hu0,RcAt.list_bool c q hu0,RcNeAt.list_bool c q hu0⟩
    .cases h
   |int i=>
    replace h:(if aJ m l&&true then some false else none)=some r:=h
    split at h
    .rename_i hl;cases h;obtain⟨b,its,rfl,q⟩:=aN S I (QB.mp hl).1 R ru;obtain rfl:=aa.mp R';obtain⟨t,rfl⟩:=ru';exact⟨EqAt.list_int i t q hu0,RcAt.list_int i t q hu0,RcNeAt.list_int i t q hu0⟩
    .cases h
   |str x=>
    replace h:(if aJ m l&&true then some false else none)=some r:=h
    split at h
    .rename_i hl;cases h;obtain⟨b,its,rfl,q⟩:=aN S I (QB.mp hl).1 R ru;obtain rfl:=ay.mp R';obtain⟨t,rfl⟩:=ru';exact⟨EqAt.list_str _ t q hu0,RcAt.list_str _ t q hu0,RcNeAt.list_str _ t q hu0⟩
    .cases h
  |rol xs=>
   cases w'<;>first|cases h|(replace h:(if aJ m _&&false then some false else none)=some r:=h;simp at h)
  |non=>
   obtain rfl:=am.mp R;obtain rfl:u=.none:=ru;cases w' with
   |rol ys=>cases h
   |ref l=>
    replace h:(if aJ m l&&true then some false else none)=some r:=h
    split at h
    .rename_i hl;cases h;obtain⟨b,its,rfl,q⟩:=aN S I (QB.mp hl).1 R' ru';exact⟨EqAt.none_list q hu0,RcAt.none_list q hu0,RcNeAt.none_list q hu0⟩
    .cases h
   |tup ys=>
    cases h;obtain⟨b',vs',its',rfl,rfl,r1',rv',p'⟩:=xU I R' ru';exact⟨EqAt.none_tuple p' hu0,RcAt.none_tuple p' hu0,RcNeAt.none_tuple p' hu0⟩
   |non=>
    cases h;obtain rfl:=am.mp R';obtain rfl:u'=.none:=ru';exact⟨EqAt.same _,RcAt.none_none,RcNeAt.none_none⟩
   |bl c=>
    cases h;obtain rfl:=ai.mp R';obtain rfl:u'=.bool c:=ru';exact⟨EqAt.none_bool c,RcAt.none_bool c,RcNeAt.none_bool c⟩
   |int i=>
    cases h;obtain rfl:=aa.mp R';obtain⟨t,rfl⟩:=ru';exact⟨EqAt.none_int i t,RcAt.none_int i t,RcNeAt.none_int i t⟩
   |str x=>
    cases h;obtain rfl:=ay.mp R';obtain⟨t,rfl⟩:=ru';exact⟨EqAt.none_str _ t,RcAt.none_str _ t,RcNeAt.none_str _ t⟩
  |bl c=>
   obtain rfl:=ai.mp R;obtain rfl:u=.bool c:=ru;cases w' with
   |rol ys=>cases h
   |ref l=>
    replace h:(if aJ m l&&true then some false else none)=some r:=h
    split at h
    .rename_i hl;cases h;obtain⟨b,its,rfl,q⟩:=aN S I (QB.mp hl).1 R' ru';exact⟨EqAt.bool_list c q hu0,RcAt.bool_list c q hu0,RcNeAt.bool_list c q hu0⟩
    .cases h
   |tup ys=>
    cases h;obtain⟨b',vs',its',rfl,rfl,r1',rv',p'⟩:=xU I R' ru';exact⟨EqAt.bool_tuple c p' hu0,RcAt.bool_tuple c p' hu0,RcNeAt.bool_tuple c p' hu0⟩
   |non=>
    cases h;obtain rfl:=am.mp R';obtain rfl:u'=.none:=ru';exact⟨EqAt.bool_none c,RcAt.bool_none c,RcNeAt.bool_none c⟩
   |bl d=>
    cases h;obtain rfl:=ai.mp R';obtain rfl:u'=.bool d:=ru';exact⟨EqAt.bool_bool c d,RcAt.bool_bool c d,RcNeAt.bool_bool c d⟩
   |int i=>
    cases h;obtain rfl:=aa.mp R';obtain⟨t,rfl⟩:=ru';have e:decide (b2i c=i)=((if c then(1:Int)else 0)==i):=by
     show decide ((if c then(1:Int)else 0)=i)=_;rw[Vn]
    rw[e];exact⟨EqAt.bool_int c i t,RcAt.bool_int c i t,RcNeAt.bool_int c i t⟩
   |str x=>
    cases h;obtain rfl:=ay.mp R';obtain⟨t,rfl⟩:=ru';exact⟨EqAt.bool_str c _ t,RcAt.bool_str c _ t,RcNeAt.bool_str c _ t⟩
  |int i=>
   obtain rfl:=aa.mp R;obtain⟨t,rfl⟩:=ru;cases w' with
   |rol ys=>cases h
   |ref l=>
    replace h:(if aJ m l&&true then some false else none)=some r:=h
    split at h
    .rename_i hl;cases h;obtain⟨b,its,rfl,q⟩:=aN S I (QB.mp hl).1 R' ru';exact⟨EqAt.int_list i t q hu0,RcAt.int_list i t q hu0,RcNeAt.int_list i t q hu0⟩
    .cases h
   |tup ys=>
    cases h;obtain⟨b',vs',its',rfl,rfl,r1',rv',p'⟩:=xU I R' ru';exact⟨EqAt.int_tuple i t p' hu0,RcAt.int_tuple i t p' hu0,RcNeAt.int_tuple i t p' hu0⟩
   |non=>
    cases h;obtain rfl:=am.mp R';obtain rfl:u'=.none:=ru';exact⟨EqAt.int_none i t,RcAt.int_none i t,RcNeAt.int_none i t⟩
   |bl d=>
    cases h;obtain rfl:=ai.mp R';obtain rfl:u'=.bool d:=ru';have e:decide (i=b2i d)=(i==(if d then(1:Int)else 0)):=by
     show decide (i=(if d then(1:Int)else 0))=_;rw[Vn]
    rw[e];exact⟨EqAt.int_bool i t d,RcAt.int_bool i t d,RcNeAt.int_bool i t d⟩
   |int j=>
    cases h;obtain rfl:=aa.mp R';obtain⟨t',rfl⟩:=ru';have e:decide (i=j)=(i==j):=by rw[Vn]
    rw[e];exact⟨EqAt.int_int i t j t',RcAt.int_int i t j t',RcNeAt.int_int i t j t'⟩
   |str x=>
    cases h;obtain rfl:=ay.mp R';obtain⟨t',rfl⟩:=ru';exact⟨EqAt.int_str i t _ t',RcAt.int_str i t _ t',RcNeAt.int_str i t _ t'⟩
  |str x=>
   obtain rfl:=ay.mp R;obtain⟨t,rfl⟩:=ru;cases w' with
   |rol ys=>cases h
   |ref l=>
    replace h:(if aJ m l&&true then some false else none)=some r:=h
    split at h
    .rename_i hl;cases h;obtain⟨b,its,rfl,q⟩:=aN S I (QB.mp hl).1 R' ru';exact⟨EqAt.str_list _ t q hu0,RcAt.str_list _ t q hu0,RcNeAt.str_list _ t q hu0⟩
    .cases h
   |tup ys=>
    cases h;obtain⟨b',vs',its',rfl,rfl,r1',rv',p'⟩:=xU I R' ru';exact⟨EqAt.str_tuple _ t p' hu0,RcAt.str_tuple _ t p' hu0,RcNeAt.str_tuple _ t p' hu0⟩
   |non=>
    cases h;obtain rfl:=am.mp R';obtain rfl:u'=.none:=ru';exact⟨EqAt.str_none _ t,RcAt.str_none _ t,RcNeAt.str_none _ t⟩
   |bl d=>
    cases h;obtain rfl:=ai.mp R';obtain rfl:u'=.bool d:=ru';exact⟨EqAt.str_bool _ t d,RcAt.str_bool _ t d,RcNeAt.str_bool _ t d⟩
   |int j=>
    cases h;obtain rfl:=aa.mp R';obtain⟨t',rfl⟩:=ru';exact⟨EqAt.str_int _ t j t',RcAt.str_int _ t j t',RcNeAt.str_int _ t j t'⟩
   |str y=>
    cases h;obtain rfl:=ay.mp R';obtain⟨t',rfl⟩:=ru';have e:decide (x=y)=((⟨x.toArray⟩:Str) == ⟨y.toArray⟩):=by
     by_cases hxy:x=y
     .subst hxy;simp
     .have:¬(⟨x.toArray⟩:Str)=⟨y.toArray⟩:=λz=>by
       injection z with z
       exact hxy (by simpa using Jf WO z)
      rw[Jg hxy];exact(beq_eq_false_iff_ne.mpr this).symm
    rw[e];exact⟨EqAt.str_str _ t _ t',RcAt.str_str _ t _ t',RcNeAt.str_str _ t _ t'⟩
end
end Mini
namespace L2
open PySem PySem.Spec PyProof.Rows PySem.SeqAt
section
variable{prog:GT}{w:GV}{A:Hc}{E:Value->GU->Prop}{s:GU}
def gk {stored:List Value}(hst:∀v∈stored,∃k' b,v=.ref b/\Iv (G9 prog w) s.heap k' b)(h:Q false s):He (Hf prog w) A (tableMayTell (.int i t) stored) Q E s:=by
 unfold tableMayTell;split
 .exact Hy h
 .rw[eqIsQuiet_byValue 8 (show carriedByValue (.int i t)=true from rfl)];refine Hs (Hy ?_);simp only[Bool.not_true,QT,if_false];refine Hs ?_;refine Ix _ (λrest r s'=>s'=s/\r=(none,())/\∀v∈rest,∃k' b,v=.ref b/\Iv (G9 prog w) s.heap k' b) _ ?_ ?_ _ _ ⟨rfl,rfl,hst⟩
  .rintro v rest r s' ⟨rfl,rfl,hr⟩;obtain⟨k',b,rfl,hk⟩:=hr v QR;refine Hs (wpAny_eqIsQuiet_tuple hk ?_);simp only[Bool.not_true,QT,if_false];exact Hy ⟨rfl,rfl,λv hv=>hr v (Qh _ hv)⟩
  .rintro r s' ⟨rfl,rfl,_⟩;exact Hy h
def Dj {xs:List TK}(hu:A.units<HF)(ho:s.heap.get? d=some o)(hd:o.data=.dict es ep)(he:es.toList=xs.map j7)(his:∀x∈xs,Iv (G9 prog w) s.heap x.1 x.2.1)(h:Q none s):
  He (Hf prog w) A (dictFind d (.int i t) (hashInt i)) Q E s:=by
 have hmem:∀e∈es,∃x∈xs,e=j7 x:=by
  intro e hin;have:e∈xs.map j7:=he▸Vo.mpr hin;obtain⟨x,hx,rfl⟩:=WQ.mp this;exact⟨x,hx,rfl⟩
 have hst:∀v∈(placesWithHash es.size (λi=>es[i]?.map (·.hash)) (hashInt i)).filterMap (λi=>es[i]?.map (·.key)),∃k' b,v=.ref b/\Iv (G9 prog w) s.heap k' b:=by
  intro v hv;obtain⟨j,_,hi⟩:=Vv.mp hv;cases hei:es[j]? with
  |none=>rw[hei]at hi;cases hi
  |some e=>
   rw[hei]at hi;obtain rfl:e.key=v:=by simpa using hi
   obtain⟨x,hx,rfl⟩:=hmem e (Vj hei);exact⟨x.1,x.2.1,rfl,his x hx⟩
 have hne:∀(e:DictEntry),e∈es->∀(Q:Bool->GU->Prop),Q false s->He (Hf prog w) A (eqBool e.key (.int i t)) Q E s:=by
  intro e hin Q q;obtain⟨x,hx,rfl⟩:=hmem e hin;obtain⟨ob,items,n,h1,h2,h3,_⟩:=his x hx;exact EqAt.tuple_int i t (show s.heap.IsTuple x.2.1 items from⟨ob,h1,h2,n,h3⟩) hu prog w E Q q
 unfold dictFind
 try with_reducible refine Ht ?_
 refine Hs (Iy ho hd ?_);dsimp only;by_cases hall:((Value.int i t::(placesWithHash es.size (λi=>es[i]?.map (·.hash)) (hashInt i)).filterMap (λi=>es[i]?.map (·.key))).all carriedByValue)=true
 .rw[Jh hall];unfold dictWalkPlain;refine Hs ?_;refine Ix _ (λ_ b s'=>s'=s/\b=(none,())) _ ?_ ?_ _ _ ⟨rfl,rfl⟩
  .rintro x rest b s' ⟨rfl,rfl⟩;cases hex:es[x]? with
   |none=>exact Hy ⟨rfl,rfl⟩
   |some e=>
    dsimp only;by_cases hh:(e.hash==hashInt i)=true
    .rw[Jh hh];refine Hs (Iz ho hd (Hs (hne e (Vj hex) _ (Hs (Iz ho hd ?_)))));show He _ _ (if(ep != ep)=true then _ else _) _ E _;rw[Ji (by simp)];simp only[QT,if_false];refine Hs (Io ?_);exact Hy ⟨rfl,rfl⟩
    .rw[Ji hh];exact Hy ⟨rfl,rfl⟩
  .rintro b s' ⟨rfl,rfl⟩;exact Hy h
 .rw[Ji hall];have hone:¬(((placesWithHash es.size (λi=>es[i]?.map (·.hash)) (hashInt i)).filterMap (λi=>es[i]?.map (·.key))) == [Value.int i t])=true:=by
   intro z;have z:=eq_of_beq z;obtain⟨_,b,e,_⟩:=hst (.int i t) (by rw[z];simp);cases e
  rw[Ji hone];refine Hs (gk hst ?_);rw[Ji (by simp)];refine Hs ?_;refine Ix _ (λ_ b s'=>s'=s/\b=(none,none)) _ ?_ ?_ _ _ ⟨rfl,rfl⟩
  .rintro x rest b s' ⟨rfl,rfl⟩;cases hex:es[x]? with
   |none=>exact Hy ⟨rfl,rfl⟩
   |some e=>
    dsimp only;by_cases hh:(e.hash==hashInt i)=true
    .rw[Jh hh];refine Hs (Iz ho hd (Hs (hne e (Vj hex) _ (Hs (Iz ho hd ?_)))));show He _ _ (if(ep != ep)=true then _ else _) _ E _;rw[Ji (by simp)];simp only[QT,if_false];refine Hs (Io ?_)
     first
      |exact Hy ⟨rfl,rfl⟩
      |(rw[Ji (by simp)];exact Hy ⟨rfl,rfl⟩)
      |exact Hs (Hy (Hy ⟨rfl,rfl⟩))
    .rw[Ji hh];exact Hy ⟨rfl,rfl⟩
  .rintro b s' ⟨rfl,rfl⟩;exact Hy h
def A8 (hu:A.units+1<HF)(hd:(d==G6)=false)(hm:s.heap.DictOfH (G8 (G9 prog w)) d xs)(h:Q (.bool false) {s with toks:=s.toks+1}):
  He (Hf prog w) A (HC .In (.int i t) (.ref d)) Q E s:=by
 show He _ _ (do return .bool (<-contains (.ref d) (.int i t))) Q E s;refine Hs ?_;unfold contains
 try with_reducible refine Ht ?_
 refine Hs (wpAny_specialOf hm.typeIs slot_dict_contains.lookup ?_);show He _ _ (if(some (Value.builtin "dict.__contains__")==some Value.none)=true then _ else _) _ E s;rw[Ji (by rw[beq_builtin_none];exact QS)];refine Hs (wpAny_callSpecialUnlessNone?_slot (name:=Str.ofString "__contains__") hm.typeIs slot_dict_contains
  (Ir slot_dict_contains hm.typeIs entry_dict_contains ?_ (args_dict_contains _ _)))
 obtain⟨o,es,ep,ho,_,hdd,he,his,hn⟩:=id hm;show He _ _ (dictGet d (.int i t) >>= _) _ _ s;refine Hs ?_;unfold dictGet
 try with_reducible refine Ht ?_
 refine Hs (wpAny_pyHash_int (Hs (Dj (s:={s with toks:=s.toks+1}) (xs:=xs) (by show A.units+1<HF;lia) ho hdd he his ?_)));refine Hy ?_;show He _ _ (Builtin.Dict.pendingKey? d (.int i t) >>= _) _ _ _;exact Hs (wpAny_pendingKey_other hd (Hy ⟨_,rfl,Hl (Hy h)⟩))
end
section
variable{X:Cx}{pins:List (Addr×Obj)}{σ:St}{H:Hp}{s:GU}
noncomputable def oq(K:Qb):R2:=λx y H Q=>∃d xs,y=.ref d/\yi K H d xs/\((∃i,x=.int i/\Q (.bl false) H)\/∃a ks,x=.ref a/\bG K H a (ks.map V.int)/\Q (.bl (Iw xs ks).isSome) H)
def A7(hu:X.A.units+64<HF):bL X (HC .In) (oq X.K):=by
 intro pins s σ H x y v u Q I rx ry h;obtain⟨d,xs,rfl,hd,h⟩:=h;cases ry;obtain⟨d0,dm⟩:=yH I hd;rcases h with⟨i,rfl,q⟩|⟨a,ks,rfl,hk,q⟩
 .obtain ⟨t,rfl⟩:=rx;exact A8 (by lia) d0 dm ⟨.bl false,H,I.tok _,rfl,q⟩
 .cases rx;exact wpAny_in_heap (knd:=G8 (G9 X.prog X.w)) (by show X.A.units+1<HF;lia) (y9 I hk) d0 dm ⟨.bl (Iw xs ks).isSome,H,I.tok _,rfl,q⟩
end
end L2
namespace Mini
open PySem PySem.Spec PyProof.Rows L2
section
variable{K:Qb}{as:List Addr}{H:Hp}{m:Me}{Q:VK}
theorem wM:∀{ws:List Wd}{k:List Int}{vs:List V},zX ws=some k->ab K as H ws vs->vs=k.map V.int
 |[],k,vs,h,r=>by cases h;rw[au.mp r];rfl
 |w::ws,k,vs,h,r=>by
  cases w with
  |int i=>
   have h':(zX ws).map (i::·)=some k:=h;obtain⟨k',e,rfl⟩:=QG.mp h';obtain⟨v,r',rfl,q,t⟩:=aj.mp r;rw[aa.mp q,wM e t];rfl
  |_=>cases h
def vK {l:Nat}(S:aH K as m H)(hm:m[l]?=some (.dct ks ws)):∃a xs vs,as[l]?=some a/\yi K H a xs/\xs.map (·.1)=ks/\ab K as H ws vs/\ax vs (xs.map (·.2.2))/\ks.Nodup:=by
 obtain⟨a,ha,xs,vs,r⟩:=S.get hm;exact⟨a,xs,vs,ha,r⟩
def bC {q:List Int}:(Iw xs q).isSome=true↔q∈xs.map (·.1):=by
 unfold Iw;rw[Option.isSome_map,List.find?_isSome];simp only[WQ,Jm]
def A6 (S:aH K as m H)(R:ag K as H x v)(R':ag K as H y u)(h:ie m x y=some b)(q:Q (.bl b) H):oq K v u H Q:=by
 unfold ie at h;cases y with
 |ref l=>
  obtain⟨a,ha,rfl⟩:=aD.mp R';dsimp only at h;cases e:m[l]? with
  |none=>rw[e]at h;cases h
  |some o=>
   cases o with
   |lst ys=>rw[e]at h;cases h
   |dct ks ws=>
    rw[e]at h;dsimp only at h;obtain⟨a',xs,vs,ha',td,rfl,_⟩:=vK S e;rw[ha]at ha';cases ha';refine⟨a,xs,rfl,td,?_⟩;cases x with
    |int i=>cases h;exact .inl ⟨i,aa.mp R,q⟩
    |tup us=>
     obtain⟨k,hk,rfl⟩:=QG.mp h;obtain⟨c,vs,rfl,sq,r⟩:=ah.mp R;rw[wM hk r]at sq;refine .inr ⟨c,k,rfl,sq,?_⟩;rw[show(Iw xs k).isSome=decide (k∈xs.map (·.1))from by
      rw[Vi,bC,Jm]]
     exact q
    |_=>cases h
 |_=>cases h
end
end Mini
namespace Mini
open PySem PySem.Spec PyProof.Rows L2
open PySem.SeqAt
noncomputable def cK:Co->HD
 |.eq=>.Eq |.ne=>.NotEq |.lt=>.Lt |.le=>.LtE |.isN=>.Is |.notN=>.IsNot |.isin=>.In 
noncomputable def rC(K:Qb)(op:Co):R2:=λx y H Q=>∃as m w w',aH K as m H/\ag K as H w x/\ag K as H w' y/\ak K as H Q (cn op w w' m)
section
variable{X:Cx}
def vL {K:Qb}(S:aH K as m H)(h:ak K as H Q (cI o m)):∃b,o=some b/\Q (.bl b) H:=by
 cases o with
 |none=>exact h.elim
 |some b=>exact⟨b,rfl,h.ok S (ai.mpr rfl)⟩
theorem pT:∀{ys:List Wd}{r:Bool},dz p x ys=some r ->
  ∃f:Wd->Bool,(∀y∈ys,p y x=some (f y))/\r=ys.any f
 |[],r,h=>by cases h;exact⟨λ_=>false,λy hy=>by simp at hy,rfl⟩
 |y::ys,r,h=>by
  unfold dz at h;cases hp:p y x with
  |none=>rw[hp]at h;cases h
  |some b=>
   rw[hp]at h;simp only[]at h;cases hr:dz p x ys with
   |none=>rw[hr]at h;cases h
   |some r'=>
    rw[hr]at h;cases h;obtain⟨f,hf,rfl⟩:=pT hr
    classical
    refine⟨λz=>(p z x).getD false,λz hz=>?_,?_⟩
    .rcases Qk.mp hz with rfl|hz
     .simp only[hp,Wg]
     .simp only[hf z hz,Wg]
    .rw[W9,hp];congr 1;refine Vi.mpr ?_;rw[WW,WW];constructor
     .rintro ⟨z,hz,e⟩;exact⟨z,hz,by rw[hf z hz];exact e⟩
     .rintro ⟨z,hz,e⟩;rw[hf z hz]at e;exact⟨z,hz,e⟩
def gl (I:Inv X pins σ H s)(S:aH X.K as m H)(hu:A.units+zS<HF)(R:ag X.K as H w v)(ru:RelV v u)(ry:ab X.K as H ys vs)(rv:ax vs its)(h:dz (bM m zS) w ys=some r):
  ∃e:Value->Bool,(∀y,y∈its.toArray->EqAt A s y u (e y))/\its.toArray.any e=r:=by
 obtain⟨f,hf,rfl⟩:=pT h
 classical
 -- the plain value of an item
 have pick:∀y,y∈its->∃z,z∈ys/\∃vz,ag X.K as H z vz/\RelV vz y:=λy hy=>by
  obtain⟨j,hj,rfl⟩:=WY.mp hy;have l1:=ry.length;have l2:=rv.length;have hj1:j<vs.length:=by lia
  obtain⟨u1,e1,q1⟩:=rv.get (i:=j) (x:=vs[j]) (by simp[hj1]);obtain⟨z,e2,q2⟩:=ry.back (i:=j) (v:=vs[j]) (by simp[hj1]);obtain⟨_,e3⟩:=Qa.mp e1;exact⟨z,Qm e2,vs[j],q2,by rw[e3];exact q1⟩
 let e:Value->Bool:=λy=>if hy:y∈its then f (Classical.choose (pick y hy))else false
 have he:∀y (hy:y∈its) z vz,z∈ys->ag X.K as H z vz->RelV vz y->e y=f z:=λy hy z vz hz hr hq=>by
  obtain⟨h1,vz',h2,h3⟩:=Classical.choose_spec (pick y hy);have:e y=f (Classical.choose (pick y hy)):=dif_pos hy;rw[this];have hv:vz'=vz:=h3.inj hq;subst hv;rw[xE I S _ _ _ h2 hr]
 refine⟨e,λy hy=>?_,?_⟩
 .have hy':y∈its:=by simpa using hy
  obtain⟨z,hz,vz,q1,q2⟩:=pick y hy';rw[he y hy' z vz hz q1 q2];exact(gh I S zS A z w vz v y u (f z) hu (hf z hz) q1 R q2 ru).it
 .refine Vi.mpr ?_;rw[List.any_toArray,WW,WW];constructor
  .rintro ⟨y,hy,ey⟩;obtain⟨z,hz,vz,q1,q2⟩:=pick y hy;rw[he y hy z vz hz q1 q2]at ey;exact⟨z,hz,ey⟩
  .rintro ⟨z,hz,ez⟩;obtain⟨j,hj,rfl⟩:=WY.mp hz;obtain⟨v1,e1,q1⟩:=ry.get (i:=j) (x:=ys[j]) (by simp[hj]);obtain⟨u1,e2,q2⟩:=rv.get e1;have hy:u1∈its:=Qm e2;exact⟨u1,hy,by rw[he u1 hy ys[j] v1 (List.getElem_mem hj) q1 q2];exact ez⟩
set_option tactic.hygienic true in
def vM(hu:X.A.units+64<HF)(op:Co):bL X (HC (cK op)) (rC X.K op):=by
 intro pins s σ H x y v u Q I rx ry h;obtain⟨as,m,w,w',S,R,R',q⟩:=h;have hd:zS=12:=rfl;have fin:∀{b:Bool},Q (.bl b) H->EP X pins σ Q (.bool b) s:=λ{b} q=>⟨.bl b,H,I,rfl,q⟩;have cmpI:∀{r:Int->Int->Bool},ak X.K as H Q (j8 r w w' m)->∃i j,x=.int i/\y=.int j/\Q (.bl (r i j)) H:=λ{r} q=>by
  unfold j8 at q;cases w with
  |int i=>
   cases w' with
   |int j=>exact⟨i,j,aa.mp R,aa.mp R',q.ok S (ai.mpr rfl)⟩
   |_=>exact q.elim
  |_=>exact q.elim
 cases op with
 |eq=>
  obtain⟨b,hb,q⟩:=vL S q;exact(gh I S zS X.A w w' x y v u b (by lia) hb R R' rx ry).eq X.prog X.w X.xe _ (fin q)
 |ne=>
  obtain⟨b,hb,q⟩:=vL S q;obtain⟨c,hc,rfl⟩:=QG.mp hb;exact(gh I S zS X.A w w' x y v u c (by lia) hc R R' rx ry).ne X.prog X.w X.xe _ (fin q)
 |isin=>
  simp only[cn]at q;split at q
  .rename_i ys hs;obtain⟨b,hb,q⟩:=vL S q;obtain⟨p,vs,rfl,hq,r⟩:=vJ S R' hs;obtain rfl:u=.ref p:=ry;rcases hq with hq|hq
   .obtain ⟨its,rv,pl,_⟩:=I.list hq;obtain⟨e,he,rfl⟩:=gl (A:=X.A.in1) I S (by show X.A.units+1+zS<HF;lia) R rx r rv hb;exact in_listAt e pl.isList he (fin q)
   .obtain ⟨its,rv,pl,_⟩:=I.tuple hq;obtain⟨e,he,rfl⟩:=gl (A:=X.A.in1) I S (by show X.A.units+1+zS<HF;lia) R rx r rv hb;exact in_tupleAt e (show s.heap.IsTuple p its.toArray from pl) he (fin q)
  .obtain ⟨b,hb,q⟩:=vL S q;exact A7 hu pins s σ H x y v u Q I rx ry (A6 S R R' hb q)
 |isN=>
  refine AL pins s σ H x y v u Q I rx ry ?_;simp only[cn]at q;split at q
  .exact ⟨am.mp R',by rw[am.mp R];exact q.ok S (ai.mpr rfl)⟩
  .rename_i hne;refine⟨am.mp R',?_⟩;have:x≠.non:=λz=>by
    subst z;exact hne (xE I S _ _ _ R (am.mpr rfl))
   rw[Jg this];exact q.ok S (ai.mpr rfl)
  .exact q.elim
 |notN=>
  refine CJ pins s σ H x y v u Q I rx ry ?_;simp only[cn]at q;split at q
  .exact ⟨am.mp R',by rw[am.mp R];exact q.ok S (ai.mpr rfl)⟩
  .rename_i hne;refine⟨am.mp R',?_⟩;have:x≠.non:=λz=>by
    subst z;exact hne (xE I S _ _ _ R (am.mpr rfl))
   rw[Jg this];exact q.ok S (ai.mpr rfl)
  .exact q.elim
 |lt=>exact t7 pins s σ H x y v u Q I rx ry (cmpI q)
 |le=>exact t6 pins s σ H x y v u Q I rx ry (cmpI q)
end
end Mini
namespace L2
open PySem PySem.Spec PyProof.Rows
section
open PySem.SeqAt
open PySem.AutoSeq1 (wpAny_loadPart')
open PySem.MeetsSeq PySem.MeetsSeq2 PySem.MeetsSeq3
noncomputable def cX(f g:Nat->Bool):Nat->Nat->Bool
 |_,0=>false
 |i,k+1=>if f i then cX f g (i+1) k else g i
noncomputable def dH(A:Hc)(s:GU)(x y:Value)(b:Bool):Prop:=∀(prog:GT) (w:GV) (E Q:Value->GU->Prop),Q (.bool b) s->He (Hf prog w) A (richCompare .Lt x y) Q E s
noncomputable def wl(A:Hc)(s:GU)(items items2:Array Value)(f g:Nat->Bool):Prop:=∀(j:Nat) (v u:Value),items[j]?=some v->items2[j]?=some u->EqAt A.in1 s v u (f j)/\dH A.in1 s v u (g j)
def Di(l b:Addr)(items items2:Array Value)(n n2:Nat)(dd dd2:Option Addr)(sl sl2:Array (Option Value))(hsz:items.size=items2.size)(f g':Nat->Bool)(k:Nat):
  ∀i:Nat,items.size-i=k->Meets (Builtin.«list.__eq__.loop» ⟨[.ref l,.ref b,Hz i,Hz 0],[]⟩)
   (λA R s=>s.heap.get? l=some {cls:=.type "list",dict:=dd,data:=.seq items n,slots:=sl}/\s.heap.get? b=some {cls:=.type "list",dict:=dd2,data:=.seq items2 n2,slots:=sl2}/\wl A s items items2 f g' /\
    R (.ok (.ret (.bool (cX f g' i k)))) s):=by
 induction k with
 |zero=>
  intro i hk prog w A R s h;obtain⟨hp,g,d,tk,os⟩:=s;obtain⟨hl,hb,_,h⟩:=h
  wp_walk using IA hl,IA hb
  have hi1:items[((i:Nat):Int).toNat]?=none:=by simp;lia
  have hi2:items2[((i:Nat):Int).toNat]?=none:=by simp;lia
  rw[hi1,hi2]
  wp_walk using IA hl,IA hb
  show R (.ok (.ret (.bool (decide (items.size<items2.size))))) _;rw[Jg (by lia)];exact h
 |succ k ih=>
  intro i hk prog w A R s h;obtain⟨hp,g,d,tk,os⟩:=s;obtain⟨hl,hb,hI,h⟩:=h
  wp_walk using IA hl,IA hb
  have hlt:i<items.size:=by lia
  have hlt2:i<items2.size:=by lia
  have hi1:items[((i:Nat):Int).toNat]?=some items[i]:=by simp[hlt]
  have hi2:items2[((i:Nat):Int).toNat]?=some items2[i]:=by simp[hlt2]
  have hc:((i:Int)+1)=((i+1:Nat):Int):=by push_cast;rfl
  obtain⟨he,hg⟩:=hI i items[i] items2[i] (by simp[hlt]) (by simp[hlt2])
  replace h:R (.ok (.ret (.bool (if f i then cX f g' (i+1) k else g' i)))) _:=h
  rw[hi1,hi2];refine Hs (he prog w _ _ ?_);cases e:f i with
  |true=>
   rw[e,Jh rfl]at h
   wp_walk
   rw[hc];exact⟨plainId_quiet plain_eq_loop _,codeAny_builtin entry_eq_loop (by
    rw[Around.under_plainId plain_eq_loop _];exact ih (i+1) (by lia) prog w A R _ ⟨hl,hb,hI,h⟩)⟩
  |false=>
   rw[e,Ji QS]at h
   wp_walk using IA hl,IA hb
   rw[hi1,hi2];have hri:=hg prog w
   wp_walk using hri
   exact h
def xO(l b:Addr)(items items2:Array Value)(n n2:Nat)(dd dd2:Option Addr)(sl sl2:Array (Option Value))(hsz:items.size=items2.size)(f g':Nat->Bool):
  Meets (Builtin.«list.__lt__» ⟨[.ref l,.ref b],[]⟩)
   (λA R s=>s.heap.get? l=some {cls:=.type "list",dict:=dd,data:=.seq items n,slots:=sl}/\s.heap.get? b=some {cls:=.type "list",dict:=dd2,data:=.seq items2 n2,slots:=sl2}/\wl A s items items2 f g' /\
    R (.ok (.ret (.bool (cX f g' 0 items.size)))) s):=by
 intro prog w A R s h;obtain⟨hp,g,d,tk,os⟩:=s;obtain⟨hl,hb,h⟩:=h;have f3:=AutoSeq1.sub_list_list
 wp_walk using IA hl,IA hb
 exact⟨plainId_quiet plain_eq_loop _,codeAny_builtin entry_eq_loop (by
  rw[Around.under_plainId plain_eq_loop _];exact Di l b items items2 n n2 dd dd2 sl sl2 hsz f g' _ 0 rfl prog w A R _ ⟨hl,hb,h⟩)⟩
noncomputable def cP(A:Hc)(s:GU)(x y:Value)(b:Bool):Prop:=
 ∀(prog:GT) (w:GV) (E:Value->GU->Prop) (Q:Bool->GU->Prop),Q b s->He (Hf prog w) A (oneLt' true x y) Q E s
theorem cP.items{A:Hc}{s:GU}{l b:Addr}{items items2:Array Value}{f g:Nat->Bool}(hl:s.heap.IsList l items)(hb:s.heap.IsList b items2)(hsz:items.size=items2.size)(hu:A.units<HF)(hI:wl A s items items2 f g):
  cP A s (.ref l) (.ref b) (cX f g 0 items.size):=λprog w E Q h=>by
 obtain⟨⟨cls,dd,data,sl⟩,ho,hc,n,hd⟩:=id hl;obtain⟨⟨cls2,dd2,data2,sl2⟩,ho2,hc2,n2,hd2⟩:=id hb;simp only at hc hd hc2 hd2;subst hc hd hc2 hd2;rw[oneLt'_eq];simp only[if_true];refine Hs (wpAny_cRoomFor hu ?_);refine Hs (wpAny_callSpecialIfBound?_slot (T:="list") ⟨_,ho,rfl⟩ PySem.F.slot_list_lt (Ib PySem.F.slot_list_lt ⟨_,ho,rfl⟩ PySem.F.entry_list_lt (PySem.F.args_list_lt_2 _ _) (xO l b items items2 n n2 dd dd2 sl sl2 hsz f g) ⟨ho,ho2,hI,?_⟩));exact Hl h
theorem dH.items{A:Hc}{s:GU}{l b:Addr}{items items2:Array Value}{f g:Nat->Bool}(hl:s.heap.IsList l items)(hb:s.heap.IsList b items2)(hsz:items.size=items2.size)(hu:A.units<HF)(hI:wl A s items items2 f g):
  dH A s (.ref l) (.ref b) (cX f g 0 items.size):=λprog w E Q h=>by
 obtain⟨⟨cls,dd,data,sl⟩,ho,hc,n,hd⟩:=id hl;obtain⟨⟨cls2,dd2,data2,sl2⟩,ho2,hc2,n2,hd2⟩:=id hb;simp only at hc hd hc2 hd2;subst hc hd hc2 hd2;exact richCompare_meets_room (op:=.Lt) ⟨_,ho,rfl⟩ ⟨_,ho2,rfl⟩ PySem.F.slot_list_lt PySem.F.entry_list_lt (PySem.F.args_list_lt_2 _ _) (xO l b items items2 n n2 dd dd2 sl sl2 hsz f g)
  ⟨ho,ho2,hI,show Value.bool (cX f g 0 items.size)≠Value.notImplemented/\Q (.bool (cX f g 0 items.size)) s from⟨(λx=>nomatch x),h⟩⟩ hu
theorem pS(x y:Nat->Int):∀(k i:Nat),cX (λj=>decide (x j=y j)) (λj=>decide (x j<y j)) i k=HT.lexLt ((List.range' i k).map x) ((List.range' i k).map y)
 |0,_=>rfl
 |k+1,i=>by
  rw[List.range'_succ,Q2,Q2,HT.aZ];show(if decide (x i=y i)then _ else _)=_;rw[pS x y k (i+1)];by_cases e:x i=y i
  .rw[Jh (Jk e),Jh e]
  .rw[Ji (by simp[e]),Ji e]
theorem pR:∀{a b c d:List Int},a.length=b.length->HT.lexLt (a++c) (b++d)=if a=b then HT.lexLt c d else HT.lexLt a b
 |[],[],c,d,_=>by simp
 |[],_::_,_,_,h=>by cases h
 |_::_,[],_,_,h=>by cases h
 |x::xs,y::ys,c,d,h=>by
  rw[WF,WF,HT.aZ,pR (Nat.succ.inj h)];by_cases e:x=y
  .subst e;by_cases e2:xs=ys
   .subst e2;simp
   .simp[e2,HT.aZ]
  .simp[e,HT.aZ]
noncomputable def bb(its:Array Value)(k:List Int):Prop:=its.size=k.length/\∀(j:Nat) (v:Value),its[j]?=some v->∃t,v=.int (k.getD j 0) t
def gm(k:List Int)(n:Nat)(h:n=k.length):(List.range' 0 n).map (λj=>k.getD j 0)=k:=by
 subst h;apply WR;intro i;by_cases hi:i<k.length
 .simp[hi,List.getElem?_range']
 .simp[hi]
def bb.lt (h1:bb i1 k1)(h2:bb i2 k2):wl A s i1 i2 (λj=>decide (k1.getD j 0=k2.getD j 0)) (λj=>decide (k1.getD j 0<k2.getD j 0)):=by
 intro j v u hv hu;obtain⟨t,rfl⟩:=h1.2 j v hv;obtain⟨t',rfl⟩:=h2.2 j u hu;exact⟨EqAt.int_int _ t _ t',λprog w E Q h=>HT.cW A.in1 s _ t _ t' prog w E Q h⟩
def bb.lex {i2:Array Value}(h1:bb i1 k1)(hl:k1.length=k2.length):cX (λj=>decide (k1.getD j 0=k2.getD j 0)) (λj=>decide (k1.getD j 0<k2.getD j 0)) 0 i1.size=HT.lexLt k1 k2:=by
 rw[pS,gm k1 _ h1.1,gm k2 _ (h1.1.trans hl)]
def bb.det (h1:bb its k1)(h2:bb its k2):k1=k2:=by
 apply Vy (h1.1.symm.trans h2.1);intro i a1 a2;have q:i<its.size:=by rw[h1.1];exact a1
 obtain⟨t,e1⟩:=h1.2 i its[i] (by simp[q]);obtain⟨t',e2⟩:=h2.2 i its[i] (by simp[q]);rw[e1]at e2;have:=(Value.int.inj e2).1;simpa [a1,a2]using this
def vN {s:GU}(hl:s.heap.IsList l i1)(hb:s.heap.IsList l i2):i1=i2:=by
 obtain⟨o,ho,_,n,hd⟩:=hl;obtain⟨o',ho',_,n',hd'⟩:=hb;rw[ho]at ho';cases ho';rw[hd]at hd';cases hd';rfl
def bb.eq (hl:s.heap.IsList l i1)(hb:s.heap.IsList b i2)(h1:bb i1 k1)(h2:bb i2 k2)(hk:k1.length=k2.length)(hu:A.units<HF):EqAt A s (.ref l) (.ref b) (decide (k1=k2)):=by
 have hall:(Wn i1.size).all (λj=>decide (k1.getD j 0=k2.getD j 0))=decide (k1=k2):=by
  rw[Vi,Wp,Jm];constructor
  .intro h;apply Vy hk;intro i a1 a2;have:=Jl (h i (List.mem_range.mpr (by rw[h1.1];exact a1)));simpa [a1,a2]using this
  .rintro rfl j _;simp
 by_cases e:l=b
 .subst e;obtain rfl:=vN hl hb;have:k1=k2:=h1.det h2;rw[Jk this];exact EqAt.same _
 .rw[<-hall];exact EqAt.of_refs e (RcAt.lists hl hb (by rw[h1.1,h2.1,hk]) hu λj q1 q2=>(bb.lt (A:=A) h1 h2 j _ _ (by simp[q1]) (by simp[q2])).1)
noncomputable def cA(s:GU)(c:Int)(n:Nat)(v:Value)(k:List Int):Prop:=
 ∃(l:Addr) (its:Array Value),v=.ref l/\s.heap.IsList l its/\k.length=n /\
  ((c=0/\bb its k)\/∃kk:List (List Int),2<=c/\k=kk.flatten/\its.size=kk.length/\∀(j:Nat) (u:Value) (q:List Int),its[j]?=some u->kk[j]?=some q->(q.length:Int)+1=c/\∃r ri,u=.ref r/\s.heap.IsList r ri/\bb ri q)
theorem cA.det (h:cA s c n v k)(h':cA s c n v k'):k=k':=by
 obtain⟨l,its,rfl,hl,hn,h⟩:=h;obtain⟨l',its',e,hl',hn',h'⟩:=h';cases e;obtain rfl:=vN hl hl';rcases h with⟨rfl,h⟩|⟨kk,hc,rfl,hz,h⟩
 .rcases h' with⟨_,h'⟩|⟨_,hc,_⟩
  .exact h.det h'
  .lia
 .rcases h' with⟨hc',_⟩|⟨kk',_,rfl,hz',h'⟩
  .lia
  .congr 1;apply Vy (hz.symm.trans hz');intro i a1 a2;have q:i<its.size:=by rw[hz];exact a1
   obtain⟨_,r,ri,e1,b1,c1⟩:=h i its[i] kk[i] (by simp[q]) (by simp[a1]);obtain⟨_,r',ri',e2,b2,c2⟩:=h' i its[i] kk'[i] (by simp[q]) (by simp[a2]);rw[e1]at e2;cases e2;obtain rfl:=vN b1 b2;exact c1.det c2
theorem vO:∀{kk:List (List Int)},(∀q∈kk,q.length=c)->kk.flatten.length=kk.length*c
 |[],_=>by simp
 |q::r,h=>by
  rw[QX,QF,vO λx hx=>h x (Qh _ hx),h q (by simp),WE,Nat.succ_mul];lia
theorem gn {a b:List (List Int)}(ha:∀q∈a,q.length=c)(hb:∀q∈b,q.length=c)(hl:a.length=b.length):∀(k i:Nat),k+i=a.length ->
  cX (λj=>decide (a.getD j []=b.getD j [])) (λj=>HT.lexLt (a.getD j []) (b.getD j [])) i k=HT.lexLt (a.drop i).flatten (b.drop i).flatten
 |0,i,h=>by
  rw[Wy (by lia),Wy (by lia)];rfl
 |k+1,i,h=>by
  have h1:i<a.length:=by lia
  have h2:i<b.length:=by lia
  rw[QM h1,QM h2,QX,QX,pR ((ha _ (by simp)).trans (hb _ (by simp)).symm),<-gn ha hb hl k (i+1) (by lia)];show(if decide (a.getD i []=b.getD i [])then _ else _)=_;have e1:a.getD i []=a[i]:=by simp[h1]
  have e2:b.getD i []=b[i]:=by simp[h2]
  rw[e1,e2];by_cases e:a[i]=b[i]
  .rw[Jh (Jk e),Jh e]
  .rw[Ji (by simp[e]),Ji e];show HT.lexLt (a.getD i []) (b.getD i [])=_;rw[e1,e2]
theorem cA.lt (hu:A.units+2<HF)(h:cA s c n v k)(h':cA s c n u k'):cP A s v u (HT.lexLt k k'):=by
 obtain⟨l,its,rfl,hl,hn,h⟩:=h;obtain⟨l',its',rfl,hl',hn',h'⟩:=h';have hk:k.length=k'.length:=hn.trans hn'.symm;rcases h with⟨rfl,h⟩|⟨kk,hc,rfl,hz,h⟩
 .rcases h' with⟨_,h'⟩|⟨_,hc,_⟩
  .rw[<-h.lex (i2:=its') hk];exact cP.items hl hl' (by rw[h.1,h'.1,hk]) (by lia) (h.lt h')
  .lia
 .rcases h' with⟨hc',_⟩|⟨kk',_,rfl,hz',h'⟩
  .lia
  .have e1:∀q∈kk,q.length=(c-1).toNat:=λq hq=>by
    obtain⟨i,hi⟩:=Qq hq;have z:i<its.size:=by rw[hz];exact(Qa.mp hi).1
    have:=(h i its[i] q (by simp[z]) hi).1;lia
   have e2:∀q∈kk',q.length=(c-1).toNat:=λq hq=>by
    obtain⟨i,hi⟩:=Qq hq;have z:i<its'.size:=by rw[hz'];exact(Qa.mp hi).1
    have:=(h' i its'[i] q (by simp[z]) hi).1;lia
   have e3:kk.length=kk'.length:=by
    rw[vO e1,vO e2]at hk;exact Nat.eq_of_mul_eq_mul_right (by lia) hk
   have e4:=gn e1 e2 e3 its.size 0 (by lia);rw[Vp,Vp]at e4;rw[<-e4];refine cP.items hl hl' (by lia) (by lia) λj v u hv hu'=>?_;have q1:j<its.size:=(W4.mp hv).1;have q2:j<its'.size:=(W4.mp hu').1;have g1:kk[j]?=some (kk.getD j []):=by simp[show j<kk.length by lia]
   have g2:kk'[j]?=some (kk'.getD j []):=by simp[show j<kk'.length by lia]
   obtain⟨l1,r,ri,rfl,b1,c1⟩:=h j v _ hv g1;obtain⟨l2,r',ri',rfl,b2,c2⟩:=h' j u _ hu' g2;have l3:(kk.getD j []).length=(kk'.getD j []).length:=by lia
   refine⟨bb.eq b1 b2 c1 c2 l3 (by show A.units+1<HF;lia),?_⟩;rw[<-c1.lex (i2:=ri') l3];exact dH.items b1 b2 (by rw[c1.1,c2.1,l3]) (by show A.units+1<HF;lia) (c1.lt c2)
end
section
theorem kK:∀(f n r:Nat),r<=1->IB f n r<=n+r
 |0,n,r,_=>Qf _
 |f+1,n,r,h=>by
  rw[minRun'_succ];split
  .exact Qf _
  .have e:=kK f (n/2) (max r (n%2)) (by lia);lia
theorem pQ:∀vs:List Value,List.map (λx:Value×Value=>x.snd) (vs.zip vs)=vs
 |[]=>rfl
 |v::r=>Jf (v::·) (pQ r)
end
section
variable{κ:IC}{prog:GT}{w:GV}{A:Hc}{E:Value->GU->Prop}{s:GU}
noncomputable def di(κ:IC)(prog:GT)(w:GV)(A:Hc)(E:Value->GU->Prop)(s:GU)(O:ID)(key:Keyed->O.α)(S:Keyed->Prop):Prop:=
 ∀(x y:Keyed) (st:IE) (Q:Option Bool->IE->Prop),S x->S y->kindOf st=κ->Q (some (O.blt (key x) (key y))) st->wpS (Hf prog w) A E s (lt' x y) Q st
variable{O:ID}{key:Keyed->O.α}{S:Keyed->Prop}
noncomputable def C3:Bool->Keyed->Array Keyed->Nat->Nat->Nat->StateT IE Sem (Option Nat):=sortPriv% PySem.Builtin.gallop
def zp {st:IE}(h:xs[i]?=some x)(q:Q x st):wpS (Hf prog w) A E s (elem' xs i) Q st:=by
 rw[elem'_eq,h];exact IF q
def yo (C:di κ prog w A E s O key S){st:IE}(hk:kindOf st=κ)(hS:S k)(h0:hint<n)(B:Nat->Bool)(hB:∀i,i<n->∃x,xs[base+i]?=some x/\S x/\B i=(if left then O.blt (key x) (key k)else ! O.blt (key k) (key x)))(mono:∀i j,i<=j->j<n->B j=true->B i=true)(h:∀r,r<=n->(∀i,i<r->B i=true)->(∀i,r<=i->i<n->B i=false)->Q (some r) st):
  wpS (Hf prog w) A E s (C3 left k xs base n hint) Q st:=by
 have bey:∀i,i<n->∀Q:Option Bool->IE->Prop,Q (some (B i)) st->wpS (Hf prog w) A E s (do
   let x <-elem' xs (base+i)
   if left=true then lt' x k else do
    let r <-lt' k x
    pure (Option.map (λx=>! x) r)) Q st:=by
  intro i hi Q q;obtain⟨x,hx,hs,e⟩:=hB i hi;refine IG (zp hx ?_);cases left with
  |true=>
   rw[Jh rfl];refine C x k st _ hs hS hk ?_;rw[Jh rfl]at e;rw[<-e];exact q
  |false=>
   rw[Ji (by simp)];refine IG (C k x st _ hS hs hk (IF ?_));rw[Ji (by simp)]at e;rw[QP,<-e];exact q
 have anti:∀i j,i<=j->j<n->B i=false->B j=false:=λi j h1 h2 h3=>by
  cases z:B j
  .rfl
  .rw[mono i j h1 h2 z]at h3;cases h3
 refine IG (bey hint h0 _ ?_);dsimp -zeta -zetaHave only
 extract_lets +onlyGivenNames jp
 have J:∀p q lo hi,lo<=hi->hi<=n->(∀i,i<lo->B i=true)->(∀i,hi<=i->i<n->B i=false)->wpS (Hf prog w) A E s (jp () p q lo hi) Q st:=by
  intro p q lo hi h1 h2 h3 h4;refine IG (IH (II (I:=λx c st'=>st=st'/\∃lo hi,c=(none,lo,hi)/\lo<=hi/\hi<=n/\hi-lo<=n-x/\(∀i,i<lo->B i=true)/\(∀i,hi<=i->i<n->B i=false))
   (Q:=λc st'=>st=st'/\∃hi,c=(none,hi,hi)/\hi<=n/\(∀i,i<hi->B i=true)/\(∀i,hi<=i->i<n->B i=false)) ?s2 ?f2 ⟨rfl,_,_,rfl,h1,h2,by lia,h3,h4⟩) ?p2)
  case f2=>
   rintro c st' ⟨rfl,lo,hi,rfl,b1,b2,b3,b4,b5⟩;have:lo=hi:=by lia
   subst this;exact⟨rfl,lo,rfl,b2,b4,b5⟩
  case s2=>
   rintro x c st' _ hx ⟨rfl,lo,hi,rfl,b1,b2,b3,b4,b5⟩;dsimp only;by_cases c1:lo ≥ hi
   .rw[Jh c1];have:lo=hi:=by lia
    subst this;exact IF ⟨rfl,lo,rfl,b2,b4,b5⟩
   .rw[Ji c1];refine IG (bey (lo+(hi-lo)/2) (by lia) _ ?_);dsimp only;cases hm:B (lo+(hi-lo)/2)with
    |false=>
     rw[Ji (by simp)];exact IF ⟨rfl,lo,lo+(hi-lo)/2,rfl,by lia,by lia,by lia,b4,λi h1 h2=>anti _ i h1 h2 hm⟩
    |true=>
     rw[Jh rfl];exact IF ⟨rfl,lo+(hi-lo)/2+1,hi,rfl,by lia,by lia,by lia,λi h1=>mono i _ (by lia) (by lia) hm,b5⟩
  case p2=>
   rintro c st' ⟨rfl,hi,rfl,b2,b4,b5⟩;dsimp only;exact IF (h hi b2 b4 b5)
 cases hr:B hint with
 |true=>
  rw[Jh rfl];refine IG (IH (II (I:=λx c st'=>st=st'/\∃last ofs,c=(none,last,ofs)/\last<ofs/\x+1<=ofs/\hint+last<n/\B (hint+last)=true)
   (Q:=λc st'=>st=st'/\∃last ofs,c=(none,last,ofs)/\last<ofs/\hint+last<n/\B (hint+last)=true/\(n-hint<=ofs\/(hint+ofs<n/\B (hint+ofs)=false))) ?s1 ?f1 ⟨rfl,0,1,rfl,by lia,by lia,h0,hr⟩) ?p1)
  case f1=>
   rintro c st' ⟨rfl,last,ofs,rfl,a1,a2,a3,a4⟩;exact⟨rfl,last,ofs,rfl,a1,a3,a4,.inl (by lia)⟩
  case s1=>
   rintro x c st' _ hx ⟨rfl,last,ofs,rfl,a1,a2,a3,a4⟩;dsimp only;by_cases c1:ofs ≥ n-hint
   .rw[Jh c1];exact IF ⟨rfl,last,ofs,rfl,a1,a3,a4,.inl c1⟩
   .rw[Ji c1];refine IG (bey (hint+ofs) (by lia) _ ?_);dsimp only;cases hm:B (hint+ofs)with
    |false=>
     rw[Jh (show(! false)=true from rfl)];exact IF ⟨rfl,last,ofs,rfl,a1,a3,a4,.inr ⟨by lia,hm⟩⟩
    |true=>
     rw[Ji (show ¬(! true)=true by decide)];exact IF ⟨rfl,ofs,2*ofs+1,rfl,by lia,by lia,by lia,hm⟩
  case p1=>
   rintro c st' ⟨rfl,last,ofs,rfl,a1,a3,a4,a5⟩;dsimp only;refine J last ofs _ _ (by lia) (by lia) (λi hi=>mono i (hint+last) (by lia) a3 a4) λi h1 h2=>?_;rcases a5 with a5|⟨a5,a6⟩
   .lia
   .exact anti (hint+ofs) i (by lia) h2 a6
 |false=>
  rw[Ji (by simp)];refine IG (IH (II (I:=λx c st'=>st=st'/\∃last ofs,c=(none,last,ofs)/\last<ofs/\x+1<=ofs/\last<=hint/\B (hint-last)=false)
   (Q:=λc st'=>st=st'/\∃last ofs,c=(none,last,ofs)/\last<ofs/\last<=hint/\B (hint-last)=false/\(hint+1<=ofs\/(ofs<=hint/\B (hint-ofs)=true))) ?s3 ?f3 ⟨rfl,0,1,rfl,by lia,by lia,by lia,hr⟩) ?p3)
  case f3=>
   rintro c st' ⟨rfl,last,ofs,rfl,a1,a2,a3,a4⟩;exact⟨rfl,last,ofs,rfl,a1,a3,a4,.inl (by lia)⟩
  case s3=>
   rintro x c st' _ hx ⟨rfl,last,ofs,rfl,a1,a2,a3,a4⟩;dsimp only;by_cases c1:ofs ≥ hint+1
   .rw[Jh c1];exact IF ⟨rfl,last,ofs,rfl,a1,a3,a4,.inl c1⟩
   .rw[Ji c1];refine IG (bey (hint-ofs) (by lia) _ ?_);dsimp only;cases hm:B (hint-ofs)with
    |true=>
     rw[Jh rfl];exact IF ⟨rfl,last,ofs,rfl,a1,a3,a4,.inr ⟨by lia,hm⟩⟩
    |false=>
     rw[Ji (by simp)];exact IF ⟨rfl,ofs,2*ofs+1,rfl,by lia,by lia,by lia,hm⟩
  case p3=>
   rintro c st' ⟨rfl,last,ofs,rfl,a1,a3,a4,a5⟩;dsimp only;refine J last ofs _ _ (by lia) (by lia) (λi hi=>?_) λi h1 h2=>anti _ i h1 h2 a4;rcases a5 with a5|⟨a5,a6⟩
   .lia
   .exact mono i (hint-ofs) (by lia) (by lia) a6
end
section
variable{O:ID}{key:Keyed->O.α}
noncomputable def Le(O:ID)(key:Keyed->O.α)(x y:Keyed):Prop:=O.kle (key x) (key y)
noncomputable def aP(O:ID)(key:Keyed->O.α)(l:List Keyed):Prop:=l.Pairwise (Le O key)
def Le.trans{x y z:Keyed}(h1:Le O key x y)(h2:Le O key y z):Le O key x z:=KeyOrd.kle_trans h1 h2
def aP.drop_le (h:aP O key l)(hx:l[i]?=some x):∀y∈l.drop i,Le O key x y:=by
 intro y hy;obtain⟨hi,rfl⟩:=Qa.mp hx;rw[QM hi]at hy;rcases Qk.mp hy with rfl|hy
 .exact KeyOrd.kle_refl _
 .have h2:aP O key (l.drop i):=h.sublist (Wb i l);rw[QM hi]at h2;exact(Wq.mp h2).1 y hy
def aP.at_le (h:aP O key l){j:Nat}(hij:i<=j)(hx:l[i]?=some x)(hy:l[j]?=some y):Le O key x y:=by
 refine h.drop_le hx y ?_;have:(l.drop i)[j-i]?=some y:=by rw[Q4,show i+(j-i)=j by lia];exact hy
 exact Qm this
structure MI(O:ID)(key:Keyed->O.α)(X Y:List Keyed)(ia ib:Nat)(L:List Keyed):Prop where
 ha:ia<=X.length
 hb:ib<=Y.length
 pm:L.Perm (X.take ia++Y.take ib)
 so:aP O key L
 la:∀z∈L,∀x∈X.drop ia,Le O key z x
 lb:∀z∈L,∀y∈Y.drop ib,Le O key z y
noncomputable def xb(O:ID)(key:Keyed->O.α)(X Y r:List Keyed):Prop:=aP O key r/\r.Perm (X++Y)
variable{X Y L:List Keyed}{ia ib:Nat}
def zM (h1:aP O key l)(h2:aP O key r)(h:∀x∈l,∀y∈r,Le O key x y):aP O key (l++r):=List.pairwise_append.mpr ⟨h1,h2,h⟩
def MI.done(M:MI O key X Y ia ib L)(hX:aP O key X)(hY:aP O key Y)(h:ia=X.length\/ib=Y.length):xb O key X Y (L++X.drop ia++Y.drop ib):=by
 refine⟨?_,?_⟩
 .rcases h with rfl|rfl
  .rw[WV,QW];exact zM M.so (hY.sublist (Wb _ _)) M.lb
  .rw[WV,QW];exact zM M.so (hX.sublist (Wb _ _)) M.la
 .refine ((M.pm.append_right _).append_right _).trans ?_;have e1:(X.take ia++Y.take ib++X.drop ia++Y.drop ib).Perm (X.take ia++(X.drop ia++Y.take ib)++Y.drop ib):=by
   refine WB.append_right _ ?_;rw[Qj];exact WB.append_left _ Wh
  refine e1.trans ?_;rw[<-Qj (X.take ia),QE,Qj,QE]
def MI.last(M:MI O key X Y ia ib L)(hX:aP O key X)(hY:aP O key Y)(hl:∀y∈Y,∀x,X[X.length-1]?=some x->Le O key y x)(h:ia+1=X.length):xb O key X Y (L++Y.drop ib++X.drop ia):=by
 have e:X.drop ia=[X[ia]'(by lia)]:=by
  rw[QM (by lia),h,WV]
 refine⟨?_,?_⟩
 .rw[Qj];refine zM M.so (zM (hY.sublist (Wb _ _)) (hX.sublist (Wb _ _)) ?_) ?_
  .intro y hy x hx;rw[e]at hx;rw[Qr.mp hx];exact hl y (Wl hy) _ (by rw[show X.length-1=ia by lia];simp)
  .intro z hz y hy;rcases Ql.mp hy with hy|hy
   .exact M.lb z hz y hy
   .exact M.la z hz y hy
 .have:=M.pm;refine((M.pm.append_right _).append_right _).trans ?_;have e1:(X.take ia++Y.take ib++Y.drop ib++X.drop ia).Perm (X.take ia++Y++X.drop ia):=by
   rw[Qj (X.take ia),QE]
  refine e1.trans ?_;rw[Qj];refine(WB.append_left _ Wh).trans ?_;rw[<-Qj,QE]
def zR {l:List Keyed}(h:l[i]?=some x):l.take (i+1)=l.take i++[x]:=by
 obtain⟨hi,rfl⟩:=Qa.mp h;rw[List.take_succ_eq_append_getElem hi]
def wm {l:List Keyed}(h:i<=j)(hx:x∈l.drop j):x∈l.drop i:=by
 have:l.drop j=(l.drop i).drop (j-i):=by rw[Wu];congr 1;lia
 rw[this]at hx;exact Wl hx
def MI.pushA(M:MI O key X Y ia ib L)(hX:aP O key X){x:Keyed}(hx:X[ia]?=some x)(h:∀y∈Y.drop ib,Le O key x y):MI O key X Y (ia+1) ib (L++[x]):=by
 have hi:=(Qa.mp hx).1;have hm:x∈X.drop ia:=by
  obtain⟨_,rfl⟩:=Qa.mp hx;rw[QM hi];exact QR
 refine⟨by lia,M.hb,?_,zM M.so (by simp[aP]) (λz hz y hy=>by rw[Qr.mp hy];exact M.la z hz x hm),λz hz y hy=>?_,λz hz y hy=>?_⟩
 .rw[zR hx];refine(M.pm.append_right _).trans ?_;rw[Qj,Qj];exact WB.append_left _ Wh
 .rcases Ql.mp hz with hz|hz
  .exact M.la z hz y (wm (by lia) hy)
  .rw[Qr.mp hz];exact hX.drop_le hx y (wm (by lia) hy)
 .rcases Ql.mp hz with hz|hz
  .exact M.lb z hz y hy
  .rw[Qr.mp hz];exact h y hy
def MI.pushB(M:MI O key X Y ia ib L)(hY:aP O key Y){y:Keyed}(hy:Y[ib]?=some y)(h:∀x∈X.drop ia,Le O key y x):MI O key X Y ia (ib+1) (L++[y]):=by
 have hi:=(Qa.mp hy).1;have hm:y∈Y.drop ib:=by
  obtain⟨_,rfl⟩:=Qa.mp hy;rw[QM hi];exact QR
 refine⟨M.ha,by lia,?_,zM M.so (by simp[aP]) (λz hz x hx=>by rw[Qr.mp hx];exact M.lb z hz y hm),λz hz x hx=>?_,λz hz x hx=>?_⟩
 .rw[zR hy,<-Qj];exact M.pm.append_right _
 .rcases Ql.mp hz with hz|hz
  .exact M.la z hz x hx
  .rw[Qr.mp hz];exact h x hx
 .rcases Ql.mp hz with hz|hz
  .exact M.lb z hz x (wm (by lia) hx)
  .rw[Qr.mp hz];exact hY.drop_le hy x (wm (by lia) hx)
def kL {l:List Keyed}(h:l[i+k]?=some x):(l.drop i).take (k+1)=(l.drop i).take k++[x]:=zR (by rw[Q4];exact h)
theorem MI.blockA(M:MI O key X Y ia ib L)(hX:aP O key X):∀k,ia+k<=X.length->(∀i,i<k->∀x,X[ia+i]?=some x->∀y∈Y.drop ib,Le O key x y)->MI O key X Y (ia+k) ib (L++(X.drop ia).take k)
 |0,_,_=>by simpa using M
 |k+1,h,hl=>by
  have q:=M.blockA hX k (by lia) λi hi=>hl i (by lia);have hx:X[ia+k]?=some X[ia+k]:=by simp
  have:=q.pushA hX hx (hl k (by lia) _ hx);rw[kL hx,<-Qj];exact this
theorem MI.blockB(M:MI O key X Y ia ib L)(hY:aP O key Y):∀k,ib+k<=Y.length->(∀i,i<k->∀y,Y[ib+i]?=some y->∀x∈X.drop ia,Le O key y x)->MI O key X Y ia (ib+k) (L++(Y.drop ib).take k)
 |0,_,_=>by simpa using M
 |k+1,h,hl=>by
  have q:=M.blockB hY k (by lia) λi hi=>hl i (by lia);have hx:Y[ib+k]?=some Y[ib+k]:=by simp
  have:=q.pushB hY hx (hl k (by lia) _ hx);rw[kL hx,<-Qj];exact this
end
section
variable{O:ID}{key:Keyed->O.α}{S:Keyed->Prop}{a b:Array Keyed}
noncomputable def Eqv(st st':IE):Prop:=kindOf st'=kindOf st/\IJ st'=IJ st/\IK st'=IK st/\IL st'=IL st
def Eqv.refl(st:IE):Eqv st st:=⟨rfl,rfl,rfl,rfl⟩
def oo(p a b:Array Keyed)(i j:Nat):(p++a.extract i++b.extract j).toList=p.toList++a.toList.drop i++b.toList.drop j:=by
 simp only[W1,Wr,Wf];rw[Wo (by simp),Wo (by simp)]
def om(p a:Array Keyed)(i k:Nat):(p++a.extract i (i+k)).toList=p.toList++(a.toList.drop i).take k:=by
 simp only[W1,Wr,Wf];rw[show i+k-i=k by lia]
def gp (M:MI O key a.toList b.toList ia ib p.toList)(hX:aP O key a.toList)(hY:aP O key b.toList)(h:ia=a.size\/ib=b.size):xb O key a.toList b.toList (p++a.extract ia++b.extract ib).toList:=by
 rw[oo];exact M.done hX hY h
def fI (M:MI O key a.toList b.toList ia ib p.toList)(hX:aP O key a.toList)(hY:aP O key b.toList)(hl:∀y∈b.toList,∀x,a.toList[a.toList.length-1]?=some x->Le O key y x)(h:ia+1=a.size):xb O key a.toList b.toList (p++b.extract ib++a.extract ia).toList:=by
 rw[oo];exact M.last hX hY hl h
def o6 {p:Array Keyed}(M:MI O key a.toList b.toList ia ib p.toList)(hX:aP O key a.toList)(hx:a[ia]?=some x)(h:∀y∈b.toList.drop ib,Le O key x y):MI O key a.toList b.toList (ia+1) ib (p.push x).toList:=by
 rw[WN];exact M.pushA hX (by simpa using hx) h
def qH {p:Array Keyed}(M:MI O key a.toList b.toList ia ib p.toList)(hY:aP O key b.toList)(hy:b[ib]?=some y)(h:∀x∈a.toList.drop ia,Le O key y x):MI O key a.toList b.toList ia (ib+1) (p.push y).toList:=by
 rw[WN];exact M.pushB hY (by simpa using hy) h
def C2 (M:MI O key a.toList b.toList ia ib p.toList)(hX:aP O key a.toList)(hk:ia+k<=a.size)(h:∀i,i<k->∀x,a.toList[ia+i]?=some x->∀y∈b.toList.drop ib,Le O key x y):MI O key a.toList b.toList (ia+k) ib (p++a.extract ia (ia+k)).toList:=by
 rw[om];exact M.blockA hX k hk h
def C0 (M:MI O key a.toList b.toList ia ib p.toList)(hY:aP O key b.toList)(hk:ib+k<=b.size)(h:∀i,i<k->∀y,b.toList[ib+i]?=some y->∀x∈a.toList.drop ia,Le O key y x):MI O key a.toList b.toList ia (ib+k) (p++b.extract ib (ib+k)).toList:=by
 rw[om];exact M.blockB hY k hk h
variable{κ:IC}{prog:GT}{w:GV}{A:Hc}{E:Value->GU->Prop}{s:GU}
def jj {x:StateT IE Sem α}{Q:α->IE->Prop}{st:IE}(h:∀q,q=Q->wpS (Hf prog w) A E s x q st):wpS (Hf prog w) A E s x Q st:=h Q rfl
def gq {x:StateT IE Sem α}{Q:α->IE->Prop}{st:IE}(h:∀t,t=st->wpS (Hf prog w) A E s x Q t):wpS (Hf prog w) A E s x Q st:=h st rfl
def gr [Decidable c]{J:Nat->StateT IE Sem α}{Q:α->IE->Prop}{st:IE}(h:∀m,wpS (Hf prog w) A E s (J m) Q st):wpS (Hf prog w) A E s (if c then J i else J j) Q st:=by split<;>exact h _
noncomputable def Dh:Array Keyed->Array Keyed->StateT IE Sem (Array Keyed):=sortPriv% PySem.Builtin.mergeLo
def gs (C:di κ prog w A E s O key S){st:IE}(hk:kindOf st=κ)(hX:aP O key a.toList)(hY:aP O key b.toList)(hSa:∀x∈a.toList,S x)(hSb:∀x∈b.toList,S x)(hb0:0<b.size)(ha0:0<a.size)(hfirst:∀x∈a.toList,∀y,b[0]?=some y->Le O key y x)(hl:∀y∈b.toList,∀x,a.toList[a.toList.length-1]?=some x->Le O key y x)(h:∀r st',Eqv st st'->xb O key a.toList b.toList r.toList->Q r st'):
  wpS (Hf prog w) A E s (Dh a b) Q st:=by
 have atA:∀i,i<a.size->∃x,a[i]?=some x/\S x/\a.toList[i]?=some x:=λi hi=>⟨a[i],by simp[hi],hSa _ (by simp),by simp[hi]⟩;have atB:∀i,i<b.size->∃x,b[i]?=some x/\S x/\b.toList[i]?=some x:=λi hi=>⟨b[i],by simp[hi],hSb _ (by simp),by simp[hi]⟩;have gA:∀(ia:Nat) (v:Keyed) (i:Nat),ia+i<a.size->∃x,a[ia+i]?=some x/\S x/\(! O.blt (key v) (key (a.getD (ia+i) v)))=(if false=true then O.blt (key x) (key v)else ! O.blt (key v) (key x)):=by
  intro ia v i hi;obtain⟨x,hx,sx,_⟩:=atA (ia+i) hi;exact⟨x,hx,sx,by rw[Ji (by simp),QY,hx];rfl⟩
 have gB:∀(ib:Nat) (u:Keyed) (i:Nat),ib+i<b.size->∃x,b[ib+i]?=some x/\S x/\O.blt (key (b.getD (ib+i) u)) (key u)=(if true=true then O.blt (key x) (key u)else ! O.blt (key u) (key x)):=by
  intro ib u i hi;obtain⟨x,hx,sx,_⟩:=atB (ib+i) hi;exact⟨x,hx,sx,by rw[Jh rfl,QY,hx];rfl⟩
 have dA:∀(i:Nat) (v x:Keyed),a.toList[i]?=some x->a.getD i v=x:=λi v x hx=>by rw[QY,<-QC,hx];rfl
 have dB:∀(i:Nat) (v x:Keyed),b.toList[i]?=some x->b.getD i v=x:=λi v x hx=>by rw[QY,<-QC,hx];rfl
 have mA:∀(ia:Nat) (v:Keyed) (i j:Nat),i<=j->j<a.size-ia->(! O.blt (key v) (key (a.getD (ia+j) v)))=true->(! O.blt (key v) (key (a.getD (ia+i) v)))=true:=by
  intro ia v i j hij hj hB;obtain⟨x,hx,_,hx'⟩:=atA (ia+i) (by lia);obtain⟨y,hy,_,hy'⟩:=atA (ia+j) (by lia);rw[dA _ _ _ hy']at hB;rw[dA _ _ _ hx'];have e:Le O key x v:=Le.trans (hX.at_le (by lia) hx' hy') (show O.blt (key v) (key y)=false from by simpa using hB);simpa using (show O.blt (key v) (key x)=false from e)
 have mB:∀(ib:Nat) (u:Keyed) (i j:Nat),i<=j->j<b.size-ib->O.blt (key (b.getD (ib+j) u)) (key u)=true->O.blt (key (b.getD (ib+i) u)) (key u)=true:=by
  intro ib u i j hij hj hB;obtain⟨x,hx,_,hx'⟩:=atB (ib+i) (by lia);obtain⟨y,hy,_,hy'⟩:=atB (ib+j) (by lia);rw[dB _ _ _ hy']at hB;rw[dB _ _ _ hx'];exact KeyOrd.klt_of_kle_of_klt (hY.at_le (by lia) hx' hy') hB
 have lowA:∀(ia:Nat) (v:Keyed) (k:Nat),(∀i,i<k->(! O.blt (key v) (key (a.getD (ia+i) v)))=true)->∀i,i<k->∀x,a.toList[ia+i]?=some x->Le O key x v:=by
  intro ia v k hk i hi x hx;have:=hk i hi;rw[dA _ _ _ hx]at this;exact(show O.blt (key v) (key x)=false from by simpa using this)
 have highA:∀(ia:Nat) (v:Keyed) (k:Nat),(∀i,k<=i->i<a.size-ia->(! O.blt (key v) (key (a.getD (ia+i) v)))=false)->∀x∈a.toList.drop (ia+k),Le O key v x:=by
  intro ia v k hk x hx;obtain⟨i,hi⟩:=Qq hx;rw[Q4]at hi;have hlt:ia+k+i<a.size:=(Qa.mp hi).1;have:=hk (k+i) (by lia) (by lia);rw[show ia+(k+i)=ia+k+i by lia,dA _ _ _ hi]at this;exact KeyOrd.kle_of_klt (show O.blt (key v) (key x)=true from by simpa using this)
 have lowB:∀(ib:Nat) (u:Keyed) (k:Nat),(∀i,i<k->O.blt (key (b.getD (ib+i) u)) (key u)=true)->∀i,i<k->∀y,b.toList[ib+i]?=some y->Le O key y u:=by
  intro ib u k hk i hi x hx;have:=hk i hi;rw[dB _ _ _ hx]at this;exact KeyOrd.kle_of_klt this
 have upA:∀(ib:Nat) (u:Keyed) (k:Nat),(∀i,k<=i->i<b.size-ib->O.blt (key (b.getD (ib+i) u)) (key u)=false)->∀y∈b.toList.drop (ib+k),Le O key u y:=by
  intro ib u k hk x hx;obtain⟨i,hi⟩:=Qq hx;rw[Q4]at hi;have hlt:ib+k+i<b.size:=(Qa.mp hi).1;have:=hk (k+i) (by lia) (by lia);rw[show ib+(k+i)=ib+k+i by lia,dB _ _ _ hi]at this;exact this
 obtain⟨y0,hy0,_,hy0'⟩:=atB 0 hb0;refine IG (IM (Io ⟨rfl,?_⟩));refine IG (zp hy0 ?_);dsimp -zeta -zetaHave only;have M0:MI O key a.toList b.toList 0 1 (#[y0]:Array Keyed).toList:=by
  have e:MI O key a.toList b.toList 0 0 (#[]:Array Keyed).toList:=⟨Ww _,Ww _,by simp,by simp[aP],by simp,by simp⟩;exact qH e hY hy0 (λx hx=>hfirst x (by simpa using hx) y0 hy0)
 by_cases c1:1=b.size
 .rw[Jh (by simpa using c1)];exact IF (h _ _ (.refl _) (gp M0 hX hY (.inr c1)))
 rw[Ji (by simpa using c1)];by_cases c2:0+1=a.size
 .rw[Jh (by simpa using c2)];exact IF (h _ _ (.refl _) (fI M0 hX hY hl c2))
 rw[Ji (by simpa using c2)];refine IG (IN ?_);refine IG (IH (II (I:=λx c st'=>Eqv st st'/\∃out ia ib mg,c=(none,out,ia,ib,mg)/\MI O key a.toList b.toList ia ib out.toList/\ia+1<a.size/\ib<b.size/\x+1<=ia+ib)
  (Q:=λc st'=>Eqv st st'/\∃r out ia ib mg,c=(some r,out,ia,ib,mg)/\xb O key a.toList b.toList r.toList) ?s1 ?f1 ⟨.refl _,_,_,_,_,rfl,M0,by lia,by lia,by lia⟩) ?p1)
 case p1=>
  rintro c st' ⟨hE,r,out,ia,ib,mg,rfl,hg⟩;exact IF (h _ _ hE hg)
 case f1=>
  rintro c st' ⟨hE,out,ia,ib,mg,rfl,M,h1,h2,h3⟩;lia
 case s1=>
  rintro x0 c st0 _ hx0 ⟨hE0,out0,ia0,ib0,mg0,rfl,M00,h10,h20,h30⟩;dsimp -zeta -zetaHave only;refine IG (IH (II (I:=λx c st'=>Eqv st st'/\∃out ia ib ac bc,c=(none,out,ia,ib,ac,bc)/\MI O key a.toList b.toList ia ib out.toList/\ia+1<a.size/\ib<b.size/\x0+1+x<=ia+ib)
   (Q:=λc st'=>Eqv st st'/\((∃r out ia ib ac bc,c=(some r,out,ia,ib,ac,bc)/\xb O key a.toList b.toList r.toList)\/∃out ia ib ac bc,c=(none,out,ia,ib,ac,bc)/\MI O key a.toList b.toList ia ib out.toList/\ia+1<a.size/\ib<b.size/\x0+2<=ia+ib)) ?s2 ?f2 ⟨hE0,_,_,_,_,_,rfl,M00,h10,h20,h30⟩) ?p2)
  case f2=>
   rintro c st' ⟨hE,out,ia,ib,ac,bc,rfl,M,h1,h2,h3⟩;exact⟨hE,.inr ⟨out,ia,ib,ac,bc,rfl,M,h1,h2,by lia⟩⟩
  case s2=>
   rintro x c st' _ hx ⟨hE,out,ia,ib,ac,bc,rfl,M,h1,h2,h3⟩;dsimp -zeta -zetaHave only;obtain⟨u,hu,su,hu'⟩:=atA ia (by lia);obtain⟨v,hv,sv,hv'⟩:=atB ib h2;refine IG (zp hv (IG (zp hu (IG (C v u st' _ sv su (hE.1.trans hk) ?_)))));dsimp -zeta -zetaHave only;cases hc:O.blt (key v) (key u)with
   |true=>
    rw[Jh rfl];have M2:=qH M hY hv (λx hx=>Le.trans (KeyOrd.kle_of_klt hc) (hX.drop_le hu' x hx));refine IG (zp hv ?_);by_cases c1:ib+1=b.size
    .rw[Jh (by simpa using c1)];exact IF ⟨hE,.inl ⟨_,_,_,_,_,_,rfl,gp M2 hX hY (.inr c1)⟩⟩
    .rw[Ji (by simpa using c1)];split
     .exact IF ⟨hE,.inr ⟨_,_,_,_,_,rfl,M2,by lia,by lia,by lia⟩⟩
     .exact IF ⟨hE,_,_,_,_,_,rfl,M2,by lia,by lia,by lia⟩
   |false=>
    rw[Ji (by simp)];have M2:=o6 M hX hu (λy hy=>Le.trans (show Le O key u v from hc) (hY.drop_le hv' y hy));refine IG (zp hu ?_);by_cases c1:ia+1+1=a.size
    .rw[Jh (by simpa using c1)];exact IF ⟨hE,.inl ⟨_,_,_,_,_,_,rfl,fI M2 hX hY hl c1⟩⟩
    .rw[Ji (by simpa using c1)];split
     .exact IF ⟨hE,.inr ⟨_,_,_,_,_,rfl,M2,by lia,by lia,by lia⟩⟩
     .exact IF ⟨hE,_,_,_,_,_,rfl,M2,by lia,by lia,by lia⟩
  case p2=>
   rintro c st1 ⟨hE1,⟨r,out,ia,ib,ac,bc,rfl,hg⟩|⟨out1,ia1,ib1,ac1,bc1,rfl,M1,h11,h21,h31⟩⟩
   .exact IF ⟨hE1,r,out,ia,ib,_,rfl,hg⟩
   dsimp -zeta -zetaHave only;refine IG (IM (Io ⟨rfl,?_⟩));refine IG (IH (II (I:=λx c st'=>Eqv st st'/\∃out ia ib mg ac bc,c=(none,out,ia,ib,mg,ac,bc)/\MI O key a.toList b.toList ia ib out.toList/\ia+1<a.size/\ib<b.size/\x0+2<=ia+ib)
    (Q:=λc st'=>Eqv st st'/\((∃r out ia ib mg ac bc,c=(some r,out,ia,ib,mg,ac,bc)/\xb O key a.toList b.toList r.toList)\/∃out ia ib mg ac bc,c=(none,out,ia,ib,mg,ac,bc)/\MI O key a.toList b.toList ia ib out.toList/\ia+1<a.size/\ib<b.size/\x0+2<=ia+ib)) ?s3 ?f3 ⟨hE1,_,_,_,_,_,_,rfl,M1,h11,h21,h31⟩) ?p3)
   case f3=>
    rintro c st' ⟨hE,out,ia,ib,mg,ac,bc,rfl,M,h1,h2,h3⟩;exact⟨hE,.inr ⟨out,ia,ib,mg,ac,bc,rfl,M,h1,h2,h3⟩⟩
   case p3=>
    rintro c st' ⟨hE,⟨r,out,ia,ib,mg,ac,bc,rfl,hg⟩|⟨out,ia,ib,mg,ac,bc,rfl,M,h1,h2,h3⟩⟩
    .exact IF ⟨hE,r,out,ia,ib,_,rfl,hg⟩
    .dsimp -zeta -zetaHave only;refine IG (IP ?_);exact IF ⟨hE,_,_,_,_,rfl,M,h1,h2,by lia⟩
   case s3=>
    rintro x c st' _ hx ⟨hE,out,ia,ib,mg,ac,bc,rfl,M,h1,h2,h3⟩;refine jj λQ1 e1=>?_;have hr:∀r c st2,Eqv st st2->xb O key a.toList b.toList r.toList->Q1 (.done (some r,c)) st2:=λr c st2 hE hg=>by rw[e1];exact⟨hE,.inl ⟨r,_,_,_,_,_,_,rfl,hg⟩⟩
    have hd:∀out ia ib c st2,Eqv st st2->MI O key a.toList b.toList ia ib out.toList->ia+1<a.size->ib<b.size->x0+2<=ia+ib->Q1 (.done (none,out,ia,ib,c)) st2/\Q1 (.yield (none,out,ia,ib,c)) st2:=λout ia ib c st2 hE M h1 h2 h3=>by rw[e1];exact⟨⟨hE,.inr ⟨_,_,_,_,_,_,rfl,M,h1,h2,h3⟩⟩,hE,_,_,_,_,_,_,rfl,M,h1,h2,h3⟩
    clear e1 hx;obtain⟨v,hv,sv,hv'⟩:=atB ib h2;dsimp -zeta -zetaHave only
    extract_lets +onlyGivenNames s0 o1 s1 a1 s2 b1 s3 m1 s4 ac1 bc1
    subst s0 o1 s1 a1 s2 b1 s3 m1 s4 ac1 bc1;dsimp -zeta -zetaHave only
    extract_lets +onlyGivenNames ib2 jp
    subst ib2;refine gr (J:=λm=>jp () m) λm=>IG (IP (gq λst2 es=>IG (zp hv ?_)))
    replace hE:Eqv st st2:=by rw[es];exact hE
    clear es jp;refine IG (yo C (hE.1.trans hk) sv (by lia) (λi=>! O.blt (key v) (key (a.getD (ia+i) v))) (λi hi=>gA ia v i (by lia)) (mA ia v) (λk k1 k2 k3=>?_));dsimp -zeta -zetaHave only
    extract_lets +onlyGivenNames ac2 jp2
    have J2:∀out ia',MI O key a.toList b.toList ia' ib out.toList->ia'+1<a.size->ia<=ia'->(∀x∈a.toList.drop ia',Le O key v x)->wpS (Hf prog w) A E s (jp2 () out ia') Q1 st2:=by
     intro out ia' M h1 ha low;obtain⟨u,hu,su,hu'⟩:=atA ia' (by lia);have M3:=qH M hY hv low;refine IG (zp hv ?_)
     extract_lets +onlyGivenNames o3
     subst o3;by_cases c3:ib+1=b.size
     .rw[Jh (by simpa using c3)];exact IF (hr _ _ _ hE (gp M3 hX hY (.inr c3)))
     rw[Ji (by simpa using c3)];refine IG (zp hu (IG (yo C (hE.1.trans hk) su (by lia) (λi=>O.blt (key (b.getD (ib+1+i) u)) (key u)) (λi hi=>gB _ _ _ (by lia)) (mB _ _) (λk' k1' k2' k3'=>?_))));dsimp -zeta -zetaHave only
     extract_lets +onlyGivenNames bc2 a2 jp3
     subst a2;have J3:∀out ib',MI O key a.toList b.toList ia' ib' out.toList->ib'<b.size->ib<ib'->(∀y∈b.toList.drop ib',Le O key u y)->wpS (Hf prog w) A E s (jp3 () out ib') Q1 st2:=by
      intro out ib' M h2 hb up;have M5:=o6 M hX hu up;refine IG (zp hu ?_);dsimp only;by_cases c4:ia'+1+1=a.size
      .rw[Jh (by simpa using c4)];exact IF (hr _ _ _ hE (fI M5 hX hY hl c4))
      .rw[Ji (by simpa using c4)];have q:=hd _ _ _ (m,ac2,bc2) st2 hE M5 (by lia) h2 (by lia);split
       .exact IF q.1
       .exact IF q.2
     by_cases c5:k' > 0
     .rw[Jh c5];dsimp only;have M4:=C0 M3 hY (by lia) (λi hi y hy x hx=>Le.trans (lowB _ _ _ k2' i hi y hy) (hX.drop_le hu' x hx));by_cases c6:ib+1+k'=b.size
      .rw[Jh (by simpa using c6)];exact IF (hr _ _ _ hE (gp M4 hX hY (.inr c6)))
      rw[Ji (by simpa using c6)];exact J3 _ _ M4 (by lia) (by lia) (upA _ _ _ k3')
     .rw[Ji c5];exact J3 _ _ M3 (by lia) (by lia) (upA (ib+1) _ 0 (λi _=>k3' i (by lia)))
    by_cases c1:k > 0
    .rw[Jh c1];dsimp only;have M2:=C2 M hX (by lia) (λi hi x hx y hy=>Le.trans (lowA _ _ _ k2 i hi x hx) (hY.drop_le hv' y hy));by_cases c2:ia+k+1=a.size
     .rw[Jh (by simpa using c2)];exact IF (hr _ _ _ hE (fI M2 hX hY hl c2))
     rw[Ji (by simpa using c2)];by_cases c2':ia+k=a.size
     .rw[Jh (by simpa using c2')];exact IF (hr _ _ _ hE (gp M2 hX hY (.inl c2')))
     rw[Ji (by simpa using c2')];exact J2 _ _ M2 (by lia) (by lia) (highA _ _ _ k3)
    .rw[Ji c1];exact J2 _ _ M h1 (Qf _) (highA _ _ 0 (λi _=>k3 i (by lia)))
end
section
variable{O:ID}{key:Keyed->O.α}{a b:Array Keyed}
def aP.take_le (h:aP O key l)(hx:l[i]?=some x):∀y∈l.take (i+1),Le O key y x:=by
 intro y hy;obtain⟨j,hj⟩:=Qq hy;have hlt:j<i+1:=by
  have:=(Qa.mp hj).1;rw[QQ]at this;lia
 rw[Qo hlt]at hj;exact h.at_le (by lia) hj hx
structure MH(O:ID)(key:Keyed->O.α)(X Y:List Keyed)(na nb:Nat)(L:List Keyed):Prop where
 ha:na<=X.length
 hb:nb<=Y.length
 pm:L.Perm (X.drop na++Y.drop nb)
 so:aP O key L
 la:∀z∈L,∀x∈X.take na,Le O key x z
 lb:∀z∈L,∀y∈Y.take nb,Le O key y z
variable{X Y L:List Keyed}{na nb:Nat}
def MH.done(M:MH O key X Y na nb L)(hX:aP O key X)(hY:aP O key Y)(h:na=0\/nb=0):xb O key X Y (X.take na++Y.take nb++L):=by
 refine⟨?_,?_⟩
 .rcases h with rfl|rfl
  .rw[List.take_zero,Wz];exact zM (hY.sublist (Wa _ _)) M.so λx hx y hy=>M.lb y hy x hx
  .rw[List.take_zero,QW];exact zM (hX.sublist (Wa _ _)) M.so λx hx y hy=>M.la y hy x hx
 .refine (M.pm.append_left _).trans ?_;have e1:(X.take na++Y.take nb++(X.drop na++Y.drop nb)).Perm (X.take na++(X.drop na++Y.take nb)++Y.drop nb):=by
   rw[<-Qj];refine WB.append_right _ ?_;rw[Qj];exact WB.append_left _ Wh
  refine e1.trans ?_;rw[<-Qj (X.take na),QE,Qj,QE]
def MH.first(M:MH O key X Y na nb L)(hX:aP O key X)(hY:aP O key Y)(hf:∀x∈X,∀y,Y[0]?=some y->Le O key y x)(h:nb=1):xb O key X Y (Y.take nb++X.take na++L):=by
 subst h;refine⟨?_,?_⟩
 .refine zM (zM (hY.sublist (Wa _ _)) (hX.sublist (Wa _ _)) ?_) M.so ?_
  .intro y hy x hx;obtain⟨j,hj⟩:=Qq hy;have hlt:=(Qa.mp hj).1;rw[QQ]at hlt;obtain rfl:j=0:=by lia
   rw[Qo (by lia)]at hj;exact hf x (Q5 hx) y hj
  .intro x hx y hy;rcases Ql.mp hx with hx|hx
   .exact M.lb y hy x hx
   .exact M.la y hy x hx
 .refine (M.pm.append_left _).trans ?_;have e1:(Y.take 1++X.take na++(X.drop na++Y.drop 1)).Perm (Y.take 1++(X++Y.drop 1)):=by
   rw[Qj,<-Qj (X.take na),QE]
  refine e1.trans ?_;rw[<-Qj];refine(WB.append_right _ Wh).trans ?_;rw[Qj,QE]
def vP {l:List Keyed}(h:l[i]?=some x):l.drop i=x::l.drop (i+1):=by
 obtain⟨hi,rfl⟩:=Qa.mp h;exact QM hi
def wn {l:List Keyed}(h:i<=j)(hx:x∈l.take i):x∈l.take j:=by
 have:l.take i=(l.take j).take i:=by rw[List.take_take];congr 1;lia
 rw[this]at hx;exact Q5 hx
def MH.pushA(M:MH O key X Y (na+1) nb L)(hX:aP O key X){x:Keyed}(hx:X[na]?=some x)(h:∀y∈Y.take nb,Le O key y x):MH O key X Y na nb (x::L):=by
 have hm:x∈X.take (na+1):=by rw[zR hx];simp
 have:=M.ha;refine⟨by lia,M.hb,?_,Wq.mpr ⟨λz hz=>M.la z hz x hm,M.so⟩,λz hz y hy=>?_,λz hz y hy=>?_⟩
 .rw[vP hx,WF];exact M.pm.cons x
 .rcases Qk.mp hz with rfl|hz
  .exact hX.take_le hx y (wn (by lia) hy)
  .exact M.la z hz y (wn (by lia) hy)
 .rcases Qk.mp hz with rfl|hz
  .exact h y hy
  .exact M.lb z hz y hy
def MH.pushB(M:MH O key X Y na (nb+1) L)(hY:aP O key Y){y:Keyed}(hy:Y[nb]?=some y)(h:∀x∈X.take na,Le O key x y):MH O key X Y na nb (y::L):=by
 have hm:y∈Y.take (nb+1):=by rw[zR hy];simp
 have:=M.hb;refine⟨M.ha,by lia,?_,Wq.mpr ⟨λz hz=>M.lb z hz y hm,M.so⟩,λz hz x hx=>?_,λz hz x hx=>?_⟩
 .rw[vP hy];exact(M.pm.cons y).trans List.perm_middle.symm
 .rcases Qk.mp hz with rfl|hz
  .exact h x hx
  .exact M.la z hz x hx
 .rcases Qk.mp hz with rfl|hz
  .exact hY.take_le hy x (wn (by lia) hx)
  .exact M.lb z hz x (wn (by lia) hx)
def vQ {l:List Keyed}(h:l[i]?=some x):(l.drop i).take (k+1)=x::(l.drop (i+1)).take k:=by
 rw[vP h,List.take_succ_cons]
theorem MH.blockA(hX:aP O key X):∀(k na:Nat),MH O key X Y (na+k) nb L->(∀i,na<=i->i<na+k->∀x,X[i]?=some x->∀y∈Y.take nb,Le O key y x)->MH O key X Y na nb ((X.drop na).take k++L)
 |0,_,M,_=>by simpa using M
 |k+1,na,M,hl=>by
  have hlt:=M.ha;have q:MH O key X Y (na+1) nb ((X.drop (na+1)).take k++L):=MH.blockA hX k (na+1) (by rw[show na+1+k=na+(k+1) by lia];exact M) λi h1 h2=>hl i (by lia) (by lia);have hx:X[na]?=some X[na]:=by simp
  rw[vQ hx,WF];exact q.pushA hX hx (hl na (Qf _) (by lia) _ hx)
theorem MH.blockB(hY:aP O key Y):∀(k nb:Nat),MH O key X Y na (nb+k) L->(∀i,nb<=i->i<nb+k->∀y,Y[i]?=some y->∀x∈X.take na,Le O key x y)->MH O key X Y na nb ((Y.drop nb).take k++L)
 |0,_,M,_=>by simpa using M
 |k+1,nb,M,hl=>by
  have hlt:=M.hb;have q:MH O key X Y na (nb+1) ((Y.drop (nb+1)).take k++L):=MH.blockB hY k (nb+1) (by rw[show nb+1+k=nb+(k+1) by lia];exact M) λi h1 h2=>hl i (by lia) (by lia);have hy:Y[nb]?=some Y[nb]:=by simp
  rw[vQ hy,WF];exact q.pushB hY hy (hl nb (Qf _) (by lia) _ hy)
def ol(p a b:Array Keyed)(i j:Nat):(a.extract 0 i++b.extract 0 j++p.reverse).toList=a.toList.take i++b.toList.take j++p.toList.reverse:=by
 simp only[W1,Wr,Wf,Array.toList_reverse,Vp,Nat.sub_zero]
def gt{p:Array Keyed}(M:MH O key a.toList b.toList na nb p.toList.reverse)(hX:aP O key a.toList)(hY:aP O key b.toList)(h:na=0\/nb=0):xb O key a.toList b.toList (a.extract 0 na++b.extract 0 nb++p.reverse).toList:=by
 rw[ol];exact M.done hX hY h
def jk{p:Array Keyed}(M:MH O key a.toList b.toList na nb p.toList.reverse)(hX:aP O key a.toList)(hY:aP O key b.toList)(hf:∀x∈a.toList,∀y,b.toList[0]?=some y->Le O key y x)(h:nb=1):xb O key a.toList b.toList (b.extract 0 nb++a.extract 0 na++p.reverse).toList:=by
 rw[ol];exact M.first hX hY hf h
def qI {p:Array Keyed}(M:MH O key a.toList b.toList na nb p.toList.reverse)(hX:aP O key a.toList)(h0:0<na)(hx:a[na-1]?=some x)(h:∀y∈b.toList.take nb,Le O key y x):MH O key a.toList b.toList (na-1) nb (p.push x).toList.reverse:=by
 obtain⟨n,rfl⟩:∃n,na=n+1:=⟨na-1,by lia⟩;rw[WN,WH];exact M.pushA hX (by simpa using hx) h
def o5 {p:Array Keyed}(M:MH O key a.toList b.toList na nb p.toList.reverse)(hY:aP O key b.toList)(h0:0<nb)(hy:b[nb-1]?=some y)(h:∀x∈a.toList.take na,Le O key x y):MH O key a.toList b.toList na (nb-1) (p.push y).toList.reverse:=by
 obtain⟨n,rfl⟩:∃n,nb=n+1:=⟨nb-1,by lia⟩;rw[WN,WH];exact M.pushB hY (by simpa using hy) h
def oi(p a:Array Keyed)(i j:Nat):(p++(a.extract i j).reverse).toList.reverse=(a.toList.drop i).take (j-i)++p.toList.reverse:=by
 simp only[W1,Array.toList_reverse,Wr,Wf,WH,List.reverse_reverse]
def CZ (M:MH O key a.toList b.toList na nb p.toList.reverse)(hX:aP O key a.toList)(ht:t<=na)(h:∀i,t<=i->i<na->∀x,a.toList[i]?=some x->∀y∈b.toList.take nb,Le O key y x):MH O key a.toList b.toList t nb (p++(a.extract t na).reverse).toList.reverse:=by
 rw[oi];exact MH.blockA hX (na-t) t (by rw[show t+(na-t)=na by lia];exact M) λi h1 h2=>h i h1 (by lia)
def CY (M:MH O key a.toList b.toList na nb p.toList.reverse)(hY:aP O key b.toList)(ht:t<=nb)(h:∀i,t<=i->i<nb->∀y,b.toList[i]?=some y->∀x∈a.toList.take na,Le O key x y):MH O key a.toList b.toList na t (p++(b.extract t nb).reverse).toList.reverse:=by
 rw[oi];exact MH.blockB hY (nb-t) t (by rw[show t+(nb-t)=nb by lia];exact M) λi h1 h2=>h i h1 (by lia)
end
section
variable{O:ID}{key:Keyed->O.α}{S:Keyed->Prop}{a b:Array Keyed}
variable{κ:IC}{prog:GT}{w:GV}{A:Hc}{E:Value->GU->Prop}{s:GU}
def pP [Decidable c]{x y:StateT IE Sem α}{Q:α->IE->Prop}{st:IE}(hc:c)(h:wpS (Hf prog w) A E s x Q st):wpS (Hf prog w) A E s (if c then x else y) Q st:=by rw[Jh hc];exact h
def pO [Decidable c]{x y:StateT IE Sem α}{Q:α->IE->Prop}{st:IE}(hc:¬c)(h:wpS (Hf prog w) A E s y Q st):wpS (Hf prog w) A E s (if c then x else y) Q st:=by rw[Ji hc];exact h
noncomputable def Dg:Array Keyed->Array Keyed->StateT IE Sem (Array Keyed):=sortPriv% PySem.Builtin.mergeHi
def gu (C:di κ prog w A E s O key S){st:IE}(hk:kindOf st=κ)(hX:aP O key a.toList)(hY:aP O key b.toList)(hSa:∀x∈a.toList,S x)(hSb:∀x∈b.toList,S x)(hb0:0<b.size)(ha0:0<a.size)(hf:∀x∈a.toList,∀y,b.toList[0]?=some y->Le O key y x)(hl:∀y∈b.toList,∀x,a[a.size-1]?=some x->Le O key y x)(h:∀r st',Eqv st st'->xb O key a.toList b.toList r.toList->Q r st'):
  wpS (Hf prog w) A E s (Dg a b) Q st:=by
 have atA:∀i,i<a.size->∃x,a[i]?=some x/\S x/\a.toList[i]?=some x:=λi hi=>⟨a[i],by simp[hi],hSa _ (by simp),by simp[hi]⟩;have atB:∀i,i<b.size->∃x,b[i]?=some x/\S x/\b.toList[i]?=some x:=λi hi=>⟨b[i],by simp[hi],hSb _ (by simp),by simp[hi]⟩;have gA:∀(ia:Nat) (v:Keyed) (i:Nat),ia+i<a.size->∃x,a[ia+i]?=some x/\S x/\(! O.blt (key v) (key (a.getD (ia+i) v)))=(if false=true then O.blt (key x) (key v)else ! O.blt (key v) (key x)):=by
  intro ia v i hi;obtain⟨x,hx,sx,_⟩:=atA (ia+i) hi;exact⟨x,hx,sx,by rw[Ji (by simp),QY,hx];rfl⟩
 have gB:∀(ib:Nat) (u:Keyed) (i:Nat),ib+i<b.size->∃x,b[ib+i]?=some x/\S x/\O.blt (key (b.getD (ib+i) u)) (key u)=(if true=true then O.blt (key x) (key u)else ! O.blt (key u) (key x)):=by
  intro ib u i hi;obtain⟨x,hx,sx,_⟩:=atB (ib+i) hi;exact⟨x,hx,sx,by rw[Jh rfl,QY,hx];rfl⟩
 have dA:∀(i:Nat) (v x:Keyed),a.toList[i]?=some x->a.getD i v=x:=λi v x hx=>by rw[QY,<-QC,hx];rfl
 have dB:∀(i:Nat) (v x:Keyed),b.toList[i]?=some x->b.getD i v=x:=λi v x hx=>by rw[QY,<-QC,hx];rfl
 have mA:∀(ia:Nat) (v:Keyed) (i j:Nat),i<=j->j<a.size-ia->(! O.blt (key v) (key (a.getD (ia+j) v)))=true->(! O.blt (key v) (key (a.getD (ia+i) v)))=true:=by
  intro ia v i j hij hj hB;obtain⟨x,hx,_,hx'⟩:=atA (ia+i) (by lia);obtain⟨y,hy,_,hy'⟩:=atA (ia+j) (by lia);rw[dA _ _ _ hy']at hB;rw[dA _ _ _ hx'];have e:Le O key x v:=Le.trans (hX.at_le (by lia) hx' hy') (show O.blt (key v) (key y)=false from by simpa using hB);simpa using (show O.blt (key v) (key x)=false from e)
 have mB:∀(ib:Nat) (u:Keyed) (i j:Nat),i<=j->j<b.size-ib->O.blt (key (b.getD (ib+j) u)) (key u)=true->O.blt (key (b.getD (ib+i) u)) (key u)=true:=by
  intro ib u i j hij hj hB;obtain⟨x,hx,_,hx'⟩:=atB (ib+i) (by lia);obtain⟨y,hy,_,hy'⟩:=atB (ib+j) (by lia);rw[dB _ _ _ hy']at hB;rw[dB _ _ _ hx'];exact KeyOrd.klt_of_kle_of_klt (hY.at_le (by lia) hx' hy') hB
 have lowT:∀(t:Nat) (v:Keyed),t<=a.size->(∀i,i<t->(! O.blt (key v) (key (a.getD (0+i) v)))=true)->∀x∈a.toList.take t,Le O key x v:=by
  intro t v ht hB x hx;obtain⟨i,hi⟩:=Qq hx;have hlt:=(Qa.mp hi).1;rw[QQ]at hlt;rw[Qo (by lia)]at hi;have:=hB i (by lia);rw[WS,dA _ _ _ hi]at this;exact(show O.blt (key v) (key x)=false from by simpa using this)
 have highT:∀(t n:Nat) (v:Keyed),(∀i,t<=i->i<n->(! O.blt (key v) (key (a.getD (0+i) v)))=false)->∀i,t<=i->i<n->∀x,a.toList[i]?=some x->Le O key v x:=by
  intro t n v hB i h1 h2 x hx;have:=hB i h1 h2;rw[WS,dA _ _ _ hx]at this;exact KeyOrd.kle_of_klt (show O.blt (key v) (key x)=true from by simpa using this)
 have lowU:∀(t:Nat) (u:Keyed),t<=b.size->(∀i,i<t->O.blt (key (b.getD (0+i) u)) (key u)=true)->∀y∈b.toList.take t,Le O key y u:=by
  intro t u ht hB x hx;obtain⟨i,hi⟩:=Qq hx;have hlt:=(Qa.mp hi).1;rw[QQ]at hlt;rw[Qo (by lia)]at hi;have:=hB i (by lia);rw[WS,dB _ _ _ hi]at this;exact KeyOrd.kle_of_klt this
 have highU:∀(t n:Nat) (u:Keyed),(∀i,t<=i->i<n->O.blt (key (b.getD (0+i) u)) (key u)=false)->∀i,t<=i->i<n->∀y,b.toList[i]?=some y->Le O key u y:=by
  intro t n u hB i h1 h2 x hx;have:=hB i h1 h2;rw[WS,dB _ _ _ hx]at this;exact this
 have upB:∀(n:Nat) (v:Keyed),0<n->b.toList[n-1]?=some v->∀y∈b.toList.take n,Le O key y v:=by
  intro n v h0 hv;have:=hY.take_le hv
  rwa[show n-1+1=n by lia]at this
 have upA:∀(n:Nat) (v:Keyed),0<n->a.toList[n-1]?=some v->∀y∈a.toList.take n,Le O key y v:=by
  intro n v h0 hv;have:=hX.take_le hv
  rwa[show n-1+1=n by lia]at this
 obtain⟨x0,hx0,_,hx0'⟩:=atA (a.size-1) (by lia);refine IG (IM (Io ⟨rfl,?_⟩));refine IG (zp hx0 ?_);dsimp -zeta -zetaHave only;have M0:MH O key a.toList b.toList (a.size-1) b.size (#[x0]:Array Keyed).toList.reverse:=by
  have e:MH O key a.toList b.toList a.size b.size (#[]:Array Keyed).toList.reverse:=⟨by simp,by simp,by simp,by simp[aP],by simp,by simp⟩;exact qI e hX ha0 hx0 (λy hy=>hl y (Q5 hy) x0 hx0)
 by_cases c1:a.size-1=0
 .rw[Jh (by simpa using c1)];exact IF (h _ _ (.refl _) (gt M0 hX hY (.inl c1)))
 rw[Ji (by simpa using c1)];by_cases c2:b.size=1
 .rw[Jh (by simpa using c2)];exact IF (h _ _ (.refl _) (jk M0 hX hY hf c2))
 rw[Ji (by simpa using c2)];refine IG (IN ?_);refine IG (IH (II (I:=λx c st'=>Eqv st st'/\∃na nb out mg,c=(none,na,nb,out,mg)/\MH O key a.toList b.toList na nb out.toList.reverse/\0<na/\1<nb/\na+nb+x+1<=a.size+b.size)
  (Q:=λc st'=>Eqv st st'/\∃r na nb out mg,c=(some r,na,nb,out,mg)/\xb O key a.toList b.toList r.toList) ?s1 ?f1 ⟨.refl _,_,_,_,_,rfl,M0,by lia,by lia,by lia⟩) ?p1)
 case p1=>
  rintro c st' ⟨hE,r,na,nb,out,mg,rfl,hg⟩;exact IF (h _ _ hE hg)
 case f1=>
  rintro c st' ⟨hE,na,nb,out,mg,rfl,M,h1,h2,h3⟩;lia
 case s1=>
  rintro x0 c st0 _ hx0 ⟨hE0,na0,nb0,out0,mg0,rfl,M00,h10,h20,h30⟩;dsimp -zeta -zetaHave only;refine IG (IH (II (I:=λx c st'=>Eqv st st'/\∃na nb out ac bc,c=(none,na,nb,out,ac,bc)/\MH O key a.toList b.toList na nb out.toList.reverse/\0<na/\1<nb/\na+nb+(x0+1)+x<=a.size+b.size)
   (Q:=λc st'=>Eqv st st'/\((∃r na nb out ac bc,c=(some r,na,nb,out,ac,bc)/\xb O key a.toList b.toList r.toList)\/∃na nb out ac bc,c=(none,na,nb,out,ac,bc)/\MH O key a.toList b.toList na nb out.toList.reverse/\0<na/\1<nb/\na+nb+x0+2<=a.size+b.size)) ?s2 ?f2 ⟨hE0,_,_,_,_,_,rfl,M00,h10,h20,h30⟩) ?p2)
  case f2=>
   rintro c st' ⟨hE,na,nb,out,ac,bc,rfl,M,h1,h2,h3⟩;exact⟨hE,.inr ⟨na,nb,out,ac,bc,rfl,M,h1,h2,by lia⟩⟩
  case s2=>
   rintro x c st' _ hx ⟨hE,na,nb,out,ac,bc,rfl,M,h1,h2,h3⟩;have hna:na<=a.size:=M.ha;have hnb:nb<=b.size:=M.hb;dsimp -zeta -zetaHave only;obtain⟨u,hu,su,hu'⟩:=atA (na-1) (by lia);obtain⟨v,hv,sv,hv'⟩:=atB (nb-1) (by lia);refine IG (zp hv (IG (zp hu (IG (C v u st' _ sv su (hE.1.trans hk) ?_)))));dsimp -zeta -zetaHave only;cases hc:O.blt (key v) (key u)with
   |true=>
    rw[Jh rfl];have M2:=qI M hX h1 hu (λy hy=>Le.trans (upB nb v (by lia) hv' y hy) (KeyOrd.kle_of_klt hc));refine IG (zp hu ?_);by_cases c1:na-1=0
    .rw[Jh (by simpa using c1)];exact IF ⟨hE,.inl ⟨_,_,_,_,_,_,rfl,gt M2 hX hY (.inl c1)⟩⟩
    .rw[Ji (by simpa using c1)];split
     .exact IF ⟨hE,.inr ⟨_,_,_,_,_,rfl,M2,by lia,by lia,by lia⟩⟩
     .exact IF ⟨hE,_,_,_,_,_,rfl,M2,by lia,by lia,by lia⟩
   |false=>
    rw[Ji (by simp)];have M2:=o5 M hY (by lia) hv (λx hx=>Le.trans (upA na u h1 hu' x hx) (show Le O key u v from hc));refine IG (zp hv ?_);by_cases c1:nb-1=1
    .rw[Jh (by simpa using c1)];exact IF ⟨hE,.inl ⟨_,_,_,_,_,_,rfl,jk M2 hX hY hf c1⟩⟩
    .rw[Ji (by simpa using c1)];split
     .exact IF ⟨hE,.inr ⟨_,_,_,_,_,rfl,M2,by lia,by lia,by lia⟩⟩
     .exact IF ⟨hE,_,_,_,_,_,rfl,M2,by lia,by lia,by lia⟩
  case p2=>
   rintro c st1 ⟨hE1,⟨r,na,nb,out,ac,bc,rfl,hg⟩|⟨na1,nb1,out1,ac1,bc1,rfl,M1,h11,h21,h31⟩⟩
   .exact IF ⟨hE1,r,na,nb,out,_,rfl,hg⟩
   dsimp -zeta -zetaHave only;refine IG (IM (Io ⟨rfl,?_⟩));refine IG (IH (II (I:=λx c st'=>Eqv st st'/\∃na nb out mg ac bc,c=(none,na,nb,out,mg,ac,bc)/\MH O key a.toList b.toList na nb out.toList.reverse/\0<na/\1<nb/\na+nb+x0+2<=a.size+b.size)
    (Q:=λc st'=>Eqv st st'/\((∃r na nb out mg ac bc,c=(some r,na,nb,out,mg,ac,bc)/\xb O key a.toList b.toList r.toList)\/∃na nb out mg ac bc,c=(none,na,nb,out,mg,ac,bc)/\MH O key a.toList b.toList na nb out.toList.reverse/\0<na/\1<nb/\na+nb+x0+2<=a.size+b.size)) ?s3 ?f3 ⟨hE1,_,_,_,_,_,_,rfl,M1,h11,h21,h31⟩) ?p3)
   case f3=>
    rintro c st' ⟨hE,na,nb,out,mg,ac,bc,rfl,M,h1,h2,h3⟩;exact⟨hE,.inr ⟨na,nb,out,mg,ac,bc,rfl,M,h1,h2,h3⟩⟩
   case p3=>
    rintro c st' ⟨hE,⟨r,na,nb,out,mg,ac,bc,rfl,hg⟩|⟨na,nb,out,mg,ac,bc,rfl,M,h1,h2,h3⟩⟩
    .exact IF ⟨hE,r,na,nb,out,_,rfl,hg⟩
    .dsimp -zeta -zetaHave only;refine IG (IP ?_);exact IF ⟨hE,_,_,_,_,rfl,M,h1,h2,by lia⟩
   case s3=>
    rintro x c st' _ hx ⟨hE,na,nb,out,mg,ac,bc,rfl,M,h1,h2,h3⟩;have hna:na<=a.size:=M.ha;have hnb:nb<=b.size:=M.hb;refine jj λQ1 e1=>?_;have hr:∀r c st2,Eqv st st2->xb O key a.toList b.toList r.toList->Q1 (.done (some r,c)) st2:=λr c st2 hE hg=>by rw[e1];exact⟨hE,.inl ⟨r,_,_,_,_,_,_,rfl,hg⟩⟩
    have hd:∀na nb out c st2,Eqv st st2->MH O key a.toList b.toList na nb out.toList.reverse->0<na->1<nb->na+nb+x0+2<=a.size+b.size->Q1 (.done (none,na,nb,out,c)) st2/\Q1 (.yield (none,na,nb,out,c)) st2:=λna nb out c st2 hE M h1 h2 h3=>by rw[e1];exact⟨⟨hE,.inr ⟨_,_,_,_,_,_,rfl,M,h1,h2,h3⟩⟩,hE,_,_,_,_,_,_,rfl,M,h1,h2,h3⟩
    clear e1 hx;obtain⟨v,hv,sv,hv'⟩:=atB (nb-1) (by lia);dsimp -zeta -zetaHave only
    extract_lets +onlyGivenNames s0 o1 s1 a1 s2 b1 s3 m1 s4 ac1 bc1
    subst s0 o1 s1 a1 s2 b1 s3 m1 s4 ac1 bc1;dsimp -zeta -zetaHave only
    extract_lets +onlyGivenNames nb2 jp
    subst nb2;refine gr (J:=λm=>jp () m) λm=>IG (IP (gq λst2 es=>IG (zp hv ?_)))
    replace hE:Eqv st st2:=by rw[es];exact hE
    clear es jp;refine IG (yo C (hE.1.trans hk) sv (by lia) (λi=>! O.blt (key v) (key (a.getD (0+i) v))) (λi hi=>gA 0 v i (by lia)) (λi j q1 q2=>mA 0 v i j q1 (by lia)) (λt k1 k2 k3=>?_));dsimp -zeta -zetaHave only
    extract_lets +onlyGivenNames kk ac2 jp2
    have J2:∀na' out,MH O key a.toList b.toList na' nb out.toList.reverse->0<na'->na'<=na->(∀i,i<na'->(! O.blt (key v) (key (a.getD (0+i) v)))=true)->wpS (Hf prog w) A E s (jp2 () na' out) Q1 st2:=by
     intro na' out M h1 ha low;obtain⟨u,hu,su,hu'⟩:=atA (na'-1) (by lia);have M3:=o5 M hY (by lia) hv (lowT na' v (by lia) low);refine IG (zp hv ?_)
     extract_lets +onlyGivenNames o3
     subst o3;by_cases c3:nb-1=1
     .rw[Jh (by simpa using c3)];exact IF (hr _ _ _ hE (jk M3 hX hY hf c3))
     rw[Ji (by simpa using c3)];refine IG (zp hu (IG (yo C (hE.1.trans hk) su (by lia) (λi=>O.blt (key (b.getD (0+i) u)) (key u)) (λi hi=>gB 0 u i (by lia)) (λi j q1 q2=>mB 0 u i j q1 (by lia)) (λt' k1' k2' k3'=>?_))));dsimp -zeta -zetaHave only
     extract_lets +onlyGivenNames kk2 bc2 a2 jp3
     subst a2;have J3:∀nb' out,MH O key a.toList b.toList na' nb' out.toList.reverse->1<nb'->nb'<nb->(∀i,i<nb'->O.blt (key (b.getD (0+i) u)) (key u)=true)->wpS (Hf prog w) A E s (jp3 () nb' out) Q1 st2:=by
      intro nb' out M h2 hb up;have M5:=qI M hX (by lia) hu (lowU nb' u (by lia) up);refine IG (zp hu ?_);dsimp only;by_cases c8:na'-1=0
      .rw[Jh (by simpa using c8)];exact IF (hr _ _ _ hE (gt M5 hX hY (.inl c8)))
      .rw[Ji (by simpa using c8)];have q:=hd _ _ _ (m,ac2,bc2) st2 hE M5 (by lia) h2 (by lia);split
       .exact IF q.1
       .exact IF q.2
     by_cases c5:nb-1-t' > 0
     .refine pP c5 ?_;dsimp only;have M4:=CY M3 hY k1' (λi q1 q2 y hy x hx=>Le.trans (upA na' u (by lia) hu' x hx) (highU t' _ u k3' i q1 q2 y hy));by_cases c6:t'=1
      .rw[Jh (by simpa using c6)];exact IF (hr _ _ _ hE (jk M4 hX hY hf c6))
      rw[Ji (by simpa using c6)];by_cases c7:t'=0
      .rw[Jh (by simpa using c7)];exact IF (hr _ _ _ hE (gt M4 hX hY (.inr c7)))
      rw[Ji (by simpa using c7)];exact J3 _ _ M4 (by lia) (by lia) k2'
     .refine pO c5 ?_;exact J3 _ _ M3 (by lia) (by lia) (λi q=>k2' i (by lia))
    by_cases c1:na-t > 0
    .refine pP c1 ?_;dsimp only;have M2:=CZ M hX k1 (λi q1 q2 x hx y hy=>Le.trans (upB nb v (by lia) hv' y hy) (highT t _ v k3 i q1 q2 x hx));by_cases c2:t=0
     .rw[Jh (by simpa using c2)];exact IF (hr _ _ _ hE (gt M2 hX hY (.inl c2)))
     rw[Ji (by simpa using c2)];exact J2 _ _ M2 (by lia) (by lia) k2
    .refine pO c1 ?_;exact J2 _ _ M h1 (Qf _) (λi q=>k2 i (by lia))
end
section
variable{O:ID}{key:Keyed->O.α}{S:Keyed->Prop}
theorem rT:∀(l:List Keyed) (n sa:Nat) (xs:Array Keyed),sa+n+l.length<=xs.size ->
  ((l.zipIdx n).foldl (λ(a:Array Keyed) (pj:Keyed×Nat)=>a.setIfInBounds (sa+pj.2) pj.1) xs).toList=xs.toList.take (sa+n)++l++xs.toList.drop (sa+n+l.length)
 |[],n,sa,xs,h=>by simp
 |x::l,n,sa,xs,h=>by
  rw[List.zipIdx_cons,List.foldl_cons];have hl:sa+n<xs.toList.length:=by simp at h ⊢;lia
  rw[rT l (n+1) sa _ (by simp at h ⊢;lia)];rw[VH];have e1:(xs.toList.set (sa+n) x).take (sa+(n+1))=xs.toList.take (sa+n)++[x]:=by
   rw[show sa+(n+1)=sa+n+1 by lia,zR (x:=x) (by rw[Q7 hl]),List.take_set_of_le (Qf _)]
  have e2:(xs.toList.set (sa+n) x).drop (sa+(n+1)+l.length)=xs.toList.drop (sa+n+(x::l).length):=by
   rw[List.drop_set_of_lt (by lia),show sa+(n+1)+l.length=sa+n+(x::l).length by simp;lia]
  rw[e1,e2];simp
variable{κ:IC}{prog:GT}{w:GV}{A:Hc}{E:Value->GU->Prop}{s:GU}
structure Ok(κ:IC)(O:ID)(key:Keyed->O.α)(S:Keyed->Prop)(st:IE)(pend:List (Nat×Nat×Nat))(l:List Keyed):Prop where
 kind:kindOf st=κ
 failed:IL st=none
 pend:(IK st).toList=pend
 arr:(IJ st).toList=l
 all:∀x∈l,S x
def jm {V:List Keyed}(hU:aP O key U)(hV:aP O key V)(h:∀x y,U[U.length-1]?=some x->V[0]?=some y->Le O key x y):aP O key (U++V):=by
 refine zM hU hV λx hx y hy=>?_;obtain⟨i,hi⟩:=Qq hx;obtain⟨j,hj⟩:=Qq hy;have h1:=(Qa.mp hi).1;have h2:=(Qa.mp hj).1;have a1:U[U.length-1]?=some (U[U.length-1]'(by lia)):=by simp
 have a2:V[0]?=some (V[0]'(by lia)):=by simp
 exact((hU.at_le (by lia) hi a1).trans (h _ _ a1 a2)).trans (hV.at_le (by lia) a2 hj)
def BB {st:IE}(h:Q ⟨⟩ x):wpS (Hf prog w) A E s (set x:StateT IE Sem PUnit) Q st:=by
 unfold wpS;rw[StateT.run_set];exact Hy ⟨rfl,h⟩
noncomputable def Df:Nat->StateT IE Sem Bool:=sortPriv% PySem.Builtin.mergeAt
def gw (C:di κ prog w A E s O key S){st:IE}{V:List Keyed}(K:Ok κ O key S st (p1++(sa,na,po)::(sb,nb,po2)::p2) (P++(U++(V++R))))(hsa:sa=P.length)(hna:na=U.length)(hsb:sb=P.length+U.length)(hnb:nb=V.length)(hU0:0<U.length)(hV0:0<V.length)(hU:aP O key U)(hV:aP O key V)(h:∀st' W,Ok κ O key S st' (p1++(sa,na+nb,po)::p2) (P++(W++R))->aP O key W->W.Perm (U++V)->Q true st'):
  wpS (Hf prog w) A E s (Df p1.length) Q st:=by
 have e1:(IK st)[p1.length]?=some (sa,na,po):=by rw[<-QC,K.pend];simp
 have e2:(IK st)[p1.length+1]?=some (sb,nb,po2):=by rw[<-QC,K.pend];simp
 have hp:(((IK st).setIfInBounds p1.length (sa,na+nb,po)).eraseIdxIfInBounds (p1.length+1)).toList=p1++(sa,na+nb,po)::p2:=by
  rw[Array.toList_eraseIdxIfInBounds,VH,K.pend];simp[List.set_append,List.eraseIdx_append];intro hh;lia
 have atU:∀i,i<U.length->(IJ st)[P.length+i]?=U[i]?:=λi hi=>by
  rw[<-QC,K.arr,Qc (by lia),show P.length+i-P.length=i by lia,Qd hi]
 have atV:∀i,i<V.length->(IJ st)[P.length+U.length+i]?=V[i]?:=λi hi=>by
  rw[<-QC,K.arr,Qc (by lia),Qc (by lia),show P.length+U.length+i-P.length-U.length=i by lia,Qd hi]
 refine IG (IN ?_);dsimp only;rw[e1,e2];dsimp only;refine IG (BB ?_);have K1:Ok κ O key S (SortSt.mk' (kindOf st) (IJ st) (((IK st).setIfInBounds p1.length (sa,na+nb,po)).eraseIdxIfInBounds (p1.length+1)) (IQ st) (IL st)) (p1++(sa,na+nb,po)::p2) (P++(U++(V++R))):=⟨K.kind,K.failed,hp,K.arr,K.all⟩;have whole:aP O key (U++V)->Q true (SortSt.mk' (kindOf st) (IJ st) (((IK st).setIfInBounds p1.length (sa,na+nb,po)).eraseIdxIfInBounds (p1.length+1)) (IQ st) (IL st)):=λhs=>by
  refine h _ (U++V) ?_ hs (.refl _);rw[Qj];exact K1
 have sU:∀x∈U,S x:=λx hx=>K.all x (by simp[hx]);have sV:∀x∈V,S x:=λx hx=>K.all x (by simp[hx]);have gU:∀i,i<U.length->∃x,U[i]?=some x/\S x:=λi hi=>⟨U[i],by simp[hi],sU _ (by simp)⟩;have gV:∀i,i<V.length->∃x,V[i]?=some x/\S x:=λi hi=>⟨V[i],by simp[hi],sV _ (by simp)⟩;obtain⟨v0,hv0,sv0⟩:=gV 0 hV0;obtain⟨u1,hu1,su1⟩:=gU (U.length-1) (by lia);subst hsa hna hsb hnb;have hel:(IJ st)[P.length+U.length]?=some v0:=by have:=atV 0 hV0;rw[Nat.add_zero]at this;rw[this,hv0]
 refine IG (zp hel ?_);refine IG (yo C (left:=false) K.kind sv0 hU0 (λi=>! O.blt (key v0) (key (U.getD i v0))) (λi hi=>?g1) ?m1 (λk k1 k2 k3=>?c1))
 case g1=>
  obtain⟨x,hx,sx⟩:=gU i hi;exact⟨x,by rw[<-hx];exact atU i hi,sx,by rw[Ji (by simp),QL,hx];rfl⟩
 case m1=>
  intro i j hij hj hB;obtain⟨x,hx,_⟩:=gU i (by lia);obtain⟨y,hy,_⟩:=gU j hj;simp only[QL,hx,hy,Wg]at hB ⊢;have e:Le O key x v0:=Le.trans (hU.at_le hij hx hy) (show O.blt (key v0) (key y)=false from by simpa using hB);simpa using (show O.blt (key v0) (key x)=false from e)
 have lowU:∀i x,i<k->U[i]?=some x->Le O key x v0:=λi x hi hx=>by
  have:=k2 i hi;simp only[QL,hx,Wg]at this;exact(show O.blt (key v0) (key x)=false from by simpa using this)
 have highU:∀i x,k<=i->U[i]?=some x->Le O key v0 x:=λi x hi hx=>by
  have:=k3 i hi (Qa.mp hx).1;simp only[QL,hx,Wg]at this;exact KeyOrd.kle_of_klt (show O.blt (key v0) (key x)=true from by simpa using this)
 dsimp only;by_cases c1:U.length-k=0
 .rw[Jh (by simpa using c1)];refine IF (whole (jm hU hV λx y hx hy=>?_));rw[hv0]at hy;cases hy;exact lowU _ x (by lia) hx
 rw[Ji (by simpa using c1)];have hel2:(IJ st)[P.length+k+(U.length-k)-1]?=some u1:=by
  rw[<-hu1,<-atU (U.length-1) (by lia)];congr 1;lia
 refine IG (zp hel2 ?_);refine IG (yo C (left:=true) K.kind su1 (by lia) (λi=>O.blt (key (V.getD i u1)) (key u1)) (λi hi=>?g2) ?m2 (λn2 q1 q2 q3=>?c2))
 case g2=>
  obtain⟨x,hx,sx⟩:=gV i hi;exact⟨x,by rw[<-hx];exact atV i hi,sx,by rw[Jh rfl,QL,hx];rfl⟩
 case m2=>
  intro i j hij hj hB;obtain⟨x,hx,_⟩:=gV i (by lia);obtain⟨y,hy,_⟩:=gV j hj;simp only[QL,hx,hy,Wg]at hB ⊢;exact KeyOrd.klt_of_kle_of_klt (hV.at_le hij hx hy) hB
 have lowV:∀i y,i<n2->V[i]?=some y->Le O key y u1:=λi y hi hy=>by
  have:=q2 i hi;simp only[QL,hy,Wg]at this;exact KeyOrd.kle_of_klt this
 have highV:∀i y,n2<=i->V[i]?=some y->Le O key u1 y:=λi y hi hy=>by
  have:=q3 i hi (Qa.mp hy).1;simp only[QL,hy,Wg]at this;exact this
 dsimp only;by_cases c2:n2=0
 .rw[Jh (by simpa using c2)];refine IF (whole (jm hU hV λx y hx hy=>?_));rw[hu1]at hx;cases hx;exact highV 0 y (by lia) hy
 rw[Ji (by simpa using c2)];have hx:((IJ st).extract (P.length+k) (P.length+U.length)).toList=U.drop k:=by
  rw[Wr,Wf,K.arr,Vz,Wy (by lia),Wz,show P.length+k-P.length=k by lia,VC (by lia)];rw[Q9 (by simp;lia),Wo (by simp;lia)]
 have hy:((IJ st).extract (P.length+U.length) (P.length+U.length+n2)).toList=V.take n2:=by
  rw[Wr,Wf,K.arr,<-Qj,Vz,Wy (by simp),Wz,show P.length+U.length-(P++U).length=0 by simp,Vp,show P.length+U.length+n2-(P.length+U.length)=n2 by lia];rw[Q9 q1]
 have hsx:((IJ st).extract (P.length+k) (P.length+U.length)).size=U.length-k:=by rw[<-Q0,hx,WT]
 have hsy:((IJ st).extract (P.length+U.length) (P.length+U.length+n2)).size=n2:=by rw[<-Q0,hy,QQ];lia
 have lastx:∀x,(U.drop k)[U.length-k-1]?=some x->x=u1:=λx hh=>by
  rw[Q4,show k+(U.length-k-1)=U.length-1 by lia,hu1]at hh;cases hh;rfl
 have firsty:∀y,(V.take n2)[0]?=some y->y=v0:=λy hh=>by
  rw[Qo (by lia),hv0]at hh;cases hh;rfl
 have dropU:∀x∈U.drop k,Le O key v0 x:=λx hh=>by
  obtain⟨i,hi⟩:=Qq hh;rw[Q4]at hi;exact highU (k+i) x (by lia) hi
 have takeV:∀y∈V.take n2,Le O key y u1:=λy hh=>by
  obtain⟨i,hi⟩:=Qq hh;have hlt:=(Qa.mp hi).1;rw[QQ]at hlt;rw[Qo (by lia)]at hi;exact lowV i y (by lia) hi
 have fin:∀(r:Array Keyed) (st':IE),Eqv (SortSt.mk' (kindOf st) (IJ st) (((IK st).setIfInBounds p1.length (P.length,U.length+V.length,po)).eraseIdxIfInBounds (p1.length+1)) (IQ st) (IL st)) st'->xb O key (U.drop k) (V.take n2) r.toList ->
   Q (IL st').isNone (SortSt.mk' (kindOf st') (r.toList.zipIdx.foldl (λ(a:Array Keyed) (pj:Keyed×Nat)=>a.setIfInBounds (P.length+k+pj.2) pj.1) (IJ st')) (IK st') (IQ st') (IL st')):=by
  intro r st' hE hg;obtain⟨E1,E2,E3,E4⟩:=hE;have hf:IL st'=none:=E4.trans K.failed;rw[show(IL st').isNone=true by rw[hf];rfl];have hlen:r.toList.length=U.length-k+n2:=by rw[hg.2.length_eq,QF,WT,QQ];lia
  refine h _ (U.take k++r.toList++V.drop n2) ⟨E1.trans K.kind,hf,?_,?_,?_⟩ ?_ ?_
  .show (IK st').toList=_;rw[E3];exact hp
  .show (r.toList.zipIdx.foldl _ (IJ st')).toList=_;have E2':IJ st'=IJ st:=E2;rw[E2',rT r.toList 0 (P.length+k) _ (by rw[<-Q0,K.arr,hlen];simp;lia),K.arr,hlen];have t1:(P++(U++(V++R))).take (P.length+k+0)=P++U.take k:=by
    rw[Nat.add_zero,List.take_append,Wo (by lia),show P.length+k-P.length=k by lia,Q9 (by lia)]
   have t2:(P++(U++(V++R))).drop (P.length+k+0+(U.length-k+n2))=V.drop n2++R:=by
    rw[<-Qj,<-Qj,VC (by simp;lia),Vz,Wy (by simp;lia),Wz];congr 2;simp;lia
   rw[t1,t2];simp
  .intro x hx';have m1:∀z∈r.toList,z∈U\/z∈V:=λz hz=>by
    have:=hg.2.mem_iff.mp hz;rcases Ql.mp this with q|q
    .exact .inl (Wl q)
    .exact .inr (Q5 q)
   simp only[Ql]at hx';rcases hx' with q|((q|q)|q)|q
   .exact K.all x (by simp[q])
   .exact sU x (Q5 q)
   .rcases m1 x q with q|q
    .exact sU x q
    .exact sV x q
   .exact sV x (Wl q)
   .exact K.all x (by simp[q])
  .have uV:∀x∈U,Le O key x u1:=λx hx'=>by
    have:=hU.take_le hu1 x (by rw[show U.length-1+1=U.length by lia,Vc];exact hx');exact this
   have vV:∀y∈V,Le O key v0 y:=λy hy'=>hV.drop_le hv0 y (by simpa using hy');have tU:∀x∈U.take k,Le O key x v0:=λx hh=>by
    obtain⟨i,hi⟩:=Qq hh;have hlt:=(Qa.mp hi).1;rw[QQ]at hlt;rw[Qo (by lia)]at hi;exact lowU i x (by lia) hi
   have dV:∀y∈V.drop n2,Le O key u1 y:=λy hh=>by
    obtain⟨i,hi⟩:=Qq hh;rw[Q4]at hi;exact highV (n2+i) y (by lia) hi
   refine zM (zM (hU.sublist (Wa _ _)) hg.1 λx hx' z hz=>?_) (hV.sublist (Wb _ _)) λx hx' y hy'=>?_
   .rcases Ql.mp (hg.2.mem_iff.mp hz)with q|q
    .exact (tU x hx').trans (dropU z q)
    .exact (tU x hx').trans (vV z (Q5 q))
   .rcases Ql.mp hx' with q|q
    .exact (uV x (Q5 q)).trans (dV y hy')
    .rcases Ql.mp (hg.2.mem_iff.mp q)with q|q
     .exact (uV x (Wl q)).trans (dV y hy')
     .exact (takeV x q).trans (dV y hy')
  .refine ((hg.2.append_left _).append_right _).trans ?_;rw[<-Qj,QE,Qj,QE]
 by_cases c3:U.length-k<=n2
 .rw[Jh c3];refine IG (gs C K.kind (by rw[hx];exact hU.sublist (Wb _ _)) (by rw[hy];exact hV.sublist (Wa _ _)) (by rw[hx];exact λx q=>sU x (Wl q)) (by rw[hy];exact λx q=>sV x (Q5 q)) (by rw[hsy];lia) (by rw[hsx];lia) ?_ ?_ (λr st' hE hg=>?_))
  .rw[hx];intro x hx' y hy';rw[<-QC,hy]at hy';rw[firsty y hy'];exact dropU x hx'
  .rw[hx,hy];intro y hy' x hx';rw[WT]at hx';rw[lastx x hx'];exact takeV y hy'
  .rw[hx,hy]at hg;exact IG (IP (IG (IN (IF (fin r st' hE hg)))))
 .rw[Ji c3];refine IG (gu C K.kind (by rw[hx];exact hU.sublist (Wb _ _)) (by rw[hy];exact hV.sublist (Wa _ _)) (by rw[hx];exact λx q=>sU x (Wl q)) (by rw[hy];exact λx q=>sV x (Q5 q)) (by rw[hsy];lia) (by rw[hsx];lia) ?_ ?_ (λr st' hE hg=>?_))
  .rw[hx,hy];intro x hx' y hy';rw[firsty y hy'];exact dropU x hx'
  .rw[hy,hsx];intro y hy' x hx';rw[<-QC,hx]at hx';rw[lastx x hx'];exact takeV y hy'
  .rw[hx,hy]at hg;exact IG (IP (IG (IN (IF (fin r st' hE hg)))))
end
section
variable{O:ID}{key:Keyed->O.α}{S:Keyed->Prop}
variable{κ:IC}{prog:GT}{w:GV}{A:Hc}{E:Value->GU->Prop}{s:GU}
def yX (C:di κ prog w A E s O key S){st:IE}(K:Ok κ O key S st pend l)(hi:l[i]?=some x)(hj:l[j]?=some y)(q:Q (some (O.blt (key x) (key y))) st):
  wpS (Hf prog w) A E s (ltAt' i j) Q st:=by
 rw[ltAt'_eq];refine IG (IN ?_);refine IG (zp (by rw[<-QC,K.arr];exact hi) (IG (zp (by rw[<-QC,K.arr];exact hj) ?_)));exact C x y st _ (K.all x (Qm hi)) (K.all y (Qm hj)) K.kind q
noncomputable def c9(O:ID)(key:Keyed->O.α)(l:List Keyed):Prop:=(l.map key).Nodup
def c9.at (h:c9 O key l){j:Nat}(hij:i≠j)(hx:l[i]?=some x)(hy:l[j]?=some y)(hb:O.blt (key x) (key y)=false):O.blt (key y) (key x)=true:=by
 cases z:O.blt (key y) (key x)with
 |true=>rfl
 |false=>
  exfalso;have e:=O.total _ _ hb z;obtain⟨hi,rfl⟩:=Qa.mp hx;obtain⟨hj,rfl⟩:=Qa.mp hy;rcases Nat.lt_or_gt_of_ne hij with q|q
  .have:=(We.mp h) i j (by simpa using hi) (by simpa using hj) q;exact this (by simpa using e)
  .have:=(We.mp h) j i (by simpa using hj) (by simpa using hi) q;exact this (by simpa using e.symm)
def c9.perm{l r:List Keyed}(h:c9 O key l)(p:r.Perm l):c9 O key r:=(p.map key).nodup_iff.mpr h
def c9.right{l r:List Keyed}(h:c9 O key (l++r)):c9 O key r:=by
 unfold c9 at h ⊢;rw[WZ]at h;exact(Qn.mp h).2.1
def De {T:List Keyed}(h:aP O key (T.take x))(h1:1<=x)(hu:T[x]?=some u)(hv:T[x-1]?=some v)(hl:Le O key v u):aP O key (T.take (x+1)):=by
 rw[zR hu];refine jm h (by simp[aP]) λp q hp hq=>?_;have hx:=(Qa.mp hu).1;rw[QQ,Nat.min_eq_left (by lia),Qo (by lia),hv]at hp;cases hp;simp at hq;rw[<-hq];exact hl
def qJ {T:List Keyed}(h:xs.toList=P++T)(n:Nat)(hn:n<=T.length):(mirror xs P.length (P.length+n) ((P.length+n-P.length)/2)).toList=P++((T.take n).reverse++T.drop n):=by
 have hs:xs.size=P.length+T.length:=by rw[<-Q0,h,QF]
 have gx:∀j,xs[j]?=(P++T)[j]?:=λj=>by rw[<-QC,h]
 apply WR;intro k;rw[QC,getElem?_mirror_all (by lia)];simp only[gx];clear gx hs h xs;by_cases c0:k<P.length
 .rw[Ji (by lia),Qd c0,Qd c0]
 obtain⟨i,rfl⟩:∃i,k=P.length+i:=⟨k-P.length,by lia⟩;have cT:∀(U:List Keyed) i,(P++U)[P.length+i]?=U[i]?:=λU i=>by rw[Qc (Wv _ _),VQ]
 have len0:(T.take n).length=n:=Vg hn;have len1:(T.take n).reverse.length=n:=by rw[List.length_reverse];exact len0
 rw[cT (_++T.drop n)];generalize P.length=p at *
 by_cases c:i<n
 .rw[Jh (by lia),show p+(p+n)-1-(p+i)=p+(n-1-i) by lia,cT,Qd (by rw[len1];exact c),Vm (by rw[len0];exact c),len0,Qo (by lia)]
 .rw[Ji (by lia),cT,Qc (by rw[len1];lia),len1,Q4,show n+(i-n)=i by lia]
def jn (C:di κ prog w A E s O key S){st:IE}(K:Ok κ O key S st pend (P++T))(h0:0<T.length)(hd:c9 O key T)(h:∀st' U R,Ok κ O key S st' pend (P++(U++R))->aP O key U->(U++R).Perm T->0<U.length->Q (some U.length) st'):
  wpS (Hf prog w) A E s (countRun' P.length T.length) Q st:=by
 have fin:∀{st':IE}{T':List Keyed}{n:Nat},Ok κ O key S st' pend (P++T')->T'.Perm T->1<=n->n<=T'.length->aP O key (T'.take n)->Q (some n) st':=by
  intro st' T' n K' hp h1 h2 hs;have e:=h st' (T'.take n) (T'.drop n) (by rw[QE];exact K') hs (by rw[QE];exact hp) (by rw[QQ];lia)
  rwa[QQ,Nat.min_eq_left h2]at e
 have asc:∀{st':IE}{T':List Keyed}{a:Nat}{Q':Option (Option Nat)×Nat->IE->Prop},Ok κ O key S st' pend (P++T')->T'.length=T.length->1<=a->a<=T.length->aP O key (T'.take a) ->
   (∀n,a<=n->n<=T.length->aP O key (T'.take n)->(n=T.length\/∃u v,T'[n]?=some u/\T'[n-1]?=some v/\O.blt (key u) (key v)=true)->Q' (none,n) st') ->
   wpS (Hf prog w) A E s (forIn [a:T.length] ((none,a):Option (Option Nat)×Nat) λ_ __s=>do
    let __x <-ltAt' (P.length+__s.snd) (P.length+__s.snd-1)
    match __x with
    |some smaller=>if smaller=true then pure (ForInStep.done (none,__s.snd))else pure (ForInStep.yield (none,__s.snd+1))
    |_=>pure (ForInStep.done (some none,__s.snd))) Q' st':=by
  intro st' T' a Q' K' hT h1 h2 hs hq;refine II (I:=λx c st2=>st'=st2/\c=(none,x)/\aP O key (T'.take x)) ?s1 ?f1 ⟨rfl,rfl,hs⟩
  case f1=>
   rintro c st2 ⟨rfl,rfl,hs'⟩;rw[show max a T.length=T.length by lia]at hs' ⊢;exact hq _ h2 (Qf _) hs' (.inl rfl)
  case s1=>
   rintro x c st2 hax hxn ⟨rfl,rfl,hs'⟩;dsimp only;have hu:T'[x]?=some (T'[x]'(by lia)):=by simp
   have hv:T'[x-1]?=some (T'[x-1]'(by lia)):=by simp
   refine IG (yX C K' (x:=T'[x]'(by lia)) (y:=T'[x-1]'(by lia)) (by rw[Qc (by lia),show P.length+x-P.length=x by lia];exact hu) (by rw[Qc (by lia),show P.length+x-1-P.length=x-1 by lia];exact hv) ?_);dsimp only;cases hc:O.blt (key (T'[x]'(by lia))) (key (T'[x-1]'(by lia)))with
   |true=>
    rw[Jh rfl];exact IF (hq x hax (by lia) hs' (.inr ⟨_,_,hu,hv,hc⟩))
   |false=>
    rw[Ji (by simp)];exact IF ⟨rfl,rfl,De hs' (by lia) hu hv hc⟩
 refine IG (asc K rfl (Qf 1) h0 (by
  cases T with
  |nil=>simp at h0
  |cons t T=>simp[aP]) λn n1 n2 hs hor=>?_)
 dsimp only;by_cases c1:n=T.length
 .rw[Jh (by simpa using c1)];exact IF (fin K (.refl _) n1 n2 hs)
 rw[Ji (by simpa using c1)];obtain⟨u,v,hu,hv,hlt⟩:=hor.resolve_left c1;have a0:T[0]?=some (T[0]'h0):=by simp
 by_cases c2:n > 1
 .rw[Jh c2];refine IG (yX C K (x:=T[0]'h0) (y:=v) (by rw[Qc (by lia),show P.length-P.length=0 by lia];exact a0) (by rw[Qc (by lia),show P.length+n-1-P.length=n-1 by lia];exact hv) ?_);have hle:Le O key (T[0]'h0) v:=hs.at_le (i:=0) (j:=n-1) (by lia) (by rw[Qo (by lia)];exact a0) (by rw[Qo (by lia)];exact hv);rw[hd.at (i:=n-1) (j:=0) (by lia) hv a0 hle];dsimp only;rw[Jh rfl];exact IF (fin K (.refl _) n1 n2 hs)
 rw[Ji c2];obtain rfl:n=1:=by lia
 refine IG (IM (Io ⟨rfl,?_⟩));have d2:aP O key (T.take 2).reverse:=by
  rw[zR hu,WH];have e1:T.take 1=[v]:=by rw[show(1:Nat)=0+1 from rfl,zR (i:=0) hv];simp
  rw[e1];refine Wq.mpr ⟨λz hz=>?_,by simp⟩;simp at hz;rw[hz];exact KeyOrd.kle_of_klt hlt
 have hT2:2<=T.length:=by lia
 refine IG (IH (II (I:=λx c st2=>st=st2/\c=(none,x,0)/\aP O key (T.take x).reverse) (Q:=λc st2=>st=st2/\∃n,c=(none,n,0)/\2<=n/\n<=T.length/\aP O key (T.take n).reverse) ?s2 ?f2 ⟨rfl,rfl,d2⟩) ?p2)
 case f2=>
  rintro c st2 ⟨rfl,rfl,hs'⟩;rw[show max (1+1) T.length=T.length by lia]at hs' ⊢;exact⟨rfl,_,rfl,hT2,Qf _,hs'⟩
 case s2=>
  rintro x c st2 hax hxn ⟨rfl,rfl,hs'⟩;dsimp only;have hu:T[x]?=some (T[x]'(by lia)):=by simp
  have hv:T[x-1]?=some (T[x-1]'(by lia)):=by simp
  have pu:(P++T)[P.length+x]?=some (T[x]'(by lia)):=by rw[Qc (by lia),show P.length+x-P.length=x by lia];exact hu
  have pv:(P++T)[P.length+x-1]?=some (T[x-1]'(by lia)):=by rw[Qc (by lia),show P.length+x-1-P.length=x-1 by lia];exact hv
  refine IG (yX C K pu pv ?_);dsimp only;cases hc:O.blt (key (T[x]'(by lia))) (key (T[x-1]'(by lia)))with
  |true=>
   rw[Jh rfl,Ji (by lia)];refine IF ⟨rfl,rfl,?_⟩;rw[zR hu,WH];refine Wq.mpr ⟨λz hz=>?_,hs'⟩
   replace hz:z∈(T.take x).reverse:=hz
   rw[List.mem_reverse]at hz;obtain⟨i,hi⟩:=Qq hz;have hlt':=(Qa.mp hi).1;rw[QQ]at hlt';have h1:((T.take x).reverse)[x-1-i]?=some z:=by
    rw[Vm (by simp;lia)];rw[<-hi];congr 1;simp;lia
   have h2:((T.take x).reverse)[0]?=some (T[x-1]'(by lia)):=by
    rw[Vm (by simp;lia),Qo (by simp;lia),<-hv];congr 1;simp;lia
   exact Le.trans (KeyOrd.kle_of_klt hc) (hs'.at_le (Ww _) h2 h1)
  |false=>
   rw[Ji (by simp)];refine IG (yX C K pv pu ?_);dsimp only;rw[hd.at (i:=x) (j:=x-1) (by lia) hu hv hc,Jh rfl];exact IF ⟨rfl,x,rfl,by lia,by lia,hs'⟩
 case p2=>
  rintro c st2 ⟨rfl,n,rfl,m1,m2,hs'⟩;dsimp only;rw[Ji (by lia)];refine IG (wpS_reverse ?_);have hp:((T.take n).reverse++T.drop n).Perm T:=by
   have e:=(List.reverse_perm (T.take n)).append_right (T.drop n)
   rwa[QE]at e
  have hl:((T.take n).reverse++T.drop n).length=T.length:=hp.length_eq;have ht:((T.take n).reverse++T.drop n).take n=(T.take n).reverse:=by
   rw[Q9 (by simp;lia),Wo (by simp;lia)]
  have K2:Ok κ O key S (setArr st (mirror (IJ st) P.length (P.length+n) ((P.length+n-P.length)/2))) pend (P++((T.take n).reverse++T.drop n)):=
   ⟨K.kind,K.failed,K.pend,qJ K.arr n m2,λx hx=>K.all x (by
    rcases Ql.mp hx with q|q
    .simp[q]
    .exact Qt _ (hp.mem_iff.mp q))⟩
  refine IG (asc K2 hl (by lia) m2 (by rw[ht];exact hs') λn' n1' n2' hs2 _=>?_);exact IF (fin K2 hp (by lia) (by lia) hs2)
end
section
variable{O:ID}{key:Keyed->O.α}{S:Keyed->Prop}
variable{κ:IC}{prog:GT}{w:GV}{A:Hc}{E:Value->GU->Prop}{s:GU}
def qK (h:xs.toList=P++T)(k l:Nat)(hk:k<T.length)(hl:l<=k)(t:Keyed)(ht:T[k]?=some t):
  (bubble xs (P.length+k) (P.length+k-(P.length+l))).toList=P++(((T.take k).take l++[t]++(T.take k).drop l)++T.drop (k+1)):=by
 have hs:xs.size=P.length+T.length:=by rw[<-Q0,h,QF]
 have gx:∀j,xs[j]?=(P++T)[j]?:=λj=>by rw[<-QC,h]
 apply WR;intro j;rw[show P.length+k-(P.length+l)=k-l by lia,QC,getElem?_bubble (by lia) _ (by lia),show P.length+k-(k-l)=P.length+l by lia];simp only[gx];clear gx hs h xs;by_cases c0:j<P.length
 .rw[Ji (by lia),Ji (by lia),Qd c0,Qd c0]
 obtain⟨i,rfl⟩:∃i,j=P.length+i:=⟨j-P.length,by lia⟩;have cT:∀(U:List Keyed) i,(P++U)[P.length+i]?=U[i]?:=λU i=>by rw[Qc (Wv _ _),VQ]
 have len1:(T.take k).length=k:=Vg (W3 hk);have len2:((T.take k).take l).length=l:=Vg (by rw[len1];exact hl);have len3:((T.take k).take l++[t]).length=l+1:=by rw[QF,len2];rfl
 have len4:((T.take k).take l++[t]++(T.take k).drop l).length=k+1:=by rw[QF,len3,WT,len1];lia
 rw[cT (_++T.drop (k+1)),cT T k];generalize P.length=p at *
 by_cases c1:i=l
 .subst c1;rw[Jh rfl,ht,Qd (by rw[len4];lia),Qd (by rw[len3];lia),Qc (by rw[len2];exact Qf _),len2,Nat.sub_self];rfl
 rw[Ji (by lia)];by_cases c2:l<i/\i<=k
 .rw[Jh (by lia),show p+i-1=p+(i-1) by lia,cT T,Qd (by rw[len4];lia),Qc (by rw[len3];lia),len3,Q4,Qo (by lia),show l+(i-(l+1))=i-1 by lia]
 .rw[Ji (by lia),cT T];by_cases c3:i<l
  .rw[Qd (by rw[len4];lia),Qd (by rw[len3];lia),Qd (by rw[len2];exact c3),Qo c3,Qo (by lia)]
  .rw[Qc (by rw[len4];lia),Q4,len4,show k+1+(i-(k+1))=i by lia]
def qL (C:di κ prog w A E s O key S){st:IE}(K:Ok κ O key S st pend (P++T))(hn:n<=T.length)(hok:ok<=n)(h1:1<=ok)(hs:aP O key (T.take ok))(h:∀st' T',Ok κ O key S st' pend (P++T')->T'.Perm T->aP O key (T'.take n)->Q true st'):
  wpS (Hf prog w) A E s (binarySort' P.length n ok) Q st:=by
 refine IG (IH (II (I:=λk c st'=>c=(none,())/\∃T',Ok κ O key S st' pend (P++T')/\T'.Perm T/\aP O key (T'.take (min k n)))
  (Q:=λc st'=>c=(none,())/\∃T',Ok κ O key S st' pend (P++T')/\T'.Perm T/\aP O key (T'.take n)) ?s1 ?f1 ⟨rfl,T,K,.refl _,by rw[show min (max ok 1) n=ok by lia];exact hs⟩) ?p1)
 case p1=>
  rintro c st' ⟨rfl,T',K',hp,hs'⟩;exact IF (h st' T' K' hp hs')
 case f1=>
  rintro c st' ⟨rfl,T',K',hp,hs'⟩;rw[show min (max (max ok 1) n) n=n by lia]at hs';exact⟨rfl,T',K',hp,hs'⟩
 case s1=>
  rintro k c st' hka hkn ⟨rfl,T',K',hp,hs'⟩;rw[show min k n=k by lia]at hs';have hlen:=hp.length_eq;have hk:k<T'.length:=by lia
  have ht:T'[k]?=some T'[k]:=by simp
  refine IG (IH (II (I:=λx c st2=>st'=st2/\∃l r,c=(none,l,r)/\l<=r/\r<=k/\r-l<=k-x/\(∀i u,i<l->T'[i]?=some u->Le O key u T'[k])/\(∀i u,r<=i->i<k->T'[i]?=some u->Le O key T'[k] u))
   (Q:=λc st2=>st'=st2/\∃l,c=(none,l,l)/\l<=k/\(∀i u,i<l->T'[i]?=some u->Le O key u T'[k])/\(∀i u,l<=i->i<k->T'[i]?=some u->Le O key T'[k] u)) ?s2 ?f2 ⟨rfl,0,k,rfl,by lia,by lia,by lia,λi u q=>Jj q (by lia),λi u q1 q2=>Jj q2 (by lia)⟩) ?p2)
  case f2=>
   rintro c st2 ⟨rfl,l,r,rfl,b1,b2,b3,b4,b5⟩;obtain rfl:l=r:=by lia
   exact⟨rfl,l,rfl,b2,b4,b5⟩
  case s2=>
   rintro x c st2 _ hx ⟨rfl,l,r,rfl,b1,b2,b3,b4,b5⟩;dsimp only;by_cases c1:l ≥ r
   .rw[Jh c1];obtain rfl:l=r:=by lia
    exact IF ⟨rfl,l,rfl,b2,b4,b5⟩
   .rw[Ji c1];have hm:T'[(l+r)/2]?=some (T'[(l+r)/2]'(by lia)):=by simp
    refine IG (yX C K' (x:=T'[k]) (y:=T'[(l+r)/2]'(by lia)) (by rw[Qc (by lia),show P.length+k-P.length=k by lia];exact ht) (by rw[Qc (by lia),show P.length+(l+r)/2-P.length=(l+r)/2 by lia];exact hm) ?_);dsimp only;have tk:∀{i:Nat}{u:Keyed},i<k->T'[i]?=some u->(T'.take k)[i]?=some u:=λhi hu=>by rw[Qo hi];exact hu
    cases hc:O.blt (key T'[k]) (key (T'[(l+r)/2]'(by lia)))with
    |true=>
     rw[Jh rfl];exact IF ⟨rfl,l,(l+r)/2,rfl,by lia,by lia,by lia,b4,λi u q1 q2 hu=>Le.trans (KeyOrd.kle_of_klt hc) (hs'.at_le q1 (tk (by lia) hm) (tk q2 hu))⟩
    |false=>
     rw[Ji (by simp)];exact IF ⟨rfl,(l+r)/2+1,r,rfl,by lia,by lia,by lia,λi u q1 hu=>Le.trans (hs'.at_le (by lia) (tk (by lia) hu) (tk (by lia) hm)) (show Le O key (T'[(l+r)/2]'(by lia)) T'[k]from hc),b5⟩
  case p2=>
   rintro c st2 ⟨rfl,l,rfl,b2,b4,b5⟩;dsimp only;refine IG (IP ?_);refine IF ⟨rfl,((T'.take k).take l++[T'[k]]++(T'.take k).drop l)++T'.drop (k+1),⟨K'.kind,K'.failed,K'.pend,?_,?_⟩,?_,?_⟩
   .exact qK K'.arr k l hk b2 _ ht
   all_goals
    have hpm:(((T'.take k).take l++[T'[k]]++(T'.take k).drop l)++T'.drop (k+1)).Perm T':=by
     have e1:((T'.take k).take l++[T'[k]]++(T'.take k).drop l).Perm (T'.take k++[T'[k]]):=by
      rw[Qj];refine(WB.append_left _ Wh).trans ?_;rw[<-Qj,QE]
     rw[<-zR ht]at e1;have e2:=e1.append_right (T'.drop (k+1))
     rwa[QE]at e2
   .intro x hx;refine K'.all x ?_;rcases Ql.mp hx with q|q
    .simp[q]
    .exact Qt _ (hpm.mem_iff.mp q)
   .exact hpm.trans hp
   .have len1:((T'.take k).take l++[T'[k]]++(T'.take k).drop l).length=k+1:=by simp;lia
    rw[show min (k+1) n=k+1 by lia,Q9 (by rw[len1];lia),Wo (by rw[len1];lia)];have lowm:∀u∈(T'.take k).take l,Le O key u T'[k]:=λu hu=>by
     obtain⟨i,hi⟩:=Qq hu;have hlt:=(Qa.mp hi).1;simp only[QQ]at hlt;rw[Qo (by lia),Qo (by lia)]at hi;exact b4 i u (by lia) hi
    have highm:∀u∈(T'.take k).drop l,Le O key T'[k] u:=λu hu=>by
     obtain⟨i,hi⟩:=Qq hu;have hlt:=(Qa.mp hi).1;simp only[QQ,WT]at hlt;rw[Q4,Qo (by lia)]at hi;exact b5 (l+i) u (by lia) (by lia) hi
    refine zM (zM (hs'.sublist (Wa _ _)) (by simp[aP]) λx hx y hy=>?_) (hs'.sublist (Wb _ _)) λx hx y hy=>?_
    .rw[Qr.mp hy];exact lowm x hx
    .rcases Ql.mp hx with q|q
     .exact (lowm x q).trans (highm y hy)
     .rw[Qr.mp q];exact highm y hy
end
section
variable{O:ID}{key:Keyed->O.α}{S:Keyed->Prop}
variable{κ:IC}{prog:GT}{w:GV}{A:Hc}{E:Value->GU->Prop}{s:GU}
noncomputable def bP(O:ID)(key:Keyed->O.α):Nat->List (Nat×Nat×Nat)->List (List Keyed)->Prop
 |_,[],[]=>True
 |off,p::ps,U::Us=>p.1=off/\p.2.1=U.length/\0<U.length/\aP O key U/\bP O key (off+U.length) ps Us
 |_,_,_=>False
theorem bP.app:∀{off:Nat}{p1 p2:List (Nat×Nat×Nat)}{Us:List (List Keyed)},bP O key off (p1++p2) Us->∃U1 U2,Us=U1++U2/\bP O key off p1 U1/\bP O key (off+U1.flatten.length) p2 U2
 |off,[],p2,Us,h=>⟨[],Us,rfl,trivial,by simpa using h⟩
 |off,p::p1,p2,[],h=>h.elim
 |off,p::p1,p2,U::Us,h=>by
  obtain⟨a1,a2,a3,a4,a5⟩:=h;obtain⟨U1,U2,rfl,b1,b2⟩:=bP.app a5;refine⟨U::U1,U2,rfl,⟨a1,a2,a3,a4,b1⟩,?_⟩;simpa [VN]using b2
theorem bP.join:∀{off:Nat}{p1 p2:List (Nat×Nat×Nat)}{U1 U2:List (List Keyed)},bP O key off p1 U1->bP O key (off+U1.flatten.length) p2 U2->bP O key off (p1++p2) (U1++U2)
 |off,[],p2,[],U2,_,h=>by simpa using h
 |off,[],p2,_::_,U2,h,_=>h.elim
 |off,p::p1,p2,[],U2,h,_=>h.elim
 |off,p::p1,p2,U::U1,U2,h,h2=>⟨h.1,h.2.1,h.2.2.1,h.2.2.2.1,bP.join h.2.2.2.2 (by simpa [VN]using h2)⟩
theorem bP.len:∀{off:Nat}{p:List (Nat×Nat×Nat)}{Us:List (List Keyed)},bP O key off p Us->p.length<=Us.flatten.length
 |_,[],[],_=>Ww _
 |_,[],_::_,h=>h.elim
 |_,_::_,[],h=>h.elim
 |off,p::ps,U::Us,h=>by
  have e1:=bP.len h.2.2.2.2;have e2:=h.2.2.1;rw[QX,QF,WE];lia
theorem bP.mod(q:Nat):∀{off:Nat}{p:List (Nat×Nat×Nat)}{Us:List (List Keyed)}(i:Nat),bP O key off p Us->bP O key off (p.modify i λx=>(x.1,x.2.1,q)) Us
 |_,[],[],i,_=>by cases i<;>trivial
 |_,[],_::_,i,h=>h.elim
 |_,_::_,[],i,h=>h.elim
 |off,p::ps,U::Us,0,h=>h
 |off,p::ps,U::Us,i+1,h=>⟨h.1,h.2.1,h.2.2.1,h.2.2.2.1,bP.mod q i h.2.2.2.2⟩
def gy {st:IE}{lo:Nat}(K:Ok κ O key S st pend (Us.flatten++(W++R)))(k:bP O key 0 pend Us)(hs:aP O key W)(h0:0<W.length)(hn:W.length=n)(hlo:Us.flatten.length=lo):
  Ok κ O key S (setPending st ((IK st).push (lo,n,0))) (pend++[(lo,n,0)]) ((Us++[W]).flatten++R)/\bP O key 0 (pend++[(lo,n,0)]) (Us++[W]):=by
 refine⟨⟨K.kind,K.failed,?_,?_,?_⟩,bP.join k ⟨?_,hn.symm,h0,hs,trivial⟩⟩
 .show ((IK st).push (lo,n,0)).toList=_;rw[WN,K.pend]
 .show (IJ st).toList=_;rw[K.arr];simp
 .intro x hx;refine K.all x ?_;simpa using hx
 .show lo=_;rw[hlo,WS]
def wq (C:di κ prog w A E s O key S){st:IE}(K:Ok κ O key S st pend (Us.flatten++R))(k:bP O key 0 pend Us)(hi:i+1<pend.length)(h:∀st' pend' Us',Ok κ O key S st' pend' (Us'.flatten++R)->bP O key 0 pend' Us'->Us'.flatten.Perm Us.flatten->pend'.length+1=pend.length->Q true st'):
  wpS (Hf prog w) A E s (mergeAt' i) Q st:=by
 obtain⟨p1,a,b,p2,rfl,rfl⟩:∃p1 a b p2,pend=p1++a::b::p2/\p1.length=i:=by
  refine⟨pend.take i,pend[i],pend[i+1],pend.drop (i+2),?_,by simp;lia⟩
  conv=>lhs;rw[<-QE i pend]
  rw[QM (by lia),QM (by lia)]
 obtain⟨U1,U2,rfl,k1,k2⟩:=k.app;cases U2 with
 |nil=>exact k2.elim
 |cons U U2=>
  cases U2 with
  |nil=>exact k2.2.2.2.2.elim
  |cons V U2=>
   obtain⟨sa,na,po⟩:=a;obtain⟨sb,nb,po2⟩:=b;obtain⟨a1,a2,a3,a4,b1,b2,b3,b4,b5⟩:=k2;simp only[WS]at a1 b1 b5;have e:(U1++U::V::U2).flatten++R=U1.flatten++(U++(V++(U2.flatten++R))):=by simp
   rw[e]at K;refine gw C K a1 a2 b1 b2 a3 b3 a4 b4 λst' W K' hs hp=>?_;have hl:=hp.length_eq;rw[QF]at hl;refine h st' (p1++(sa,na+nb,po)::p2) (U1++W::U2) (by simpa using K') (bP.join k1 (show bP O key _ ((sa,na+nb,po)::p2) (W::U2)from⟨by simpa using a1,?_,by lia,hs,?_⟩)) ?_ (by simp;lia)
   .show na+nb=_;have e1:na=U.length:=a2;have e2:nb=V.length:=b2;lia
   .rw[WS,hl,<-VN];exact b5
   .simp only[Vq,QX];refine WB.append_left _ ?_;rw[<-Qj];exact hp.append_right _
def gC (C:di κ prog w A E s O key S){st:IE}(K:Ok κ O key S st [] l)(h2:2<=l.length)(hd:c9 O key l)(h:∀st' l',(IJ st').toList=l'->IL st'=none->aP O key l'->l'.Perm l->Q () st'):wpS (Hf prog w) A E s sortRuns' Q st:=by
 rw[sortRuns'_eq];refine IG (IN ?_);dsimp -zeta -zetaHave only;have hN:(IJ st).size=l.length:=by rw[<-Q0,K.arr]
 rw[hN];have hmr:IB l.length l.length 0<=l.length:=kK _ _ 0 (by lia);refine IG (IH (II
  (I:=λx c st'=>∃lo,c=(none,lo)/\x<=lo/\lo<=l.length/\∃pend Us R,Ok κ O key S st' pend (Us.flatten++R)/\bP O key 0 pend Us/\(Us.flatten++R).Perm l/\Us.flatten.length=lo)
  (Q:=λc st'=>c=(none,l.length)/\∃pend Us R,Ok κ O key S st' pend (Us.flatten++R)/\bP O key 0 pend Us/\(Us.flatten++R).Perm l/\Us.flatten.length=l.length) ?s1 ?f1 ⟨0,rfl,Qf _,Ww _,[],[],l,by simpa using K,trivial,.refl _,rfl⟩) ?p1)
 case f1=>
  rintro c st' ⟨lo,rfl,x1,x2,r⟩;obtain rfl:lo=l.length:=by lia
  exact⟨rfl,r⟩
 case s1=>
  rintro x c st' _ hx ⟨lo,rfl,x1,x2,pend,Us,R,K',k,hp,hlo⟩;dsimp -zeta -zetaHave only;by_cases c0:lo ≥ l.length
  .rw[Jh c0];obtain rfl:lo=l.length:=by lia
   exact IF ⟨rfl,pend,Us,R,K',k,hp,hlo⟩
  rw[Ji c0];have hR:R.length=l.length-lo:=by have:=hp.length_eq;simp at this hlo;lia
  subst hlo;rw[<-hR];refine IG (jn C K' (by lia) ((hd.perm hp).right) λst2 U R2 K2 hs2 hp2 hU0=>?_);dsimp -zeta -zetaHave only;have hl2:U.length+R2.length=R.length:=by have:=hp2.length_eq;simpa using this
  refine jj λQ1 e1=>?_
  extract_lets +onlyGivenNames nn jp
  subst nn;have J:∀st3 W R3,Ok κ O key S st3 pend (Us.flatten++(W++R3))->aP O key W->(W++R3).Perm R->0<W.length->wpS (Hf prog w) A E s (jp () W.length) Q1 st3:=by
   intro st3 W R3 K3 hsW hp3 hW0;subst e1;refine IG (IN ?_);have lenU:∀Us4:List (List Keyed),Us4.flatten.Perm Us.flatten->(Us4++[W]).flatten.length=Us.flatten.length+W.length:=λUs4 q=>by
    have:=q.length_eq;rw[Vq,QF,this,VS]
   have permU:∀Us4:List (List Keyed),Us4.flatten.Perm Us.flatten->((Us4++[W]).flatten++R3).Perm l:=λUs4 q=>by
    refine WB.trans ?_ hp;rw[Vq,VS,Qj];exact(q.append_right _).trans (hp3.append_left _)
   have hle:W.length<=R.length:=by have:=hp3.length_eq;rw[QF]at this;lia
   cases hb:(IK st3).back? with
   |none=>
    dsimp only;obtain⟨K5,k5⟩:=gy K3 k hsW hW0 rfl rfl;refine IG (IP (IF ⟨_,rfl,by lia,by lia,_,_,R3,K5,k5,permU Us (.refl _),lenU Us (.refl _)⟩))
   |some t=>
    obtain⟨s1,n1,pp⟩:=t;dsimp only;refine IG (IH (II (I:=λ_ c st4=>c=(none,())/\∃pend4 Us4,Ok κ O key S st4 pend4 (Us4.flatten++(W++R3))/\bP O key 0 pend4 Us4/\Us4.flatten.Perm Us.flatten)
     (Q:=λc st4=>c=(none,())/\∃pend4 Us4,Ok κ O key S st4 pend4 (Us4.flatten++(W++R3))/\bP O key 0 pend4 Us4/\Us4.flatten.Perm Us.flatten) ?s3 (λ_ _ q=>q) ⟨rfl,pend,Us,K3,k,.refl _⟩) ?p3)
    case s3=>
     rintro y c st4 _ hy ⟨rfl,pend4,Us4,K4,k4,hp4⟩;refine IG (IN ?_);have hsz:(IK st4).size=pend4.length:=by rw[<-K4.pend,Q0]
     by_cases cs:(IK st4).size > 1
     .rw[Jh cs];cases ho:(IK st4)[(IK st4).size-2]? with
      |none=>exact IF ⟨rfl,pend4,Us4,K4,k4,hp4⟩
      |some t=>
       obtain⟨t1,t2,older⟩:=t;dsimp only;by_cases co:older<=power' l.length (2*s1+n1) (2*s1+n1+n1+W.length) l.length
       .rw[Jh co];exact IF ⟨rfl,pend4,Us4,K4,k4,hp4⟩
       .rw[Ji co];refine IG (wq C K4 k4 (by lia) λst5 pend5 Us5 K5 k5 hp5 _=>?_);rw[Ji (by simp)];exact IF ⟨rfl,pend5,Us5,K5,k5,hp5.trans hp4⟩
     .rw[Ji cs];exact IF ⟨rfl,pend4,Us4,K4,k4,hp4⟩
    case p3=>
     rintro c st4 ⟨rfl,pend4,Us4,K4,k4,hp4⟩;dsimp only;refine IG (IP ?_);refine IG (IP ?_);have K5:Ok κ O key S (setPending st4 ((IK st4).modify ((IK st4).size-1) λx=>(x.fst,x.2.fst,power' l.length (2*s1+n1) (2*s1+n1+n1+W.length) l.length))) (pend4.modify ((IK st4).size-1) λx=>(x.1,x.2.1,power' l.length (2*s1+n1) (2*s1+n1+n1+W.length) l.length)) (Us4.flatten++(W++R3)):=
      ⟨K4.kind,K4.failed,by show((IK st4).modify _ _).toList=_;rw[Array.toList_modify,K4.pend],K4.arr,K4.all⟩
     obtain⟨K6,k6⟩:=gy K5 (k4.mod _ _) hsW hW0 rfl hp4.length_eq;exact IF ⟨_,rfl,by lia,by lia,_,_,R3,K6,k6,permU Us4 hp4,lenU Us4 hp4⟩
  clear e1;by_cases c1:U.length<IB l.length l.length 0
  .rw[Jh c1];refine IG (IM (Io ⟨rfl,?_⟩));refine IG (qL C K2 (by rw[QF];lia) (by lia) (by lia) (by rw[Q9 (Qf _),Vc];exact hs2) λst3 T3 K3 hpT hsT=>?_);rw[Ji (by simp)];have hT:T3.length=R.length:=(hpT.trans hp2).length_eq;obtain⟨W,R3,hW,hWn,hsW⟩:∃W R3,T3=W++R3/\W.length=min R.length (IB l.length l.length 0)/\aP O key W:=⟨T3.take (min R.length (IB l.length l.length 0)),T3.drop (min R.length (IB l.length l.length 0)),(QE _ _).symm,by rw[QQ];lia,hsT⟩;subst hW;rw[<-hWn];exact J _ W R3 K3 hsW (hpT.trans hp2) (by lia)
  .rw[Ji c1];exact J _ U R2 K2 hs2 hp2 hU0
 case p1=>
  rintro c st' ⟨rfl,pend,Us,R,K',k,hp,hlo⟩;dsimp only;have hR:R=[]:=by
   have:=hp.length_eq;rw[QF]at this;exact VB (by lia)
  subst hR;refine IG (IH (II (I:=λx c st4=>c=(none,())/\∃pend4 Us4,Ok κ O key S st4 pend4 (Us4.flatten++[])/\bP O key 0 pend4 Us4/\Us4.flatten.Perm Us.flatten/\(pend4.length<=1\/pend4.length+x<=l.length))
   (Q:=λc st4=>c=(none,())/\∃pend4 Us4,Ok κ O key S st4 pend4 (Us4.flatten++[])/\bP O key 0 pend4 Us4/\Us4.flatten.Perm Us.flatten/\pend4.length<=1) ?s4 ?f4 ⟨rfl,pend,Us,K',k,.refl _,.inr (by have:=k.len;lia)⟩) ?p4)
  case f4=>
   rintro c st4 ⟨rfl,pend4,Us4,K4,k4,hp4,hx⟩;exact⟨rfl,pend4,Us4,K4,k4,hp4,by lia⟩
  case s4=>
   rintro y c st4 _ hy ⟨rfl,pend4,Us4,K4,k4,hp4,hx⟩;refine IG (IN ?_);have hsz:(IK st4).size=pend4.length:=by rw[<-K4.pend,Q0]
   by_cases cs:(IK st4).size<=1
   .rw[Jh cs];exact IF ⟨rfl,pend4,Us4,K4,k4,hp4,by lia⟩
   .rw[Ji cs];refine IG (wq C K4 k4 ?_ λst5 pend5 Us5 K5 k5 hp5 hl5=>?_)
    .have e:∀(c:Prop) [Decidable c],(if c then(IK st4).size-2-1 else(IK st4).size-2)+1<pend4.length:=λc _=>by
      by_cases q:c
      .rw[Jh q];lia
      .rw[Ji q];lia
     exact e _
    .rw[Ji (by simp)];exact IF ⟨rfl,pend5,Us5,K5,k5,hp5.trans hp4,by lia⟩
  case p4=>
   rintro c st4 ⟨rfl,pend4,Us4,K4,k4,hp4,hx⟩;dsimp only;have hpl:Us4.flatten.Perm l:=hp4.trans (by simpa using hp);refine IF (h st4 Us4.flatten (by rw[K4.arr,QW]) K4.failed ?_ hpl)
   match pend4,Us4,k4,hx with
   |[],[],_,_=>simp[aP]
   |[_],[W],q,_=>simpa using q.2.2.2.1
   |[],_::_,q,_=>exact q.elim
   |_::_,[],q,_=>exact q.elim
   |[_],_::_::_,q,_=>exact q.2.2.2.2.elim
   |_::_::_,_,_,hx=>simp at hx
end
theorem xc:∀a:List Int,HT.lexLt a a=false
 |[]=>rfl
 |x::xs=>by rw[HT.aZ,Jh rfl];exact xc xs
theorem yY:∀a b c:List Int,HT.lexLt a b=true->HT.lexLt b c=true->HT.lexLt a c=true
 |[],[],_,h,_=>by cases h
 |[],_::_,[],_,h=>by cases h
 |[],_::_,_::_,_,_=>rfl
 |_::_,[],_,h,_=>by cases h
 |_::_,_::_,[],_,h=>by cases h
 |x::xs,y::ys,z::zs,h1,h2=>by
  rw[HT.aZ]at h1 h2 ⊢;by_cases e1:x=y
  .rw[Jh e1]at h1;subst e1;by_cases e2:x=z
   .rw[Jh e2]at h2 ⊢;exact yY xs ys zs h1 h2
   .rw[Ji e2]at h2 ⊢;exact h2
  .rw[Ji e1]at h1;have q1:=Jl h1;by_cases e2:y=z
   .subst e2;rw[Ji e1];exact h1
   .rw[Ji e2]at h2;have q2:=Jl h2;rw[Ji (by lia)];exact Jk (by lia)
theorem xF:∀a b:List Int,HT.lexLt a b=false->HT.lexLt b a=false->a=b
 |[],[],_,_=>rfl
 |[],_::_,h,_=>by cases h
 |_::_,[],_,h=>by cases h
 |x::xs,y::ys,h1,h2=>by
  rw[HT.aZ]at h1 h2;by_cases e:x=y
  .subst e;rw[Jh rfl]at h1 h2;rw[xF xs ys h1 h2]
  .rw[Ji e]at h1;rw[Ji (Ne.symm e)]at h2;have q1:=of_decide_eq_false h1;have q2:=of_decide_eq_false h2;lia
def BA(a b c:List Int)(h:HT.lexLt a c=true):HT.lexLt a b=true\/HT.lexLt b c=true:=by
 cases h1:HT.lexLt a b with
 |true=>exact .inl rfl
 |false=>
  right
  cases h2:HT.lexLt b a with
  |true=>exact yY b a c h2 h
  |false=>rw[<-xF a b h1 h2];exact h
noncomputable def mm:ID:=⟨List Int,HT.lexLt,xc,yY,BA,xF⟩
noncomputable def nO(κ:IC)(A:Hc)(s:GU)(x y:Value)(b:Bool):Prop:=
 ∀(prog:GT) (w:GV) (E:Value->GU->Prop) (Q:Bool->GU->Prop),Q b s->He (Hf prog w) A (keyLt' κ x y) Q E s
section
variable{κ:IC}{prog:GT}{w:GV}{A:Hc}{E:Value->GU->Prop}{s:GU}
def A5{key:Value->List Int}{vs:List Value}(hl:∀x∈vs,∀y∈vs,nO κ A s x y (HT.lexLt (key x) (key y))):di κ prog w A E s mm (λp=>key p.1) (λp=>p.1∈vs):=by
 intro x y st Q hx hy hk q;rw[lt'_eq];refine IG (IN ?_);rw[hk];refine IG (IM (IR (hl x.1 hx y.1 hy prog w _ _ ⟨rfl,?_⟩)));exact IF q
theorem jo:∀vs:List Value,List.map (λx:Value×Value=>x.fst) (vs.zip vs)=vs
 |[]=>rfl
 |v::r=>Jf (v::·) (jo r)
def jq {out:List Value}(h2:2<=vs.length)(hl:∀x∈vs,∀y∈vs,nO κ A s x y (HT.lexLt (key x) (key y)))(hd:(vs.map key).Nodup)(hp:out.Perm vs)(ho:out.Pairwise λx y=>HT.lexLt (key y) (key x)=false)(h:∀st':IE,(IJ st').map (·.2)=out.toArray->IL st'=none->Q () st'):
  wpS (Hf prog w) A E s sortRuns' Q (SortSt.mk' κ (vs.toArray.zip vs.toArray) #[] 7 none):=by
 have hz:(vs.toArray.zip vs.toArray).toList=vs.zip vs:=by simp
 refine gC (A5 hl) (l:=vs.zip vs) ⟨rfl,rfl,rfl,hz,λx hx=>(mem_zip_self hx).2⟩ (by simp;lia) ?_ λst' l' e1 e2 e3 e4=>h st' ?_ e2
 .show ((vs.zip vs).map λp=>key p.1).Nodup;have:(vs.zip vs).map (λp=>key p.1)=vs.map key:=by
   have:=Jf (List.map key) (jo vs)
   rwa[VR]at this
  rw[this];exact hd
 .have same:l'.map (·.2)=l'.map (·.1):=List.map_congr_left λp hp'=>(mem_zip_self (e4.mem_iff.mp hp')).1.symm;have e5:(l'.map (·.1)).Perm vs:=by have:=e4.map (·.1);rwa[jo]at this
  have e6:l'.map (·.1)=out:=by
   refine WB.eq_of_pairwise (le:=λx y=>HT.lexLt (key y) (key x)=false) (λa b ha hb q1 q2=>?_) ?_ ho (e5.trans hp.symm)
   .have ka:key a=key b:=xF _ _ q2 q1;have ha':=e5.mem_iff.mp ha;have hb':=hp.mem_iff.mp hb;obtain⟨i,hi⟩:=Qq ha';obtain⟨j,hj⟩:=Qq hb';have hi':(vs.map key)[i]?=some (key a):=by rw[Qu,hi];rfl
    have hj':(vs.map key)[j]?=some (key b):=by rw[Qu,hj];rfl
    obtain⟨li,gi⟩:=Qa.mp hi';obtain⟨lj,gj⟩:=Qa.mp hj';by_cases c:i=j
    .subst c;rw[hi]at hj;cases hj;rfl
    .exfalso;rcases Nat.lt_or_gt_of_ne c with c|c
     .exact (We.mp hd) i j li lj c (by rw[gi,gj,ka])
     .exact (We.mp hd) j i lj li c (by rw[gi,gj,ka])
   .rw[WP];exact e3
  apply Array.ext';rw[Array.toList_map,e1,same,e6]
end
section
variable{prog:GT}{w:GV}{A:Hc}{E:Value->GU->Prop}{s:GU}
noncomputable def oP(A:Hc)(s:GU)(vs out:List Value):Prop:=∃key:Value->List Int,(∀x∈vs,∀y∈vs,cP A s x y (HT.lexLt (key x) (key y)))/\(vs.map key).Nodup/\out.Perm vs/\out.Pairwise λx y=>HT.lexLt (key y) (key x)=false
def Dd:∀{vs out:List Value},vs.length<2->out.Perm vs->out=vs
 |[],_,_,h=>h.eq_nil
 |[v],_,_,h=>List.perm_singleton.mp h
 |_::_::_,_,h,_=>by simp at h;lia
noncomputable def iC(s:GU)(vs:List Value):Prop:=∀v∈vs,s.TypeIs v "list"
def Bz (h:s.TypeIs v "list")(q:Q none s):He (Hf prog w) A (firstOfTuple' v) Q E s:=by
 refine Hs (wpAny_typeOf h ?_);rw[Jh (by decide)];exact Hy q
theorem qM:∀{vs:List Value},(∀v∈vs,∀Q:β->GU->Prop,Q b s->He (Hf prog w) A (f v) Q E s)->∀{Q:List β->GU->Prop},Q (vs.map λ_=>b) s->He (Hf prog w) A (vs.mapM f) Q E s
 |[],_,Q,q=>by rw[List.mapM_nil];exact Hy q
 |v::r,h,Q,q=>by
  rw[List.mapM_cons];refine Hs (h v (by simp) _ ?_);refine Hs (qM (λv hv=>h v (by simp[hv])) ?_);exact Hy q
def A4:∀(vs:List Value),((vs.map λ_=>Value.type "list").toArray.all λx=>x==Value.type "list")=true:=by
 intro vs;simp only[List.all_toArray,List.all_map,Wp];intro _ _;rfl
def AZ (h:iC s vs)(h2:2<=vs.length)(q:Q oneType' s):He (Hf prog w) A (keyKind' vs.toArray) Q E s:=by
 obtain⟨v,r,rfl⟩:∃v r,vs=v::r:=by
  cases vs with
  |nil=>simp at h2
  |cons v r=>exact⟨v,r,rfl⟩
 rw[keyKind'_eq,List.mapM_toArray,map_eq_pure_bind];refine Hs (Hs (qM (b:=none) (λv hv Q q=>Bz (h v hv) q) (Hy ?_)));rw[Ji (by simp),Ji (by simp)];rw[oneTypeOnly'_eq,List.mapM_toArray,map_eq_pure_bind];refine Hs (Hs (Hs (qM (b:=Value.type "list") (λv hv Q q=>wpAny_typeOf (h v hv) q) (Hy ?_))));have h0:((v::r).map λ_=>Value.type "list").toArray[0]?=some (Value.type "list"):=by simp
 rw[h0];simp only[A4,if_true];exact Hy (Hy q)
def kq (ho:s.heap.get? a=some (IS "list" vs.toArray n))(hz:vs.length<=sizeLine)(hz2:out.length<=sizeLine)(hr:∀s':GU,(∀b o,b≠a->s.heap.get? b=some o->s'.heap.get? b=some o)->iC s' vs/\oP A s' vs out)(h:P (.done (.ret .none)) {s with heap:=sortedHeap s.heap a vs out.toArray}):
  He (Hf prog w) A (Builtin.«list.sort» ⟨[.ref a],[]⟩) P E s:=by
 rw[list_sort_plain];have ha:a<s.heap.objs.size:=Qi ho;have hzs:vs.toArray.size<=sizeLine:=by simpa using hz
 refine Hs (listItems_at ho rfl ?_);refine Hs (IT ho rfl ?_ hzs (by simp));obtain⟨e1,ho1⟩:∃e1,(s.heap.update a (Obj.mapSeq λ_=>#[])).get? a=some (IS "list" #[] e1):=⟨_,IU ho (λ_=>#[])⟩;refine Hs (IV ho1 rfl ?_);refine Hs (wpAny_newTuple ?_);refine Hs (wpAny_newList ?_);refine Ht ?_;have ho6:(((s.heap.update a (Obj.mapSeq λ_=>#[])).push (IS "tuple" vs.toArray 0)).push (IS "list" #[] 0)).get? a=some (IS "list" #[] e1):=by
  rw[Heap.get?_push_ne _ _ _ (by rw[size_push',Ve];exact QI (Ws ha)),Heap.get?_push_ne _ _ _ (by rw[Ve];exact QI ha)];exact ho1
 have hk:∀b o,b≠a->s.heap.get? b=some o->(((s.heap.update a (Obj.mapSeq λ_=>#[])).push (IS "tuple" vs.toArray 0)).push (IS "list" #[] 0)).get? b=some o:=by
  intro b o hb e;refine Qe _ (Qe _ ?_);rw[WI _ _ _ _ hb];exact e
 obtain⟨hA,hR⟩:=hr {s with heap:=((s.heap.update a (Obj.mapSeq λ_=>#[])).push (IS "tuple" vs.toArray 0)).push (IS "list" #[] 0)} hk;show He (Hf prog w) A _ P E {s with heap:=((s.heap.update a (Obj.mapSeq λ_=>#[])).push (IS "tuple" vs.toArray 0)).push (IS "list" #[] 0)};dsimp only;have hsz:vs.toArray.size=vs.length:=by simp
 by_cases h2:vs.toArray.size<2
 .rw[Jh h2,Jh h2];refine Hs (Hy ?_);rw[StateT.run_pure];refine Hs (Hy ?_);dsimp only;have e0:(vs.toArray.zip vs.toArray).map (·.2)=out.toArray:=by
   have e1:out=vs:=by
    obtain⟨_,_,_,q,_⟩:=hR;exact Dd (by simpa using h2) q
   rw[e1];apply Array.ext';simpa using pQ vs
  refine Hs (IV ho6 rfl ?_);refine Hs (IT ho6 rfl ?_ (by simp) (by show((vs.toArray.zip vs.toArray).map (·.2)).size<=_;rw[e0];simp;lia));simp only[bne_self_eq_false,QT,if_false];rw[show(IJ (SortSt.mk' general' (vs.toArray.zip vs.toArray) #[] 7 none)).map (·.2)=out.toArray from e0];exact Hy h
 .rw[Ji h2,Ji h2];obtain⟨key0,r1,r2,r3,r4⟩:=hR;refine Hs (AZ hA (by lia) ?_);have r0:∀x∈vs,∀y∈vs,nO oneType' A _ x y (HT.lexLt (key0 x) (key0 y)):=λx hx y hy p w' E' Q' q=>by
   rw[keyLt'_oneType];exact r1 x hx y hy p w' E' Q' q
  refine Hs (Hi (jq (key:=key0) (Q:=λ_ st'=>(IJ st').map (·.2)=out.toArray/\IL st'=none) (by lia) r0 r2 r3 r4 λst' a1 a2=>⟨a1,a2⟩) ?_ λ_ _ e=>e);rintro⟨⟨⟩,st'⟩ s' ⟨rfl,hp,hf⟩;dsimp only;refine Hs (IV ho6 rfl ?_);refine Hs (IT ho6 rfl ?_ (by simp) (by show((IJ st').map (·.2)).size<=_;rw[hp];simp;lia));rw[hf];simp only[bne_self_eq_false,QT,if_false];rw[hp];exact Hy h
def qN (hl:s.heap.IsList l vs.toArray)(hz:vs.length<=sizeLine)(hz2:out.length<=sizeLine)(hr:∀s':GU,(∀b o,s.heap.get? b=some o->s'.heap.get? b=some o)->iC s' vs/\oP A.in1.in1 s' vs out)(h:Q (.ref (s.heap.objs.size+1)) {s with heap:=IW s.heap vs out.toArray}):
  He (Hf prog w) A (call (.builtin "sorted") [.ref l]) Q E s:=by
 refine Calls.call_function_entry kind_sorted plain_sorted entry_sorted (args_sorted1 _) ?_;unfold Builtin.«sorted»;refine Hs (m:=checkCount "sorted" 1 1 _) (Hy ?_);refine Hs (collect_list hl ?_ hz);refine Hs (wpAny_newList ?_);have hsz:((s.heap.push (IS "list" #[] 0)).update s.heap.objs.size (Obj.mapSeq (·++vs.toArray))).objs.size=s.heap.objs.size+1:=by
  rw[Ve,size_push']
 have hoL:(((s.heap.push (IS "list" #[] 0)).update s.heap.objs.size (Obj.mapSeq (·++vs.toArray))).push (IS "list" vs.toArray 0)).get? (s.heap.objs.size+1)=some (IS "list" vs.toArray 0):=by
  rw[<-hsz];exact Qw _ rfl
 have hk:∀b o,s.heap.get? b=some o->(((s.heap.push (IS "list" #[] 0)).update s.heap.objs.size (Obj.mapSeq (·++vs.toArray))).push (IS "list" vs.toArray 0)).get? b=some o:=by
  intro b o e;refine Qe _ ?_;rw[WI _ _ _ _ (QI (Qi e))];exact Qe _ e
 show He _ _ _ _ _ {s with heap:=((s.heap.push (IS "list" #[] 0)).update s.heap.objs.size (Obj.mapSeq (·++vs.toArray))).push (IS "list" vs.toArray 0)};rw[hsz];refine Hs (Ht (Ir slot_list_sort ⟨_,hoL,rfl⟩ entry_list_sort (kq (out:=out) hoL hz hz2 (λs' k=>hr s' λb o e=>k b o (QI (Ws (Qi e))) (hk b o e)) ⟨_,rfl,?_⟩) (args_list_sort _)));exact Hy ⟨_,rfl,h⟩
end
noncomputable def cQ(K:Qb)(H:Hp)(c:Int)(n:Nat)(b:Addr)(k:List Int):Prop:=k.length=n /\
 ((c=0/\bg K H b (k.map V.int))\/∃(rs:List Addr) (kk:List (List Int)),2<=c/\k=kk.flatten/\rs.length=kk.length/\bg K H b (rs.map V.ref)/\∀(j:Nat) r q,rs[j]?=some r->kk[j]?=some q->(q.length:Int)+1=c/\bg K H r (q.map V.int))
noncomputable def oh(K:Qb)(H:Hp)(bs cs:List Addr):Prop:=∃(ks:List (List Int)) (c:Int) (n:Nat),ks.length=bs.length/\(∀(i:Nat) b k,bs[i]?=some b->ks[i]?=some k->∃k',k=c::k'/\cQ K H c n b k') /\
 ks.Nodup/\∃ps:List (List Int×Addr),ps.Perm (ks.zip bs)/\cs=ps.map Prod.snd/\ps.Pairwise λx y=>HT.lexLt y.1 x.1=false
section
variable{X:Cx}
def By {k:List Int}(r:ax (k.map V.int) its)(j:Nat)(v:Value)(hv:its.toArray[j]?=some v):∃t,v=.int (k.getD j 0) t:=by
 have hv':its[j]?=some v:=by simpa using hv
 obtain⟨y,hy,ry⟩:=r.at hv';rw[Qu]at hy;cases hb:k[j]? with
 |none=>rw[hb]at hy;cases hy
 |some b=>
  rw[hb]at hy;cases hy;obtain⟨t,rfl⟩:=(ry:∃t,v=.int b t);exact⟨t,by rw[QL,hb];rfl⟩
theorem wN:∀{bs:List Addr}{us:List Value},ax (bs.map V.ref) us->us=bs.map Value.ref
 |[],_,.nil=>rfl
 |_::_,_,.cons p q=>by
  rw[wN q];cases p;rfl
theorem kM:∀(bs:List Addr),ax (bs.map V.ref) (bs.map Value.ref)
 |[]=>.nil
 |_::r=>.cons rfl (kM r)
def rS {s':GU}(I:Inv X pins σ H s)(kp:∀b o,s.heap.get? b=some o->s'.heap.get? b=some o)(h:bg X.K H b (k.map V.int)):∃its:Array Value,s'.heap.IsList b its/\bb its k:=by
 obtain⟨its,r,pl,_⟩:=I.list h;obtain⟨o,ho,hc,n,hd⟩:=pl.isList;have:=r.length;rw[QN]at this;exact⟨its.toArray,⟨o,kp _ _ ho,hc,n,hd⟩,by simp;lia,By r⟩
def cQ.val (I:Inv X pins σ H s)(kp:∀b o,s.heap.get? b=some o->s'.heap.get? b=some o)(h:cQ X.K H c n b k):cA s' c n (.ref b) k:=by
 obtain⟨hn,⟨hc,h⟩|⟨rs,kk,hc,e,hl,h,hr⟩⟩:=h
 .obtain ⟨its,h1,h2⟩:=rS I kp h;exact⟨b,its,rfl,h1,hn,.inl ⟨hc,h2⟩⟩
 .obtain ⟨its,r,pl,_⟩:=I.list h;obtain⟨o,ho,hc',n',hd⟩:=pl.isList;obtain rfl:=wN r;refine⟨b,_,rfl,⟨o,kp _ _ ho,hc',n',hd⟩,hn,.inr ⟨kk,hc,e,by simp[hl],λj u q hu hq=>?_⟩⟩;have hu':(rs.map Value.ref)[j]?=some u:=by simpa using hu
  rw[Qu]at hu';obtain⟨a,ha,rfl⟩:=QG.mp hu';obtain⟨l1,l2⟩:=hr j a q ha hq;obtain⟨ri,g1,g2⟩:=rS I kp l2;exact⟨l1,a,ri,rfl,g1,g2⟩
def qO {bs cs:List Addr}(I:Inv X pins σ H s)(hz:cs.length<=sizeLine)(q:∀l,H l=none->Q (.ref l) (aE H l (.lst (cs.map V.ref)))):
  EP X pins σ Q (.ref (s.heap.objs.size+1)) {s with heap:=IW s.heap (bs.map Value.ref) (cs.map Value.ref).toArray}:=by
 have hsz:((s.heap.push (IS "list" #[] 0)).update s.heap.objs.size (Obj.mapSeq (·++(bs.map Value.ref).toArray))).objs.size=s.heap.objs.size+1:=by
  rw[Ve,size_push']
 have hoL:(((s.heap.push (IS "list" #[] 0)).update s.heap.objs.size (Obj.mapSeq (·++(bs.map Value.ref).toArray))).push (IS "list" (bs.map Value.ref).toArray 0)).get? (s.heap.objs.size+1)=some (IS "list" (bs.map Value.ref).toArray 0):=by
  rw[<-hsz];exact Qw _ rfl
 have ha:=Qi hoL;have hk1:∀b o,s.heap.get? b=some o->(((s.heap.push (IS "list" #[] 0)).update s.heap.objs.size (Obj.mapSeq (·++(bs.map Value.ref).toArray))).push (IS "list" (bs.map Value.ref).toArray 0)).get? b=some o:=by
  intro b o e;refine Qe _ ?_;rw[WI _ _ _ _ (QI (Qi e))];exact Qe _ e
 have hk2:∀b o,s.heap.get? b=some o->(IW s.heap (bs.map Value.ref) (cs.map Value.ref).toArray).get? b=some o:=by
  intro b o e;have hb:=Qi e;unfold IW sortedHeap;rw[WI _ _ _ _ (QI (Ws hb))];refine Qe _ (Qe _ ?_);rw[WI _ _ _ _ (QI (Ws hb))];exact hk1 b o e
 have hres:∃c,(IW s.heap (bs.map Value.ref) (cs.map Value.ref).toArray).get? (s.heap.objs.size+1)=some (IS "list" (cs.map Value.ref).toArray c):=by
  unfold IW sortedHeap;obtain⟨e1,ho1⟩:∃e1,((((s.heap.push (IS "list" #[] 0)).update s.heap.objs.size (Obj.mapSeq (·++(bs.map Value.ref).toArray))).push (IS "list" (bs.map Value.ref).toArray 0)).update (s.heap.objs.size+1) (Obj.mapSeq λ_=>#[])).get? (s.heap.objs.size+1)=some (IS "list" #[] e1):=⟨_,IU hoL (λ_=>#[])⟩;exact⟨_,IU (Qe _ (Qe _ ho1)) (λ_=>(cs.map Value.ref).toArray)⟩
 obtain⟨c,e⟩:=hres;exact⟨.ref (s.heap.objs.size+1),_,I.laid (t':=s.toks) hk2 (W8 _) (show aS X.prog X.w _ _ _ (.lst (cs.map V.ref))from⟨by rw[QN];exact hz,_,c,kM cs,e⟩),rfl,q _ (I.hok.fresh (W8 _))⟩
def gD(hu:X.A.units+64<HF):bj X (.builtin "sorted") (λxs H Q=>∃(p:Addr) (bs cs:List Addr),xs=[.ref p]/\bg X.K H p (bs.map V.ref)/\oh X.K H bs cs/\∀l,H l=none->Q (.ref l) (aE H l (.lst (cs.map V.ref)))):=by
 intro pins s σ H xs us Q I r h;obtain⟨p,bs,cs,rfl,hq,⟨ks,c,n,hl,hk,hkd,ps,hps,rfl,hpp⟩,q⟩:=h;obtain⟨u,rfl,rx⟩:=xZ r;cases rx;obtain⟨its,r',pl,hz⟩:=I.list hq;obtain rfl:=wN r';rw[QN]at hz;have hbd:bs.Nodup:=by
  unfold List.Nodup;rw[We];intro i j hi hj hij e';have hi':i<ks.length:=by lia
  have hj':j<ks.length:=by lia
  obtain⟨k1,e1,q1⟩:=hk i bs[i] ks[i] (by simp[hi]) (by simp[hi']);obtain⟨k2,e2,q2⟩:=hk j bs[j] ks[j] (by simp[hj]) (by simp[hj']);rw[e']at q1;have:=(q1.val I λ_ _ h=>h).det (q2.val I λ_ _ h=>h);exact We.mp hkd i j hi' hj' hij (by rw[e1,e2,this])
 have hpm:(ps.map Prod.snd).Perm bs:=by
  have:=hps.map Prod.snd
  rwa[List.map_snd_zip (by lia)]at this
 have hso:(ps.map Prod.snd).Pairwise λx y=>HT.lexLt ((ks[bs.idxOf y]?).getD []) ((ks[bs.idxOf x]?).getD [])=false:=by
  have hm:∀p∈ps,(ks[bs.idxOf p.2]?).getD []=p.1:=λp hp=>by
   obtain⟨i,hi⟩:=Qq (hps.mem_iff.mp hp);obtain⟨h1,h2⟩:=VL.mp hi;obtain⟨h3,h4⟩:=Qa.mp h2;rw[<-h4,hbd.idxOf_getElem i h3,h1];rfl
  rw[WP];refine hpp.imp_of_mem λ{a b} ha hb h=>?_;rw[hm a ha,hm b hb];exact h
 have hcs:(ps.map Prod.snd).length=bs.length:=hpm.length_eq;clear hpp hps;generalize ps.map Prod.snd=cs at *
 have keyX:∀(i:Nat),i<bs.length->∃b k,bs[i]?=some b/\ks[i]?=some k:=λi hi=>⟨bs[i],ks[i],by simp[hi],by simp⟩;refine qN (out:=cs.map Value.ref) pl.isList (by simpa using hz) (by rw[QN,hcs];exact hz) (λs' kp=>⟨λv hv=>?_,?_⟩) ?_
 .obtain ⟨b,hb,rfl⟩:=WQ.mp hv;obtain⟨i,hi⟩:=Qq hb;obtain⟨_,k,_,h2⟩:=keyX i (Qa.mp hi).1;obtain⟨k',_,hk'⟩:=hk i b k hi h2;obtain⟨l,_,e,⟨o,ho,hc,_⟩,_⟩:=hk'.val I kp;cases e;exact⟨o,ho,hc⟩
 .have ix:∀(i:Nat) b,bs[i]?=some b->bs.idxOf b=i:=λi b hb=>by
   obtain⟨hi,rfl⟩:=Qa.mp hb;exact hbd.idxOf_getElem i hi
  let key:Value->List Int:=λv=>match v with
   |.ref b=>(ks[bs.idxOf b]?).getD []
   |_=>[]
  have keyAt:∀(i:Nat) b k,bs[i]?=some b->ks[i]?=some k->key (.ref b)=k:=λi b k hb hk'=>by
   show(ks[bs.idxOf b]?).getD []=k;rw[ix i b hb,hk'];rfl
  refine⟨key,λx hx y hy=>?_,?_,hpm.map _,?_⟩
  .obtain ⟨b1,hb1,rfl⟩:=WQ.mp hx;obtain⟨b0,hb0,rfl⟩:=WQ.mp hy;obtain⟨i1,e1⟩:=Qq hb1;obtain⟨i0,e0⟩:=Qq hb0;obtain⟨_,k1,_,f1⟩:=keyX i1 (Qa.mp e1).1;obtain⟨_,k0,_,f0⟩:=keyX i0 (Qa.mp e0).1;obtain⟨k1',rfl,q1⟩:=hk _ _ _ e1 f1;obtain⟨k0',rfl,q0⟩:=hk _ _ _ e0 f0;rw[keyAt _ _ _ e1 f1,keyAt _ _ _ e0 f0,HT.aZ,Jh rfl];exact cA.lt (by show X.A.units+1+1+2<HF;lia) (q1.val I kp) (q0.val I kp)
  .have:(bs.map Value.ref).map key=ks:=by
    apply WR;intro i;rw[Qu,Qu];by_cases hi:i<bs.length
    .obtain ⟨b,k,hb,hk'⟩:=keyX i hi;rw[hb,hk'];show some (key (.ref b))=some k;rw[keyAt i b k hb hk']
    .rw[Qx (by lia),Qx (by lia)];rfl
   rw[this];exact hkd
  .rw[WP];exact hso
 .exact qO I (by rw[hcs];exact hz) q
end
noncomputable def eA(ns:List Int):List Int:=ns.mergeSort λa b=>decide (a<=b)
def kN(ns:List Int):(eA ns).Perm ns:=List.mergeSort_perm _ _
def gE(ns:List Int):(eA ns).Pairwise (·<=·):=by
 have:=List.pairwise_mergeSort (le:=λa b:Int=>decide (a<=b)) (λa b c h1 h2=>by simp only[Jm]at *;lia) (λa b=>by simp only[W0,Jm];lia) ns;exact this.imp λh=>Jl h
def Bx (h:ms.Perm ns)(hs:ms.Pairwise (·<=·)):eA ns=ms:=
 WB.eq_of_pairwise (le:=λa b:Int=>a<=b) (λa b _ _ h1 h2=>by lia) (gE ns) hs ((kN ns).trans h.symm)
theorem gF:∀{ns:List Int}{its:List Value},ax (ns.map V.int) its->Ic its ns
 |[],_,.nil=>.nil
 |n::ns,_,.cons r t=>by
  obtain⟨k,rfl⟩:=(r:∃t,_=Value.int n t);exact .cons _ _ (gF t)
theorem gG:∀{ns:List Int}{its:List Value},Ic its ns->ax (ns.map V.int) its
 |_,_,.nil=>.nil
 |_,_,.cons _ _ t=>.cons ⟨_,rfl⟩ (gG t)
section
variable{X:Cx}
def qP:bj X (.builtin "sorted") (λxs H Q=>∃(p:Addr) (ns:List Int),xs=[.ref p]/\bg X.K H p (ns.map V.int)/\ns.length<64/\∀l,H l=none->Q (.ref l) (aE H l (.lst ((eA ns).map V.int)))):=by
 intro pins s σ H xs us Q I r h;obtain⟨p,ns,rfl,hq,h64,q⟩:=h;obtain⟨u,rfl,rx⟩:=xZ r;cases rx;obtain⟨its,r',pl,hz⟩:=I.list hq;have hlen:=r'.length;rw[QN]at hlen;refine sorted_ints pl.isList (gF r') (by lia) λout ns' h1 h2 h3=>?_;obtain⟨e,he⟩:=sortedAll_at s.heap its out;have e1:eA ns=ns':=Bx h2 h3;refine⟨.ref (s.heap.objs.size+1),_,I.laid (a:=s.heap.objs.size+1) (t':=s.toks) (λb o hb=>sortedAll_old hb) (by lia) (show aS X.prog X.w _ _ _ (.lst ((eA ns).map V.int))from⟨?_,out.toList,e,?_,?_⟩),rfl,q _ (I.hok.fresh (by lia))⟩
 .rw[QN,(kN ns).length_eq];have:(64:Nat)<=sizeLine:=by decide
  lia
 .rw[e1];exact gG h1
 .exact he
end
end L2
namespace Mini
open PySem PySem.Spec PyProof.Rows L2
section
variable{K:Qb}{as:List Addr}{H H':Hp}{m m':Me}{Q:VK}{X:Cx}
noncomputable def fA:df->Option (Str×Value)
 |.len=>some ("len",.builtin "len")
 |.int=>some ("int",.type "int")
 |.list=>some ("list",.type "list")
 |.tuple=>some ("tuple",.type "tuple")
 |.max2=>some ("max",.builtin "max")
 |.min2=>some ("min",.builtin "min")
 |.sum=>some ("sum",.builtin "sum")
 |.sorted=>some ("sorted",.builtin "sorted")
 |.sortI=>some ("sorted",.builtin "sorted")
noncomputable def si(K:Qb)(b:df):List V->Hp->VK->Prop:=λvs H Q=>∃as m ws,aH K as m H/\ab K as H ws vs/\ak K as H Q (vj b ws m)
def yQ (h:ab K as H [x] vs):∃v,vs=[v]/\ag K as H x v:=by
 obtain⟨v,r,rfl,q,t⟩:=aj.mp h;obtain rfl:=au.mp t;exact⟨v,rfl,q⟩
def qQ (h:ab K as H [x,y] vs):∃v u,vs=[v,u]/\ag K as H x v/\ag K as H y u:=by
 obtain⟨v,r,rfl,q,t⟩:=aj.mp h;obtain⟨u,rfl,q'⟩:=yQ t;exact⟨v,u,rfl,q,q'⟩
def gH (S:aH K as m H)(R:ag K as H w v)(h:kn m w=some xs):∃p vs,v=.ref p/\bg K H p vs/\ab K as H xs vs:=by
 cases w with
 |rol ys=>
  cases h;obtain⟨a,vs,rfl,hq,rr⟩:=a8.mp R;exact⟨a,vs,rfl,hq.sq,rr⟩
 |ref l=>
  obtain⟨b,hb,rfl⟩:=aD.mp R;obtain⟨a,vs,ha,e,r⟩:=zG S (zw h);rw[hb]at ha;cases ha;exact⟨b,vs,rfl,bg.of e,r⟩
 |_=>cases h
theorem jr:∀{xs:List Wd}{vs:List V}{i:Int},ab K as H xs vs->km xs=some i->∃ns:List Int,vs=ns.map V.int/\ns.sum=i
 |[],vs,i,R,h=>by cases h;exact⟨[],au.mp R,rfl⟩
 |x::xs,vs,i,R,h=>by
  obtain⟨v,r,rfl,q,t⟩:=aj.mp R;cases x with
  |int j=>
   simp only[km,QG]at h;obtain⟨k,hk,rfl⟩:=h;obtain⟨ns,rfl,rfl⟩:=jr t hk;obtain rfl:=aa.mp q;exact⟨j::ns,rfl,by simp⟩
  |_=>cases h
def wr{o:Option (List Wd)}{f:(List Wd)->Rz}(h:ak K as H Q (match o with|some a=>f a|none=>.no)):∃a,o=some a/\ak K as H Q (f a):=by
 cases o with
 |none=>exact h.elim
 |some a=>exact⟨a,rfl,h⟩
def Bw{o:Option Int}{f:Int->Rz}(h:ak K as H Q (match o with|some a=>f a|none=>.no)):∃a,o=some a/\ak K as H Q (f a):=by
 cases o with
 |none=>exact h.elim
 |some a=>exact⟨a,rfl,h⟩
theorem o0:∀(xs ys:List Int),b8 xs ys=HT.lexLt xs ys
 |[],[]=>rfl
 |[],_::_=>rfl
 |_::_,[]=>rfl
 |x::xs,y::ys=>by
  show(if x=y then b8 xs ys else decide (x<y))=if x=y then HT.lexLt xs ys else decide (x<y);rw[o0 xs ys]
theorem gI (p:List Int×α):∀l:List (List Int×α),(zP p l).Perm (p::l)
 |[]=>.refl _
 |q::r=>by
  show(if b8 p.1 q.1 then p::q::r else q::zP p r).Perm _;split
  .exact .refl _
  .exact ((gI p r).cons q).trans (.swap p q r)
theorem kO:∀l:List (List Int×α),(zr l).Perm l
 |[]=>.refl _
 |p::r=>by rw[yn];exact(gI p _).trans ((kO r).cons p)
theorem rR{α:Type}:∀{ps:List (List Int×α)},yM (ps.map Prod.fst)=true->ps.Pairwise (λx y=>HT.lexLt x.1 y.1=true)/\∃n c,∀x∈ps,x.1.length=n/\x.1.head?=c
 |[],_=>⟨.nil,0,none,by simp⟩
 |[p],_=>⟨by simp,p.1.length,p.1.head?,by simp⟩
 |p::q::r,h=>by
  have h':(b8 p.1 q.1&&(decide (p.1.length=q.1.length)&&decide (p.1.head?=q.1.head?))&&yM ((q::r).map Prod.fst))=true:=h;rw[QH,QH,QH]at h';obtain⟨⟨a1,a2,a4⟩,a3⟩:=h';obtain⟨b1,n,c,b2⟩:=rR a3;rw[o0]at a1;have bq:=b2 q (by simp);refine⟨Wq.mpr ⟨λy hy=>?_,b1⟩,n,c,λx hx=>?_⟩
  .rcases Qk.mp hy with rfl|hy
   .exact a1
   .exact yY _ _ _ a1 ((Wq.mp b1).1 y hy)
  .rcases Qk.mp hx with rfl|hx
   .exact ⟨(Jl a2).trans bq.1,(Jl a4).trans bq.2⟩
   .exact b2 x hx
theorem wO:∀(l:List Int),ab K as H (l.map Wd.int) (l.map V.int)
 |[]=>au.mpr rfl
 |n::l=>aj.mpr ⟨_,_,rfl,aa.mpr rfl,wO l⟩
theorem wt:∀{xs:List Wd}{vs:List V}{k:List Int},ab K as H xs vs->zX xs=some k->vs=k.map V.int
 |[],vs,k,R,h=>by cases h;exact au.mp R
 |x::xs,vs,k,R,h=>by
  obtain⟨v,r,rfl,q,t⟩:=aj.mp R;cases x with
  |int j=>
   have h':(zX xs).map (j::·)=some k:=h;obtain⟨k',hk,rfl⟩:=QG.mp h';rw[wt t hk,aa.mp q];rfl
  |_=>cases h
theorem gJ(S:aH K as m H):∀{zs:List Wd}{vs:List V}{ks:List (List Int)},ab K as H zs vs->wY m zs=some ks ->
  ∃bs:List Addr,vs=bs.map V.ref/\ks.length=bs.length/\∀(i:Nat) b k,bs[i]?=some b->ks[i]?=some k->bg K H b (k.map V.int)
 |[],vs,ks,R,h=>by
  cases h;exact⟨[],au.mp R,rfl,λi b k h1 _=>by simp at h1⟩
 |z::zs,vs,ks,R,h=>by
  obtain⟨v,r,rfl,q,t⟩:=aj.mp R;cases z with
  |ref l=>
   have h':(match zi m l with
    |some xs=>match zX xs,wY m zs with
     |some k,some ks=>some (k::ks)
     |_,_=>none
    |none=>none)=some ks:=h
   cases e1:zi m l with
   |none=>rw[e1]at h';cases h'
   |some xs=>
    rw[e1]at h';cases e2:zX xs with
    |none=>simp only[e2]at h';cases h'
    |some k=>
     cases e3:wY m zs with
     |none=>simp only[e2,e3]at h';cases h'
     |some ks'=>
      simp only[e2,e3]at h';cases h';obtain⟨bs,rfl,hl,hb⟩:=gJ S t e3;obtain⟨p,us,rfl,hq,rr⟩:=gH S q (show kn m (.ref l)=some xs from e1);refine⟨p::bs,rfl,by simp[hl],λi b k' h1 h2=>?_⟩;cases i with
      |zero=>
       cases h1;cases h2;rw[<-wt rr e2];exact hq
      |succ i=>exact hb i b k' h1 h2
  |_=>cases h
def DQ (h:fK kk=some k):∃c:Int,k=c::kk.flatten/\2<=c/\kk≠[]/\∀q∈kk,(q.length:Int)+1=c:=by
 cases kk with
 |nil=>cases h
 |cons r rs=>
  replace h:(if r.length≠0/\rs.all (λq=>q.length==r.length)=true then some (((r.length:Int)+1)::(r::rs).flatten)else none)=some k:=h
  by_cases z:r.length≠0/\rs.all (λq=>q.length==r.length)=true
  .rw[Jh z]at h;cases h;refine⟨_,rfl,by lia,by simp,λq hq=>?_⟩;rcases Qk.mp hq with rfl|hq
   .rfl
   .have:=eq_of_beq (Wp.mp z.2 q hq);lia
  .rw[Ji z]at h;cases h
def ck (S:aH K as m H)(R:ab K as H xs vs)(hq:bg K H p vs)(h:j9 m xs=some k):∃c k',k=c::k'/\cQ K H c k'.length p k':=by
 unfold j9 at h;cases e:zX xs with
 |some k'=>
  rw[e]at h;cases h;exact⟨0,k',rfl,rfl,.inl ⟨rfl,by rw[<-wt R e];exact hq⟩⟩
 |none=>
  rw[e]at h;obtain⟨kk,h1,h2⟩:=Qv.mp h;obtain⟨c,rfl,hc,_,hl⟩:=DQ h2;obtain⟨rs,rfl,h3,h4⟩:=gJ S R h1;exact⟨c,_,rfl,rfl,.inr ⟨rs,kk,hc,rfl,h3.symm,hq,λj r q a b=>⟨hl q (Qm b),h4 j r q a b⟩⟩⟩
theorem gK(S:aH K as m H):∀{zs:List Wd}{vs:List V}{ks:List (List Int)},ab K as H zs vs->xq m zs=some ks ->
  ∃bs:List Addr,vs=bs.map V.ref/\ks.length=bs.length/\∀(i:Nat) b k,bs[i]?=some b->ks[i]?=some k->∃c k',k=c::k'/\cQ K H c k'.length b k'
 |[],vs,ks,R,h=>by
  cases h;exact⟨[],au.mp R,rfl,λi b k h1 _=>by simp at h1⟩
 |z::zs,vs,ks,R,h=>by
  obtain⟨v,r,rfl,q,t⟩:=aj.mp R;cases z with
  |ref l=>
   have h':(match zi m l with
    |some xs=>match j9 m xs,xq m zs with
     |some k,some ks=>some (k::ks)
     |_,_=>none
    |none=>none)=some ks:=h
   cases e1:zi m l with
   |none=>rw[e1]at h';cases h'
   |some xs=>
    rw[e1]at h';cases e2:j9 m xs with
    |none=>simp only[e2]at h';cases h'
    |some k=>
     cases e3:xq m zs with
     |none=>simp only[e2,e3]at h';cases h'
     |some ks'=>
      simp only[e2,e3]at h';cases h';obtain⟨bs,rfl,hl,hb⟩:=gK S t e3;obtain⟨p,us,rfl,hq,rr⟩:=gH S q (show kn m (.ref l)=some xs from e1);refine⟨p::bs,rfl,by simp[hl],λi b k' h1 h2=>?_⟩;cases i with
      |zero=>
       cases h1;cases h2;exact ck S rr hq e2
      |succ i=>exact hb i b k' h1 h2
  |_=>cases h
theorem rQ (hz:ag K as H z (.ref b)):∀{ps:List (List Int×Wd)}{qs:List (List Int×Addr)},ps.map Prod.fst=qs.map Prod.fst->ab K as H (ps.map Prod.snd) ((qs.map Prod.snd).map V.ref) ->
  (zP (k,z) ps).map Prod.fst=(zP (k,b) qs).map Prod.fst/\ab K as H ((zP (k,z) ps).map Prod.snd) (((zP (k,b) qs).map Prod.snd).map V.ref)
 |[],[],_,_=>⟨rfl,aj.mpr ⟨_,_,rfl,hz,au.mpr rfl⟩⟩
 |[],_::_,h,_=>by cases h
 |_::_,[],h,_=>by cases h
 |p::ps,q::qs,h,R=>by
  obtain⟨h1,h2⟩:=List.cons.inj (show p.1::ps.map Prod.fst=q.1::qs.map Prod.fst from h);obtain⟨v,r,e,r1,r2⟩:=aj.mp R;have e':V.ref q.2::(qs.map Prod.snd).map V.ref=v::r:=e;cases e';show(if b8 k p.1 then(k,z)::p::ps else p::zP (k,z) ps).map Prod.fst=(if b8 k q.1 then(k,b)::q::qs else q::zP (k,b) qs).map Prod.fst/\ab K as H ((if b8 k p.1 then(k,z)::p::ps else p::zP (k,z) ps).map Prod.snd) (((if b8 k q.1 then(k,b)::q::qs else q::zP (k,b) qs).map Prod.snd).map V.ref);rw[h1];cases b8 k q.1 with
  |true=>exact⟨Jf (k::·) (show p.1::ps.map Prod.fst=q.1::qs.map Prod.fst from h),aj.mpr ⟨_,_,rfl,hz,R⟩⟩
  |false=>
   obtain⟨i1,i2⟩:=rQ hz h2 r2;exact⟨by show p.1::(zP (k,z) ps).map Prod.fst=q.1::(zP (k,b) qs).map Prod.fst;rw[h1,i1],aj.mpr ⟨_,_,rfl,r1,i2⟩⟩
theorem gL:∀{ks:List (List Int)}{zs:List Wd}{bs:List Addr},ab K as H zs (bs.map V.ref) ->
  (zr (ks.zip zs)).map Prod.fst=(zr (ks.zip bs)).map Prod.fst/\ab K as H ((zr (ks.zip zs)).map Prod.snd) (((zr (ks.zip bs)).map Prod.snd).map V.ref)
 |[],_,_,_=>⟨rfl,au.mpr rfl⟩
 |_::_,[],bs,R=>by
  have:=au.mp R;cases bs with
  |nil=>exact⟨rfl,au.mpr rfl⟩
  |cons _ _=>cases this
 |k::ks,z::zs,bs,R=>by
  obtain⟨v,r,e,r1,r2⟩:=aj.mp R;cases bs with
  |nil=>cases e
  |cons b bs=>
   cases e;obtain⟨i1,i2⟩:=gL (ks:=ks) r2;rw[Wx,Wx,yn,yn];exact rQ r1 i1 i2
def AY {ks:List (List Int)}(hl:ks.length=bs.length)(hb:∀(i:Nat) b k,bs[i]?=some b->ks[i]?=some k->∃c k',k=c::k'/\cQ K G c k'.length b k')(h:yM ((zr (ks.zip bs)).map Prod.fst)=true):oh K G bs ((zr (ks.zip bs)).map Prod.snd):=by
 obtain⟨h1,n,c,h2⟩:=rR h;have hp:=kO (ks.zip bs);refine⟨ks,c.getD 0,n-1,hl,λi b k e1 e2=>?_,?_,_,hp,rfl,?_⟩
 .obtain ⟨c',k',rfl,q⟩:=hb i b k e1 e2;obtain⟨z1,z2⟩:=h2 (c'::k',b) (hp.mem_iff.mpr (Qm (VL.mpr ⟨e2,e1⟩)));have z1':k'.length+1=n:=z1;have z2':some c'=c:=z2;rw[<-z2',show n-1=k'.length by lia];exact⟨k',rfl,q⟩
 .have e:(zr (ks.zip bs)).map Prod.fst |>.Nodup:=by
   unfold List.Nodup;rw[WP];refine h1.imp λ{a b} c e=>?_;rw[e,xc]at c;cases c
  have:=(hp.map Prod.fst).nodup_iff.mp e
  rwa[List.map_fst_zip (by lia)]at this
 .refine h1.imp λ{a b} c=>?_;cases d:HT.lexLt b.1 a.1 with
  |false=>rfl
  |true=>have:=yY _ _ _ c d;rw[xc]at this;cases this
set_option tactic.hygienic true in
def Dc (hu:X.A.units+64<HF)(hc:X.calm=true)(hb:fA b=some (nm,f)):bj X f (si X.K b):=by
 intro pins s σ H xs us Q I r h;obtain⟨as,m,ws,S,R,q⟩:=h;cases b with
 |len=>
  cases hb;refine jb pins s σ H xs us Q I r ?_;rcases ws with _|⟨x,_|⟨_,_⟩⟩
  .exact q.elim
  .obtain ⟨ys,hs,q⟩:=wr (o:=yz m x) (f:=λys=>.ok (.int ys.length) m) q;obtain⟨v,rfl,q1⟩:=yQ R;obtain⟨p,vs,rfl,hq,rr⟩:=vJ S q1 hs;refine⟨p,vs,rfl,hq,?_⟩;rw[<-rr.length];exact q.ok S (aa.mpr rfl)
  .exact q.elim
 |int=>
  cases hb;refine DY pins s σ H xs us Q I r ?_;cases ws with
  |nil=>exact q.elim
  |cons x ws=>
   cases x with
   |int i=>
    cases ws with
    |nil=>
     obtain⟨v,rfl,q1⟩:=yQ R;obtain rfl:=aa.mp q1;exact .inl ⟨i,rfl,q.ok S (aa.mpr rfl)⟩
    |cons _ _=>exact q.elim
   |bl i=>
    cases ws with
    |nil=>
     obtain⟨v,rfl,q1⟩:=yQ R;obtain rfl:=ai.mp q1;exact .inr ⟨i,rfl,q.ok S (aa.mpr rfl)⟩
    |cons _ _=>exact q.elim
   |_=>exact q.elim
 |list=>
  cases hb;refine jc pins s σ H xs us Q I r ?_;rcases ws with _|⟨x,_|⟨_,_⟩⟩
  .exact q.elim
  .obtain ⟨ys,hs,q⟩:=wr (o:=yz m x) (f:=λys=>alloc m ys) q;obtain⟨v,rfl,q1⟩:=yQ R;obtain⟨p,vs,rfl,hq,rr⟩:=vJ S q1 hs;exact⟨p,vs,rfl,hq,(yW S rr q).2⟩
  .exact q.elim
 |tuple=>
  cases hb;refine kl pins s σ H xs us Q I r ?_;rcases ws with _|⟨x,_|⟨_,_⟩⟩
  .exact q.elim
  .obtain ⟨ys,hs,q⟩:=wr (o:=yz m x) (f:=λys=>.ok (.tup ys) m) q;obtain⟨v,rfl,q1⟩:=yQ R;obtain⟨p,vs,rfl,hq,rr⟩:=vJ S q1 hs;refine⟨p,vs,rfl,?_⟩;rcases hq with hq|hq
   .refine .inl ⟨hq,λl hl=>?_⟩;obtain⟨T,S',R'⟩:=S.tup hl rr;exact q _ _ _ T S' R'
   .exact .inr ⟨hq,q.ok S (ah.mpr ⟨p,vs,rfl,hq,rr⟩)⟩
  .exact q.elim
 |sorted=>
  cases hb;refine gD hu pins s σ H xs us Q I r ?_;rcases ws with _|⟨x,_|⟨_,_⟩⟩
  .exact q.elim
  .cases x with
   |ref l=>
    obtain⟨zs,hs,q⟩:=wr (o:=zi m l) (f:=λzs=>match (xq m zs).bind λks=>yN Wd ks zs with
     |some ys=>alloc m ys
     |none=>.no) q
    obtain⟨ys,ht,q⟩:=wr (o:=(xq m zs).bind λks=>yN Wd ks zs) (f:=λys=>alloc m ys) q;obtain⟨ks,hk,ht⟩:=Qv.mp ht;obtain⟨v,rfl,q1⟩:=yQ R;obtain⟨p,vs,rfl,hq,rr⟩:=gH S q1 (show kn m (.ref l)=some zs from hs);obtain⟨bs,rfl,hl,hb⟩:=gK S rr hk;obtain⟨e1,e2⟩:=gL (ks:=ks) rr;rw[we]at ht;have ht':(if yM ((zr (ks.zip zs)).map Prod.fst)then some ((zr (ks.zip zs)).map Prod.snd)else none)=some ys:=ht;rw[e1]at ht';cases z:yM ((zr (ks.zip bs)).map Prod.fst)with
    |false=>rw[z]at ht';cases ht'
    |true=>
     rw[z]at ht';cases ht';exact⟨p,bs,_,rfl,hq,AY hl hb z,(yW S e2 q).2⟩
   |_=>exact q.elim
  .cases x<;>exact q.elim
 |sortI=>
  cases hb;refine qP pins s σ H xs us Q I r ?_;rcases ws with _|⟨x,_|⟨_,_⟩⟩
  .exact q.elim
  .replace q:ak X.K as H Q (match (kn m x).bind zX with
    |some k=>if k.length<64 then alloc m ((eD k).map Wd.int)else .no
    |none=>.no):=q
   cases hs:(kn m x).bind zX with
   |none=>rw[hs]at q;exact q.elim
   |some k=>
    rw[hs]at q;by_cases h64:k.length<64
    .replace q:ak X.K as H Q (if k.length<64 then alloc m ((eD k).map Wd.int)else .no):=q
     rw[Jh h64]at q;obtain⟨ys,h1,h2⟩:=Qv.mp hs;obtain⟨v,rfl,q1⟩:=yQ R;obtain⟨p,vs,rfl,hq,rr⟩:=gH S q1 h1;obtain rfl:=wt rr h2;exact⟨p,k,rfl,hq,h64,(yW S (wO _) q).2⟩
    .replace q:ak X.K as H Q (if k.length<64 then alloc m ((eD k).map Wd.int)else .no):=q
     rw[Ji h64]at q;exact q.elim
  .exact q.elim
 |sum=>
  cases hb;refine j6 hc pins s σ H xs us Q I r ?_;rcases ws with _|⟨x,_|⟨_,_⟩⟩
  .exact q.elim
  .obtain ⟨i,hs,q⟩:=Bw (o:=(kn m x).bind km) (f:=λi=>.ok (.int i) m) q;obtain⟨ys,h1,h2⟩:=Qv.mp hs;obtain⟨v,rfl,q1⟩:=yQ R;obtain⟨p,vs,rfl,hq,rr⟩:=gH S q1 h1;obtain⟨ns,rfl,rfl⟩:=jr rr h2;exact⟨p,ns,rfl,hq,q.ok S (aa.mpr rfl)⟩
  .exact q.elim
 |max2=>
  cases hb;refine D0 hc pins s σ H xs us Q I r ?_;cases ws with
  |nil=>exact q.elim
  |cons x ws=>
   cases x with
   |int i=>
    cases ws with
    |nil=>exact q.elim
    |cons y ws=>
     cases y with
     |int j=>
      cases ws with
      |nil=>
       obtain⟨v,u,rfl,q1,q2⟩:=qQ R;obtain rfl:=aa.mp q1;obtain rfl:=aa.mp q2;exact⟨i,j,rfl,q.ok S (aa.mpr rfl)⟩
      |cons _ _=>exact q.elim
     |_=>exact q.elim
   |_=>exact q.elim
 |min2=>
  cases hb;refine DZ hc pins s σ H xs us Q I r ?_;cases ws with
  |nil=>exact q.elim
  |cons x ws=>
   cases x with
   |int i=>
    cases ws with
    |nil=>exact q.elim
    |cons y ws=>
     cases y with
     |int j=>
      cases ws with
      |nil=>
       obtain⟨v,u,rfl,q1,q2⟩:=qQ R;obtain rfl:=aa.mp q1;obtain rfl:=aa.mp q2;exact⟨i,j,rfl,q.ok S (aa.mpr rfl)⟩
      |cons _ _=>exact q.elim
     |_=>exact q.elim
   |_=>exact q.elim
set_option tactic.hygienic true in
def AX (S:aH K as m H)(R:ag K as H x v)(R':ag K as H y u)(h:ak K as H Q (xo x y m)):sg K v u H Q:=by
 unfold xo at h;split at h
 .rename_i i;obtain rfl:=aa.mp R';split at h
  .rename_i xs hs;split at h
   .rename_i w hw;obtain⟨p,vs,rfl,hq,rr⟩:=vJ S R hs;have e:∃z,eh vs i=some z/\ag K as H w z:=by
     obtain⟨j,hj,hx⟩:=Qv.mp hw;obtain⟨z,hz,rz⟩:=rr.get hx;refine⟨z,?_,rz⟩;unfold eh;have hj':eO vs.length i=some j:=by rw[<-rr.length];exact hj
     rw[hj'];exact hz
    obtain⟨z,hz,rz⟩:=e;rcases hq with hq|hq
    .exact .inl ⟨p,vs,i,z,rfl,rfl,hq,hz,h.ok S rz⟩
    .exact .inr (.inl ⟨p,vs,i,z,rfl,rfl,hq,hz,h.ok S rz⟩)
   .exact h.elim
  .exact h.elim
 .exact h.elim
set_option tactic.hygienic true in
def uX {Q:Hp->Prop}(S:aH K as m H)(R:ag K as H o vo)(R':ag K as H i vi)(R2:ag K as H w v)(h:∀m',je o i w m=.ok .non m'->∀H',Step as H as H'->aH K as m' H'->Q H')(hne:∃m',je o i w m=.ok .non m'):iN vo vi v H Q:=by
 obtain⟨m',hm'⟩:=hne;have h:=h m' hm';unfold je at hm';split at hm'
 .rename_i l k;split at hm'
  .rename_i xs hl;split at hm'
   .rename_i j hj;cases hm';obtain⟨a,ha,rfl⟩:=aD.mp R;obtain rfl:=aa.mp R';obtain⟨b,vs,hb,e,rr⟩:=zG S hl;rw[ha]at hb;cases hb;obtain⟨T,S'⟩:=S.set ha hl (rr.set j R2);refine⟨a,vs,k,j,rfl,rfl,e,?_,h _ T S'⟩;rw[<-rr.length];exact hj
   .cases hm'
  .cases hm'
 .cases hm'
noncomputable def eM:dh->Str×String
 |.append=>("append","list.append") |.pop=>("pop","list.pop") |.reverse=>("reverse","list.reverse") |.clear=>("clear","list.clear") 
noncomputable def EG(K:Qb)(n:dh):V->List V->Hp->VK->Prop:=λv vs H Q=>∃as m w ws,aH K as m H/\ag K as H w v/\ab K as H ws vs/\ak K as H Q (cO n w ws m)
set_option tactic.hygienic true in
def uW(n:dh):et X (eM n).2 (EG X.K n):=by
 intro pins s σ H v vs u us Q I r rs h;obtain⟨as,m,w,ws,S,R,Rs,q⟩:=h;unfold cO at q;split at q
 .rename_i l;split at q
  .rename_i xs hl;obtain⟨a,ha,rfl⟩:=aD.mp R;obtain⟨b,zs,hb,e,rr⟩:=zG S hl;rw[ha]at hb;cases hb;have hz:zs.length<=sizeLine:=(I.lstM e).1;split at q
   .rename_i y;split at q
    .rename_i hlt;obtain⟨z,rfl,rz⟩:=yQ Rs;obtain⟨T,S'⟩:=S.set ha hl (rr.append (.one rz));exact kG pins s σ H _ _ u us Q I r rs ⟨a,zs,z,rfl,rfl,e,by rw[<-rr.length];exact Qg hlt yA,q _ _ _ T S' (am.mpr rfl)⟩
    .exact q.elim
   .split at q
    .rename_i y hy;obtain rfl:=au.mp Rs;obtain⟨z,hz',rz⟩:=rr.get hy;obtain⟨T,S'⟩:=S.set ha hl rr.dropLast;exact AE pins s σ H _ _ u us Q I r rs ⟨a,zs,z,rfl,rfl,e,by rw[<-rr.length];exact hz',q _ _ _ T S' (rz.mono S T)⟩
    .exact q.elim
   .obtain rfl:=au.mp Rs;obtain⟨T,S'⟩:=S.set ha hl rr.reverse;exact qE pins s σ H _ _ u us Q I r rs ⟨a,zs,rfl,rfl,e,q _ _ _ T S' (am.mpr rfl)⟩
   .exact q.elim
  .exact q.elim
 .exact q.elim
noncomputable def cr:Tg->String
 |.int=> "int" |.bool=> "bool" |.list=> "list" |.tuple=> "tuple" |.str=> "str" |.dict=> "dict"
def Bv(K:Qb)(t:Tg):
  Wt K (.type "NoneType") (.type (cr t))=some false/\Wt K (.type "bool") (.type (cr t))=some (decide (t=.bool\/t=.int))/\Wt K (.type "int") (.type (cr t))=some (decide (t=.int)) /\
  Wt K (.type "str") (.type (cr t))=some (decide (t=.str))/\Wt K (.type "list") (.type (cr t))=some (decide (t=.list))/\Wt K (.type "tuple") (.type (cr t))=some (decide (t=.tuple))/\Wt K (.type "dict") (.type (cr t))=some (decide (t=.dict)):=by
 cases t<;>refine⟨?_,?_,?_,?_,?_,?_,?_⟩<;>kernel_rfl
noncomputable def lp(K:Qb)(t:Tg):List V->Hp->VK->Prop:=λvs H Q=>∃as m w v,vs=[v,.ty (cr t)]/\aH K as m H/\ag K as H w v/\ak K as H Q (cI (cE t w m) m)
def uU(m:Me)(t:Tg):cE t .non m=some false/\(∀c,cE t (.bl c) m=some (decide (t=.bool\/t=.int)))/\(∀i,cE t (.int i) m=some (decide (t=.int)))/\(∀x,cE t (.str x) m=some (decide (t=.str)))/\(∀ys,cE t (.tup ys) m=some (decide (t=.tuple)))/\(∀ys,cE t (.rol ys) m=some (decide (t=.list)))/\∀l ys,m[l]?=some (.lst ys)->cE t (.ref l) m=some (decide (t=.list)):=by
 refine⟨?_,λc=>?_,λi=>?_,λx=>?_,λys=>?_,λys=>?_,λl ys h=>?_⟩
 rotate_right
 .have e:cE t (.ref l) m=(match m[l]? with|some (.lst _)=>some (decide (t=.list))|some (.dct _ _)=>some (decide (t=.dict))|none=>none):=by cases t<;>rfl
  rw[e,h]
 all_goals cases t<;>rfl
def Bu (m:Me)(t:Tg)(h:m[l]?=some (.dct ks ws)):cE t (.ref l) m=some (decide (t=.dict)):=by
 have e:cE t (.ref l) m=(match m[l]? with|some (.lst _)=>some (decide (t=.list))|some (.dct _ _)=>some (decide (t=.dict))|none=>none):=by cases t<;>rfl
 rw[e,h]
def Db(t:Tg):bj X (.builtin "isinstance") (lp X.K t):=by
 intro pins s σ H xs us Q I r h;obtain⟨as,m,w,v,rfl,S,R,q⟩:=h;obtain⟨b,hb,q⟩:=vL S q;obtain⟨u,u',rfl,ru,ru'⟩:=iO r;obtain rfl:u'=.type (cr t):=ru';obtain⟨k1,k2,k3,k4,k5,k6,k7⟩:=Bv X.K t;obtain⟨z1,z2,z3,z4,z5,z6,z7⟩:=uU m t;have fin:∀tk,EP X pins σ Q (.bool b) {s with toks:=tk}:=λtk=>⟨.bl b,H,I.tok tk,rfl,q⟩;cases w with
 |non=>
  obtain rfl:=am.mp R;have e:b=false:=Option.some.inj (hb.symm.trans z1);subst e;exact yU I ru .non k1 fin
 |bl c=>
  obtain rfl:=ai.mp R;have e:b=decide (t=.bool\/t=.int):=Option.some.inj (hb.symm.trans (z2 _));subst e;exact yU I ru (.bl c) k2 fin
 |int i=>
  obtain rfl:=aa.mp R;have e:b=decide (t=.int):=Option.some.inj (hb.symm.trans (z3 _));subst e;exact yU I ru (.int i) k3 fin
 |str x=>
  obtain rfl:=ay.mp R;have e:b=decide (t=.str):=Option.some.inj (hb.symm.trans (z4 _));subst e;exact yU I ru (.str _) k4 fin
 |tup ys=>
  obtain⟨a,vs,rfl,hq,rr⟩:=ah.mp R;have e:b=decide (t=.tuple):=Option.some.inj (hb.symm.trans (z5 _));subst e;obtain rfl:u=.ref a:=ru;obtain⟨its,_,⟨o,h1,h2,_⟩,_⟩:=I.tuple hq;exact QZ PySem.W.kitx_tuple I.kIn ⟨o,h1,h2⟩ k6 (λz=>nomatch z) fin
 |rol ys=>
  obtain⟨a,vs,rfl,hq,rr⟩:=a8.mp R;have e:b=decide (t=.list):=Option.some.inj (hb.symm.trans (z6 _));subst e;obtain rfl:u=.ref a:=ru;obtain⟨its,_,p,_⟩:=I.list hq.sq;obtain⟨o,n,h1,h2,_⟩:=p;exact QZ Vt I.kIn ⟨o,h1,h2⟩ k5 (λz=>nomatch z) fin
 |ref l=>
  obtain⟨a,ha,rfl⟩:=aD.mp R;have hlm:l<m.length:=by rw[<-S.len];exact(Qa.mp ha).1
  have hg:m[l]?=some m[l]:=by simp[hlm]
  cases ho:m[l]with
  |lst ys=>
   rw[ho]at hg;obtain⟨a',us,ha',e2,_⟩:=zG S hg;rw[ha]at ha';cases ha';have e:b=decide (t=.list):=Option.some.inj (hb.symm.trans (z7 _ _ hg));subst e;exact yU I ru (.lst e2) k5 fin
  |dct ks us=>
   rw[ho]at hg;obtain⟨a',ha',xs,vs,td,_⟩:=S.get hg;rw[ha]at ha';cases ha';have e:b=decide (t=.dict):=Option.some.inj (hb.symm.trans (Bu m t hg));subst e;obtain rfl:u=.ref a:=ru;exact QZ Vu I.kIn (yH I td).2.typeIs k7 (λz=>nomatch z) fin
end
structure dP(J:It)(vs:List V)(ok:Hp->Prop):Prop where
 go:∀i H,ok H->i<vs.length->J.go i H
 yld:∀i H x H',ok H->i<vs.length->J.yld i H x H'->H'=H/\vs[i]?=some x
 stop:∀i H,ok H->vs.length<=i->J.stop i H
noncomputable def fS(K:Qb)(as:List Addr)(H:Hp)(J:It)(xs:List Wd):Prop:=
 ∃vs ok,dP J vs ok/\ok H/\ab K as H xs vs/\∀H1 H2,Kp K H1 H2->ok H1->ok H2
noncomputable def og(K:Qb)(as:List Addr)(H:Hp)(w:Wd)(J:It):Prop:=match w with
 |.tup xs=>fS K as H J xs
 |.rol xs=>fS K as H J xs
 |.ref l=>∃a,as[l]?=some a/\J=nQ K a
 |_=>True
noncomputable def bD(K:Qb)(as:List Addr)(H:Hp)(R:It->Hp->Prop)(r:Rz):Prop:=match r with
 |.ok w m'=>(yz m' w).isSome=true/\∀as' H' J,Step as H as' H'->aH K as' m' H'->og K as' H' w J->R J H'
 |_=>False
noncomputable def eP(K:Qb)(g:En->Me->Rz):TI:=λσ H R=>∃as env m,aH K as m H/\aB K as H env σ/\bD K as H R (g env m)
def PI.or{X:Cx}{tg e:Expr}{a b:TI}(h1:PI X tg e a)(h2:PI X tg e b):PI X tg e (λσ H R=>a σ H R\/b σ H R):=λpins s σ H R I h=>by
 rcases h with h|h
 .exact h1 pins s σ H R I h
 .exact h2 pins s σ H R I h
def PI.imp{X:Cx}{tg e:Expr}{a b:TI}(h:PI X tg e a)(k:∀σ H R,b σ H R->a σ H R):PI X tg e b:=λpins s σ H R I q=>h pins s σ H R I (k σ H R q)
def wZ (h:PE X x (aG X.K g)):PI X tg x (eP X.K g):=by
 refine PI.imp (PI.or (CL h) (AT h)) λσ H R q=>?_;obtain⟨as,env,m,S,G,P⟩:=q;cases hr:g env m with
 |no=>rw[hr]at P;exact P.elim
 |ok w m'=>
  rw[hr]at P;obtain⟨hs,P⟩:=P;obtain⟨xs,hs⟩:=WG.mp hs;cases w with
  |tup ys=>
   refine .inr ⟨as,env,m,S,G,?_⟩;rw[hr];intro as' H' v T S' R';obtain⟨a,vs,rfl,hq,rr⟩:=ah.mp R';refine⟨a,rfl,⟨vs,hq⟩,P as' H' _ T S' ⟨vs,λH=>bG X.K H a vs,⟨λi H h hi=>⟨vs,vs[i],h,by simp[hi]⟩,λi H x H' h hi q=>⟨q.1,q.2 vs h⟩,λi H h hi=>⟨vs,h,hi⟩⟩,hq,rr,λH1 H2 k h=>k.t _ _ h⟩⟩
  |rol ys=>
   refine .inl ⟨as,env,m,S,G,?_⟩;rw[hr];intro as' H' v T S' R';obtain⟨a,vs,rfl,hq,rr⟩:=a8.mp R';refine⟨a,rfl,⟨vs,hq.sq⟩,P as' H' _ T S' ⟨vs,λH=>dG X.K H a vs,⟨λi H h hi=>⟨vs,vs[i],h.sq,by simp[hi]⟩,λi H x H' h hi q=>⟨q.1,q.2 vs h.sq⟩,λi H h hi=>⟨vs,h.sq,hi⟩⟩,hq,rr,λH1 H2 k h=>k.f _ _ h⟩⟩
  |ref l=>
   refine .inl ⟨as,env,m,S,G,?_⟩;rw[hr];intro as' H' v T S' R';obtain⟨a,ha,rfl⟩:=aD.mp R';obtain⟨a',us,ha',e,_⟩:=zG S' (zw hs);rw[ha]at ha';cases ha';exact⟨a,rfl,⟨us,bg.of e⟩,P as' H' _ T S' ⟨a,ha,rfl⟩⟩
  |non=>cases hs
  |bl b=>cases hs
  |int i=>cases hs
  |str x=>cases hs
theorem gM {K:Qb}(st:Int):∀(n:Nat) (lo:Int),ab K as H (eX lo st n) ((Wn n).map λ(i:Nat)=>V.int (lo+st*(i:Int)))
 |0,lo=>au.mpr rfl
 |n+1,lo=>by
  rw[Vf,Q2,VR];refine aj.mpr ⟨_,_,rfl,aa.mpr (by simp),?_⟩;have e:((λ(i:Nat)=>V.int (lo+st*(i:Int))) ∘ Nat.succ)=λ(i:Nat)=>V.int (lo+st+st*(i:Int)):=by
   funext i;show V.int (lo+st*((i.succ:Nat):Int))=_;congr 1;rw[Nat.succ_eq_add_one,Int.natCast_add,Int.mul_add];lia
  rw[e];exact gM st n (lo+st)
def DP{K:Qb}(lo:Int)(n:Nat):dP (eS lo n) ((Wn n).map λ(i:Nat)=>V.int (lo+1*(i:Int))) (λ_=>True):=by
 refine⟨λi H _ hi=>?_,λi H x H' _ hi q=>?_,λi H _ hi=>?_⟩
 .show i<n;simpa using hi
 .obtain ⟨e,rfl⟩:=q;refine⟨e,?_⟩;have hi':i<n:=by simpa using hi
  rw[Qu,List.getElem?_range hi'];simp
 .show n<=i;simpa using hi
end Mini
namespace L2
open PySem PySem.Spec PyProof.Rows
section
variable{κ:Type}[DecidableEq κ]
noncomputable def xf(kvs:List (κ×V))(k:κ):Option V:=(kvs.find? λkv=>decide (kv.1=k)).map (·.2)
noncomputable def gN(kvs:List (κ×V))(k:κ)(v:V):List (κ×V):=
 if(kvs.any λkv=>decide (kv.1=k))=true then kvs.map (λkv=>if kv.1=k then(kv.1,v)else kv)else kvs++[(k,v)]
def yZ {k:κ}(e:p.1=k):xf (p::r) k=some p.2:=by simp[xf,WK,e]
def xu {k:κ}(e:¬p.1=k):xf (p::r) k=xf r k:=by simp[xf,WK,e]
theorem vR(k:κ):∀kvs:List (κ×V),(kvs.any λkv=>decide (kv.1=k))=(xf kvs k).isSome
 |[]=>rfl
 |p::r=>by
  rw[W9];by_cases e:p.1=k
  .simp only[yZ e,Jk e,Bool.true_or,Option.isSome_some]
  .rw[xu e,Jg e,Bool.false_or];exact vR k r
def Da {k:κ}(v:V)(h:xf kvs k=none):gN kvs k v=kvs++[(k,v)]:=by
 unfold gN;rw[vR,h];exact Ji (by decide)
def KV.val (r:KV kvs vs)(k:κ):cZ (xf kvs k) (IX vs k):=by
 unfold KV at r
 induction r with
 |nil=>exact True.intro
 |@cons p q ps qs h t ih=>
  obtain⟨h1,h2⟩:=h;by_cases e:p.1=k
  .have e':q.1=k:=h1.symm.trans e;have b:IX (q::qs) k=some q.2:=by simp[IX,WK,e']
   rw[yZ e,b];exact h2
  .have e':¬q.1=k:=λz=>e (h1.trans z);have b:IX (q::qs) k=IX qs k:=by simp[IX,WK,e']
   rw[xu e,b];exact ih
theorem KV.any (r:KV kvs vs)(k:κ):(kvs.any λkv=>decide (kv.1=k))=vs.any λkv=>decide (kv.1=k):=by
 unfold KV at r
 induction r with
 |nil=>rfl
 |cons h t ih=>rw[W9,W9,ih,h.1]
def KV.repl{kvs:List (κ×V)}{vs:List (κ×Value)}(r:KV kvs vs)(k:κ){y:V}{u:Value}(ry:RelV y u):
  KV (kvs.map λkv=>if kv.1=k then(kv.1,y)else kv) (vs.map λkv=>if kv.1=k then(kv.1,u)else kv):=by
 unfold KV at r ⊢
 induction r with
 |nil=>exact .nil
 |@cons p q ps qs h t ih=>
  rw[Q2,Q2];refine .cons ?_ ih;obtain⟨h1,h2⟩:=h;by_cases e:p.1=k
  .rw[Jh e,Jh (h1.symm.trans e)];exact⟨h1,ry⟩
  .rw[Ji e,Ji (λz=>e (h1.trans z))];exact⟨h1,h2⟩
def KV.put{kvs:List (κ×V)}{vs:List (κ×Value)}(r:KV kvs vs)(k:κ){y:V}{u:Value}(ry:RelV y u):KV (gN kvs k y) (stored vs k u):=by
 unfold gN stored;rw[r.any k];by_cases e:(vs.any λkv=>decide (kv.1=k))=true
 .rw[Jh e,Jh e];exact r.repl k ry
 .rw[Ji e,Ji e];exact Paired.snoc r ⟨rfl,ry⟩
def KV.keys {vs:List (κ×Value)}(r:KV kvs vs):kvs.map (·.1)=vs.map (·.1):=by
 unfold KV at r
 induction r with
 |nil=>rfl
 |cons h t ih=>rw[Q2,Q2,ih,h.1]
theorem KV.length {vs:List (κ×Value)}(r:KV kvs vs):kvs.length=vs.length:=Paired.length r
end
def iG (r:RelV (kV k) u):(zE P w).is k u=true:=by
 cases k with
 |inl i=>obtain⟨t,e⟩:=(show ∃t,u=Value.int i t from r);subst e;exact jR P w i t
 |inr x=>obtain⟨t,e⟩:=(show ∃t,u=Value.str x t from r);subst e;exact jS P w x t
section
variable{P:GT}{w:GV}{H:Hp}{h:GZ}{a:Addr}
def tV (ok:bT P w H h)(e:Rd H a u):aS P w H h a u:=e.ok ok
def uu (ok:bT P w H h)(e:Rd H a (.dK kvs)):kvs.length<=sizeLine/\(a==G6)=false/\∃vs,KV kvs vs/\h.DictOf (zE P w) a vs:=
 show aS P w H h a (.dK kvs)from tV ok e
def ut (ok:bT P w H h)(e:H a=some (.dK kvs)):kvs.length<=sizeLine/\(a==G6)=false/\∃vs,KV kvs vs/\h.DictOf (zE P w) a vs:=uu ok (.inl e)
end
section
variable{X:Cx}{pins:List (Addr×Obj)}{σ:St}{H:Hp}{s:GU}{a:Addr}
def Inv.big(I:Inv X pins σ H s):G6<s.heap.objs.size:=by
 have h:Ha<s.heap.objs.size:=(I.mod.glob.keeps I.bk).lt;exact Nat.lt_trans (by decide) h
def Bt (I:Inv X pins σ H s)(mu:fw (H a))(hs:Wc a s.heap h')(he:∃q,h'.get? a=some q)(new:aS X.prog X.w (aE H a ob) h' a ob):
  Inv X pins σ (aE H a ob) {s with heap:=h',toks:=t' } :=
 I.write (x:=a) (e:=a) mu (.inl rfl) (λb q hb z=>(hs.2 b hb).trans z) he new
end
def C9 (h:GZ)(hb:G6<h.objs.size):aS P w H (h.push {cls:=.type "dict",data:=.dict #[]}) h.objs.size (.dK []):=
 ⟨Ww _,beq_eq_false_iff_ne.mpr (Ne.symm (QI hb)),[],.nil,Heap.DictOf.new h⟩
noncomputable def qR:List (TE×TE)->St->Hp->(List (V×V)->Hp->Prop)->Prop
 |[],_,H,Q=>Q [] H
 |(tk,tv)::r,σ,H,Q=>tk σ H λx H1=>tv σ H1 λy H2=>qR r σ H2 λps H3=>Q ((x,y)::ps) H3
abbrev VV:List (V×V)->List (Value×Value)->Prop:=GY λp q=>RelV p.1 q.1/\RelV p.2 q.2
noncomputable def ij(X:Cx)(pos:Pos)(keys:List (Option Expr))(values:List Expr)(trs:List (TE×TE)):Prop:=
 ∀(pins:List (Addr×Obj)) (s:GU) (σ:St) (H:Hp) (Q:List (V×V)->Hp->Prop),Inv X pins σ H s->qR trs σ H Q ->
  He (Hf X.prog X.w) X.A (evalPairs (pairTrees keys values X.env pos)) (λvs s'=>∃ps H',Inv X pins σ H' s'/\VV ps vs/\Q ps H') X.xe s
def Bs:ij X pos [] [] []:=λpins s σ H Q I h=>pairTrees_nil_walk ⟨[],H,I,.nil,h⟩
def wu (hk:PE X k tk)(hv:PE X v tv)(hr:ij X pos ks vs trs):
  ij X pos (some k::ks) (v::vs) ((tk,tv)::trs):=λpins s σ H Q I h=>
 pairTrees_cons_walk (aQ (hk pins s σ H _ I h) λu s1 ⟨x,H1,I1,rx,q1⟩=>aQ (hv pins s1 σ H1 _ I1 q1) λw2 s2 ⟨y,H2,I2,ry,q2⟩=>
  aQ (hr pins s2 σ H2 _ I2 q2) λws s3 ⟨ps,H3,I3,rel,q3⟩=>⟨(x,y)::ps,H3,I3,.cons ⟨rx,ry⟩ rel,q3⟩)
noncomputable def xV(kvs more:List (bv×V)):List (bv×V):=more.foldl (λacc kv=>gN acc kv.1 kv.2) kvs
def KV.merge:∀{more:List (bv×V)}{rs:List (bv×Value)}{kvs:List (bv×V)}{vs:List (bv×Value)},KV more rs->KV kvs vs->KV (xV kvs more) (merged vs rs):=by
 intro more rs kvs vs r;unfold KV at r
 induction r generalizing kvs vs with
 |nil=>intro q;exact q
 |@cons p q ps qs h t ih=>
  intro r0;have e:KV (gN kvs p.1 p.2) (stored vs q.1 q.2):=by
   have:=r0.put p.1 h.2;rw[<-h.1];exact this
  exact ih e
theorem vS:∀{kvs:List (bv×V)}{ws:List (Value×Value)},VV (kvs.map λkv=>(kV kv.1,kv.2)) ws->∃rs,Carries (zE P w) ws rs/\KV kvs rs
 |[],_,r=>by rw[List.map_nil]at r;cases r;exact⟨[],True.intro,.nil⟩
 |p::kvs,_,r=>by
  rw[Q2]at r;cases r with
  |@cons a b as bs h t=>
   obtain⟨rs,c,q⟩:=vS (P:=P) (w:=w) t;obtain⟨b1,b2⟩:=b;exact⟨(p.1,b2)::rs,⟨iG h.1,rfl,c⟩,.cons ⟨rfl,h.2⟩ q⟩
noncomputable def xl(d:Addr)(o:Obj):HO:=.ext λh=>h.get? d=some o
noncomputable def FO(P:GT)(w:GV)(d:Addr)(o:Obj)(ep:Nat)(kvs:List (bv×V)):Prop:=
 (d==G6)=false/\∃es vs,o.ExactDict/\o.data=.dict es ep/\KeysOf (zE P w) es/\Pairs (zE P w) es.toList vs/\(vs.map (·.1)).Nodup/\KV kvs vs
def FO.at (f:FO P w d o ep kvs){h:GZ}(e:h.get? d=some o):∃vs,KV kvs vs/\h.DictAt (zE P w) d vs ep:=by
 obtain⟨_,es,vs,a,b,c,g,n,r⟩:=f;exact⟨vs,r,o,es,e,a,b,c,g,n⟩
def Br (h:(zE P w).is k u=true):RelV (kV k) u:=by
 cases k with
 |inl i=>exact Value.isInt_shape h
 |inr x=>exact Value.isStrOf_shape h
section
variable{X:Cx}{pins:List (Addr×Obj)}{σ:St}{H:Hp}{s:GU}
def js (I:Inv X pins σ H s)(h:H d=some (xl d o)):s.heap.get? d=some o:=(I.hok d _ h).1
noncomputable def tP(d:Addr)(o:Obj)(kvs:List (bv×V)):It:=
 ⟨λi H=>H d=some (xl d o)/\i<kvs.length,λi H x H'=>H'=H/\∃kv,kvs[i]?=some kv/\x=kV kv.1,λi H=>H d=some (xl d o)/\kvs.length<=i⟩
def uT {vs:List (bv×Value)}(r:KV kvs vs)(hi:i<kvs.length):∃k v u,kvs[i]?=some (k,v)/\vs[i]?=some (k,u):=by
 have hk:=r.keys;have hl:=r.length;have hi':i<vs.length:=by lia
 refine⟨kvs[i].1,kvs[i].2,vs[i].2,Qz hi,?_⟩;rw[Qz hi'];have e:(kvs.map (·.1))[i]?=(vs.map (·.1))[i]?:=by rw[hk]
 rw[Qu,Qu,Qz hi,Qz hi']at e;have e:=Option.some.inj e;have e:kvs[i].1=vs[i].1:=e;rw[e]
def qS {K:Qb}(f:FO P w d o ep kvs)(it:Addr):cq P w K tg (tP d o kvs) [it] it (λi h=>h.IsKeyIter it d i kvs.length ep) where
 mem:=by simp
 obj:=λi h st b hb=>by
  have e:b=it:=by simpa using hb
  subst e;obtain⟨o,e,c,d⟩:=st;exact⟨o,e,λv z=>by rw[d]at z;cases z⟩
 keep:=λi h h' st k=>by
  obtain⟨o,e,r⟩:=st;exact⟨o,k it (by simp) o e,r⟩
 item:=by
  intro X hP hw hK hc i pins s σ H E I hf st hg;subst hP hw hK;obtain⟨hq,hi⟩:=hg;obtain⟨vs,rel,da⟩:=f.at (js I hq);obtain⟨k,v,u,e1,e2⟩:=uT rel hi;obtain⟨f0,f1,f2,f3,f4,f5⟩:=hf it (by simp);have hl:=rel.length;rw[hl]at st;refine wpAny_pyNext_dict_item st da e2 λkey h' hk st' sb=>?_;have I1:Inv X pins σ H {s with heap:=h' }:=I.turned (t':=s.toks) (λb o hb e=>(sb.2 b hb).trans e) f0 f1 f3 f4 f5;obtain⟨o,e,c,dd⟩:=id st';rw[<-hl]at st';exact⟨key,rfl,jV (s:={s with heap:=h' }) e c dd (by decide) ⟨kV k,H,I1,Br hk,⟨rfl,(k,v),e1,rfl⟩,st',λb hb=>(hf b hb).1⟩⟩
 done:=by
  intro X hP hw hK hc i pins s σ H E I hf st hg;subst hP hw hK;obtain⟨hq,hi⟩:=hg;obtain⟨vs,rel,da⟩:=f.at (js I hq);obtain⟨f0,f1,f2,f3,f4,f5⟩:=hf it (by simp);have hl:=rel.length;rw[hl]at st;exact wpAny_pyNext_dict_end (I.ok.hd hc) st da (Qx (by lia)) λh' eb=>⟨rfl,I.turned (t':=s.toks) (λb o hb e=>eb b o hb e) f0 f1 f3 f4 f5⟩
 self:=λ_ _ _ _ _ st h=>IY st h
noncomputable def sr(X:Cx)(tl:TE):TI:=λσ H R=>tl σ H λx H1=>∃d o ep kvs,x=.ref d/\FO X.prog X.w d o ep kvs/\H1 d=some (xl d o)/\R (tP d o kvs) H1
def C8 (hl:PE X l tl):PI X tg l (sr X tl):=by
 intro pins s σ H R I h;refine aQ (hl pins s σ H _ I h) λv s1 ⟨x,H1,I1,r1,q1⟩=>?_;obtain⟨d,o,ep,kvs,e,f,hq,q⟩:=q1;subst e;cases r1;obtain⟨vs,rel,da⟩:=f.at (js I1 hq);have hl:=rel.length;refine wpAny_pyIter_dict f.1 da ?_;refine⟨s1.heap.objs.size,[s1.heap.objs.size],_,_,H1,rfl,I1.kept (t':=s1.toks) λb o e=>Qe _ e,qS f _,⟨_,Qw _ rfl,rfl,by rw[hl];rfl⟩,λb hb=>?_,q⟩;have e:b=s1.heap.objs.size:=by simpa using hb
 subst e;exact I1.fpOk (Qf _) (I1.hok.fresh (Qf _))
noncomputable def kP(X:Cx):R2:=λx y H Q=>∃d o ep kvs k v,x=.ref d/\y=kV k/\FO X.prog X.w d o ep kvs/\H d=some (xl d o)/\xf kvs k=some v/\Q v H
def mr:cU X (kP X):=by
 intro value slice pins s σ H x y v u Q I rx ry h hs;obtain⟨d,o,ep,kvs,k,z,rfl,rfl,f,hq,hv,q⟩:=h;cases rx;obtain⟨vs,rel,da⟩:=f.at (js I hq);obtain⟨w',hw,rw'⟩:=nZ (v:=z) (o:=IX vs k) (by rw[<-hv];exact rel.val k);exact HW (x:=w') da.dictOf.typeIs slot_dict_getitem.lookup
  (wpAny_getItem_of (Q:=λr s'=>r=w'/\EP X pins σ Q r s') (iG ry) da.dictOf.mapOf hw ⟨rfl,z,H,I.tok _,rw',q⟩) hs
def kQ (h:(kvs.map (·.1)).Nodup):∀{ps:List (bv×V)},((ps++kvs).map (·.1)).Nodup->xV ps kvs=ps++kvs:=by
 induction kvs with
 |nil=>intro ps _;simp[xV]
 |cons a r ih=>
  intro ps hn;have hp:xf ps a.1=none:=by
   cases hz:xf ps a.1 with
   |none=>rfl
   |some y=>
    exfalso;have hs:(xf ps a.1).isSome=true:=by rw[hz];rfl
    rw[<-vR,WW]at hs;obtain⟨q,hq,he⟩:=hs;have he:=Jl he;rw[WZ,Qn]at hn;exact hn.2.2 q.1 (List.mem_map_of_mem hq) a.1 (by simp) he
  show xV (gN ps a.1 a.2) r=_;rw[Da _ hp,ih (by simpa using (QA.mp (by simpa using h)).2) (ps:=ps++[(a.1,a.2)]) (by simpa using hn)];simp
noncomputable def uS(X:Cx)(trs:List (TE×TE)):TE:=λσ H Q=>∀p,H p=none->qR trs σ (aE H p (.dK [])) λps H2=>H2 p=some (.dK [])/\∃kvs:List (bv×V),ps=kvs.map (λkv=>(kV kv.1,kv.2))/\kvs.length<=15/\(kvs.map (·.1)).Nodup/\∀o ep,FO X.prog X.w p o ep kvs->Q (.ref p) (aE H2 p (xl p o))
def Dz (h:ij X pos keys values trs)(hall:keys.all (·.isSome)=true)(hl:keys.length=values.length)(h0:keys≠[])(h15:keys.length<=15):PE X (.Dict keys values pos) (uS X trs):=by
 intro pins s σ H Q I q;have hn:=I.hok.fresh (Qf s.heap.objs.size);have I1:=I.laid (a:=s.heap.objs.size) (o:=.dK []) (h':=s.heap.push {cls:=.type "dict",data:=.dict #[]}) (t':=s.toks) (λ_ _ q=>Qe _ q) (Qf _) (C9 s.heap I.big);refine wpAny_Dict_walk (knd:=zE X.prog X.w) hall hl h0 h15 (aQ (h pins _ σ _ _ I1 (q _ hn)) λws s2 ⟨ps,H2,I2,rel,e,kvs,ep,lk,nd,q2⟩=>?_);subst ep;obtain⟨rs,c,rk⟩:=vS (P:=X.prog) (w:=X.w) rel;obtain⟨z,hd,vs0,r0,dd⟩:=ut I2.hok e;cases r0;refine⟨rs,c,dd,λh' dd' hs=>?_⟩;have rm:=rk.merge (kvs:=[]) (vs:=[]) .nil;rw[kQ nd (ps:=[]) (by simpa using nd)]at rm;obtain⟨o,es,ep,b1,b2,b3,b4,b5,b6⟩:=dd';refine⟨.ref s.heap.objs.size,_,?_,rfl,q2 o ep ⟨hd,es,_,b2,b3,b4,b5,b6,rm⟩⟩;exact Bt I2 (by rw[e];exact True.intro) hs ⟨_,b1⟩ ⟨b1,⟨_,b1⟩,λh1 h2 hx k=>k o hx⟩
end
noncomputable def fy(K:Qb)(b:Addr)(xs:List V):Prop:=
 ∃(o:Obj) (its:Array Value) (n:Nat),K.lookup b=some o/\o.cls=.type "tuple" /\ o.data=.seq its n/\its.size<=sizeLine/\ax xs its.toList
abbrev eu:=List (List Nat×Int×Int)
noncomputable def nT(K:Qb)(w:GV):List DictEntry->eu->Prop
 |[],q=>q=[]
 |e::es,q=>∃k x y r t b,q=(k,x,y)::r/\e.key=.str ⟨k.toArray⟩ t/\e.hash=GX w ⟨k.toArray⟩/\e.val=.ref b/\fy K b [.int x,.int y]/\nT K w es r
noncomputable def eZ(K:Qb)(w:GV)(a:Addr)(q:eu):Prop:=
 (a==G6)=false/\∃o es ep,K.lookup a=some o/\o.ExactDict/\o.data=.dict es ep/\nT K w es.toList q
noncomputable def nS(K:Qb):List (bv×V)->eu->Prop
 |[],q=>q=[]
 |kv::kvs,q=>∃k x y r b,q=(k,x,y)::r/\kv=(Sum.inr ⟨k.toArray⟩,.ref b)/\fy K b [.int x,.int y]/\nS K kvs r
theorem pF {K:Qb}:∀(es:List DictEntry) (q:eu),nT K w es q ->
  ∃kvs vs,(∀e∈es,∃k,(zE P w).is k e.key=true/\e.hash=(zE P w).hash k)/\Pairs (zE P w) es vs/\KV kvs vs/\vs.map (·.1)=q.map (λz=>(Sum.inr ⟨z.1.toArray⟩:bv))/\nS K kvs q
 |[],q,h=>by
  cases(show q=[]from h);exact⟨[],[],by simp,.nil,.nil,rfl,rfl⟩
 |e::es,q,h=>by
  obtain⟨k,x,y,r,t,b,rfl,h1,h2,h3,h4,h5⟩:=h;obtain⟨kvs,vs,g1,g2,g3,g4,g5⟩:=pF (P:=P) es r h5;have hk:(zE P w).is (Sum.inr ⟨k.toArray⟩) e.key=true:=by rw[h1];exact ky _ t
  refine⟨(Sum.inr ⟨k.toArray⟩,.ref b)::kvs,(Sum.inr ⟨k.toArray⟩,.ref b)::vs,λe' he=>?_,.cons hk h3 g2,.cons ⟨rfl,rfl⟩ g3,?_,k,x,y,r,b,rfl,rfl,h4,g5⟩
  .rcases Qk.mp he with rfl|he
   .exact ⟨_,hk,h2⟩
   .exact g1 e' he
  .rw[Q2,Q2,g4]
def ur {K:Qb}(h:eZ K w a q)(nd:(q.map (·.1)).Nodup):∃o ep kvs,K.lookup a=some o/\FO P w a o ep kvs/\nS K kvs q:=by
 obtain⟨h0,o,es,ep,h1,h2,h3,h4⟩:=h;obtain⟨kvs,vs,g1,g2,g3,g4,g5⟩:=pF (P:=P) _ _ h4;refine⟨o,ep,kvs,h1,⟨h0,es,vs,h2,h3,λe he=>g1 e (Vo.mpr he),g2,?_,g3⟩,g5⟩;rw[g4];refine List.Pairwise.map _ (λx y hxy=>?_) (WP.mp nd);intro e;injection e with e
 injection e with e
 exact hxy (by simpa using Jf WO e)
section
variable{X:Cx}{pins:List (Addr×Obj)}{σ:St}{H:Hp}{s:GU}
noncomputable def uq(X:Cx):R2:=λx y H Q=>∃d o ep kvs k v,x=.ref d/\y=kV k/\FO X.prog X.w d o ep kvs/\X.K.lookup d=some o/\xf kvs k=some v/\Q v H
def mq:cU X (uq X):=by
 intro value slice pins s σ H x y v u Q I rx ry h hs;obtain⟨d,o,ep,kvs,k,z,rfl,rfl,f,hq,hv,q⟩:=h;cases rx;obtain⟨vs,rel,da⟩:=f.at (I.kIn d o hq);obtain⟨w',hw,rw'⟩:=nZ (v:=z) (o:=IX vs k) (by rw[<-hv];exact rel.val k);exact HW (x:=w') da.dictOf.typeIs slot_dict_getitem.lookup
  (wpAny_getItem_of (Q:=λr s'=>r=w'/\EP X pins σ Q r s') (iG ry) da.dictOf.mapOf hw ⟨rfl,z,H,I.tok _,rw',q⟩) hs
end
end L2
namespace Mini
open PySem PySem.Spec PyProof.Rows L2
set_option genInjectivity false in
structure Ctx where
 fns:List Str
 cons:List (Str×Int)
 dcs:List (Str×eu)
set_option genInjectivity false in
inductive Nd where
 |e (x:Expr)|a (xs:List Expr)
noncomputable def cu(sc:GR)(x:Str):Bool:=decide (sc.names.lookup x=some .globalImplicit)
noncomputable def gO(sc:GR)(x:Str):Bool:=decide (sc.names.lookup x=some .local) || (decide (sc.names.lookup x=some .cell) || decide (sc.names.lookup x=some .free))
noncomputable def zV(x:Str):Bool:=!(x==("__debug__":Str)) && !(x==("__classdict__":Str)) && !(x==("__name__":Str))
noncomputable def zh:Expr->Bool
 |.Starred _ _=>false
 |_=>true
noncomputable def zW:Expr->Bool
 |.Set _ _ _=>false
 |_=>true
noncomputable def zY:Expr->Bool
 |.Slice _ _ _ _=>false
 |_=>true
noncomputable def yj:Expr->Bool
 |.Call _ _ _ _=>false
 |_=>true
noncomputable def zg:Ex->Bool
 |.rng _ _ _=>true
 |_=>false
noncomputable def wv:Ex->Bool
 |.ife _ _ _=>true
 |_=>false
noncomputable def zA(scope sc:GR):GR:=
 {scope with names:=scope.names.map λ(n,k)=>if(k == .free&&sc.kind == .function&&sc.names.lookup n==some .cell)then(n,.cell)else(n,k)}
noncomputable def bz(sc:GR)(N:List Str)(scope:GR)(xs:List Str):Bool:=
 decide (scope.kind=.function)&&(xs.all (λx=>decide (scope.names.lookup x=some .local) || decide (scope.names.lookup x=some .cell)) &&
 (scope.names.all (λy=>!(decide (y.2=.local)) || decide (scope.names.lookup y.1=some .local)) &&
 (scope.names.all (λy=>!(decide (y.2=.free)) || (decide (sc.names.lookup y.1=some .cell) || decide (sc.names.lookup y.1=some .free))) &&
 (scope.names.all (λy=>!(decide (y.2=.cell)) || !(decide (scope.names.lookup y.1=some .free))) &&
 (N.all (λy=>decide (y∈xs) || (!(decide (scope.names.lookup y=some .local)) && !(decide (scope.names.lookup y=some .cell)))) &&
 (decide (zL N xs).Nodup&&xs.all (λx=>decide (scope.names.lookup (ig x)=none))))))))
def zC (h:bz X.env.scope X.N scope xs=true):bx X scope xs:=by
 unfold bz at h;simp only[QH,W0,Jm,Wp,W7,decide_eq_false_iff_not]at h;obtain⟨h1,h2,h3,h4,h5,h6,h7,h8⟩:=h;refine⟨h1,h2,λy hy e=>?_,λy hy e=>?_,λy hy e=>?_,λy hy e=>?_,h7,h8⟩
 .rcases h3 y hy with z|z
  .exact Jj e z
  .exact z
 .rcases h4 y hy with z|z
  .exact Jj e z
  .exact z
 .rcases h6 y hy with z|z
  .exact Jj z e
  .exact z
 .rcases h5 y hy with z|z
  .exact Jj e z
  .exact z
noncomputable def jt(K:Qb)(g:List Wd->Me->Rz):Sp:=λvs H Q _=>∃as m ws,aH K as m H/\ab K as H ws vs/\ak K as H Q (g ws m)
noncomputable def zn:List Str:=["len","int","bool","list","tuple","abs","max","min","isinstance","range","str","dict","sum","all","zip","enumerate","sorted","reversed"]
noncomputable def gP(K:Qb)(w:GV)(mg:Str->Option Value)(C:Ctx):Prop:=(∀(nm:Str) (i:Int),C.cons.lookup nm=some i->∃t,mg nm=some (.int i t))/\∀(nm:Str) (q:eu),C.dcs.lookup nm=some q->∃a,mg nm=some (.ref a)/\eZ K w a q
structure bF(C:Ctx)(X:Cx)(cl:Nat->List Wd->Me->Rz)(d:Nat):Prop where
 room:bK d X.A
 calm:X.calm=true
 fn:∀(k:Nat) (nm:Str),C.fns[k]?=some nm->∃f fd ps,X.mg nm=some (.ref f)/\WM X.K (.ref f)=true/\Binds X.K fd ps []/\cb X.prog X.w X.K X.mg X.base dr d f fd ps (jt X.K (cl k))
 con:gP X.K X.w X.mg C
 blt:∀nm∈zn,X.mg nm=none
def bF.comp{C:Ctx}{X Xc:Cx}{cl:Nat->List Wd->Me->Rz}{d:Nat}{scope:GR}{x:List Str}(h:bF C X cl d)(c:bh X scope x Xc):bF C Xc cl d:=by
 refine⟨by rw[c.A];exact h.room,c.calm,λk nm e=>?_,?_,λnm e=>?_⟩
 .obtain ⟨f,fd,ps,h1,h2,h3,h4⟩:=h.fn k nm e;exact⟨f,fd,ps,by rw[c.mg];exact h1,by rw[c.K];exact h2,by rw[c.K];exact h3,by rw[c.prog,c.w,c.K,c.mg,c.base];exact h4⟩
 .rw[c.mg,c.K,c.w];exact h.con
 .rw[c.mg];exact h.blt nm e
noncomputable def bR(K:Qb)(as:List Addr)(H:Hp)(Q:List V->Hp->Prop)(r:Rz):Prop:=match r with
 |.ok w m'=>∀as' H' vs,Step as H as' H'->aH K as' m' H'->ab K as' H' (zj w) vs->Q vs H'
 |_=>False
noncomputable def vT(K:Qb)(g:En->Me->Rz):TA:=λσ H Q=>∃as env m,aH K as m H/\aB K as H env σ/\bR K as H Q (g env m)
theorem bR.bind{K:Qb}{as:List Addr}{H:Hp}{Q:VK}{Q1:List V->Hp->Prop}{r:Rz}{f:Wd->Me->Rz}(h:ak K as H Q (r.bind f))
  (k:∀w m' as' H' vs,Step as H as' H'->aH K as' m' H'->ab K as' H' (zj w) vs->ak K as' H' Q (f w m')->Q1 vs H'):bR K as H Q1 r:=by
 cases r with
 |ok w m'=>exact λas2 H2 v U S R=>k w m' as2 H2 v U S R (ak.step (r:=f w m') h U)
 |no=>exact h
noncomputable def bH(cl:Nat->List Wd->Me->Rz)(X:Cx)(e:Ex):Nd->Prop
 |.e x=>(zg e=false->PE X x (aG X.K (ae cl e))/\(wv e=false->PT X x (yI X.K (ae cl e)))/\(∀op vs pos,x=.BoolOp op vs pos->PW X x (yI X.K (ae cl e))))/\∀tg,PI X tg x (eP X.K (ae cl e))
 |.a xs=>PA X xs (vT X.K (ae cl e))
def bH.of{cl:Nat->List Wd->Me->Rz}{X:Cx}{e:Ex}{x:Expr}(h:PE X x (aG X.K (ae cl e)))(ht:∀whole,isTrue x X.env whole=(do let v <-whole;standAt x.pos;holding [v] (truthy v)):=by intro _;rfl)
  (hb:∀op vs pos,x≠.BoolOp op vs pos:=by intros;intro z;cases z):bH cl X e (.e x):=
 ⟨λ_=>⟨h,λ_=>As h ht,λop vs pos z=>Jj z (hb op vs pos)⟩,λtg=>wZ h⟩
def zf (h:zh e=true):Hh (e::es) env=(false,eval e env)::Hh es env:=by
 cases e<;>first|rfl|cases h
theorem zB:∀{es:List Expr},es.all zh=true->(Hg pos (Hh es env)).any (·.1)=false
 |[],_=>rfl
 |e::es,h=>by
  rw[WX,QH]at h;rw[zf h.1];show(false || (Hg pos (Hh es env)).any (·.1))=false;rw[zB h.2];rfl
section
variable{cl:Nat->List Wd->Me->Rz}{X:Cx}{a b:Ex}{x y:Expr}{pos:Pos}
def uR (ha:PE X x (aG X.K (ae cl a)))(hb:PE X y (aG X.K (ae cl b))):PE X (.BinOp x (eL op) y pos) (aG X.K (ae cl (.bin op a b))):=by
 refine PE.imp (t9 (tW op) ha hb) λσ H Q h=>?_;obtain⟨as,env,m,S,G,P⟩:=h;refine⟨as,env,m,S,G,ak.bind P λx m1 as1 H1 v T1 S1 R1 P1=>?_⟩;refine⟨as1,env,m1,S1,G.mono S T1,ak.bind P1 λy m2 as2 H2 u T2 S2 R2 P2=>?_⟩;exact A9 S2 (R1.mono S1 T2) R2 P2
def uQ(ha:PE X x (aG X.K (ae cl a))):PE X (.UnaryOp .USub x pos) (aG X.K (ae cl (.neg a))):=by
 refine PE.imp (t8 AM ha) λσ H Q h=>?_;obtain⟨as,env,m,S,G,P⟩:=h;refine⟨as,env,m,S,G,ak.bind P λx m1 as1 H1 v T1 S1 R1 P1=>?_⟩;cases x with
 |int i=>
  obtain rfl:=aa.mp R1;exact⟨i,rfl,P1.ok S1 (aa.mpr rfl)⟩
 |_=>exact P1.elim
def pE(ha:PE X x (aG X.K (ae cl a))):PE X (.UnaryOp .Not x pos) (aG X.K (ae cl (.not a))):=by
 refine PE.imp (An ha) λσ H Q h=>?_;obtain⟨as,env,m,S,G,P⟩:=h;refine⟨as,env,m,S,G,ak.bind P λx m1 as1 H1 v T1 S1 R1 P1=>?_⟩;cases x with
 |bl k=>
  obtain rfl:=ai.mp R1;exact⟨k,rfl,P1.ok S1 (ai.mpr rfl)⟩
 |_=>exact P1.elim
def uP(ha:PT X x (yI X.K (ae cl a))):PT X (.UnaryOp .Not x pos) (yI X.K (ae cl (.not a))):=by
 refine PT.imp (Ap ha) λσ H Q h=>?_;obtain⟨as,env,m,S,G,P⟩:=h;refine⟨as,env,m,S,G,ak.bind P λx m1 as1 H1 v T1 S1 R1 P1=>?_⟩;cases x with
 |bl k=>
  obtain rfl:=ai.mp R1;obtain⟨b,e,q⟩:=P1.ok S1 (ai.mpr rfl);cases e;exact⟨k,rfl,q⟩
 |_=>exact P1.elim
def gQ {K:Qb}(h:aG K (ae cl (.and a b)) σ H Q):aG K (ae cl a) σ H λx H1=>∃k,x=.bl k/\if k=true then aG K (ae cl b) σ H1 Q else Q (.bl false) H1:=by
 obtain⟨as,env,m,S,G,P⟩:=h;refine⟨as,env,m,S,G,ak.bind P λx m1 as1 H1 v T1 S1 R1 P1=>?_⟩;cases x with
 |bl k=>
  obtain rfl:=ai.mp R1;refine⟨k,rfl,?_⟩;cases k with
  |true=>exact j4 ⟨as1,env,m1,S1,G.mono S T1,P1⟩
  |false=>exact j0 (P1.ok S1 (ai.mpr rfl))
 |_=>exact P1.elim
def rP {K:Qb}(h:aG K (ae cl (.or a b)) σ H Q):aG K (ae cl a) σ H λx H1=>∃k,x=.bl k/\if k=true then Q (.bl true) H1 else aG K (ae cl b) σ H1 Q:=by
 obtain⟨as,env,m,S,G,P⟩:=h;refine⟨as,env,m,S,G,ak.bind P λx m1 as1 H1 v T1 S1 R1 P1=>?_⟩;cases x with
 |bl k=>
  obtain rfl:=ai.mp R1;refine⟨k,rfl,?_⟩;cases k with
  |false=>exact j0 ⟨as1,env,m1,S1,G.mono S T1,P1⟩
  |true=>exact j4 (P1.ok S1 (ai.mpr rfl))
 |_=>exact P1.elim
def gR {K:Qb}(h:aG K g σ H Q)(k:∀v H,Q v H->Q' v H):aG K g σ H Q':=by
 obtain⟨as,env,m,S,G,P⟩:=h;refine⟨as,env,m,S,G,?_⟩;cases hr:g env m with
 |ok w m'=>rw[hr]at P;exact λas' H' v T S' R=>k _ _ (P as' H' v T S' R)
 |no=>rw[hr]at P;exact P
def pD (ha:PE X x (aG X.K (ae cl a)))(hb:PE X (.BoolOp .And (y::r) pos) (aG X.K (ae cl b))):PE X (.BoolOp .And (x::y::r) pos) (aG X.K (ae cl (.and a b))):=
 PE.imp (Ao ha hb) λσ H Q h=>gQ h
def um (ha:PE X x (aG X.K (ae cl a)))(hb:PE X (.BoolOp .Or (y::r) pos) (aG X.K (ae cl b))):PE X (.BoolOp .Or (x::y::r) pos) (aG X.K (ae cl (.or a b))):=
 PE.imp (Ah ha hb) λσ H Q h=>rP h
def PW.imp{e:Expr}{t t':TT}(h:PW X e t)(k:∀σ H Q,t' σ H Q->t σ H Q):PW X e t':=λwhole pins s σ H Q I q=>h whole pins s σ H Q I (k σ H Q q)
def pC (ha:PT X x (yI X.K (ae cl a)))(hb:PW X (.BoolOp .And (y::r) pos) (yI X.K (ae cl b))):PW X (.BoolOp .And (x::y::r) pos) (yI X.K (ae cl (.and a b))):=
 PW.imp (Aq ha hb) λσ H Q h=>by
  refine gR (gQ h) λv H1 q=>?_;obtain⟨k,e,q⟩:=q;refine⟨k,e,?_⟩;cases k with
  |true=>rw[Jh rfl]at q ⊢;exact q
  |false=>
   rw[Ji QS]at q ⊢;obtain⟨b',e',q⟩:=q;cases e';exact q
def ip (ha:PT X x (yI X.K (ae cl a)))(hb:PW X (.BoolOp .Or (y::r) pos) (yI X.K (ae cl b))):PW X (.BoolOp .Or (x::y::r) pos) (yI X.K (ae cl (.or a b))):=
 PW.imp (Ak ha hb) λσ H Q h=>by
  refine gR (rP h) λv H1 q=>?_;obtain⟨k,e,q⟩:=q;refine⟨k,e,?_⟩;cases k with
  |false=>rw[Ji QS]at q ⊢;exact q
  |true=>
   rw[Jh rfl]at q ⊢;obtain⟨b',e',q⟩:=q;cases e';exact q
def fR (h:zW e=true):HE op e=false:=by
 cases e<;>first|rfl|cases h
def gS {K:Qb}(h:aG K (ae cl (.cmp op a b)) σ H Q):dt (rC K op) (aG K (ae cl a)) (aG K (ae cl b)) σ H Q:=by
 obtain⟨as,env,m,S,G,P⟩:=h;refine⟨as,env,m,S,G,ak.bind P λx m1 as1 H1 v T1 S1 R1 P1=>?_⟩;refine⟨as1,env,m1,S1,G.mono S T1,ak.bind P1 λy m2 as2 H2 u T2 S2 R2 P2=>?_⟩;exact⟨as2,m2,x,y,S2,R1.mono S1 T2,R2,P2⟩
def pB (hu:X.A.units+64<HF)(ha:PE X x (aG X.K (ae cl a)))(hb:PE X y (aG X.K (ae cl b)))(hs:zW y=true):PE X (.Compare x [cK op] [y] pos) (aG X.K (ae cl (.cmp op a b))):=
 PE.imp (CI (vM hu op) ha hb (fR hs)) λσ H Q h=>gS h
def uO (hu:X.A.units+64<HF)(ha:PE X x (aG X.K (ae cl a)))(hb:PE X y (aG X.K (ae cl b)))(hs:zW y=true):PT X (.Compare x [cK op] [y] pos) (yI X.K (ae cl (.cmp op a b))):=
 PT.imp (pY (vM hu op) ha hb (fR hs)) λσ H Q h=>gS h
end
section
variable{cl:Nat->List Wd->Me->Rz}{X:Cx}{a b c:Ex}{x y z:Expr}{pos:Pos}
def vU {K:Qb}(h:aG K (ae cl (.chain p q a b c)) σ H Q):qA (rC K p) (rC K q) (aG K (ae cl a)) (aG K (ae cl b)) (aG K (ae cl c)) σ H Q:=by
 obtain⟨as,env,m,S,G,P⟩:=h;refine⟨as,env,m,S,G,ak.bind P λx m1 as1 H1 v T1 S1 R1 P1=>?_⟩;refine⟨as1,env,m1,S1,G.mono S T1,ak.bind P1 λy m2 as2 H2 u T2 S2 R2 P2=>?_⟩;refine⟨as2,m2,x,y,S2,R1.mono S1 T2,R2,ak.bind P2 λz m3 as3 H3 w T3 S3 R3 P3=>?_⟩;cases z with
 |bl k=>
  obtain rfl:=ai.mp R3;refine⟨k,rfl,?_⟩;cases k with
  |false=>exact j0 (P3.ok S3 (ai.mpr rfl))
  |true=>
   refine j4 ⟨as3,env,m3,S3,((G.mono S T1).mono S1 T2).mono S2 T3,ak.bind P3 λt m4 as4 H4 r T4 S4 R4 P4=>?_⟩;exact⟨as4,m4,y,t,S4,(R2.mono S2 T3).mono S3 T4,R4,P4⟩
 |_=>exact P3.elim
def pA (h:zW z=true):lastMarks [o,o'] [y,z]=false:=by
 show HE o' z=false;exact fR h
def gT (hu:X.A.units+64<HF)(ha:PE X x (aG X.K (ae cl a)))(hb:PE X y (aG X.K (ae cl b)))(hc:PE X z (aG X.K (ae cl c)))(hs:zW z=true):
  PE X (.Compare x [cK p,cK q] [y,z] pos) (aG X.K (ae cl (.chain p q a b c))):=
 PE.imp (D3 (vM hu p) (vM hu q) ha hb hc (pA hs)) λσ H Q h=>vU h
def Dy (hu:X.A.units+64<HF)(ha:PE X x (aG X.K (ae cl a)))(hb:PE X y (aG X.K (ae cl b)))(hc:PE X z (aG X.K (ae cl c)))(hs:zW z=true):
  PT X (.Compare x [cK p,cK q] [y,z] pos) (yI X.K (ae cl (.chain p q a b c))):=
 PT.imp (El (vM hu p) (vM hu q) ha hb hc (pA hs)) λσ H Q h=>vU h
def Dx {K:Qb}(h:aG K (ae cl (.ife c a b)) σ H Q):sf (yI K (ae cl c)) (aG K (ae cl a)) (aG K (ae cl b)) σ H Q:=by
 obtain⟨as,env,m,S,G,P⟩:=h;refine⟨as,env,m,S,G,ak.bind P λx m1 as1 H1 v T1 S1 R1 P1=>?_⟩;cases x with
 |bl k=>
  obtain rfl:=ai.mp R1;refine⟨k,rfl,?_⟩;cases k with
  |true=>exact j4 ⟨as1,env,m1,S1,G.mono S T1,P1⟩
  |false=>exact j0 ⟨as1,env,m1,S1,G.mono S T1,P1⟩
 |_=>exact P1.elim
def uN(hc:PT X z (yI X.K (ae cl c)))(ha:PE X x (aG X.K (ae cl a)))(hb:PE X y (aG X.K (ae cl b))):PE X (.IfExp z x y pos) (aG X.K (ae cl (.ife c a b))):=
 PE.imp (D6 hc ha hb) λσ H Q h=>Dx h
def Bn:PA X [] (vT X.K (ae cl .unit)):=PA.imp yh λσ H Q h=>by
 obtain⟨as,env,m,S,G,P⟩:=h;exact P as H [] .refl S (au.mpr rfl)
def Bm (ha:PE X x (aG X.K (ae cl a)))(hb:PA X xs (vT X.K (ae cl b)))(hs:zh x=true):PA X (x::xs) (vT X.K (ae cl (.pair a b))):=by
 refine PA.imp (zy ha hb (zf hs)) λσ H Q h=>?_;obtain⟨as,env,m,S,G,P⟩:=h;refine⟨as,env,m,S,G,?_⟩;have P':bR X.K as H Q ((ae cl a env m).bind λx m1=>(ae cl b env m1).bind λy m2=>.ok (.tup (x::zj y)) m2):=P;cases hr:ae cl a env m with
 |no=>rw[hr]at P';exact P'
 |ok w m1=>
  rw[hr]at P';intro as1 H1 v T1 S1 R1;refine⟨as1,env,m1,S1,G.mono S T1,?_⟩;simp only[Rz.bind]at P';cases hr2:ae cl b env m1 with
  |no=>rw[hr2]at P';exact P'
  |ok w' m2=>
   rw[hr2]at P';intro as2 H2 vs T2 S2 R2;exact P' as2 H2 (v::vs) (T1.trans T2) S2 (aj.mpr ⟨v,vs,rfl,R1.mono S1 T2,R2⟩)
def Bl (hC:bF C X cl d)(hk:C.fns[k]?=some nm)(hg:X.env.scope.names.lookup nm=some .globalImplicit)(hn:zV nm=true)(hs:(x::xs).all zh=true)(ha:PA X (x::xs) (vT X.K (ae cl a))):PE X (.Call (.Name nm p) (x::xs) [] pos) (aG X.K (ae cl (.call k a))):=by
 obtain⟨f,fd,ps,h1,h2,h3,h4⟩:=hC.fn k nm hk;have hs':=hs;rw[WX,QH]at hs';have hdb:(nm==("__debug__":Str))=false:=by
  unfold zV at hn;simp only[QH,W7]at hn;exact hn.1.1
 refine PE.imp (CG h4 hC.room hg h1 h2 h3 .nil (tY (X:=X)) ha hdb (zf hs'.1) (zB hs'.2)) λσ H Q h=>?_;obtain⟨as,env,m,S,G,P⟩:=h;refine⟨as,env,m,S,G,bR.bind P λw m1 as1 H1 vs T1 S1 R1 P1=>?_⟩;refine⟨as1,m1,zj w,S1,?_,P1⟩;rw[QW];exact R1
def yq (hn:zV nm=true):(nm==("__debug__":Str))=false/\(nm==("__classdict__":Str))=false/\nm ≠ "__name__":=by
 unfold zV at hn;simp only[QH,W7]at hn;exact⟨hn.1.1,hn.1.2,by simpa using hn.2⟩
def uM (hC:bF C X cl d)(hb:fA bf=some (nm,f))(hg:X.env.scope.names.lookup nm=some .globalImplicit)(hn:zV nm=true)(hs:(x::xs).all zh=true)(ha:PA X (x::xs) (vT X.K (ae cl a))):PE X (.Call (.Name nm p) (x::xs) [] pos) (aG X.K (ae cl (.blt bf a))):=by
 obtain⟨n1,n2,n3⟩:=yq hn;have hs':=hs;rw[WX,QH]at hs';have hc:=Dc hC.room.units hC.calm hb;have go:PE X (.Call (.Name nm p) (x::xs) [] pos) (i9 (si X.K bf) (vT X.K (ae cl a))):=by
  cases bf with
  |len=>cases hb;exact yy hc hg (hC.blt _ (by simp[zn])) PySem.boot_len ha n3 n1 (zf hs'.1) (zB hs'.2)
  |int=>cases hb;exact wI hc hg (hC.blt _ (by simp[zn])) PyProof.Rows.boot_int ha n3 n1 (zf hs'.1) (zB hs'.2)
  |list=>cases hb;exact wI hc hg (hC.blt _ (by simp[zn])) PyProof.Rows.boot_list ha n3 n1 (zf hs'.1) (zB hs'.2)
  |tuple=>cases hb;exact wI hc hg (hC.blt _ (by simp[zn])) PyProof.Rows.boot_tuple ha n3 n1 (zf hs'.1) (zB hs'.2)
  |max2=>cases hb;exact yy hc hg (hC.blt _ (by simp[zn])) PyProof.Rows.boot_max ha n3 n1 (zf hs'.1) (zB hs'.2)
  |sum=>cases hb;exact yy hc hg (hC.blt _ (by simp[zn])) PyProof.Rows.boot_sum ha n3 n1 (zf hs'.1) (zB hs'.2)
  |min2=>cases hb;exact yy hc hg (hC.blt _ (by simp[zn])) PyProof.Rows.boot_min ha n3 n1 (zf hs'.1) (zB hs'.2)
  |sorted=>cases hb;exact yy hc hg (hC.blt _ (by simp[zn])) PyProof.Rows.boot_sorted ha n3 n1 (zf hs'.1) (zB hs'.2)
  |sortI=>cases hb;exact yy hc hg (hC.blt _ (by simp[zn])) PyProof.Rows.boot_sorted ha n3 n1 (zf hs'.1) (zB hs'.2)
 refine PE.imp go λσ H Q h=>?_;obtain⟨as,env,m,S,G,P⟩:=h;refine⟨as,env,m,S,G,bR.bind P λw m1 as1 H1 vs T1 S1 R1 P1=>?_⟩;exact⟨as1,m1,zj w,S1,R1,P1⟩
def Bk(t:Tg):Hb (Str.ofString (cr t))=some (.type (cr t)):=by
 cases t<;>decide +kernel
def uL (hC:bF C X cl d)(hg:X.env.scope.names.lookup ("isinstance":Str)=some .globalImplicit)(hg':X.env.scope.names.lookup (Str.ofString (cr t))=some .globalImplicit)(hs:zh x=true)(ha:PE X x (aG X.K (ae cl a))):PE X (.Call (.Name "isinstance" p) [x,.Name (Str.ofString (cr t)) p'] [] pos) (aG X.K (ae cl (.isi t a))):=by
 have hm:X.mg (Str.ofString (cr t))=none:=hC.blt _ (by cases t<;>decide +kernel);have hty:PE X (.Name (Str.ofString (cr t)) p') (tC (.ty (cr t))):=CP hg' hm (Bk t) rfl (by cases t<;>decide +kernel) (by cases t<;>decide +kernel);refine PE.imp (yy (Db t) hg (hC.blt _ (by simp[zn])) PyProof.Rows.boot_isinstance (zy ha (zy hty yh) (zf hs)) (by decide +kernel) (by decide +kernel) (zf hs) rfl) λσ H Q h=>?_;obtain⟨as,env,m,S,G,P⟩:=h;refine⟨as,env,m,S,G,ak.bind P λw m1 as1 H1 v T1 S1 R1 P1=>?_⟩;exact⟨as1,m1,w,v,rfl,S1,R1,P1⟩
def uK (ha:PA X xs (vT X.K (ae cl a))):PE X (.List xs pos) (aG X.K (ae cl (.lst a))):=by
 refine PE.imp (AJ ha) λσ H Q h=>?_;obtain⟨as,env,m,S,G,P⟩:=h;refine⟨as,env,m,S,G,bR.bind P λw m1 as1 H1 vs T1 S1 R1 P1=>?_⟩;obtain⟨h1,h2⟩:=yW S1 R1 P1;exact⟨Qs h1 yA,h2⟩
set_option tactic.hygienic true in
def uJ (ha:PA X xs (vT X.K (ae cl a))):PE X (.Tuple xs k pos) (aG X.K (ae cl (.tup a))):=by
 refine PE.imp (AK ha) λσ H Q h=>?_;obtain⟨as,env,m,S,G,P⟩:=h;refine⟨as,env,m,S,G,bR.bind P λw m1 as1 H1 vs T1 S1 R1 P1=>?_⟩;split at P1
 .rename_i hl;refine⟨by rw[<-R1.length];exact Qs hl yA,λp hp=>?_⟩;obtain⟨T,S',R'⟩:=S1.tup hp R1;exact P1 _ _ _ T S' R'
 .exact P1.elim
def uI(ha:PE X x (aG X.K (ae cl a)))(hb:PE X y (aG X.K (ae cl b)))(hs:zY y=true):PE X (.Subscript x y pos) (aG X.K (ae cl (.idx a b))):=by
 have hp:ja y:=λo i=>by cases y<;>first|rfl|cases hs
 refine PE.imp (fM AG ha hb hp) λσ H Q h=>?_;obtain⟨as,env,m,S,G,P⟩:=h;refine⟨as,env,m,S,G,ak.bind P λx m1 as1 H1 v T1 S1 R1 P1=>?_⟩;refine⟨as1,env,m1,S1,G.mono S T1,ak.bind P1 λy m2 as2 H2 u T2 S2 R2 P2=>?_⟩;exact AX S2 (R1.mono S1 T2) R2 P2
end
section
variable{cl:Nat->List Wd->Me->Rz}{X:Cx}{a b:Ex}{x y:Expr}{pos:Pos}
def bB (h:yj e=true):HX e f env (eval e env)=eval e env:=by
 cases e<;>first|rfl|cases h
def ju (h:ys.all zh=true)(hl:ys.length<29):
  ((Hg cp (Hh ys env)).all (λx=>! x.1)&&(HY cp (HZ [] env)).all (λx=>x.1.isSome)
   && decide (ys.length+([]:List H0).length+(if([]:List H0).isEmpty then 0 else 1)<30))=true:=by
 have all:∀{es:List Expr},es.all zh=true->(Hg cp (Hh es env)).all (λx=>! x.1)=true:=by
  intro es
  induction es with
  |nil=>intro _;rfl
  |cons e es ih=>
   intro h;rw[WX,QH]at h;rw[zf h.1];show(true&&(Hg cp (Hh es env)).all (λx=>! x.1))=true;rw[ih h.2];rfl
 rw[all h];have e2:(HY cp (HZ [] env)).all (λx=>x.1.isSome)=true:=rfl;rw[e2];have e3:decide (ys.length+([]:List H0).length+(if([]:List H0).isEmpty then 0 else 1)<30)=true:=by
  apply Jk;show ys.length+0+0<30;lia
 rw[e3];rfl
def Dw(k:dh):Slot "list" (eM k).1 (eM k).2/\typeOf (.builtin (eM k).2)=pure (.type "method_descriptor"):=by
 cases k with
 |append=>exact⟨PySem.F.slot_list_append,PySem.F.type_list_append⟩
 |pop=>exact⟨PySem.F.slot_list_pop,PySem.F.type_list_pop⟩
 |reverse=>exact⟨PySem.F.slot_list_reverse,PySem.F.type_list_reverse⟩
 |clear=>exact⟨PySem.F.slot_list_clear,PySem.F.type_list_clear⟩
def Bj{K:Qb}{as:List Addr}{H:Hp}{Q:VK}{b:Bool}{r:Rz}(h:ak K as H Q (match b with|true=>r|false=>.no)):b=true/\ak K as H Q r:=by
 cases b with
 |true=>exact⟨rfl,h⟩
 |false=>exact h.elim
def pz (h:ye w m=true):∃l,w=.ref l/\(zi m l).isSome=true:=by
 cases w with
 |ref l=>
  refine⟨l,rfl,?_⟩;unfold ye aJ at h;unfold zi;cases e:m[l]? with
  |none=>simp[e]at h
  |some o=>
   cases o with
   |lst xs=>rfl
   |dct ks us=>simp[e]at h
 |_=>cases h
def pk {K:Qb}(S:aH K as m H)(R:ag K as H w v)(hw:∃l,w=.ref l/\(zi m l).isSome=true):iV K "list" v H:=by
 obtain⟨l,rfl,hs⟩:=hw;obtain⟨p,hp,rfl⟩:=aD.mp R;obtain⟨xs,hs⟩:=WG.mp hs;obtain⟨p',us,hp',e,_⟩:=zG S (zw hs);rw[hp]at hp';cases hp';exact .inl ⟨rfl,us,bg.of e⟩
def Bh (ho:PE X x (aG X.K (ae cl a)))(ha:PA X (y::ys) (vT X.K (ae cl b)))(hx:yj x=true)(hl:(ap.endLine==pos.line)=true)(hn:(y::ys).length<29)(hs:(y::ys).all zh=true):
  PE X (.Call (.Attribute x (eM k).1 ap) (y::ys) [] pos) (aG X.K (ae cl (.meth k a b))):=by
 obtain⟨f1,f2⟩:=Dw k;have hs':=hs;rw[WX,QH]at hs';refine PE.imp (oT PySem.F.plainAttrs_list f1 f2 (uW k) ho ha (bB hx) (ju hs hn) hl (zf hs'.1) (zB hs'.2)) λσ H Q h=>?_;obtain⟨as,env,m,S,G,P⟩:=h;refine⟨as,env,m,S,G,ak.bind P λw m1 as1 H1 v T1 S1 R1 P1=>?_⟩;obtain⟨hl',P1⟩:=Bj P1;refine⟨pk S1 R1 (pz hl'),?_⟩;refine⟨as1,env,m1,S1,G.mono S T1,bR.bind P1 λw2 m2 as2 H2 vs T2 S2 R2 P2=>?_⟩;exact⟨as2,m2,w,zj w2,S2,R1.mono S1 T2,R2,P2⟩
def gW {K:Qb}(S:aH K as m H)(h:bD K as H R (eC (.int i) (.int j) (.int 1) m)):(-(2^62)<=i/\i<2^62/\-(2^62)<=j/\j<2^62)/\R (eS i (j-i).toNat) H:=by
 have h':bD K as H R (if -aF<=i/\i<=aF/\-aF<=j/\j<=aF/\((1:Int)=1\/(1:Int)=-1\/(1:Int)=-2\/(1:Int)=2)then .ok (.tup (eX i 1 (fH i j 1))) m else .no):=h;by_cases hc:-(aF:Int)<=i/\i<=aF/\-(aF:Int)<=j/\j<=aF/\((1:Int)=1\/(1:Int)=-1\/(1:Int)=-2\/(1:Int)=2)
 .rw[Jh hc]at h';have hlim:(aF:Int)=100000:=rfl;refine⟨by lia,h'.2 as H _ .refl S ?_⟩;have e:fH i j 1=(j-i).toNat:=Jh rfl;rw[e];exact⟨_,λ_=>True,DP i (j-i).toNat (K:=K),trivial,gM 1 (j-i).toNat i,λ_ _ _ _=>trivial⟩
 .rw[Ji hc]at h';exact h'.elim
theorem bD.bind {K:Qb}(h:bD K as H R (r.bind f))(k:∀w m' as' H' v,Step as H as' H'->aH K as' m' H'->ag K as' H' w v->bD K as' H' R (f w m')->Q1 v H'):ak K as H Q1 r:=by
 cases r with
 |ok w m'=>
  intro as2 H2 v U S Rr;refine k w m' as2 H2 v U S Rr ?_;have h':bD K as H R (f w m'):=h;cases hr:f w m' with
  |ok w2 m2=>rw[hr]at h';exact⟨h'.1,λas3 H3 J U3 S3 q=>h'.2 as3 H3 J (U.trans U3) S3 q⟩
  |no=>rw[hr]at h';exact h'
 |no=>exact h
def Bg (hC:bF C X cl d)(hg:X.env.scope.names.lookup ("range":Str)=some .globalImplicit)(hs:zh x=true)(hb:PE X x (aG X.K (ae cl b))):
  PI X tg (.Call (.Name "range" p) [x] [] pos) (eP X.K (ae cl (.rng (.lit (.int 0)) b (.lit (.int 1))))):=by
 refine PI.imp (Et hg (hC.blt _ (by simp[zn])) (zy hb yh (zf hs)) (zf hs)) λσ H R h=>?_;obtain⟨as,env,m,S,G,P⟩:=h;have P':bD X.K as H R ((ae cl b env m).bind λy m2=>eC (.int 0) y (.int 1) m2):=P;refine⟨as,env,m,S,G,bD.bind P' λw m1 as1 H1 v T1 S1 R1 P1=>?_⟩;cases w with
 |int j=>
  obtain rfl:=aa.mp R1;obtain⟨⟨_,_,h1,h2⟩,q⟩:=gW S1 P1;refine⟨j,rfl,h1,h2,?_⟩;simpa using q
 |_=>exact P1.elim
def Bf (hC:bF C X cl d)(hg:X.env.scope.names.lookup ("range":Str)=some .globalImplicit)(hs:zh x=true)(hs':zh y=true)(ha:PE X x (aG X.K (ae cl a)))(hb:PE X y (aG X.K (ae cl b))):
  PI X tg (.Call (.Name "range" p) [x,y] [] pos) (eP X.K (ae cl (.rng a b (.lit (.int 1))))):=by
 refine PI.imp (Es hg (hC.blt _ (by simp[zn])) (zy ha (zy hb yh (zf hs')) (zf hs)) (by rw[zf hs,zf hs'];rfl) (zf hs')) λσ H R h=>?_;obtain⟨as,env,m,S,G,P⟩:=h;have P':bD X.K as H R ((ae cl a env m).bind λx m1=>(ae cl b env m1).bind λy m2=>eC x y (.int 1) m2):=P;refine⟨as,env,m,S,G,bD.bind P' λw m1 as1 H1 v T1 S1 R1 P1=>?_⟩;refine⟨as1,env,m1,S1,G.mono S T1,bD.bind P1 λw2 m2 as2 H2 u T2 S2 R2 P2=>?_⟩;cases w with
 |int i=>
  cases w2 with
  |int j=>
   obtain rfl:=aa.mp R1;obtain rfl:=aa.mp R2;obtain⟨hb,q⟩:=gW S2 P2;exact⟨i,j,rfl,hb,q⟩
  |_=>exact P2.elim
 |_=>cases w2<;>exact P2.elim
end
end Mini
namespace L2
open PySem PySem.Spec PyProof.Rows
section
variable{X:Cx}{pins:List (Addr×Obj)}{σ:St}{H:Hp}{s:GU}{h':GZ}
def nX {ch:List Addr}(I:Inv X pins σ H s)(hf:∀b∈ch,vg X pins H b)(k:∀b o,b∉ch->s.heap.get? b=some o->h'.get? b=some o)(hT:s.heap.objs.size<=T)(hz:xs.length<=sizeLine)(hv:ax xs its)(ht:IsTup h' T its.toArray):Inv X pins σ (aE H T (.tup xs)) {s with heap:=h',toks:=t' }:=by
 have hn:H T=none:=I.hok.fresh hT;have nit:∀b u,H b=some u->b∉ch:=λb u e z=>by rw[(hf b z).1]at e;cases e
 have up:∀b u,H b=some u->aE H T (.tup xs) b=some u:=λb u e=>by rw[za (zm e hn)];exact e
 refine I.step (g':=s.gens) (d':=s.drawn) (ch:=ch) (λb hb=>?_) (λb o _ _ hc e _=>k b o hc e) (λb o _ _ hc e _=>⟨o.slots,k b o hc e⟩) (λb o hc e n=>?_)
  (λb o hc e=>⟨o,k b o hc e⟩) (λb _ e=>up b _ e) (λb _ _ e=>up b _ e) (λb ps e=>⟨#[],by rw[up b _ e];simp⟩) (λm hm=>?_) (λb u e=>?_) I.bare
 .obtain ⟨f0,f1,f2,f3,f4,f5⟩:=hf b hb;exact⟨f3,f1,f4,f5⟩
 .rw[za (QI (Qg (Qi e) hT))];exact n
 .obtain ⟨o,es,ep,ho,r⟩:=hm;exact⟨o,es,ep,k _ o (λz=>(hf _ z).2.1 rfl) ho,r⟩
 .by_cases hb:b=T
  .subst hb;rw[ze]at e;cases e;exact⟨hz,its,hv,ht⟩
  .rw[za hb]at e;refine(I.hok b u e).stay (λc v hc q=>k c v ?_ q) (λc q=>up c _ q) λc _ q=>up c _ q;rcases hc with z|z
   .rw[z];exact nit b u e
   .exact nit c _ z
def Inv.turnedL{t':Nat}{ch:List Addr}(I:Inv X pins σ H s)(hf:∀b∈ch,vg X pins H b)(k:∀b o,b∉ch->s.heap.get? b=some o->h'.get? b=some o):Inv X pins σ H {s with heap:=h',toks:=t' }:=by
 have nit:∀b u,H b=some u->b∉ch:=λb u e z=>by rw[(hf b z).1]at e;cases e
 refine I.step (g':=s.gens) (d':=s.drawn) (ch:=ch) (λb hb=>?_) (λb o _ _ hc e _=>k b o hc e) (λb o _ _ hc e _=>⟨o.slots,k b o hc e⟩) (λb o hc e n=>n)
  (λb o hc e=>⟨o,k b o hc e⟩) (λb _ e=>e) (λb _ _ e=>e) (λb ps e=>⟨#[],by rw[e];simp⟩) (λm hm=>?_) (λb u e=>?_) I.bare
 .obtain ⟨f0,f1,f2,f3,f4,f5⟩:=hf b hb;exact⟨f3,f1,f4,f5⟩
 .obtain ⟨o,es,ep,ho,r⟩:=hm;exact⟨o,es,ep,k _ o (λz=>(hf _ z).2.1 rfl) ho,r⟩
 .refine (I.hok b u e).stay (λc v hc q=>k c v ?_ q) (λc q=>q) λc _ q=>q;rcases hc with z|z
  .rw[z];exact nit b u e
  .exact nit c _ z
end
noncomputable def Yp(H:Hp)(v:V)(H':Hp)(x y:V):Prop:=∃T,H T=none/\v=.ref T/\H'=aE H T (.tup [x,y])
noncomputable def nP(K:Qb)(l1 l2:Addr):It:=
 ⟨λi H=>∃xs ys x y,bg K H l1 xs/\bg K H l2 ys/\xs[i]?=some x/\ys[i]?=some y,
  λi H v H'=>∃x y,Yp H v H' x y/\(∀xs,bg K H l1 xs->xs[i]?=some x)/\∀ys,bg K H l2 ys->ys[i]?=some y,
  λi H=>∃xs ys,bg K H l1 xs/\bg K H l2 ys/\(xs.length<=i\/ys.length<=i)⟩
noncomputable def nR(K:Qb)(c:Nat)(l:Addr):It:=
 ⟨λi H=>∃xs x,bg K H l xs/\xs[i]?=some x,
  λi H v H'=>∃x,Yp H v H' (.int ((i+c:Nat):Int)) x/\∀xs,bg K H l xs->xs[i]?=some x,
  λi H=>∃xs,bg K H l xs/\xs.length<=i⟩
def DO (hh:A.handled=none)(it l:Addr)(hne:l≠it)(items:Array Value)(c:Nat):
  Draws prog w A it [it,l] (items.size+c) (λi x=>∃j,i=j+c/\items[j]?=some x) (λi h=>∃j,i=j+c/\h.IsListIter it l j/\h.IsList l items):=by
 have D:=Draws.list (prog:=prog) (w:=w) hh it l hne items;refine⟨λi h st=>?_,λi h h' st k=>?_,λi s Q E hi st hQ=>?_,λs Q E st hE=>?_⟩
 .obtain ⟨j,_,h1,h2⟩:=st;exact D.live j h ⟨h1,h2⟩
 .obtain ⟨j,e,h1,h2⟩:=st;obtain⟨q1,q2⟩:=D.frame j h h' ⟨h1,h2⟩ k;exact⟨j,e,q1,q2⟩
 .obtain ⟨j,rfl,h1,h2⟩:=st;refine D.item j s Q E (by lia) ⟨h1,h2⟩ λx h' tk p q sb=>hQ x h' tk ⟨j,rfl,p⟩ ⟨j+1,by lia,q.1,q.2⟩ sb
 .obtain ⟨j,e,h1,h2⟩:=st;have e':j=items.size:=by lia
  subst e';exact D.done s Q E ⟨h1,h2⟩ hE
def Dv (hh:A.handled=none)(it l:Addr)(items:Array Value)(hi:items[i]?=none):
  Draws prog w A it [it,l] 0 (λ_ _=>True) (λk h=>k=0/\h.IsListIter it l i/\h.IsList l items):=by
 refine⟨λk h st=>?_,λk h h' st q=>?_,λk s Q E hk st hQ=>Jj hk (Nat.not_lt_zero _),λs Q E st hE=>?_⟩
 .obtain ⟨o,ho,_⟩:=st.2.1;exact⟨o,ho⟩
 .exact ⟨st.1,st.2.1.at λo e=>q it (by simp) o e,st.2.2.at λo e=>q l (by simp) o e⟩
 .exact wpAny_nextOf_list_end hh st.2.1 st.2.2 hi hE
def Du {K:Qb}(z TI TO i1 i2 l1 l2:Addr)(D:ZipApart z TI TO i1 i2 l1 l2):
  cq P w K (.Tuple elts k pt) (nP K l1 l2) [z,TI,TO,i1,i2] z (λi h=>IsZip h z TI TO .none/\IsPair h TI (.ref i1) (.ref i2)/\(∃a b,IsPair h TO a b)/\h.IsListIter i1 l1 i/\h.IsListIter i2 l2 i) where
 mem:=by simp
 obj:=λi h st b hb=>by
  obtain⟨hz,hTI,⟨a,c,hTO⟩,⟨o1,e1,c1,d1⟩,o2,e2,c2,d2⟩:=st;simp only[Qk,Wi,or_false]at hb;rcases hb with rfl|rfl|rfl|rfl|rfl
  .exact ⟨_,hz,λv z=>by cases z⟩
  .exact ⟨_,hTI,λv z=>by cases z⟩
  .exact ⟨_,hTO,λv z=>by cases z⟩
  .exact ⟨_,e1,λv z=>by rw[d1]at z;cases z⟩
  .exact ⟨_,e2,λv z=>by rw[d2]at z;cases z⟩
 keep:=λi h h' st k=>by
  obtain⟨hz,hTI,⟨a,c,hTO⟩,h1,h2⟩:=st;exact⟨k z (by simp) _ hz,k TI (by simp) _ hTI,⟨a,c,k TO (by simp) _ hTO⟩,h1.at λo e=>k i1 (by simp) o e,h2.at λo e=>k i2 (by simp) o e⟩
 item:=by
  intro X hP hw hK hc i pins s σ H E I hf st hg;subst hP hw hK;obtain⟨xs,ys,x,y,hq1,hq2,hx,hy⟩:=hg;obtain⟨its1,rv1,p1,_⟩:=I.list hq1;obtain⟨its2,rv2,p2,_⟩:=I.list hq2;obtain⟨u,hu,ru⟩:=rv1.get hx;obtain⟨v,hv,rv⟩:=rv2.get hy;obtain⟨hz,hTI,⟨a,b,hTO⟩,h1,h2⟩:=st;refine wpAny_pyNext_zip_item D hz hTI hTO h1 h2 p1.isList p2.isList (x:=u) (y:=v) (by simpa using hu) (by simpa using hv) λh' a1 a2 a3 a4 a5 a6 hk=>?_;refine⟨_,rfl,wpAny_letOwnedTupleGo_zip (s:={s with heap:=h' }) a1 λh'' hz' hs'=>?_⟩;have sT:z<s.heap.objs.size:=Qi hz;have kk:∀b o,b∉[z,TI,TO,i1,i2]->s.heap.get? b=some o->h''.get? b=some o:=λb o hb e=>
   (hs'.2 b λq=>hb (by simp[q])).trans (hk b o (λq=>hb (by simp[q])) (λq=>hb (by simp[q])) (λq=>hb (by simp[q])) (λq=>hb (by simp[q])) e)
  refine⟨.ref s.heap.objs.size,aE H s.heap.objs.size (.tup [x,y]),?_,rfl,⟨x,y,⟨_,I.hok.fresh (Qf _),rfl,rfl⟩,λzs hz=>by rw[I.list_inj hz hq1];exact hx,λzs hz=>by rw[I.list_inj hz hq2];exact hy⟩,?_,?_⟩
  .have I1:Inv X pins σ (aE H s.heap.objs.size (.tup [x,y])) {s with heap:=h'',toks:=s.toks}:=nX (s:=s) (its:=[u,v]) I hf kk (Qf _) (show(2:Nat)<=sizeLine by decide) (.cons ru (.cons rv .nil)) ⟨_,(hs'.2 _ (W2 sT)).trans a5,rfl,_,rfl⟩;exact I1
  .refine ⟨hz',?_,⟨u,v,?_⟩,?_,?_⟩
   .exact (hs'.2 TI D.TIz).trans (hk TI _ D.TIz D.TITO D.TIi1 D.TIi2 hTI)
   .exact (hs'.2 TO D.TOz).trans a2
   .exact a3.at λo e=>(hs'.2 i1 D.i1z).trans e
   .exact a4.at λo e=>(hs'.2 i2 D.i2z).trans e
  .intro b hb;have hlt:b<s.heap.objs.size:=by
    simp only[Qk,Wi,or_false]at hb;obtain⟨_,e1,_⟩:=h1;obtain⟨_,e2,_⟩:=h2;rcases hb with rfl|rfl|rfl|rfl|rfl
    .exact sT
    .exact Qi hTI
    .exact Qi hTO
    .exact Qi e1
    .exact Qi e2
   rw[za (QI hlt)];exact(hf b hb).1
 done:=by
  intro X hP hw hK hc i pins s σ H E I hf st hg;subst hP hw hK;obtain⟨xs,ys,hq1,hq2,hx⟩:=hg;obtain⟨its1,rv1,p1,_⟩:=I.list hq1;obtain⟨its2,rv2,p2,_⟩:=I.list hq2;obtain⟨hz,hTI,⟨a,b,hTO⟩,h1,h2⟩:=st;have l1:=rv1.length;have l2:=rv2.length;refine wpAny_pyNext_zip_end (I.ok.hd hc) D hz hTI hTO h1 h2 p1.isList p2.isList ?_ λh' hk=>⟨rfl,?_⟩
  .rcases hx with hx|hx
   .exact .inl (by simp;lia)
   .exact .inr (by simp;lia)
  .exact I.turnedL (t':=s.toks) hf λb o hb e=>hk b o (λq=>hb (by simp[q])) (λq=>hb (by simp[q])) (λq=>hb (by simp[q])) (λq=>hb (by simp[q])) e
 self:=λ_ _ _ _ _ st h=>wpAny_pyIter_zip st.1 h
def DN {K:Qb}(c:Nat)(e it l:Addr)(hei:e≠it)(hle:l≠e)(hli:l≠it):
  cq P w K (.Tuple elts k pt) (nR K c l) [e,it] e (λi h=>(∃old,IsEnum h e it ((i+c:Nat):Int) old)/\h.IsListIter it l i) where
 mem:=by simp
 obj:=λi h st b hb=>by
  obtain⟨⟨old,he⟩,o1,e1,c1,d1⟩:=st;simp only[Qk,Wi,or_false]at hb;rcases hb with rfl|rfl
  .exact ⟨_,he,λv z=>by cases z⟩
  .exact ⟨_,e1,λv z=>by rw[d1]at z;cases z⟩
 keep:=λi h h' st k=>by
  obtain⟨⟨old,he⟩,h1⟩:=st;exact⟨⟨old,k e (by simp) _ he⟩,h1.at λo q=>k it (by simp) o q⟩
 item:=by
  intro X hP hw hK hc i pins s σ H E I hf st hg;subst hP hw hK;obtain⟨xs,x,hq1,hx⟩:=hg;obtain⟨its1,rv1,p1,_⟩:=I.list hq1;obtain⟨u,hu,ru⟩:=rv1.get hx;obtain⟨⟨old,he⟩,h1⟩:=st;have hil:i<its1.length:=(Qa.mp hu).1;have D:=DO (prog:=X.prog) (w:=X.w) (A:=X.A.in1) (I.ok.hd hc) it l hli its1.toArray c;refine wpAny_pyNext_enum_itemD D he ⟨i,rfl,h1,p1.isList⟩ (by simp;lia) hei (by simp[hei,Ne.symm hle]) λx' h' tk px a1 st' a3 a4 hk=>?_;obtain⟨j,ej,hj⟩:=px;have ej':i=j:=by lia
  subst ej';have hxu:x'=u:=by
   have:its1[i]?=some x':=by simpa using hj
   rw[hu]at this;cases this;rfl
  subst hxu;obtain⟨j',ej',a2,_⟩:=st';have e2:j'=i+1:=by lia
  subst e2;refine⟨_,rfl,wpAny_letOwnedTupleGo_enum (s:={s with heap:=h',toks:=tk+1}) a1 λh'' he' hs'=>?_⟩;have sT:e<s.heap.objs.size:=Qi he;have kk:∀b o,b∉[e,it]->s.heap.get? b=some o->h''.get? b=some o:=λb o hb q=>
   (hs'.2 b λz=>hb (by simp[z])).trans (hk b o (λz=>hb (by simp[z])) (λz=>hb (by simp[z])) q)
  refine⟨.ref s.heap.objs.size,aE H s.heap.objs.size (.tup [.int ((i+c:Nat):Int),x]),?_,rfl,⟨x,⟨_,I.hok.fresh (Qf _),rfl,rfl⟩,λzs hz=>by rw[I.list_inj hz hq1];exact hx⟩,?_,?_⟩
  .have I1:Inv X pins σ (aE H s.heap.objs.size (.tup [.int ((i+c:Nat):Int),x])) {s with heap:=h'',toks:=tk+1}:=nX (s:=s) (its:=[.int ((i+c:Nat):Int) tk,x']) I hf kk (Qf _) (show(2:Nat)<=sizeLine by decide) (.cons ⟨_,rfl⟩ (.cons ru .nil)) ⟨_,(hs'.2 _ (W2 sT)).trans a3,rfl,_,rfl⟩;exact I1
  .refine ⟨⟨x',?_⟩,a2.at λo q=>(hs'.2 it hei.symm).trans q⟩;have:((i+1+c:Nat):Int)=((i+c:Nat):Int)+1:=by lia
   rw[this];exact he'
  .intro b hb;have hlt:b<s.heap.objs.size:=by
    simp only[Qk,Wi,or_false]at hb;obtain⟨_,e1,_⟩:=h1;rcases hb with rfl|rfl
    .exact sT
    .exact Qi e1
   rw[za (QI hlt)];exact(hf b hb).1
 done:=by
  intro X hP hw hK hc i pins s σ H E I hf st hg;subst hP hw hK;obtain⟨xs,hq1,hx⟩:=hg;obtain⟨its1,rv1,p1,_⟩:=I.list hq1;obtain⟨⟨old,he⟩,h1⟩:=st;have l1:=rv1.length;have D:=Dv (prog:=X.prog) (w:=X.w) (A:=X.A.in1) (I.ok.hd hc) it l its1.toArray (i:=i) (by simp;lia);refine wpAny_pyNext_enum_endD D he ⟨rfl,h1,p1.isList⟩ λh' hk=>⟨rfl,?_⟩;exact I.turnedL (t':=s.toks) hf λb o hb q=>hk b o (λz=>hb (by simp[z])) q
 self:=λ_ _ _ _ _ st h=>by
  obtain⟨⟨old,he⟩,_⟩:=st;exact wpAny_pyIter_enum he h
section
variable{X:Cx}{elts:List Expr}{k:Nat}{pt:Pos}
noncomputable def oH(K:Qb)(ta:TA):TI:=λσ H R=>ta σ H λvs H1=>∃l1 l2 xs ys,vs=[.ref l1,.ref l2]/\bg K H1 l1 xs/\bg K H1 l2 ys/\R (nP K l1 l2) H1
noncomputable def iK(K:Qb)(c:Nat)(ta:TA):TI:=λσ H R=>ta σ H λvs H1=>∃l xs,vs=[.ref l]/\bg K H1 l xs/\R (nR K c l) H1
def ph (hg:Gl X "zip")(hm:X.mg "zip"=none)(ha:PA X [a,b] ta)(hs:Hh [a,b] X.env=[(false,eval a X.env),(false,eval b X.env)]:=by rfl)(hs2:Hh [b] X.env=[(false,eval b X.env)]:=by rfl):
  PI X (.Tuple elts k pt) (.Call (.Name "zip" p) [a,b] [] pos) (oH X.K ta):=by
 intro pins s σ H R I h;refine Call_ (xR I hg hm PyProof.Rows.boot_zip (PyProof.Rows.callWith_type1 (aQ (ha pos pins s σ H _ I h) λus s1 ⟨vs,H1,I1,r1,q1⟩=>?_) (by rw[hs,hs2]) (by rw[hs2];rfl)));obtain⟨l1,l2,xs,ys,e,g1,g2,q⟩:=q1;subst e;cases r1 with
 |cons r rr=>
  cases rr with
  |cons r' rr=>
   cases rr;cases r;cases r';obtain⟨its1,rv1,p1,_⟩:=I1.list g1;obtain⟨its2,rv2,p2,_⟩:=I1.list g2;have t1:l1<s1.heap.objs.size:=by obtain⟨o,e,_⟩:=p1.isList;exact Qi e
   have t2:l2<s1.heap.objs.size:=by obtain⟨o,e,_⟩:=p2.isList;exact Qi e
   refine call_zip_2 p1.isList p2.isList λh' hz hTI hTO hi1 hi2 hsz hk=>?_;refine wpAny_pyIter_zip (s:={s1 with heap:=h' }) hz ?_;refine⟨_,_,_,_,H1,rfl,I1.kept (t':=s1.toks) hk,Du (s1.heap.objs.size+4) (s1.heap.objs.size+2) (s1.heap.objs.size+3) s1.heap.objs.size (s1.heap.objs.size+1) l1 l2 ?_,⟨hz,hTI,⟨_,_,hTO⟩,hi1,hi2⟩,λb hb=>?_,q⟩
   .exact zipApart_new t1 t2
   .have hb':s1.heap.objs.size<=b:=by
     simp only[Qk,Wi,or_false]at hb;rcases hb with rfl|rfl|rfl|rfl|rfl
     .exact Wv _ _
     .exact Wv _ _
     .exact Wv _ _
     .exact Qf _
     .exact Wv _ _
    exact I1.fpOk hb' (I1.hok.fresh hb')
def vn (hg:Gl X "enumerate")(hm:X.mg "enumerate"=none)(ha:PA X [a] ta)(hs:Hh [a] X.env=[(false,eval a X.env)]:=by rfl):
  PI X (.Tuple elts k pt) (.Call (.Name "enumerate" p) [a] [] pos) (iK X.K 0 ta):=by
 intro pins s σ H R I h;refine Call_ (xR I hg hm PyProof.Rows.boot_enumerate (PyProof.Rows.callWith_type1 (aQ (ha pos pins s σ H _ I h) λus s1 ⟨vs,H1,I1,r1,q1⟩=>?_) hs rfl));obtain⟨l,xs,e,g1,q⟩:=q1;subst e;cases r1 with
 |cons r rr=>
  cases rr;cases r;obtain⟨its1,rv1,p1,_⟩:=I1.list g1;have t1:l<s1.heap.objs.size:=by obtain⟨o,e,_⟩:=p1.isList;exact Qi e
  refine call_enumerate_list p1.isList λh' he hi hsz hk=>?_;refine wpAny_pyIter_enum (s:={s1 with heap:=h' }) he ?_;refine⟨_,_,_,_,H1,rfl,I1.kept (t':=s1.toks) hk,DN 0 (s1.heap.objs.size+1) s1.heap.objs.size l (Nat.succ_ne_self _) (QI (Ws t1)) (QI t1),⟨⟨_,he⟩,hi⟩,λb hb=>?_,q⟩;have hb':s1.heap.objs.size<=b:=by
   simp only[Qk,Wi,or_false]at hb;rcases hb with rfl|rfl
   .exact Wv _ _
   .exact Qf _
  exact I1.fpOk hb' (I1.hok.fresh hb')
end
end L2
namespace L2
open PySem PySem.Spec PyProof.Rows
open AutoSeq1 (wpAny_loadPart')
end L2
namespace L2
open PySem PySem.Spec PyProof.Rows
section
variable{prog:GT}{w:GV}{A:Hc}{E:Value->GU->Prop}{s:GU}{it d:Addr}{i n:Nat}{od:Obj}{es:Array DictEntry}
def oO {R:Option Value->GU->Prop}{Q':α->GU->Prop}(quiet:A.handled=none)(go:s.heap.get? it=some o)(fo:o.data=.fields fs)(hk:k<fs.size)(end':∀h',Heap.ExtBut it s.heap h'->R none {s with heap:=h' }):
  He (Hf prog w) A.in1 (do setField (.ref it) k .none;let e <-newExc (.type "StopIteration") [];raiseNew e:Sem α) Q'
   (λe s'=>He (Hf prog w) A (do let b <-isInstance e (.type "StopIteration");if b=true then pure none else throw e) R E s') s:=by
 apply Hs;apply IZ go fo hk;apply Hs;simp only[newExc,newTuple];refine Hs (Im (Hs (m:=firstArgMember _ _) (wpAny_of_eq (a:=Value.none) (by first|rfl|(simp only[firstArgMember];rfl)) (Im ?_ (by size_fits)))) (by size_fits));simp only[raiseNew];apply Hs;apply wpAny_handled;rw[show A.in1.handled=none from quiet];apply wpAny_throw;apply Hs;refine wpAny_isInstance (T:="StopIteration") (b:=true) ⟨_,Qw _ rfl,rfl⟩ isSubtype_stop ?_;exact Hy (end' _ (((Wc.update ..).extBut.push _).push _))
def ul (nosys:(d==G6)=false)(g:s.heap.get? d=some od)(ex:od.ExactDict)(dat:od.data=.dict es n)(sz:es.size=n)(end':R (.ref s.heap.objs.size) {s with heap:=s.heap.push {cls:=.type "dict_keyiterator",data:=.fields #[.ref d,.int 0 0,.int n 0,.int n 0]} }):He (Hf prog w) A (pyIter (.ref d)) R E s:=by
 have ty:s.TypeIs (.ref d) "dict":=⟨od,g,ex.1⟩;apply wpAny_pyIter_slot ty F.slot_dict_iter;refine Ir F.slot_dict_iter ty F.entry_dict_iter ?_ (F.args_dict_iter_1 _);unfold Builtin.«dict.__iter__» Builtin.Dict.dictSlotNone;apply Hs;apply Hs;apply Iu ty;apply Hy (a:=Value.ref d);apply Hs (m:=Builtin.Dict.showsAll d);unfold Builtin.Dict.showsAll;rw[nosys];apply Hy;apply Hs;apply Iy g dat;apply Hs;apply Iz g dat;apply Hs;refine Im (Hy ⟨_,rfl,"dict_keyiterator",_,⟨_,Qw _ rfl,rfl⟩,F.slot_dict_keyiterator_next.lookup,?_⟩);rw[sz];exact end'
def uk (at_:s.heap.IsKeyIter it d i n n)(g:s.heap.get? d=some od)(dat:od.data=.dict es n)(sz:es.size=n)(hi:i<n)(end':∀h',h'.IsKeyIter it d (i+1) n n->Wc it s.heap h'->R (some (es[i]'(by lia)).key) {s with heap:=h' }):He (Hf prog w) A (Hw (.ref it)) R E s:=by
 obtain⟨o,go,co,fo⟩:=id at_;have ty:=at_.typeIs;unfold Hw;apply Hs;apply IR;apply Iq ty F.slot_dict_keyiterator_next;refine Ir F.slot_dict_keyiterator_next ty F.entry_dict_keyiterator_next ?_ (F.args_dict_keyiterator_next_1 _);refine Hs (Hy (Hs (Hs (Hs (Ja ty (Hy ?_))))));refine Hs (Jb go fo ?_);have no:Builtin.Dict_items.ownsTuple "dict_keyiterator"=false:=by decide
 simp only[no,QT,if_false];change He _ _ (ite ((Value.ref d==Value.none)=true) _ _) _ _ s;rw[show(Value.ref d==Value.none)=false from rfl,Ji QS];refine Hs (Hy (Hs (Iy g dat ?_)));rw[sz,Ji (by simp)];refine Hs (Hy (Hs (Iz g dat ?_)));rw[Ji (by simp)];apply Hy;have hi':i<es.size:=by lia
 simp only[show ¬(i:Int)<0 from by lia,if_false,Va,W6 hi'];refine Hs (Hs (Ja ty (Hy (Hs (Jc ty ?_)))));apply Hs (m:=setField (.ref it) 1 (Hz ((i:Int)+1)));apply IZ go fo (by simp);have nx:(s.heap.update it (Obj.mapFields (·.setIfInBounds 1 (Hz ((i:Int)+1))))).IsKeyIter it d (i+1) n n:=by
  refine⟨_,WC _ go (Obj.isFreed_of_fields (Obj.data_mapFields fo _)),by rw[Obj.cls_mapFields];exact co,?_⟩;rw[Obj.data_mapFields fo];simp[Hz]
 refine Hs (Ht (Hs (Jc nx.typeIs ?_)));exact Hy (Hy ⟨_,rfl,Hy (end' _ nx (Wc.update ..))⟩)
def uj (quiet:A.handled=none)(at_:s.heap.IsKeyIter it d i n n)(g:s.heap.get? d=some od)(dat:od.data=.dict es n)(sz:es.size=n)(hi:n<=i)(end':∀h',Heap.ExtBut it s.heap h'->R none {s with heap:=h' }):He (Hf prog w) A (Hw (.ref it)) R E s:=by
 obtain⟨o,go,co,fo⟩:=id at_;have ty:=at_.typeIs;unfold Hw;apply Hs;apply IR;apply Iq ty F.slot_dict_keyiterator_next;refine Ir F.slot_dict_keyiterator_next ty F.entry_dict_keyiterator_next ?_ (F.args_dict_keyiterator_next_1 _);refine Hs (Hy (Hs (Hs (Hs (Ja ty (Hy ?_))))));refine Hs (Jb go fo ?_);have no:Builtin.Dict_items.ownsTuple "dict_keyiterator"=false:=by decide
 simp only[no,QT,if_false];change He _ _ (ite ((Value.ref d==Value.none)=true) _ _) _ _ s;rw[show(Value.ref d==Value.none)=false from rfl,Ji QS];refine Hs (Hy (Hs (Iy g dat ?_)));rw[sz,Ji (by simp)];refine Hs (Hy (Hs (Iz g dat ?_)));rw[Ji (by simp)];apply Hy;simp only[show ¬(i:Int)<0 from by lia,if_false,Va,VO (show es.size<=i by lia)];refine Hs (Hs (Ja ty (Hy ?_)));exact oO quiet go fo (by rw[no];exact Nat.zero_lt_succ 3) end'
end
section
variable{X:Cx}{pins:List (Addr×Obj)}{σ:St}{H:Hp}{s:GU}
def yr (I:Inv X pins σ H s)(h:yi X.K H d xs):(d==G6)=false/\∃o es,s.heap.get? d=some o/\o.ExactDict/\o.data=.dict es xs.length/\es.size=xs.length/\∀(i:Nat) (x:TK),xs[i]?=some x->es[i]?=some (j7 x):=by
 obtain⟨⟨a0,o,es,a1,a2,a3,a4,a5⟩,_,_⟩:=I.hok d _ h.1;refine⟨a0,o,es,a1,a2,a3,by rw[<-Q0,a4,QN],λi x hx=>?_⟩;rw[<-QC,a4,Qu,hx];rfl
noncomputable def tQ(K:Qb)(d:Addr)(n:Nat):It:=
 ⟨λi H=>∃xs,yi K H d xs/\xs.length=n/\i<n,λi H x H'=>H'=H/\∀xs,yi K H d xs->∃k,xs[i]?=some k/\x=.ref k.2.1,λi H=>∃xs,yi K H d xs/\xs.length=n/\n<=i⟩
def qT {K:Qb}(it:Addr):cq P w K tg (tQ K d n) [it] it (λi h=>h.IsKeyIter it d i n n) where
 mem:=by simp
 obj:=λi h st b hb=>by
  have e:b=it:=by simpa using hb
  subst e;obtain⟨o,e,c,d⟩:=st;exact⟨o,e,λv z=>by rw[d]at z;cases z⟩
 keep:=λi h h' st k=>by
  obtain⟨o,e,r⟩:=st;exact⟨o,k it (by simp) o e,r⟩
 item:=by
  intro X hP hw hK hc i pins s σ H E I hf st hg;subst hP hw hK;obtain⟨xs,td,hn,hi⟩:=hg;obtain⟨_,od,es,g,ex,dat,sz,rows⟩:=yr I td;obtain⟨f0,f1,f2,f3,f4,f5⟩:=hf it (by simp);have hx:i<xs.length:=by lia
  have e2:=rows i _ (Qz hx);subst hn;refine uk st g dat sz hi λh' st' sb=>?_;have I1:Inv X pins σ H {s with heap:=h' }:=I.turned (t':=s.toks) (λb o hb e=>(sb.2 b hb).trans e) f0 f1 f3 f4 f5;obtain⟨o,e,c,dd⟩:=id st';have hk:(es[i]'(by lia)).key=.ref xs[i].2.1:=by
   rw[W6 (by lia)]at e2;rw[Option.some.inj e2];rfl
  rw[hk];refine⟨_,rfl,jV (s:={s with heap:=h' }) e c dd (by decide) ⟨.ref xs[i].2.1,H,I1,rfl,⟨rfl,λys ty=>?_⟩,st',λb hb=>(hf b hb).1⟩⟩;obtain⟨_,od',es',g',_,dat',sz',rows'⟩:=yr I ty;rw[g]at g';cases g';rw[dat]at dat';injection dat' with d1 d2
  subst d1;have hy:i<ys.length:=by lia
  have e3:=rows' i _ (Qz hy);rw[e2]at e3;refine⟨ys[i],Qz hy,?_⟩;have e4:=Jf DictEntry.key (Option.some.inj e3);exact Jf V.ref (Value.ref.inj e4)
 done:=by
  intro X hP hw hK hc i pins s σ H E I hf st hg;subst hP hw hK;obtain⟨xs,td,hn,hi⟩:=hg;obtain⟨_,od,es,g,ex,dat,sz,rows⟩:=yr I td;obtain⟨f0,f1,f2,f3,f4,f5⟩:=hf it (by simp);subst hn;exact uj (I.ok.hd hc) st g dat sz hi λh' eb=>⟨rfl,I.turned (t':=s.toks) (λb o hb e=>eb b o hb e) f0 f1 f3 f4 f5⟩
 self:=λ_ _ _ _ _ st h=>IY st h
noncomputable def sn(X:Cx)(tl:TE):TI:=λσ H R=>tl σ H λx H1=>∃d xs,x=.ref d/\yi X.K H1 d xs/\R (tQ X.K d xs.length) H1
def Dt (hl:PE X l tl):PI X tg l (sn X tl):=by
 intro pins s σ H R I h;refine aQ (hl pins s σ H _ I h) λv s1 ⟨x,H1,I1,r1,q1⟩=>?_;obtain⟨d,xs,e,td,q⟩:=q1;subst e;cases r1;obtain⟨nosys,od,es,g,ex,dat,sz,_⟩:=yr I1 td;refine ul nosys g ex dat sz ?_;refine⟨s1.heap.objs.size,[s1.heap.objs.size],_,_,H1,rfl,I1.kept (t':=s1.toks) λb o e=>Qe _ e,qT _,⟨_,Qw _ rfl,rfl,rfl⟩,λb hb=>?_,q⟩;have e:b=s1.heap.objs.size:=by simpa using hb
 subst e;exact I1.fpOk (Qf _) (I1.hok.fresh (Qf _))
end
end L2
namespace Mini
open PySem PySem.Spec PyProof.Rows L2
section
variable{cl:Nat->List Wd->Me->Rz}{K:Qb}
def aH.updD{as:List Addr}{m:Me}{H:Hp}{D:Addr}{ys:List V}{o:HO}(S:aH K as m H)(hD:H D=some (.lst ys))(hn:D∉as):aH K as m (aE H D o):=by
 refine⟨S.len,S.nd,λl b ob h1 h2=>?_⟩;have q:=S.obj l b ob h1 h2;have hb:b≠D:=by rintro rfl;exact hn (Qm h1)
 cases ob with
 |lst zs=>
  obtain⟨us,e,r⟩:=q;exact⟨us,by rw[za hb];exact e,r.kp (Kp.upd hD)⟩
 |dct ks ws=>exact a9.mono (ob:=.dct ks ws) (Kp.upd hD) (λ_ _ e=>e) (λo e=>by rw[za hb];exact e) q
def aH.join{as:List Addr}{m:Me}{H:Hp}{D:Addr}{ys:List V}{acc:List Wd}(S:aH K as m H)(hD:H D=some (.lst ys))(hn:D∉as)(R:ab K as H acc ys):aH K (as++[D]) (m++[.lst acc]) H:=by
 have g:∀(l:Nat) (a:Addr),as[l]?=some a->(as++[D])[l]?=some a:=λl a e=>by
  rw[Qd (Qa.mp e).1];exact e
 have kp:Kp K H H:=⟨λ_ _ h=>h,λ_ _ h=>h⟩;refine⟨by simp[S.len],?_,λl b o h1 h2=>?_⟩
 .refine Qn.mpr ⟨S.nd,by simp,λx hx y hy=>?_⟩;rw[Qr.mp hy];rintro rfl;exact hn hx
 .by_cases hl:l<as.length
  .rw[Qd hl]at h1;rw[Qd (by rw[<-S.len];exact hl)]at h2;have q:=S.obj l b o h1 h2;cases o with
   |lst zs=>
    obtain⟨us,e,r⟩:=q;exact⟨us,e,aW kp g _ _ r⟩
   |dct ks ws=>exact a9.mono (ob:=.dct ks ws) kp g (λo e=>e) q
  .rw[Qc (by lia)]at h1;rw[Qc (by rw[<-S.len];lia)]at h2;have hz:l-as.length=0:=by
    cases hq:l-as.length with
    |zero=>rfl
    |succ k=>rw[hq]at h1;simp at h1
   rw[hz]at h1;rw[<-S.len,hz]at h2;simp at h1 h2;subst h1;subst h2;exact⟨ys,hD,aW kp g _ _ R⟩
def Step.updD{as as':List Addr}{H H':Hp}{D:Addr}{o:HO}(T:Step as H as' H')(hD:H D=none):Step as H as' (aE H' D o):=
 ⟨T.pre,λb ob h hb=>by rw[za (zm h hD)];exact T.frame b ob h hb,T.fresh⟩
def Step.join{as as':List Addr}{H H':Hp}{D:Addr}(T:Step as H as' H')(hD:H D=none):Step as H (as'++[D]) H':=by
 refine⟨?_,T.frame,λa ha=>?_⟩
 .obtain ⟨t,rfl⟩:=T.pre;exact⟨t++[D],by simp⟩
 .rcases Ql.mp ha with z|z
  .exact T.fresh a z
  .rw[Qr.mp z];exact .inr hD
def xg (S:aH K as' m H')(T:Step as H as' H')(h0:H D=none)(hD:H' D=some (.lst ys))(hn:D∉as')(R:ab K as' H' acc ys)(h:ak K as H Q (alloc m acc)):Q (.ref D) H':=by
 unfold Mini.alloc at h;split at h
 .refine h (as'++[D]) H' (.ref D) (T.join h0) (S.join hD hn R) (aD.mpr ⟨D,?_,rfl⟩);rw[<-S.len,Qc (Qf _)];simp
 .exact h.elim
structure ca(K:Qb)(as:List Addr)(H:Hp)(D:Addr)(env:En)(σ:St)(as':List Addr)(m':Me)(acc:List Wd)(ys:List V)(H':Hp):Prop where
 T:Step as H as' H'
 S:aH K as' m' H'
 hD:H' D=some (.lst ys)
 n:D∉as'
 R:ab K as' H' acc ys
 G:aB K as' H' env σ
def ca.go{as:List Addr}{H:Hp}{D:Addr}{env:En}{σ:St}{as' as2:List Addr}{m' m2:Me}{acc:List Wd}{ys:List V}{H' H2:Hp}(M:ca K as H D env σ as' m' acc ys H')(U:Step as' H' as2 H2)(S2:aH K as2 m2 H2):ca K as H D env σ as2 m2 acc ys H2:=
 ⟨M.T.trans U,S2,U.frame _ _ M.hD M.n,U.out M.hD M.n,M.R.mono M.S U,M.G.mono M.S U⟩
def ca.push{as:List Addr}{H:Hp}{D:Addr}{env:En}{σ:St}{as':List Addr}{m':Me}{acc:List Wd}{ys:List V}{H':Hp}{w:Wd}{v:V}(M:ca K as H D env σ as' m' acc ys H')(h0:H D=none)(R:ag K as' H' w v):
  ca K as H D env σ as' m' (acc++[w]) (ys++[v]) (aE H' D (.lst (ys++[v]))):=by
 have kp:Kp K H' (aE H' D (.lst (ys++[v]))):=Kp.upd M.hD;exact⟨M.T.updD h0,M.S.updD M.hD M.n,ze,M.n,(M.R.append (.one R)).kp kp,M.G.kp kp⟩
set_option tactic.hygienic true in
def wP{elt cond:Ex}{tc:TT}(htc:∀σ H Q,yI K (ae cl cond) σ H Q->tc σ H Q){as1 as':List Addr}{H1 H':Hp}{D:Addr}{env ex:En}{σ sx:St}{m':Me}{acc:List Wd}{ys:List V}{Q:VK}{next:List Wd->Me->Rz}{N:List V->Hp->Prop}
  (h0:H1 D=none) (M:ca K as1 H1 D env σ as' m' acc ys H') (G:aB K as' H' (env++ex) (σ++sx))
  (Pt:ak K as1 H1 Q ((ae cl cond (env++ex) m').bind λb m1=>match b with
     |.bl true=>(ae cl elt (env++ex) m1).bind λy m2=>if acc.length<aF then next (acc++[y]) m2 else .no
     |.bl false=>next acc m1
     |_=>.no))
  (hN:∀as2 m2 acc' ys' H2,Kp K H' H2->(∀(l:Nat) (a:Addr),as'[l]?=some a->as2[l]?=some a)->ca K as1 H1 D env σ as2 m2 acc' ys' H2->ak K as1 H1 Q (next acc' m2)->N ys' H2) :
  tc (σ++sx) H' λb H2=>if b=true then aG K (ae cl elt) (σ++sx) H2 λy H3=>H3 D=some (.lst ys)/\ys.length<sizeLine/\N (ys++[y]) (aE H3 D (.lst (ys++[y])))else N ys H2:=by
 refine htc _ _ _ ⟨as',env++ex,m',M.S,G,dM Pt M.T λwb m2 as2 H2 vb T2 S2 R2 P2=>?_⟩;have M2:=M.go T2 S2;cases wb with
 |bl k=>
  obtain rfl:=ai.mp R2;refine⟨k,rfl,?_⟩;cases k with
  |false=>exact j0 (hN as2 m2 acc ys H2 (M.S.kp T2) (λ_ _ e=>T2.get e) M2 P2)
  |true=>
   refine j4 ⟨as2,env++ex,m2,S2,G.mono M.S T2,dM P2 M2.T λwy m3 as3 H3 vy T3 S3 R3 P3=>?_⟩;have M3:=M2.go T3 S3;have P3':ak K as1 H1 Q (if acc.length<aF then next (acc++[wy]) m3 else .no):=P3;by_cases hl:acc.length<aF
   .rw[Jh hl]at P3';refine⟨M3.hD,by rw[<-M3.R.length];exact Qg hl yA,hN as3 m3 (acc++[wy]) (ys++[vy]) _ ?_ (λ_ _ e=>T3.get (T2.get e)) (M3.push h0 R3) P3'⟩;have k1:=M.S.kp T2;have k2:=S2.kp T3;have k3:Kp K H3 (aE H3 D (.lst (ys++[vy]))):=Kp.upd M3.hD;exact⟨λa vs q=>k3.t _ _ (k2.t _ _ (k1.t _ _ q)),λa vs q=>k3.f _ _ (k2.f _ _ (k1.f _ _ q))⟩
   .rw[Ji hl]at P3';exact P3'.elim
 |_=>exact P2.elim
def ca.start{as as1:List Addr}{H H1:Hp}{D:Addr}{env:En}{σ:St}{m1:Me}(S1:aH K as1 m1 H1)(G1:aB K as1 H1 env σ)(hD:H1 D=none):ca K as1 H1 D env σ as1 m1 [] [] (aE H1 D (.lst [])):=by
 have T:Step as1 H1 as1 (aE H1 D (.lst [])):=Step.updD .refl hD;exact⟨T,S1.keep T λb _ o e=>by rw[za (zm e hD)];exact e,ze,S1.new hD,au.mpr rfl,G1.mono S1 T⟩
noncomputable def jv(K:Qb)(as:List Addr)(H:Hp)(J:It)(g:Nat->Me->Option (Option (Wd×Wd))):Prop:=
 ∀(as':List Addr) (m':Me) (H':Hp),(∀(l:Nat) (a:Addr),as[l]?=some a->as'[l]?=some a)->Step as H as' H'->aH K as' m' H'->∀i,
  (g i m'=some none->J.stop i H')/\∀x y,g i m'=some (some (x,y))->J.go i H'/\∀v H'',J.yld i H' v H''->∃x' y',Yp H' v H'' x' y'/\ag K as' H' x x'/\ag K as' H' y y'
def vW {cond:Ex}{tc:TT}(htc:∀σ H Q,yI K (ae cl cond) σ H Q->tc σ H Q)(hJ:jv K as1 H1 J g)(S1:aH K as1 m1 H1)(G1:aB K as1 H1 env σ)(P:ak K as1 H1 Q (zJ (λu v m=>ae cl cond (env++[some u]++[some v]) m) (λu v m=>ae cl elt (env++[some u]++[some v]) m) g (aF+1) 0 [] m1)):
  ∀D,H1 D=none->∃W:Nat->Nat->List V->Hp->Prop,(∃m,W 0 m [] (aE H1 D (.lst [])))/\∀i m ys H,W i m ys H ->
   (J.stop i H/\Q (.ref D) H)\/(J.go i H/\∀v H',J.yld i H v H'->∃vs,fW K v H' vs/\tc (σ++vs.map some) H' λb H2=>if b=true then aG K (ae cl elt) (σ++vs.map some) H2 λy H3=>H3 D=some (.lst ys)/\ys.length<sizeLine/\∃m',m'<m/\W (i+1) m' (ys++[y]) (aE H3 D (.lst (ys++[y])))
    else ∃m',m'<m/\W (i+1) m' ys H2):=by
 intro D hD;refine⟨λi n ys H'=>∃as' m' acc,(∀(l:Nat) (a:Addr),as1[l]?=some a->as'[l]?=some a)/\ca K as1 H1 D env σ as' m' acc ys H' /\
  ak K as1 H1 Q (zJ (λu v m=>ae cl cond (env++[some u]++[some v]) m) (λu v m=>ae cl elt (env++[some u]++[some v]) m) g n i acc m'),⟨aF+1,as1,m1,[],λ_ _ e=>e,ca.start (as:=as1) (H:=H1) S1 G1 hD,P⟩,?_⟩
 rintro i n ys H' ⟨as',m',acc,hl,M,Pi⟩;cases n with
 |zero=>exact Pi.elim
 |succ n=>
  unfold zJ at Pi;obtain⟨q1,q2⟩:=hJ as' m' H' hl M.T M.S i;cases e:g i m' with
  |none=>rw[e]at Pi;exact Pi.elim
  |some o=>
   rw[e]at Pi;cases o with
   |none=>exact .inl ⟨q1 e,xg M.S M.T hD M.hD M.n M.R Pi⟩
   |some p=>
    obtain⟨x,y⟩:=p;simp only[]at Pi;obtain⟨go,yl⟩:=q2 x y e;refine .inr ⟨go,λv H'' hy=>?_⟩;obtain⟨x',y',⟨T,hT,rfl,rfl⟩,Rx,Ry⟩:=yl v H'' hy;refine⟨[x',y'],⟨T,rfl,bG.of ze,rfl⟩,?_⟩;have U:Step as' H' as' (aE H' T (.tup [x',y'])):=Step.updD .refl hT;have S2:aH K as' m' (aE H' T (.tup [x',y'])):=M.S.keep U λb _ o e=>by rw[za (zm e hT)];exact e
    have M2:=M.go U S2;have G2:aB K as' (aE H' T (.tup [x',y'])) (env++[some x,some y]) (σ++[x',y'].map some):=by
     have:=(M2.G.push (Rx.mono M.S U)).push (Ry.mono M.S U);simpa using this
    refine wP htc (ex:=[some x,some y]) (next:=λacc m=>zJ (λu v m=>ae cl cond (env++[some u]++[some v]) m) (λu v m=>ae cl elt (env++[some u]++[some v]) m) g n (i+1) acc m)
     (N:=λzs H2=>∃n',n'<n+1/\∃as' m' acc,(∀(l:Nat) (a:Addr),as1[l]?=some a->as'[l]?=some a)/\ca K as1 H1 D env σ as' m' acc zs H2/\ak K as1 H1 Q (zJ (λu v m=>ae cl cond (env++[some u]++[some v]) m) (λu v m=>ae cl elt (env++[some u]++[some v]) m) g n' (i+1) acc m')) hD M2 G2 (by rw[show env++[some x]++[some y]=env++[some x,some y]from by simp]at Pi;exact Pi) ?_
    intro as2 m2 acc' ys' H2 kp gg M3 P3;exact⟨n,Wj _,as2,m2,acc',λl a e=>gg _ _ (hl l a e),M3,P3⟩
def rO (ha:as[la]?=some l)(T:Step as H as' H')(S':aH K as' m' H')(e:wK m' (.ref la)=some xs):∃vs,bg K H' l vs/\ab K as' H' xs vs:=by
 obtain⟨a',us,ha',eH,RL⟩:=zG S' (zw e);rw[T.get ha]at ha';cases ha';exact⟨us,bg.of eH,RL⟩
def pf (S:aH K as m H)(R:ag K as H w v)(e:wK m w=some xs):∃la l vs,w=.ref la/\v=.ref l/\as[la]?=some l/\bg K H l vs:=by
 cases w with
 |ref la=>
  obtain⟨l,ha,rfl⟩:=aD.mp R;obtain⟨a',us,ha',eH,RL⟩:=zG S (zw e);rw[ha]at ha';cases ha';exact⟨la,l,us,rfl,rfl,ha,bg.of eH⟩
 |_=>cases e
def qU (h1:as[w1]?=some l1)(h2:as[w2]?=some l2):jv K as H (nP K l1 l2) (zo .zip (.ref w1) (.ref w2)):=by
 intro as' m' H' hl T S i;simp only[zo];cases e1:wK m' (.ref w1)with
 |none=>exact⟨λz=>by simp at z,λx y z=>by simp at z⟩
 |some xs=>
  cases e2:wK m' (.ref w2)with
  |none=>exact⟨λz=>by simp at z,λx y z=>by simp at z⟩
  |some ys=>
   obtain⟨us,q1,RL⟩:=rO h1 T S e1;obtain⟨vs,q2,RL2⟩:=rO h2 T S e2;simp only;cases ex:xs[i]? with
   |none=>
    refine⟨λ_=>⟨us,vs,q1,q2,.inl ?_⟩,λx y z=>by simp at z⟩;rw[<-RL.length];exact QV.mp ex
   |some x=>
    cases ey:ys[i]? with
    |none=>
     refine⟨λ_=>⟨us,vs,q1,q2,.inr ?_⟩,λx y z=>by simp at z⟩;rw[<-RL2.length];exact QV.mp ey
    |some y=>
     refine⟨λz=>by simp at z,λx2 y2 z=>?_⟩;simp only[Option.some.injEq,Prod.mk.injEq]at z;obtain⟨rfl,rfl⟩:=z;obtain⟨u0,hu0,Ru⟩:=RL.get ex;obtain⟨v0,hv0,Rv⟩:=RL2.get ey;refine⟨⟨us,vs,u0,v0,q1,q2,hu0,hv0⟩,λv H'' hy=>?_⟩;obtain⟨p,q,yp,k1,k2⟩:=hy;have:=k1 us q1;rw[hu0]at this;cases this;have:=k2 vs q2;rw[hv0]at this;cases this;exact⟨_,_,yp,Ru,Rv⟩
def w5 (ha:as[la]?=some a):jv K as H (nR K c a) (zo .enum (.ref la) (.int (c:Int))):=by
 intro as' m' H' hl T S i;simp only[zo];cases e1:zi m' la with
 |none=>exact⟨λz=>by simp at z,λx y z=>by simp at z⟩
 |some xs=>
  obtain⟨a',us,ha',eH,RL⟩:=zG S (zw e1);rw[hl _ _ ha]at ha';cases ha';simp only;cases ex:xs[i]? with
  |none=>
   refine⟨λ_=>⟨us,bg.of eH,?_⟩,λx y z=>by simp at z⟩;rw[<-RL.length];exact QV.mp ex
  |some x=>
   refine⟨λz=>by simp at z,λx2 y2 z=>?_⟩;simp only[QP,Option.some.injEq,Prod.mk.injEq]at z;obtain⟨rfl,rfl⟩:=z;obtain⟨u0,hu0,Ru⟩:=RL.get ex;refine⟨⟨us,u0,bg.of eH,hu0⟩,λv H'' hy=>?_⟩;obtain⟨p,yp,k1⟩:=hy;have:=k1 us (bg.of eH);rw[hu0]at this;cases this;exact⟨_,_,yp,aa.mpr (by congr 1;lia),Ru⟩
def dE:(Rz.ok w m).bind f=f w m:=rfl
def vX (h:g i m=none):zJ c e g (k+1) i acc m=.no:=by
 unfold zJ;rw[h]
set_option tactic.hygienic true in
def qV (e:zo .zip w w2 i m=some o):∃xs ys,wK m w=some xs/\wK m w2=some ys:=by
 simp only[zo]at e;cases e1:wK m w with
 |none=>rw[e1]at e;cases e
 |some xs=>
  cases e2:wK m w2 with
  |none=>rw[e1,e2]at e;cases e
  |some ys=>exact⟨xs,ys,rfl,rfl⟩
set_option tactic.hygienic true in
def w6 (e:zo .enum w w2 i m=some o):∃la xs,w=.ref la/\zi m la=some xs:=by
 unfold zo at e;split at e
 .next h=>cases h
 .next la s _=>
  split at e
  .next xs e1=>exact⟨la,xs,rfl,e1⟩
  .cases e
 .contradiction
 .contradiction
 .cases e
def vY {cond:Ex}(htc:∀σ H Q,yI K (ae cl cond) σ H Q->tc σ H Q)(h:aG K (ae cl (.compP .zip elt a b cond)) σ H Q):
  vD (fW K) (oH K (jX (aG K (ae cl a)) (jX (aG K (ae cl b)) fF))) tc (aG K (ae cl elt)) σ H Q:=by
 obtain⟨as,env,m,S,G,P⟩:=h;have P':ak K as H Q ((ae cl a env m).bind λx m1=>(ae cl b env m1).bind λy m2=>
  zJ (λu v m=>ae cl cond (env++[some u]++[some v]) m) (λu v m=>ae cl elt (env++[some u]++[some v]) m) (zo .zip x y) (aF+1) 0 [] m2):=P
 refine⟨as,env,m,S,G,dM P' .refl λw m1 as1 H1 v T1 S1 R1 P1=>?_⟩;refine⟨as1,env,m1,S1,G.mono S T1,dM P1 T1 λw2 m2 as2 H2 v2 T2 S2 R2 P2=>?_⟩;have P3:=ak.step P2 (T1.trans T2);have G2:=(G.mono S T1).mono S1 T2;have b9:∃xs ys,wK m2 w=some xs/\wK m2 w2=some ys:=by
  cases e:zo .zip w w2 0 m2 with
  |none=>rw[vX e]at P3;exact P3.elim
  |some o=>exact qV e
 obtain⟨xs,ys,e1,e2⟩:=b9;obtain⟨w1,l1,us,rfl,rfl,s1,q1⟩:=pf S2 (R1.mono S1 T2) e1;obtain⟨w2,l2,vs,rfl,rfl,s2,q2⟩:=pf S2 R2 e2;exact⟨l1,l2,us,vs,rfl,q1,q2,vW htc (qU s1 s2) S2 G2 P3⟩
def xW {c:Nat}(hz:z=(c:Int)){cond:Ex}(htc:∀σ H Q,yI K (ae cl cond) σ H Q->tc σ H Q)(h:aG K (ae cl (.compP .enum elt a (.lit (.int z)) cond)) σ H Q):
  vD (fW K) (iK K c (jX (aG K (ae cl a)) fF)) tc (aG K (ae cl elt)) σ H Q:=by
 subst hz;obtain⟨as,env,m,S,G,P⟩:=h;have hl:∀m1,ae cl (.lit (.int (c:Int))) env m1=.ok (.int (c:Int)) m1:=λ_=>rfl;have P':ak K as H Q ((ae cl a env m).bind λx m1=>(ae cl (.lit (.int (c:Int))) env m1).bind λy m2=>
  zJ (λu v m=>ae cl cond (env++[some u]++[some v]) m) (λu v m=>ae cl elt (env++[some u]++[some v]) m) (zo .enum x y) (aF+1) 0 [] m2):=P
 refine⟨as,env,m,S,G,dM P' .refl λw m1 as1 H1 v T1 S1 R1 P1=>?_⟩;rw[hl,dE]at P1;have P3:=ak.step P1 T1;have b9:∃la xs,w=.ref la/\zi m1 la=some xs:=by
  cases e:zo .enum w (.int (c:Int)) 0 m1 with
  |none=>rw[vX e]at P3;exact P3.elim
  |some o=>exact w6 e
 obtain⟨la,xs,rfl,e1⟩:=b9;obtain⟨a1,ha1,rfl⟩:=aD.mp R1;obtain⟨a',us,ha',eH,RL⟩:=zG S1 (zw e1);rw[ha1]at ha';cases ha';exact⟨a1,us,rfl,bg.of eH,vW htc (w5 ha1) S1 (G.mono S T1) P3⟩
def wQ {cond:Ex}(htc:∀σ H Q,yI K (ae cl cond) σ H Q->tc σ H Q)(h:aG K (ae cl (.comp elt it cond)) σ H Q):
  vD fX (eP K (ae cl it)) tc (aG K (ae cl elt)) σ H Q:=by
 obtain⟨as,env,m,S,G,P⟩:=h;refine⟨as,env,m,S,G,?_⟩;have P':ak K as H Q ((ae cl it env m).bind λx m1=>match x with
  |.tup xs=>yC (λx m=>ae cl cond (env++[some x]) m) (λx m=>ae cl elt (env++[some x]) m) xs [] m1
  |.rol xs=>yC (λx m=>ae cl cond (env++[some x]) m) (λx m=>ae cl elt (env++[some x]) m) xs [] m1
  |.ref l=>yD (λx m=>ae cl cond (env++[some x]) m) (λx m=>ae cl elt (env++[some x]) m) l (aF+1) 0 [] m1
  |_=>.no):=P
 clear P;cases hr:ae cl it env m with
 |no=>rw[hr]at P';exact P'
 |ok w m1=>
  rw[hr]at P';have start:∀{as1:List Addr}{H1:Hp}{D:Addr},Step as H as1 H1->aH K as1 m1 H1->H1 D=none->ca K as1 H1 D env σ as1 m1 [] [] (aE H1 D (.lst [])):=λ{as1 H1 D} T1 S1 hD=>ca.start (as:=as) (H:=H) S1 (G.mono S T1) hD
  -- over items that stay
  have seqs:∀(xs:List Wd),ak K as H Q (yC (λx m=>ae cl cond (env++[some x]) m) (λx m=>ae cl elt (env++[some x]) m) xs [] m1) ->
    ∀as1 H1 J,Step as H as1 H1->aH K as1 m1 H1->fS K as1 H1 J xs->∀D,H1 D=none->∃W:Nat->Nat->List V->Hp->Prop,(∃m,W 0 m [] (aE H1 D (.lst [])))/\∀i m ys H,W i m ys H ->
     (J.stop i H/\Q (.ref D) H)\/(J.go i H/\∀v H',J.yld i H v H'->∃vs,fX v H' vs/\tc (σ++vs.map some) H' λb H2=>if b=true then aG K (ae cl elt) (σ++vs.map some) H2 λy H3=>H3 D=some (.lst ys)/\ys.length<sizeLine/\∃m',m'<m/\W (i+1) m' (ys++[y]) (aE H3 D (.lst (ys++[y])))
      else ∃m',m'<m/\W (i+1) m' ys H2):=by
   intro xs Pc as1 H1 J T1 S1 hI D hD;obtain⟨vs,ok,hJ,fq,RL,stab⟩:=hI;have Pc1:=ak.step Pc T1;have hlen:=RL.length;refine⟨λi n ys H'=>∃as' m' acc,i<=xs.length/\n=xs.length-i/\ca K as1 H1 D env σ as' m' acc ys H'/\ok H'/\ab K as' H' xs vs /\
    ak K as1 H1 Q (yC (λx m=>ae cl cond (env++[some x]) m) (λx m=>ae cl elt (env++[some x]) m) (xs.drop i) acc m'),
    ⟨xs.length,as1,m1,[],Ww _,rfl,start T1 S1 hD,stab _ _ (S1.kp (start T1 S1 hD).T) fq,RL.mono S1 (start T1 S1 hD).T,Pc1⟩,?_⟩
   rintro i n ys H' ⟨as',m',acc,hi,rfl,M,okH,RL',Pi⟩;by_cases hlt:i<xs.length
   .refine .inr ⟨hJ.go i H' okH (by rw[<-hlen];exact hlt),λv H'' hy=>?_⟩;obtain⟨rfl,hv⟩:=hJ.yld i H' v H'' okH (by rw[<-hlen];exact hlt) hy;obtain⟨v',hv',Rx⟩:=RL'.get (i:=i) (x:=xs[i]) (by simp[hlt]);rw[hv]at hv';cases hv';rw[QM hlt]at Pi;refine⟨[v],rfl,wP htc (sx:=[some v]) (next:=λacc m=>yC (λx m=>ae cl cond (env++[some x]) m) (λx m=>ae cl elt (env++[some x]) m) (xs.drop (i+1)) acc m) (N:=λzs H2=>∃n',n'<xs.length-i/\∃as' m' acc,i+1<=xs.length/\n'=xs.length-(i+1)/\ca K as1 H1 D env σ as' m' acc zs H2/\ok H2/\ab K as' H2 xs vs/\ak K as1 H1 Q (yC (λx m=>ae cl cond (env++[some x]) m) (λx m=>ae cl elt (env++[some x]) m) (xs.drop (i+1)) acc m')) hD M (M.G.push Rx) Pi ?_⟩;intro as2 m2 acc' ys' H2 kp g M2 P2;exact⟨xs.length-(i+1),by lia,as2,m2,acc',hlt,rfl,M2,stab _ _ kp okH,aW kp g _ _ RL',P2⟩
   .have e:i=xs.length:=by lia
    subst e;rw[WV]at Pi;exact .inl ⟨hJ.stop _ H' okH (by lia),xg M.S M.T hD M.hD M.n M.R Pi⟩
  cases w with
  |tup xs=>exact⟨rfl,λas1 H1 J T1 S1 hI=>seqs xs P' as1 H1 J T1 S1 hI⟩
  |rol xs=>exact⟨rfl,λas1 H1 J T1 S1 hI=>seqs xs P' as1 H1 J T1 S1 hI⟩
  |ref l=>
   have P2:ak K as H Q (yD (λx m=>ae cl cond (env++[some x]) m) (λx m=>ae cl elt (env++[some x]) m) l (aF+1) 0 [] m1):=P';refine⟨?_,λas1 H1 J T1 S1 hI D hD=>?_⟩
   .show (zi m1 l).isSome=true;cases e:zi m1 l with
    |some xs=>rfl
    |none=>
     unfold yD at P2;rw[e]at P2;exact P2.elim
   .obtain ⟨a,ha,rfl⟩:=hI;have Pc1:=ak.step P2 T1;refine⟨λi n ys H'=>∃as' m' acc,as'[l]?=some a/\ca K as1 H1 D env σ as' m' acc ys H' /\
     ak K as1 H1 Q (yD (λx m=>ae cl cond (env++[some x]) m) (λx m=>ae cl elt (env++[some x]) m) l n i acc m'),⟨aF+1,as1,m1,[],ha,start T1 S1 hD,Pc1⟩,?_⟩
    rintro i n ys H' ⟨as',m',acc,hl,M,Pi⟩;cases n with
    |zero=>exact Pi.elim
    |succ n=>
     unfold yD at Pi;cases e:zi m' l with
     |none=>rw[e]at Pi;exact Pi.elim
     |some xs=>
      rw[e]at Pi;simp only[]at Pi;obtain⟨a',vs,ha',eH,RL⟩:=zG M.S (zw e);rw[hl]at ha';cases ha';cases ex:xs[i]? with
      |none=>
       rw[ex]at Pi;have hle:vs.length<=i:=by rw[<-RL.length];exact QV.mp ex
       exact .inl ⟨⟨vs,bg.of eH,hle⟩,xg M.S M.T hD M.hD M.n M.R Pi⟩
      |some x=>
       rw[ex]at Pi;obtain⟨v0,hv0,Rx⟩:=RL.get ex;refine .inr ⟨⟨vs,v0,bg.of eH,hv0⟩,λv H'' hy=>?_⟩;obtain⟨rfl,hy⟩:=hy;have:=hy vs (bg.of eH);rw[hv0]at this;cases this;refine⟨[v0],rfl,wP htc (sx:=[some v0]) (next:=λacc m=>yD (λx m=>ae cl cond (env++[some x]) m) (λx m=>ae cl elt (env++[some x]) m) l n (i+1) acc m) (N:=λzs H2=>∃n',n'<n+1/\∃as' m' acc,as'[l]?=some a/\ca K as1 H1 D env σ as' m' acc zs H2/\ak K as1 H1 Q (yD (λx m=>ae cl cond (env++[some x]) m) (λx m=>ae cl elt (env++[some x]) m) l n' (i+1) acc m')) hD M (M.G.push Rx) Pi ?_⟩;intro as2 m2 acc' ys' H2 kp g M2 P2;exact⟨n,Wj _,as2,m2,acc',g _ _ hl,M2,P2⟩
  |non=>exact P'.elim
  |bl k=>exact P'.elim
  |int i=>exact P'.elim
  |str s=>exact P'.elim
end
section
variable{K:Qb}{as:List Addr}{H H':Hp}{m:Me}{Q:VK}
def vZ (h:jf y=some k)(R:ag K as H y v):∃a,v=.ref a/\bG K H a (k.map V.int):=by
 cases y with
 |tup ws=>
  obtain⟨a,vs,rfl,q,r⟩:=ah.mp R;rw[wM h r]at q;exact⟨a,rfl,q⟩
 |_=>cases h
theorem v5:∀{xs:List TK}{ws:List Wd}{vs:List V}{q:List Int}{w:Wd},ab K as H ws vs->ax vs (xs.map (·.2.2))->bO (xs.map (·.1)) ws q=some w->∃p v,Iw xs q=some p/\RelV v p.2/\ag K as H w v
 |[],ws,vs,q,w,r,rv,h=>by cases ws<;>cases h
 |x::xs,ws,vs,q,w,r,rv,h=>by
  cases ws with
  |nil=>cases h
  |cons y ws=>
   obtain⟨v,vs',rfl,r1,r2⟩:=aj.mp r;cases rv with
   |cons p1 p2=>
    have h':(if x.1=q then some y else bO (xs.map (·.1)) ws q)=some w:=h;by_cases e:x.1=q
    .rw[Jh e]at h';cases h';exact⟨x.2,v,by simp[Iw,e],p1,r1⟩
    .rw[Ji e]at h';obtain⟨p,v',h1,h2,h3⟩:=v5 r2 p2 h';exact⟨p,v',by simpa [Iw,WK,e]using h1,h2,h3⟩
def Be (S:aH K as m H)(R:ag K as H x v)(R':ag K as H y u)(h:ak K as H Q (vF x y m)):oR K v u H Q:=by
 unfold vF at h;cases x with
 |ref l=>
  obtain⟨a,ha,rfl⟩:=aD.mp R;dsimp only at h;cases e:m[l]? with
  |none=>rw[e]at h;exact h.elim
  |some o=>
   cases o with
   |lst ys=>rw[e]at h;exact h.elim
   |dct ks ws=>
    rw[e]at h;dsimp only at h;obtain⟨a',xs,vs,ha',td,rfl,r,rv,nd⟩:=vK S e;rw[ha]at ha';cases ha';cases ek:jf y with
    |none=>rw[ek]at h;exact h.elim
    |some k=>
     rw[ek]at h;obtain⟨b,rfl,qb⟩:=vZ ek R';cases ew:bO (xs.map (·.1)) ws k with
     |none=>simp only[VP,ew]at h;exact h.elim
     |some w=>
      simp only[VP,ew]at h;obtain⟨p,z,h1,h2,h3⟩:=v5 r rv ew;exact⟨a,b,k,xs,p,rfl,rfl,qb,td,h1,z,h2,h.ok S h3⟩
 |_=>exact h.elim
def gX:(storedH xs q a u).map (·.1)=wf (xs.map (·.1)) q:=by
 unfold storedH wf;by_cases h:q∈xs.map (·.1)
 .rw[Jh (bC.mpr h),Jh h,keys_map_putAt]
 .rw[Ji (λz=>h (bC.mp z)),Ji h,WZ];rfl
def gY (h:ks.Nodup):(wf ks q).Nodup:=by
 unfold wf;by_cases z:q∈ks
 .rw[Jh z];exact h
 .rw[Ji z];refine Qn.mpr ⟨h,by simp,λx hx y hy e=>?_⟩;rw[Qr.mp hy]at e;exact z (e▸hx)
theorem rN (Rw:ag K as H w v):∀{ks:List (List Int)}{ws:List Wd}{vs:List V},ab K as H ws vs->ab K as H (zQ ks ws q w) (zQ ks vs q v)
 |[],ws,vs,r=>r.append (.one Rw)
 |k::ks,ws,vs,r=>by
  cases ws with
  |nil=>obtain rfl:=au.mp r;exact ab.one Rw
  |cons x ws=>
   obtain⟨y,vs',rfl,r1,r2⟩:=aj.mp r;show ab K as H (if k=q then w::ws else x::zQ ks ws q w) (if k=q then v::vs' else y::zQ ks vs' q v);by_cases e:k=q
   .rw[Jh e,Jh e];exact aj.mpr ⟨v,vs',rfl,Rw,r2⟩
   .rw[Ji e,Ji e];exact aj.mpr ⟨y,_,rfl,r1,rN Rw r2⟩
theorem rM:∀{ks:List (List Int)}{vs:List V},q∉ks->ks.length=vs.length->zQ ks vs q v=vs++[v]
 |[],vs,_,_=>rfl
 |k::ks,[],_,h=>by cases h
 |k::ks,x::vs,hq,h=>by
  show(if k=q then v::vs else x::zQ ks vs q v)=_;rw[Ji (λe=>hq (by simp[e])),rM (λz=>hq (by simp[z])) (by simpa using h)];rfl
theorem rL (ru:RelV v u):∀{xs:List TK}{vs:List V},(xs.map (·.1)).Nodup->q∈xs.map (·.1)->ax vs (xs.map (·.2.2))->ax (zQ (xs.map (·.1)) vs q v) ((xs.map (Ip q u)).map (·.2.2))
 |[],vs,_,h,_=>by simp at h
 |x::xs,vs,nd,h,r=>by
  rw[Q2,QA]at nd;cases r with
  |@cons y _ vs' _ p1 p2=>
   show ax (if x.1=q then v::vs' else y::zQ (xs.map (·.1)) vs' q v) ((Ip q u x).2.2::(xs.map (Ip q u)).map (·.2.2));by_cases e:x.1=q
   .rw[Jh e,map_putAt_of_not_mem xs q u (e▸nd.1)];unfold Ip;rw[Jh e];exact .cons ru p2
   .rw[Ji e];unfold Ip;rw[Ji e];exact .cons p1 (rL ru nd.2 (by simpa [Ne.symm e]using h) p2)
def gZ (ru:RelV v u)(nd:(xs.map (·.1)).Nodup)(r:ax vs (xs.map (·.2.2))):ax (zQ (xs.map (·.1)) vs q v) ((storedH xs q a u).map (·.2.2)):=by
 unfold storedH;by_cases h:q∈xs.map (·.1)
 .rw[Jh (bC.mpr h)];exact rL ru nd h r
 .rw[Ji (λz=>h (bC.mp z)),WZ];rw[rM h (by have:=r.length;simp at this ⊢;lia)];exact r.append (.cons ru .nil)
def qW {q:List Int}:∀x∈storedH xs q a u,(∃y∈xs,y.1=x.1/\y.2.1=x.2.1)\/(x.1=q/\x.2.1=a):=λx hx=>by
 unfold storedH at hx;split at hx
 .obtain ⟨y,hy,rfl⟩:=WQ.mp hx;refine .inl ⟨y,hy,?_⟩;unfold Ip;split<;>exact⟨rfl,rfl⟩
 .rcases Ql.mp hx with z|z
  .exact .inl ⟨x,z,rfl,rfl⟩
  .rw[Qr.mp z];exact .inr ⟨rfl,rfl⟩
def aH.setD (S:aH K as m H)(ha:as[l]?=some a)(hm:m[l]?=some (.dct ks ws))(td:yi K H a xs)(ek:xs.map (·.1)=ks)(r:ab K as H ws vs)(rv:ax vs (xs.map (·.2.2)))(nd:ks.Nodup)(qb:bG K H b (q.map V.int))(Rw:ag K as H w v)(ru:RelV v u):
  Step as H as (aE H a (xj a (storedH xs q b u)))/\aH K as (m.set l (.dct (wf ks q) (zQ ks ws q w))) (aE H a (xj a (storedH xs q b u))):=by
 have hin:a∈as:=Qm ha;have T:Step as H as (aE H a (xj a (storedH xs q b u))):=⟨⟨[],by simp⟩,λc o h hb=>by
  rw[za (by rintro rfl;exact hb hin)];exact h,λc hb=>.inl hb⟩
 have kp:Kp K H (aE H a (xj a (storedH xs q b u))):=Kp.updL td.1 trivial;refine⟨T,⟨by simp[S.len],S.nd,λk c o h1 h2=>?_⟩⟩;by_cases hk:k=l
 .subst hk;rw[ha]at h1;cases h1;rw[Q7 (Qa.mp hm).1]at h2;cases h2;subst ek;refine⟨storedH xs q b u,zQ (xs.map (·.1)) vs q v,⟨ze,λx hx=>?_⟩,gX,(rN Rw r).kp kp,gZ ru nd rv,gY nd⟩;rcases qW x hx with⟨y,hy,e1,e2⟩|⟨e1,e2⟩
  .rw[<-e1,<-e2];exact kp.t _ _ (td.2 y hy)
  .rw[e1,e2];exact kp.t _ _ qb
 .rw[Qp (Ne.symm hk)]at h2;have q':=S.obj k c o h1 h2;have hb:c≠a:=by
   rintro rfl;obtain⟨i1,e1⟩:=Qa.mp h1;obtain⟨i2,e2⟩:=Qa.mp ha;exact hk ((WU S.nd).mp (e1.trans e2.symm))
  exact a9.mono kp (λ_ _ e=>e) (λo e=>by rw[za hb];exact e) q'
def aH.updK(S:aH K as m H)(k:Kp K H H')(e:∀a∈as,∀o,H a=some o->H' a=some o):aH K as m H':=
 ⟨S.len,S.nd,λl b o h1 h2=>a9.mono k (λ_ _ e=>e) (e b (Qm h1)) (S.obj l b o h1 h2)⟩
def aH.newD (S:aH K as m H)(hp:H p=none):Step as H (as++[p]) (aE H p (xj p []))/\aH K (as++[p]) (m++[.dct [] []]) (aE H p (xj p [])):=by
 have hn:=S.new hp;have T:Step as H (as++[p]) (aE H p (xj p [])):=⟨⟨[p],rfl⟩,λb o h _=>by rw[za (zm h hp)];exact h,λb hb=>by
  rcases Ql.mp hb with z|z
  .exact .inl z
  .exact .inr (by rw[Qr.mp z];exact hp)⟩
 refine⟨T,⟨by simp[S.len],?_,λl b o h1 h2=>?_⟩⟩
 .refine Qn.mpr ⟨S.nd,by simp,λx hx y hy=>?_⟩;rw[Qr.mp hy];rintro rfl;exact hn hx
 .by_cases hl:l<as.length
  .rw[Qd hl]at h1;rw[Qd (by rw[<-S.len];exact hl)]at h2;exact a9.mono (S.kp T) (λ_ _ e=>T.get e) (λo e=>by rw[za (zm e hp)];exact e) (S.obj l b o h1 h2)
  .rw[Qc (by lia)]at h1;rw[Qc (by rw[<-S.len];lia)]at h2;have hz:l-as.length=0:=by
    cases hq:l-as.length with
    |zero=>rfl
    |succ k=>rw[hq]at h1;simp at h1
   rw[hz]at h1;rw[<-S.len,hz]at h2;simp at h1 h2;subst h1;subst h2;exact⟨[],[],⟨ze,λx hx=>by simp at hx⟩,rfl,au.mpr rfl,.nil,QK⟩
end
section
variable{cl:Nat->List Wd->Me->Rz}{X:Cx}{a b:Ex}{x y:Expr}{pos:Pos}
def Ds:PE X (.Dict [] [] pos) (aG X.K (ae cl .dict0)):=by
 refine PE.imp DR λσ H Q h d hd=>?_;obtain⟨as,env,m,S,G,P⟩:=h;obtain⟨T,S'⟩:=S.newD hd;have P':ak X.K as H Q (.ok (.ref m.length) (m++[.dct [] []])):=P;refine P' _ _ _ T S' (aD.mpr ⟨d,?_,rfl⟩);rw[<-S.len,Qc (Qf _)];simp
def Bd(hu:X.A.units+64<HF)(ha:PE X x (aG X.K (ae cl a)))(hb:PE X y (aG X.K (ae cl b)))(hs:zY y=true):PE X (.Subscript x y pos) (aG X.K (ae cl (.dget a b))):=by
 have hp:ja y:=λo i=>by cases y<;>first|rfl|cases hs
 refine PE.imp (fM (mo hu) ha hb hp) λσ H Q h=>?_;obtain⟨as,env,m,S,G,P⟩:=h;refine⟨as,env,m,S,G,ak.bind P λx m1 as1 H1 v T1 S1 R1 P1=>?_⟩;refine⟨as1,env,m1,S1,G.mono S T1,ak.bind P1 λy m2 as2 H2 u T2 S2 R2 P2=>?_⟩;exact Be S2 (R1.mono S1 T2) R2 P2
end
section
variable{cl:Nat->List Wd->Me->Rz}
def cj {r:Rz}(h:r.bind f=.ok w m):∃x m1,r=.ok x m1/\f x m1=.ok w m:=by
 cases r with
 |ok x m1=>exact⟨x,m1,rfl,h⟩
 |no=>cases h
def Bc (hw:env[i]?=some (some w))(hs:∀s,w≠.str s):ae cl (.cmp .eq (.var i) (.lit (.str k))) env m=.ok (.bl false) m\/ae cl (.cmp .eq (.var i) (.lit (.str k))) env m=.no:=by
 show((match env[i]? with|some (some w)=>Rz.ok w m|_=>.no).bind λx m1=>(Rz.ok (.str k) m1).bind λy m2=>cn .eq x y m2)=_\/((match env[i]? with|some (some w)=>Rz.ok w m|_=>.no).bind λx m1=>(Rz.ok (.str k) m1).bind λy m2=>cn .eq x y m2)=_;rw[hw];cases w with
 |str s=>exact Jj rfl (hs s)
 |rol xs=>exact .inr rfl
 |ref l=>
  show cI (if aJ m l&&true then some false else none) m=_\/cI (if aJ m l&&true then some false else none) m=_;cases aJ m l
  .exact .inr rfl
  .exact .inl rfl
 |_=>exact .inl rfl
def g0 (h:ae cl c env m=.ok (.bl false) m1):ae cl (.ife c a b) env m=ae cl b env m1:=by
 show(ae cl c env m).bind _=_;rw[h];rfl
def fQ (h:ae cl c env m=.ok (.bl true) m1):ae cl (.ife c a b) env m=ae cl a env m1:=by
 show(ae cl c env m).bind _=_;rw[h];rfl
def iJ (h:ae cl c env m=.no):ae cl (.ife c a b) env m=.no:=by
 show(ae cl c env m).bind _=_;rw[h];rfl
def w9 (hw:env[i]?=some (some (.str s))):ae cl (.cmp .eq (.var i) (.lit (.str k))) env m=.ok (.bl (decide (s=k))) m:=by
 show((match env[i]? with|some (some w)=>Rz.ok w m|_=>.no).bind λx m1=>(Rz.ok (.str k) m1).bind λy m2=>cn .eq x y m2)=_;rw[hw];rfl
def Bb (h:ae cl (gc i k1 k2 k3 k4) env m=.ok w m'):m'=m/\(w=.non\/∃s j,env[i]?=some (some (.str s))/\w=.int j/\vH s k1 k2 k3 k4 (0:Int) 1 2 3=some j):=by
 unfold gc at h;cases e:env[i]? with
 |none=>
  have:ae cl (.cmp .eq (.var i) (.lit (.str k1))) env m=.no:=by
   show((match env[i]? with|some (some w)=>Rz.ok w m|_=>.no).bind _)=_;rw[e];rfl
  rw[iJ this]at h;cases h
 |some o=>
  cases o with
  |none=>
   have:ae cl (.cmp .eq (.var i) (.lit (.str k1))) env m=.no:=by
    show((match env[i]? with|some (some w)=>Rz.ok w m|_=>.no).bind _)=_;rw[e];rfl
   rw[iJ this]at h;cases h
  |some x=>
   by_cases hs:∃s,x=.str s
   .obtain ⟨s,rfl⟩:=hs;unfold vH;by_cases q1:s=k1
    .rw[fQ (by rw[w9 e,Jk q1])]at h;cases h;exact⟨rfl,.inr ⟨s,0,rfl,rfl,by rw[Jh q1]⟩⟩
    rw[g0 (by rw[w9 e,Jg q1])]at h;by_cases q2:s=k2
    .rw[fQ (by rw[w9 e,Jk q2])]at h;cases h;exact⟨rfl,.inr ⟨s,1,rfl,rfl,by rw[Ji q1,Jh q2]⟩⟩
    rw[g0 (by rw[w9 e,Jg q2])]at h;by_cases q3:s=k3
    .rw[fQ (by rw[w9 e,Jk q3])]at h;cases h;exact⟨rfl,.inr ⟨s,2,rfl,rfl,by rw[Ji q1,Ji q2,Jh q3]⟩⟩
    rw[g0 (by rw[w9 e,Jg q3])]at h;by_cases q4:s=k4
    .rw[fQ (by rw[w9 e,Jk q4])]at h;cases h;exact⟨rfl,.inr ⟨s,3,rfl,rfl,by rw[Ji q1,Ji q2,Ji q3,Jh q4]⟩⟩
    rw[g0 (by rw[w9 e,Jg q4])]at h;cases h;exact⟨rfl,.inl rfl⟩
   .have hs':∀s,x≠.str s:=λs z=>hs ⟨s,z⟩;have go:∀{k:List Nat}{a b:Ex}{r:Rz},ae cl (.ife (.cmp .eq (.var i) (.lit (.str k))) a b) env m=.ok w m'->ae cl b env m=.ok w m':=λ{k a b r} h=>by
     rcases Bc (cl:=cl) (k:=k) (m:=m) e hs' with z|z
     .rw[g0 z]at h;exact h
     .rw[iJ z]at h;cases h
    have h:=go (r:=.no) (go (r:=.no) (go (r:=.no) (go (r:=.no) h)));cases h;exact⟨rfl,.inl rfl⟩
set_option tactic.hygienic true in
def Dr (h:ae cl (.idx (ko a b c d) (gc i k1 k2 k3 k4)) env m=.ok w m'):
  ∃wa m1 wb m2 wc m3 wd s,ae cl a env m=.ok wa m1/\ae cl b env m1=.ok wb m2/\ae cl c env m2=.ok wc m3/\ae cl d env m3=.ok wd m'/\env[i]?=some (some (.str s))/\vH s k1 k2 k3 k4 wa wb wc wd=some w:=by
 obtain⟨x,mx,h1,h2⟩:=cj (show(ae cl (ko a b c d) env m).bind (λx m1=>(ae cl (gc i k1 k2 k3 k4) env m1).bind λy m2=>xo x y m2)=_ from h);obtain⟨y,my,h3,h4⟩:=cj h2;obtain⟨rfl,hy⟩:=Bb h3;obtain⟨z,mz,g1,g2⟩:=cj (show(ae cl (.pair a (.pair b (.pair c (.pair d .unit)))) env m).bind (λx m1=>if(zj x).length<=aF then Rz.ok (.tup (zj x)) m1 else .no)=_ from h1);obtain⟨wa,m1,p1,q1⟩:=cj (show(ae cl a env m).bind (λx m1=>(ae cl (.pair b (.pair c (.pair d .unit))) env m1).bind λy m2=>Rz.ok (.tup (x::zj y)) m2)=_ from g1);obtain⟨yb,n1,p2,q2⟩:=cj q1;obtain⟨wb,m2,p3,q3⟩:=cj (show(ae cl b env m1).bind (λx m1=>(ae cl (.pair c (.pair d .unit)) env m1).bind λy m2=>Rz.ok (.tup (x::zj y)) m2)=_ from p2);obtain⟨yc,n2,p4,q4⟩:=cj q3;obtain⟨wc,m3,p5,q5⟩:=cj (show(ae cl c env m2).bind (λx m1=>(ae cl (.pair d .unit) env m1).bind λy m2=>Rz.ok (.tup (x::zj y)) m2)=_ from p4);obtain⟨yd,n3,p6,q6⟩:=cj q5;obtain⟨wd,m4,p7,q7⟩:=cj (show(ae cl d env m3).bind (λx m1=>(Rz.ok (.tup []) m1).bind λy m2=>Rz.ok (.tup (x::zj y)) m2)=_ from p6);cases q7;cases q6;cases q4;cases q2
 replace g2:(if([wa,wb,wc,wd]:List Wd).length<=aF then Rz.ok (.tup [wa,wb,wc,wd]) mz else .no)=.ok x my:=g2
 rw[Jh (show([wa,wb,wc,wd]:List Wd).length<=aF by show 4<=aF;decide)]at g2;cases g2;rcases hy with rfl|⟨s,j,e,rfl,hj⟩
 .cases h4
 .refine ⟨wa,m1,wb,m2,wc,m3,wd,s,p1,p3,p5,?_,e,?_⟩
  .unfold vH at hj;split at hj
   .cases hj;cases h4;exact p7
   .split at hj
    .cases hj;cases h4;exact p7
    .split at hj
     .cases hj;cases h4;exact p7
     .split at hj
      .cases hj;cases h4;exact p7
      .cases hj
  .unfold vH at hj ⊢;split at hj
   .next z=>rw[Jh z];cases hj;cases h4;rfl
   .next z=>
    rw[Ji z];split at hj
    .next z=>rw[Jh z];cases hj;cases h4;rfl
    .next z=>
     rw[Ji z];split at hj
     .next z=>rw[Jh z];cases hj;cases h4;rfl
     .next z=>
      rw[Ji z];split at hj
      .next z=>rw[Jh z];cases hj;cases h4;rfl
      .cases hj
end
section
def jw {s:Str}(h:s.cps.toList=k):s=⟨k.toArray⟩:=by subst h;simp
set_option tactic.hygienic true in
def Dq {R:Wd->V->Prop}(h:vH s k1 k2 k3 k4 w1 w2 w3 w4=some w)(r1:R w1 v1)(r2:R w2 v2)(r3:R w3 v3)(r4:R w4 v4)(n12:k1≠k2)(n13:k1≠k3)(n14:k1≠k4)(n23:k2≠k3)(n24:k2≠k4)(n34:k3≠k4):
  ∃v,xf (xV [] [((Sum.inr ⟨k1.toArray⟩:bv),v1),(Sum.inr ⟨k2.toArray⟩,v2),(Sum.inr ⟨k3.toArray⟩,v3),(Sum.inr ⟨k4.toArray⟩,v4)]) (Sum.inr ⟨s.toArray⟩)=some v/\R w v:=by
 have inj:∀{p q:List Nat},p≠q->¬((Sum.inr ⟨p.toArray⟩:bv)=Sum.inr ⟨q.toArray⟩):=λh e=>by
  injection e with e;injection e with e
  exact h (by simpa using Jf WO e)
 have e:xV [] [((Sum.inr ⟨k1.toArray⟩:bv),v1),(Sum.inr ⟨k2.toArray⟩,v2),(Sum.inr ⟨k3.toArray⟩,v3),(Sum.inr ⟨k4.toArray⟩,v4)]=[((Sum.inr ⟨k1.toArray⟩:bv),v1),(Sum.inr ⟨k2.toArray⟩,v2),(Sum.inr ⟨k3.toArray⟩,v3),(Sum.inr ⟨k4.toArray⟩,v4)]:=by
  simp only[xV,VI,gN,List.any_nil,W9,Wz,WF,Jg (inj n12),Jg (inj n13),Jg (inj n14),Jg (inj n23),Jg (inj n24),Jg (inj n34),Bool.or_self,QT,if_false]
 rw[e];unfold vH at h;split at h
 .next z=>subst z;cases h;exact⟨v1,yZ rfl,r1⟩
 .next z1=>
  rw[xu (inj (Ne.symm z1))];split at h
  .next z=>subst z;cases h;exact⟨v2,yZ rfl,r2⟩
  .next z2=>
   rw[xu (inj (Ne.symm z2))];split at h
   .next z=>subst z;cases h;exact⟨v3,yZ rfl,r3⟩
   .next z3=>
    rw[xu (inj (Ne.symm z3))];split at h
    .next z=>subst z;cases h;exact⟨v4,yZ rfl,r4⟩
    .cases h
end
section
variable{cl:Nat->List Wd->Me->Rz}{X:Cx}
def uH(x y:Int)(env:En)(m:Me):ae cl (cx x y) env m=.ok (.tup [.int x,.int y]) m:=
 Jh (e:=Rz.no) (c:=([Wd.int x,.int y]:List Wd).length<=aF) (show 2<=aF by decide)
def ww {K:Qb}(h:fy K b [.int x,.int y])(as:List Addr)(H:Hp):ag K as H (.tup [.int x,.int y]) (.ref b):=
 ah.mpr ⟨b,[.int x,.int y],rfl,.inr h,aj.mpr ⟨_,_,rfl,aa.mpr rfl,aj.mpr ⟨_,_,rfl,aa.mpr rfl,au.mpr rfl⟩⟩⟩
def Ba (n12:k1≠k2)(n13:k1≠k3)(n14:k1≠k4)(n23:k2≠k3)(n24:k2≠k4)(n34:k3≠k4)(hd:PE X (.Name dn pd) (tC (.ref a)))(D:eZ X.K X.w a [(k1,x1,y1),(k2,x2,y2),(k3,x3,y3),(k4,x4,y4)])(hv:PE X (.Name nm pn) (kj i)):
  PE X (.Subscript (.Name dn pd) (.Name nm pn) pos) (aG X.K (ae cl (.idx (ko (cx x1 y1) (cx x2 y2) (cx x3 y3) (cx x4 y4)) (gc i k1 k2 k3 k4)))):=by
 refine PE.imp (fM mq hd hv (λ_ _=>rfl)) λσ H Q h=>?_;obtain⟨as,env,m,S,G,P⟩:=h;cases hr:ae cl (.idx (ko (cx x1 y1) (cx x2 y2) (cx x3 y3) (cx x4 y4)) (gc i k1 k2 k3 k4)) env m with
 |no=>rw[hr]at P;exact P.elim
 |ok w m'=>
  rw[hr]at P;obtain⟨wa,m1,wb,m2,wc,m3,wd,s,ea,eb,ec,ed,es,hp⟩:=Dr hr;rw[uH]at ea eb ec ed;cases ea;cases eb;cases ec;cases ed;obtain⟨vs,hvs,rs⟩:=G.get i _ es;obtain rfl:=ay.mp rs;obtain⟨o,ep,kvs,hK,f,dv⟩:=ur (P:=X.prog) D (by simp[n12,n13,n14,n23,n24,n34])
  match kvs,f,dv with
  |[],f,dv=>cases(show _=_ from dv)
  |u1::[],f,dv=>obtain⟨_,_,_,_,b1,e,rfl,t1,dv⟩:=dv;cases e;cases(show _=_ from dv)
  |u1::u2::[],f,dv=>
   obtain⟨_,_,_,_,b1,e,rfl,t1,dv⟩:=dv;cases e;obtain⟨_,_,_,_,b2,e,rfl,t2,dv⟩:=dv;cases e;cases(show _=_ from dv)
  |u1::u2::u3::[],f,dv=>
   obtain⟨_,_,_,_,b1,e,rfl,t1,dv⟩:=dv;cases e;obtain⟨_,_,_,_,b2,e,rfl,t2,dv⟩:=dv;cases e;obtain⟨_,_,_,_,b3,e,rfl,t3,dv⟩:=dv;cases e;cases(show _=_ from dv)
  |u1::u2::u3::u4::r,f,dv=>
   obtain⟨_,_,_,_,b1,e,rfl,t1,dv⟩:=dv;cases e;obtain⟨_,_,_,_,b2,e,rfl,t2,dv⟩:=dv;cases e;obtain⟨_,_,_,_,b3,e,rfl,t3,dv⟩:=dv;cases e;obtain⟨_,_,_,_,b4,e,rfl,t4,dv⟩:=dv;cases e;cases r with
   |cons _ _=>obtain⟨_,_,_,_,_,e,_⟩:=dv;cases e
   |nil=>
    obtain⟨v,hv1,hv2⟩:=Dq (R:=ag X.K as H) hp (ww t1 as H) (ww t2 as H) (ww t3 as H) (ww t4 as H) n12 n13 n14 n23 n24 n34;have nd:([((Sum.inr ⟨k1.toArray⟩:bv),V.ref b1),(Sum.inr ⟨k2.toArray⟩,.ref b2),(Sum.inr ⟨k3.toArray⟩,.ref b3),(Sum.inr ⟨k4.toArray⟩,.ref b4)].map (·.1)).Nodup:=by simp[n12,n13,n14,n23,n24,n34]
    rw[kQ nd (ps:=[]) (by simpa using nd),Wz]at hv1;exact⟨.str ⟨s.toArray⟩,hvs,a,o,ep,_,Sum.inr ⟨s.toArray⟩,v,rfl,rfl,f,hK,hv1,P as H v Step.refl S hv2⟩
end
end Mini
namespace Mini
open PySem L2
def ET (h0:(a==G6)=false)(h1:K.lookup a=some ⟨.type "dict",none,.dict #[⟨e1,.str ⟨⟨k1⟩⟩ t1,.ref b1⟩,⟨e2,.str ⟨⟨k2⟩⟩ t2,.ref b2⟩,⟨e3,.str ⟨⟨k3⟩⟩ t3,.ref b3⟩,⟨e4,.str ⟨⟨k4⟩⟩ t4,.ref b4⟩] ep,#[]⟩)(u1:K.lookup b1=some ⟨.type "tuple",o1,.seq #[.int x1 r1,.int y1 z1] n1,l1⟩)(u2:K.lookup b2=some ⟨.type "tuple",o2,.seq #[.int x2 r2,.int y2 z2] n2,l2⟩)(u3:K.lookup b3=some ⟨.type "tuple",o3,.seq #[.int x3 r3,.int y3 z3] n3,l3⟩)(u4:K.lookup b4=some ⟨.type "tuple",o4,.seq #[.int x4 r4,.int y4 z4] n4,l4⟩)(q1:e1=GX w ⟨⟨k1⟩⟩)(q2:e2=GX w ⟨⟨k2⟩⟩)(q3:e3=GX w ⟨⟨k3⟩⟩)(q4:e4=GX w ⟨⟨k4⟩⟩):eZ K w a [(k1,x1,y1),(k2,x2,y2),(k3,x3,y3),(k4,x4,y4)]:=by
 have tk:∀{b:Addr}{o:Option Addr}{l:Array (Option Value)}{x y:Int}{r z:Tok}{n:Nat},K.lookup b=some ⟨.type "tuple",o,.seq #[.int x r,.int y z] n,l⟩->fy K b [.int x,.int y]:=λh=>
  ⟨_,_,_,h,rfl,rfl,(show 2<=sizeLine by decide),.cons ⟨_,rfl⟩ (.cons ⟨_,rfl⟩ .nil)⟩
 exact⟨h0,_,_,_,h1,⟨rfl,rfl,rfl⟩,rfl,_,_,_,_,_,_,rfl,rfl,q1,rfl,tk u1,_,_,_,_,_,_,rfl,rfl,q2,rfl,tk u2,_,_,_,_,_,_,rfl,rfl,q3,rfl,tk u3,_,_,_,_,_,_,rfl,rfl,q4,rfl,tk u4,rfl⟩
end Mini
namespace Mini
open PySem PySem.Spec PyProof.Rows L2
section
noncomputable def GQ(t u:Tg)(w:Wd)(m:Me):Rz:=(cI (cE t w m) m).bind λx m1=>match x with
 |.bl false=>cI (cE u w m1) m1
 |.bl true=>.ok (.bl true) m1
 |_=>.no
end
end Mini
namespace L2
open PySem PySem.Spec PyProof.Rows
section
variable{X:Cx}
noncomputable def iI(K:Qb):V->List V->Hp->VK->Prop:=λx vs H Q=>∃d a ks xs z,x=.ref d/\vs=[.ref a,z]/\bG K H a (ks.map V.int)/\yi K H d xs/\(∀p v,Iw xs ks=some p->RelV v p.2->Q v H)/\(Iw xs ks=none->Q z H)/\∀p,Iw xs ks=some p->∃v,RelV v p.2
def B4(hu:X.A.units+64<HF):et X "dict.get" (iI X.K):=by
 intro pins s σ H x vs v us Q I rx rv h;obtain⟨d,a,ks,xs,z,rfl,rfl,hk,td,q1,q2,q3⟩:=h;cases rx;obtain⟨_,ra,⟨uz,rz,rfl⟩⟩:∃u1,RelV (.ref a) u1/\∃u2,RelV z u2/\us=[u1,u2]:=by
  cases rv with
  |cons p r=>cases r with
   |cons p' r'=>cases r';exact⟨_,p,_,p',rfl⟩
 cases ra;obtain⟨d0,dm⟩:=yH I td;refine Ir F.slot_dict_get dm.typeIs F.entry_dict_get ?_ (F.args_dict_get_3 _ _ _);apply Hs (m:=dictGet d (.ref a));apply wpAny_dictGet_heap (knd:=G8 (G9 X.prog X.w)) (by show X.A.units+1<HF;lia) (y9 I hk) dm;cases e:Iw xs ks with
 |some p=>
  obtain⟨y,ry⟩:=q3 p e;exact Hy ⟨p.2,rfl,y,H,I.tok _,ry,q1 p y e ry⟩
 |none=>
  apply Hs (m:=Builtin.Dict.missed d (.ref a));exact wpAny_missed_other d0 (Hy ⟨uz,rfl,z,H,I.tok _,rz,q2 e⟩)
noncomputable def uG(K:Qb):V->List V->Hp->VK->Prop:=λx vs H Q=>∃a,vs=[a]/\iI K x [a,.non] H Q
def Dp(hu:X.A.units+64<HF):et X "dict.get" (uG X.K):=by
 intro pins s σ H x vs v us Q I rx rv h;obtain⟨_,rfl,d,a,ks,xs,z,rfl,ez,hk,td,q1,q2,q3⟩:=h;cases ez;cases rx;obtain⟨_,rfl,ra⟩:=rv.one;cases ra;obtain⟨d0,dm⟩:=yH I td;refine Ir F.slot_dict_get dm.typeIs F.entry_dict_get ?_ (F.args_dict_get_2 _ _);apply Hs (m:=dictGet d (.ref a));apply wpAny_dictGet_heap (knd:=G8 (G9 X.prog X.w)) (by show X.A.units+1<HF;lia) (y9 I hk) dm;cases e:Iw xs ks with
 |some p=>
  obtain⟨y,ry⟩:=q3 p e;exact Hy ⟨p.2,rfl,y,H,I.tok _,ry,q1 p y e ry⟩
 |none=>
  apply Hs (m:=Builtin.Dict.missed d (.ref a));exact wpAny_missed_other d0 (Hy ⟨.none,rfl,.non,H,I.tok _,rfl,q2 e⟩)
def g6 (I:Inv X pins σ H s)(h:yi X.K H d xs):s.TypeIs (.ref d) "dict" /\ ∀a,Value.ref d=.ref a->∃ob,s.heap.get? a=some ob/\ob.dict=none:=by
 obtain⟨_,o,es,g,ex,_⟩:=yr I h;exact⟨⟨o,g,ex.1⟩,λa e=>by cases e;exact⟨o,g,ex.2.1⟩⟩
noncomputable def ED(K:Qb)(r:V->List V->Hp->VK->Prop)(to:TE)(t:TA):TE:=λσ H Q=>to σ H λx H1=>(∃d xs,x=.ref d/\yi K H1 d xs)/\t σ H1 λvs H2=>r x vs H2 Q
def oN {id:String}(slot:Slot "dict" name id)(hty:typeOf (.builtin id)=pure (.type "method_descriptor"))(hm:et X id r)(ho:PE X o to)(ha:PA X (e::es) t)(hbase:HX o name X.env (eval o X.env)=eval o X.env)(hfew:((Hg cpos (Hh (e::es) X.env)).all (λx=>! x.1)&&(HY cpos (HZ [] X.env)).all (λx=>x.1.isSome)&&decide ((e::es).length+([]:List H0).length+(if([]:List H0).isEmpty then 0 else 1)<30))=true)(hline:(apos.endLine==cpos.line)=true)(hs:Hh (e::es) X.env=(false,eval e X.env)::Hh es X.env)(hplain:(Hg cpos (Hh es X.env)).any (·.1)=false):
  PE X (.Call (.Attribute o name apos) (e::es) [] cpos) (ED X.K r to t):=by
 intro pins s σ H Q I h;refine Ia hbase hfew hline rfl (aQ (ho pins s σ H _ I h) λv s1 ⟨x,H1,I1,r1,⟨d,xs,hx,td⟩,q1⟩=>?_);subst hx;cases r1;obtain⟨h1,h2⟩:=g6 I1 td;have hA:=ha cpos pins s1 σ H1 _ I1 q1;rw[hs]at hA;refine⟨"dict",id,PySem.F.plainAttrs_dict,slot,hty,h1,h2,?_⟩;rw[hs];refine Calls.callWith_builtin (show(false || (Hg cpos (Hh es X.env)).any (·.1))=false by rw[hplain];rfl) (Calls.evalArgs_plain (aQ hA λus s2 ⟨vs,H2,I2,r2,q2⟩=>?_));exact hm pins s2 σ H2 (.ref d) vs (.ref d) us Q I2 rfl r2 q2
end
section
variable{prog:GT}{w:GV}{A:Hc}{E:Value->GU->Prop}{s:GU}{it d:Addr}{i n:Nat}{od:Obj}{es:Array DictEntry}
def uh (at_:s.heap.IsValIter it d i n n)(g:s.heap.get? d=some od)(dat:od.data=.dict es n)(sz:es.size=n)(hi:i<n)(end':∀h',h'.IsValIter it d (i+1) n n->Wc it s.heap h'->R (some (es[i]'(by lia)).val) {s with heap:=h' }):He (Hf prog w) A (Hw (.ref it)) R E s:=by
 obtain⟨o,go,co,fo⟩:=id at_;have ty:=at_.typeIs;unfold Hw;apply Hs;apply IR;apply Iq ty F.slot_dict_valueiterator_next;refine Ir F.slot_dict_valueiterator_next ty F.entry_dict_valueiterator_next ?_ (F.args_dict_valueiterator_next_1 _);refine Hs (Hy (Hs (Hs (Hs (Jd ty (Hy ?_))))));refine Hs (Jb go fo ?_);have no:Builtin.Dict_items.ownsTuple "dict_valueiterator"=false:=by decide
 simp only[no,QT,if_false];change He _ _ (ite ((Value.ref d==Value.none)=true) _ _) _ _ s;rw[show(Value.ref d==Value.none)=false from rfl,Ji QS];refine Hs (Hy (Hs (Iy g dat ?_)));rw[sz,Ji (by simp)];refine Hs (Hy (Hs (Iz g dat ?_)));rw[Ji (by simp)];apply Hy;have hi':i<es.size:=by lia
 simp only[show ¬(i:Int)<0 from by lia,if_false,Va,W6 hi'];refine Hs (Hs (Jd ty (Hy (Hs (Je ty ?_)))));apply Hs (m:=setField (.ref it) 1 (Hz ((i:Int)+1)));apply IZ go fo (by simp);have nx:(s.heap.update it (Obj.mapFields (·.setIfInBounds 1 (Hz ((i:Int)+1))))).IsValIter it d (i+1) n n:=by
  refine⟨_,WC _ go (Obj.isFreed_of_fields (Obj.data_mapFields fo _)),by rw[Obj.cls_mapFields];exact co,?_⟩;rw[Obj.data_mapFields fo];simp[Hz]
 refine Hs (Ht (Hs (Je nx.typeIs (Hs (Je nx.typeIs ?_)))));exact Hy (Hy ⟨_,rfl,Hy (end' _ nx (Wc.update ..))⟩)
def ug (quiet:A.handled=none)(at_:s.heap.IsValIter it d i n n)(g:s.heap.get? d=some od)(dat:od.data=.dict es n)(sz:es.size=n)(hi:n<=i)(end':∀h',Heap.ExtBut it s.heap h'->R none {s with heap:=h' }):He (Hf prog w) A (Hw (.ref it)) R E s:=by
 obtain⟨o,go,co,fo⟩:=id at_;have ty:=at_.typeIs;unfold Hw;apply Hs;apply IR;apply Iq ty F.slot_dict_valueiterator_next;refine Ir F.slot_dict_valueiterator_next ty F.entry_dict_valueiterator_next ?_ (F.args_dict_valueiterator_next_1 _);refine Hs (Hy (Hs (Hs (Hs (Jd ty (Hy ?_))))));refine Hs (Jb go fo ?_);have no:Builtin.Dict_items.ownsTuple "dict_valueiterator"=false:=by decide
 simp only[no,QT,if_false];change He _ _ (ite ((Value.ref d==Value.none)=true) _ _) _ _ s;rw[show(Value.ref d==Value.none)=false from rfl,Ji QS];refine Hs (Hy (Hs (Iy g dat ?_)));rw[sz,Ji (by simp)];refine Hs (Hy (Hs (Iz g dat ?_)));rw[Ji (by simp)];apply Hy;simp only[show ¬(i:Int)<0 from by lia,if_false,Va,VO (show es.size<=i by lia)];refine Hs (Hs (Jd ty (Hy ?_)));exact oO quiet go fo (by rw[no];exact Nat.zero_lt_succ 3) end'
def uf (vw:s.heap.IsValuesView v d)(g:s.heap.get? d=some od)(dat:od.data=.dict es n)(sz:es.size=n)(end':R (.ref s.heap.objs.size) {s with heap:=s.heap.push {cls:=.type "dict_valueiterator",data:=.fields #[.ref d,.int 0 0,.int n 0,.int n 0]} }):He (Hf prog w) A (pyIter (.ref v)) R E s:=by
 obtain⟨ov,gv,cv,fv⟩:=id vw;apply wpAny_pyIter_slot vw.typeIs F.slot_dict_values_iter;refine Ir F.slot_dict_values_iter vw.typeIs F.entry_dict_values_iter ?_ (F.args_dict_values_iter_1 _);unfold Builtin.«dict_values.__iter__» Builtin.Dict_items.dictOf Builtin.Dict_items.newIterator;refine Hs (Hy (Hs (Hs (wpAny_field gv fv (x:=.ref d) rfl (Hy ?_)))));refine Hs (Hs (Iy g dat (Hs (Iz g dat ?_))));have no:Builtin.Dict_items.ownsTuple "dict_valueiterator"=false:=by decide
 simp only[no,QT,if_false];refine Im (Hy ⟨_,rfl,"dict_valueiterator",_,⟨_,Qw _ rfl,rfl⟩,F.slot_dict_valueiterator_next.lookup,?_⟩);rw[sz];exact end'
end
section
variable{X:Cx}
noncomputable def g7(v d:Addr):HO:=.ext λh=>h.IsValuesView v d
noncomputable def ue(K:Qb):V->List V->Hp->VK->Prop:=λx vs H Q=>∃d xs,x=.ref d/\vs=[]/\yi K H d xs/\∀v,H v=none->Q (.ref v) (aE H v (g7 v d))
def BZ:et X "dict.values" (ue X.K):=by
 intro pins s σ H x vs v us Q I rx rv h;obtain⟨d,xs,rfl,rfl,td,q⟩:=h;cases rx;cases rv;obtain⟨d0,dm⟩:=yH I td;refine Ir F.slot_dict_values dm.typeIs F.entry_dict_values ?_ (F.args_dict_values_1 _);apply Hs (m:=Builtin.Dict.noArgs _ _);unfold Builtin.Dict.noArgs;apply Hs;apply Iu dm.typeIs;apply Hy (a:=d);apply Hs (m:=Builtin.Dict.showsAll d);unfold Builtin.Dict.showsAll;rw[d0];apply Hy;refine Hs (Im (Hy ⟨_,rfl,.ref s.heap.objs.size,aE H s.heap.objs.size (g7 s.heap.objs.size d),I.laid (t':=s.toks) (λb u e=>Qe _ e) (Qf _) ?_,rfl,q _ I.fresh⟩));refine⟨⟨_,Qw _ rfl,rfl,rfl⟩,⟨_,Qw _ rfl⟩,λh1 h2 hx k=>?_⟩;obtain⟨o,a1,r⟩:=hx;exact⟨o,k o a1,r⟩
noncomputable def i8(K:Qb)(r:V->List V->Hp->VK->Prop)(to:TE):TE:=λσ H Q=>to σ H λx H1=>(∃d xs,x=.ref d/\yi K H1 d xs)/\r x [] H1 Q
def uF {id:String}(slot:Slot "dict" name id)(hty:typeOf (.builtin id)=pure (.type "method_descriptor"))(hm:et X id r)(ho:PE X o to)(hbase:HX o name X.env (eval o X.env)=eval o X.env)(hline:(apos.endLine==cpos.line)=true):PE X (.Call (.Attribute o name apos) [] [] cpos) (i8 X.K r to):=by
 intro pins s σ H Q I h;refine wpAny_Call_method0_late hbase hline (aQ (ho pins s σ H _ I h) λv s1 ⟨x,H1,I1,r1,⟨d,xs,hx,td⟩,q1⟩=>?_);subst hx;cases r1;obtain⟨h1,h2⟩:=g6 I1 td;exact⟨"dict",id,PySem.F.plainAttrs_dict,slot,hty,h1,h2,Calls.callWith_builtin rfl (PySem.evalArgs_none (hm pins s1 σ H1 (.ref d) [] (.ref d) [] Q I1 rfl .nil q1))⟩
def uE (quiet:A.handled=none)(it d:Addr)(hne:d≠it)(od:Obj)(es:Array DictEntry)(n:Nat)(dat:od.data=.dict es n)(sz:es.size=n):
  Walks prog w A it [it,d] [it] n (λi v=>∃e,es[i]?=some e/\v=e.val) (λi h=>h.IsValIter it d i n n/\h.get? d=some od) where
 sub:=by simp
 frame:=λi h h' st k=>by
  obtain⟨⟨o,a,b⟩,c⟩:=st;exact⟨⟨o,k it (by simp) o a,b⟩,k d (by simp) od c⟩
 item:=λi s Q E hi st fin=>by
  refine uh st.1 st.2 dat sz hi λh' st' sb=>?_;exact fin _ h' s.toks ⟨es[i]'(by lia),by simp[show i<es.size by lia],rfl⟩ ⟨st',(sb.2 d hne).trans st.2⟩ λb o hb e=>(sb.2 b (by simpa using hb)).trans e
 done:=λs Q E st fin=>ug quiet st.1 st.2 dat sz (Qf _) λh' eb=>fin h' s.toks λb o hb e=>eb b o (by simpa using hb) e
 self:=λ_ _ _ _ st fin=>wpAny_pyIter_valiter st.1 fin
def DM(hc:X.calm=true):bj X (.builtin "sum") (λus H Q=>∃(v d:Addr) (xs:List TK) (ns:List Int),us=[.ref v]/\H v=some (g7 v d)/\yi X.K H d xs/\ax (ns.map V.int) (xs.map (·.2.2))/\Q (.int ns.sum) H):=by
 intro pins s σ H us ws Q I r h;obtain⟨v,d,xs,ns,rfl,hv,td,rn,q⟩:=h;obtain⟨u,rfl,rx⟩:=xZ r;cases rx;obtain⟨_,od,es,g,ex,dat,sz,rows⟩:=yr I td;have vw:s.heap.IsValuesView v d:=(I.hok v _ hv).1;have hlen:=rn.length;have hlt:=Qi g;refine call_sum_walkG (uf vw g dat sz ?_);refine⟨s.heap.objs.size,_,_,_,_,_,λi=>ns.getD i 0,rfl,uE (A:=X.A.in1) (I.ok.hd hc) s.heap.objs.size d (QI hlt) od es xs.length dat sz,⟨⟨_,Qw _ rfl,rfl,rfl⟩,Qe _ g⟩,?_,?_,λh' tk t' hk=>?_⟩
 .intro b hb;have h1:s.heap.objs.size<(s.heap.push {cls:=.type "dict_valueiterator",data:=.fields #[.ref d,.int 0 0,.int xs.length 0,.int xs.length 0]}).objs.size:=Qi (Qw _ rfl);have:b=s.heap.objs.size\/b=d:=by simpa using hb
  rcases this with rfl|rfl
  .exact h1
  .exact Nat.lt_trans hlt h1
 .rintro i _ ⟨e,he,rfl⟩;have hi:i<xs.length:=by rw[<-sz];exact(W4.mp he).1
  have e2:=rows i _ (Qz hi);rw[he]at e2;obtain rfl:=Option.some.inj e2;obtain⟨y,hy,ry⟩:=rn.at (i:=i) (u:=xs[i].2.2) (by rw[Qu,Qz hi];rfl);rw[Qu]at hy;cases hb:ns[i]? with
  |none=>rw[hb]at hy;cases hy
  |some b=>
   rw[hb]at hy;cases hy;obtain⟨t,ht⟩:=(ry:∃t,xs[i].2.2=.int b t);have e:ns.getD i 0=b:=by rw[QL,hb];rfl
   exact⟨t,by show xs[i].2.2=Value.int (ns.getD i 0) t;rw[e,ht]⟩
 .have e:xs.length=ns.length:=by simp at hlen;lia
  rw[e,xp ns ns.length (Qf _),Vc];exact⟨.int ns.sum,H,I.kept (t':=tk) λb o e=>hk b o (λhb=>by
   have:b=s.heap.objs.size:=by simpa using hb
   exact Jj (Qi e) (by rw[this];exact Wk _)) (Qe _ e),⟨t',rfl⟩,q⟩
end
end L2
namespace PySem
open Sem (wp)
open AutoSeq1 (wpAny_loadPart')
end PySem
namespace L2
open PySem PySem.Spec PyProof.Rows
end L2
namespace Mini
open PySem PySem.Spec PyProof.Rows L2
section
variable{K:Qb}{as:List Addr}{H:Hp}{m:Me}{Q:VK}
def jx{b:Bool}{r:Rz}(h:ak K as H Q (match b with|true=>r|false=>.no)):b=true/\ak K as H Q r:=by
 cases b with
 |true=>exact⟨rfl,h⟩
 |false=>exact h.elim
def v6 (hk:k=.get\/k=.sum)(h:fD k w m=true):∃l ks ws,w=.ref l/\m[l]?=some (.dct ks ws):=by
 have go:∀{w:Wd},(match w with |.ref l=>(match m[l]? with|some (.dct _ _)=>true|_=>false)|_=>false)=true->∃l ks ws,w=.ref l/\m[l]?=some (.dct ks ws):=λ{w} h=>by
  cases w with
  |ref l=>
   cases e:m[l]? with
   |none=>simp[e]at h
   |some o=>
    cases o with
    |lst xs=>simp[e]at h
    |dct ks ws=>exact⟨l,ks,ws,rfl,e⟩
  |_=>cases h
 cases k with
 |get=>exact go h
 |sum=>exact go h
 |_=>rcases hk with e|e<;>cases e
def xG (S:aH K as m H)(hm:m[l]?=some (.dct ks ws))(R:ag K as H (.ref l) v):∃a xs vs,v=.ref a/\as[l]?=some a/\yi K H a xs/\xs.map (·.1)=ks/\ab K as H ws vs/\ax vs (xs.map (·.2.2)):=by
 obtain⟨a,ha,rfl⟩:=aD.mp R;obtain⟨a',xs,vs,ha',td,e,r,rv,_⟩:=vK S hm;rw[ha]at ha';cases ha';exact⟨a,xs,vs,rfl,ha,td,e,r,rv⟩
theorem jy:∀{xs:List TK}{ws:List Wd}{q:List Int},xs.length=ws.length->bO (xs.map (·.1)) ws q=none->Iw xs q=none
 |[],_,_,_,_=>rfl
 |x::xs,[],q,h,_=>by cases h
 |x::xs,w::ws,q,h,e=>by
  have e':(if x.1=q then some w else bO (xs.map (·.1)) ws q)=none:=e;by_cases c:x.1=q
  .rw[Jh c]at e';cases e'
  .rw[Ji c]at e';have:=jy (by simpa using h) e';simpa [Iw,WK,c]using this
def g8 (S:aH K as m H)(R:ag K as H x v)(R':ag K as H y u)(R2:ag K as H z t)(h:ak K as H Q (jg .get x y z m)):iI K v [u,t] H Q:=by
 unfold jg at h;cases x with
 |ref l=>
  dsimp only at h;cases e:m[l]? with
  |none=>rw[e]at h;exact h.elim
  |some o=>
   cases o with
   |lst ys=>rw[e]at h;exact h.elim
   |dct ks ws=>
    rw[e]at h;dsimp only at h;obtain⟨a,xs,vs,rfl,ha,td,rfl,r,rv⟩:=xG S e R;cases ek:jf y with
    |none=>rw[ek]at h;exact h.elim
    |some k=>
     rw[ek]at h;dsimp only at h;obtain⟨b,rfl,qb⟩:=vZ ek R';have hl:xs.length=ws.length:=by have h1:=r.length;have h2:=rv.length;simp at h2;lia
     refine⟨a,b,k,xs,t,rfl,rfl,qb,td,λp z1 hp rz=>?_,λhn=>?_,λp hp=>?_⟩
     .cases ew:bO (xs.map (·.1)) ws k with
      |none=>rw[jy hl ew]at hp;cases hp
      |some w=>
       rw[ew]at h;obtain⟨p',z',h1,h2,h3⟩:=v5 r rv ew;rw[hp]at h1;cases h1;rw[rz.inj h2];exact h.ok S h3
     .cases ew:bO (xs.map (·.1)) ws k with
      |none=>rw[ew]at h;exact h.ok S R2
      |some w=>
       obtain⟨p',z',h1,h2,h3⟩:=v5 r rv ew;rw[hn]at h1;cases h1
     .cases ew:bO (xs.map (·.1)) ws k with
      |none=>rw[jy hl ew]at hp;cases hp
      |some w=>
       obtain⟨p',z',h1,h2,h3⟩:=v5 r rv ew;rw[hp]at h1;cases h1;exact⟨z',h2⟩
 |_=>exact h.elim
end
section
variable{cl:Nat->List Wd->Me->Rz}{X:Cx}{a b c:Ex}{x y z:Expr}{pos:Pos}
def Do (hu:X.A.units+64<HF)(ha:PE X x (aG X.K (ae cl a)))(hb:PE X y (aG X.K (ae cl b)))(hc:PE X z (aG X.K (ae cl c)))(hx:yj x=true)(hl:(ap.endLine==pos.line)=true)(hs:zh y=true)(hs':zh z=true):
  PE X (.Call (.Attribute x "get" ap) [y,z] [] pos) (aG X.K (ae cl (.dop .get a b c))):=by
 have hall:[y,z].all zh=true:=by simp[hs,hs']
 refine PE.imp (oN PySem.F.slot_dict_get PySem.F.type_dict_get (B4 hu) ha (zy hb (zy hc yh (zf hs')) (zf hs)) (bB hx) (ju hall (by simp)) hl (zf hs) (zB (by simp[hs']))) λσ H Q h=>?_;obtain⟨as,env,m,S,G,P⟩:=h;refine⟨as,env,m,S,G,ak.bind P λw m1 as1 H1 v T1 S1 R1 P1=>?_⟩;obtain⟨hd,P1⟩:=jx P1;obtain⟨l,ks,ws,rfl,hm⟩:=v6 (by simp) hd;obtain⟨a1,xs,vs,rfl,_,td,_⟩:=xG S1 hm R1;refine⟨⟨a1,xs,rfl,td⟩,as1,env,m1,S1,G.mono S T1,ak.bind P1 λy m2 as2 H2 u T2 S2 R2 P2=>?_⟩;refine⟨as2,env,m2,S2,(G.mono S T1).mono S1 T2,ak.bind P2 λz m3 as3 H3 t T3 S3 R3 P3=>?_⟩;exact g8 S3 ((R1.mono S1 T2).mono S2 T3) (R2.mono S2 T3) R3 P3
def DG (hu:X.A.units+64<HF)(ha:PE X x (aG X.K (ae cl a)))(hb:PE X y (aG X.K (ae cl b)))(hx:yj x=true)(hl:(ap.endLine==pos.line)=true)(hs:zh y=true):
  PE X (.Call (.Attribute x "get" ap) [y] [] pos) (aG X.K (ae cl (.dop .get a b (.lit .non)))):=by
 have hall:[y].all zh=true:=by simp[hs]
 refine PE.imp (oN PySem.F.slot_dict_get PySem.F.type_dict_get (Dp hu) ha (zy hb yh (zf hs)) (bB hx) (ju hall (by simp)) hl (zf hs) (zB (by simp))) λσ H Q h=>?_;obtain⟨as,env,m,S,G,P⟩:=h;refine⟨as,env,m,S,G,ak.bind P λw m1 as1 H1 v T1 S1 R1 P1=>?_⟩;obtain⟨hd,P1⟩:=jx P1;obtain⟨l,ks,ws,rfl,hm⟩:=v6 (by simp) hd;obtain⟨a1,xs,vs,rfl,_,td,_⟩:=xG S1 hm R1;refine⟨⟨a1,xs,rfl,td⟩,as1,env,m1,S1,G.mono S T1,ak.bind P1 λy m2 as2 H2 u T2 S2 R2 P2=>?_⟩;exact⟨u,rfl,g8 S2 (R1.mono S1 T2) R2 (am.mpr rfl) P2⟩
def BY (hc:X.calm=true)(ha:PE X x (aG X.K (ae cl a)))(hg:Gl X "sum")(hm:X.mg "sum"=none)(hx:yj x=true)(hl:(ap.endLine==p2.line)=true):
  PE X (.Call (.Name "sum" p1) [.Call (.Attribute x "values" ap) [] [] p2] [] pos) (aG X.K (ae cl (.dop .sum a .unit .unit))):=by
 refine PE.imp (yy (DM hc) hg hm PyProof.Rows.boot_sum (zy (uF PySem.F.slot_dict_values PySem.F.type_dict_values BZ ha (bB hx) hl) yh)) λσ H Q h=>?_;obtain⟨as,env,m,S,G,P⟩:=h;refine⟨as,env,m,S,G,ak.bind P λw m1 as1 H1 v T1 S1 R1 P1=>?_⟩;obtain⟨hd,P1⟩:=jx P1;obtain⟨l,ks,ws,rfl,hm⟩:=v6 (by simp) hd;obtain⟨a1,xs,vs,rfl,ha1,td,_,r,rv⟩:=xG S1 hm R1;refine⟨⟨a1,xs,rfl,td⟩,a1,xs,rfl,rfl,td,λq hq=>?_⟩;have P2:ak X.K as1 H1 Q (jg .sum (.ref l) (.tup []) (.tup []) m1):=P1;have P3:ak X.K as1 H1 Q (match m1[l]? with
  |some (.dct _ ws)=>match km ws with
   |some i=>.ok (.int i) m1
   |none=>.no
  |_=>.no):=P2
 rw[hm]at P3;dsimp only at P3;cases es:km ws with
 |none=>rw[es]at P3;exact P3.elim
 |some i=>
  rw[es]at P3;have U:Step as1 H1 as1 (aE H1 q (g7 q a1)):=Step.updD .refl hq;have S2:aH X.K as1 m1 (aE H1 q (g7 q a1)):=S1.keep U λb _ o e=>by rw[za (zm e hq)];exact e
  obtain⟨a2,xs2,vs2,e2,ha2,td2,_,r2,rv2⟩:=xG S2 hm (R1.mono S1 U);cases e2;obtain⟨ns,rfl,rfl⟩:=jr r2 es;exact⟨q,a1,xs2,ns,rfl,ze,td2,rv2,(ak.step P3 U).ok S2 (aa.mpr rfl)⟩
end
end Mini
namespace L2
open PySem PySem.Spec PyProof.Rows
end L2
namespace Mini
open PySem PySem.Spec PyProof.Rows L2
section
variable{cl:Nat->List Wd->Me->Rz}{X:Cx}{a b c:Ex}{x y z:Expr}{pos:Pos}
theorem rK [DecidableEq α]:∀{ks:List α}{i j:Nat},gb k ks i=some j->i<=j/\ks[j-i]?=some k/\∀p,p<j-i->ks[p]?≠some k
 |[],i,j,h=>by cases h
 |x::ks,i,j,h=>by
  have h':(if x=k then some i else gb k ks (i+1))=some j:=h;by_cases e:x=k
  .rw[Jh e]at h';cases h';refine⟨Qf _,by simp[e],λp hp=>by lia⟩
  .rw[Ji e]at h';obtain⟨h1,h2,h3⟩:=rK h';obtain⟨q,hq⟩:∃q,j-i=q+1:=⟨j-(i+1),by lia⟩;have hq':j-(i+1)=q:=by lia
   rw[hq']at h2 h3;refine⟨by lia,by rw[hq];simpa using h2,λp hp=>?_⟩;cases p with
   |zero=>simpa using e
   |succ p=>simpa using h3 p (by lia)
noncomputable def ud(K:Qb):V->List V->Hp->VK->Prop:=λv vs H Q=>∃(as:List Addr) (m:Me) (l:Nat) (ws:List Wd) (y:Wd) (u:V) (bs:List Bool) (j:Nat),aH K as m H/\ag K as H (.ref l) v/\m[l]?=some (.lst ws)/\vs=[u]/\ag K as H y u/\cL (λw=>bM m zS w y) ws=some bs/\bs[j]?=some true/\(∀i,i<j->bs[i]?≠some true)/\Q (.int j) H
theorem rJ:∀{ws:List α}{bs:List Bool},cL p ws=some bs->bs.length=ws.length/\∀(i:Nat) w,ws[i]?=some w->∃b,bs[i]?=some b/\p w=some b
 |[],bs,h=>by cases h;exact⟨rfl,λi w h=>by simp at h⟩
 |x::r,bs,h=>by
  unfold cL at h;cases h1:p x with
  |none=>simp[h1]at h
  |some c=>
   cases h2:cL p r with
   |none=>simp[h1,h2]at h
   |some cs=>
    rw[h1,h2]at h;cases h;obtain⟨q1,q2⟩:=rJ h2;refine⟨by simp[q1],λi w hw=>?_⟩;cases i with
    |zero=>cases hw;exact⟨c,rfl,h1⟩
    |succ i=>simpa using q2 i w (by simpa using hw)
def BX(hu:X.A.units+64<HF):im X "list.index" (ud X.K):=by
 intro pins s σ H x vs v us Q I rx rv h;obtain⟨as,m,l,ws,y,u,bs,j,S,R,hm,rfl,R',hb,hj,hno,q⟩:=h;obtain⟨a,ha,rfl⟩:=aD.mp R;obtain⟨a',se,ha',eH,RL⟩:=zG S hm;rw[ha]at ha';cases ha';cases rx;obtain⟨u',rfl,ru⟩:=rv.one;obtain⟨z,its,n,r,hl,e⟩:=I.lstM eH;obtain⟨q1,q2⟩:=rJ hb;have hlen:=RL.length;have hz:(sizeLine:Int)<2^63-1:=by decide
 have each:∀i (hi:i<its.length),∃w b v,ws[i]?=some w/\se[i]?=some v/\RelV v its[i]/\ag X.K as H w v/\bs[i]?=some b/\bM m zS w y=some b:=λi hi=>by
  have h1:i<ws.length:=by lia
  obtain⟨v,e1,r1⟩:=RL.get (i:=i) (x:=ws[i]) (by simp[h1]);obtain⟨b,e2,e3⟩:=q2 i ws[i] (by simp[h1]);obtain⟨u1,e4,e5⟩:=r.get e1;rw[Qz hi]at e4;cases e4;exact⟨ws[i],b,v,by simp[h1],e1,e5,r1,e2,e3⟩
 have jl:j<its.length:=by
  have:=(Qa.mp hj).1;lia
 let f:Value->Bool:=λy=>@decide (∃i:Nat,its[i]?=some y/\bs[i]?=some true) (Classical.propDecidable _)
 have hf:∀i (hi:i<its.length) b,bs[i]?=some b->f its[i]=b:=λi hi b hb'=>by
  cases b with
  |true=>exact @Jk _ (Classical.propDecidable _) ⟨i,by simp[hi],hb'⟩
  |false=>
   refine @Jg _ (Classical.propDecidable _) ?_;rintro⟨i',h1,h2⟩;obtain⟨hi',h1⟩:=Qa.mp h1;obtain⟨w1,b1,v1,c1,c2,c3,c4,c5,c6⟩:=each i hi;obtain⟨w2,b2,v2,d1,d2,d3,d4,d5,d6⟩:=each i' hi';rw[h1]at d3;have ev:=c3.inj d3;subst ev;have ew:=xE I S _ _ _ c4 d4;subst ew;rw[c6]at d6;cases d6;rw[hb']at c5;cases c5;rw[h2]at d5;cases d5
 refine Ib F.slot_list_index ⟨_,e,rfl⟩ F.entry_list_index (F.args_list_index_2 _ _) (PySem.SeqAt.list_indexAt a its.toArray n none #[] u' f j (by simpa using jl) (by lia) (by simpa using hf j jl true hj) (λi hi hij=>?_)) ⟨e,λy' hy=>?_,?_⟩
 .obtain ⟨w1,b1,v1,c1,c2,c3,c4,c5,c6⟩:=each i (by simpa using hi);have:=hf i (by simpa using hi) b1 c5;have hb1:b1=false:=by
   cases b1 with
   |false=>rfl
   |true=>exact Jj c5 (hno i hij)
  rw[hb1]at this;simpa using this
 .obtain ⟨i,hi,rfl⟩:=WY.mp (show y'∈its by simpa using hy);obtain⟨w1,b1,v1,c1,c2,c3,c4,c5,c6⟩:=each i hi;rw[hf i hi b1 c5];exact(gh I S zS X.A.in1 _ _ _ _ _ _ _ (by show X.A.units+1+12<HF;lia) c6 c4 R' c3 ru).it
 .exact ⟨.int j,H,I.tok _,⟨_,rfl⟩,q⟩
def uD (hu:X.A.units+64<HF)(ha:PE X x (aG X.K (ae cl a)))(hb:PE X y (aG X.K (ae cl b)))(hx:yj x=true)(hl:(ap.endLine==pos.line)=true)(hs:zh y=true):
  PE X (.Call (.Attribute x "index" ap) [y] [] pos) (aG X.K (ae cl (.dop .lix a b .unit))):=by
 have hall:[y].all zh=true:=by simp[hs]
 refine PE.imp (oT PySem.F.plainAttrs_list PySem.F.slot_list_index PySem.F.type_list_index (BX hu) ha (zy hb yh (zf hs)) (bB hx) (ju hall (by simp)) hl (zf hs) (zB (by simp))) λσ H Q h=>?_;obtain⟨as,env,m,S,G,P⟩:=h;refine⟨as,env,m,S,G,ak.bind P λw m1 as1 H1 v T1 S1 R1 P1=>?_⟩;obtain⟨hd,P1⟩:=jx P1;refine⟨pk S1 R1 (pz hd),as1,env,m1,S1,G.mono S T1,ak.bind P1 λy m2 as2 H2 u T2 S2 R2 P2=>?_⟩;have P3:ak X.K as2 H2 Q (jg .lix w y (.tup []) m2):=P2;cases w with
 |ref l=>
  have P4:ak X.K as2 H2 Q (match ((zi m2 l).bind (cL λw=>bM m2 zS w y)).bind λbs=>gb true bs 0 with
   |some j=>.ok (.int (j:Nat)) m2
   |none=>.no):=P3
  cases hr:zi m2 l with
  |none=>rw[hr]at P4;exact P4.elim
  |some ws=>
   rw[hr]at P4;simp only[Q6]at P4;cases he:cL (λw=>bM m2 zS w y) ws with
   |none=>rw[he]at P4;exact P4.elim
   |some bs=>
    rw[he]at P4;simp only[Q6]at P4;cases hi:gb true bs 0 with
    |none=>rw[hi]at P4;exact P4.elim
    |some j=>
     rw[hi]at P4;obtain⟨_,h2,h3⟩:=rK hi;rw[Nat.sub_zero]at h2 h3;exact⟨as2,m2,l,ws,y,u,bs,j,S2,R1.mono S1 T2,zw hr,rfl,R2,he,h2,h3,P4.ok S2 (aa.mpr rfl)⟩
 |_=>exact P3.elim
end
end Mini
namespace L2
open PySem PySem.Spec PyProof.Rows
open PySem.W (KatTups KatLex KatGo kat_lt kat_cons kat_nil kat_go kat_yes kat_no kat_kind)
end L2
namespace L2
open PySem PySem.Spec PyProof.Rows
open PySem.SeqAt PySem.MeetsSeq PySem.MeetsSeq2 PySem.MeetsSeq3
open PySem.W (KatTups KatLex KatGo kat_lt kat_cons kat_nil kat_go kat_yes kat_no)
end L2
namespace L2
open PySem PySem.Spec PyProof.Rows
end L2
namespace PySem
end PySem
namespace L2
open PySem PySem.Spec PyProof.Rows
end L2
namespace Mini
open PySem PySem.Spec PyProof.Rows L2
end Mini
namespace L2
open PySem PySem.Spec PyProof.Rows
end L2
namespace L2
open PySem PySem.Spec PyProof.Rows
open PySem.W (KatTups KatLex KatGo kat_lt kat_cons kat_nil kat_go kat_yes kat_no kat_kind)
end L2
namespace L2
open PySem PySem.Spec PyProof.Rows
end L2
namespace Mini
open PySem PySem.Spec PyProof.Rows L2
section
variable{cl:Nat->List Wd->Me->Rz}
def bH.pe (h:bH cl X e (.e x))(hr:zg e=false):PE X x (aG X.K (ae cl e)):=(h.1 hr).1
def bH.pt (h:bH cl X e (.e x))(hr:zg e=false)(hi:wv e=false):PT X x (yI X.K (ae cl e)):=(h.1 hr).2.1 hi
def bH.pw (h:bH cl X e (.e (.BoolOp op vs pos)))(hr:zg e=false):PW X (.BoolOp op vs pos) (yI X.K (ae cl e)):=(h.1 hr).2.2 op vs pos rfl
def bH.pa (h:bH cl X e (.a xs)):PA X xs (vT X.K (ae cl e)):=h
def v7 (h:gO sc x=true):eR sc x:=by
 unfold gO at h;simp only[W0,Jm]at h;exact h
def yJ (h:cu sc x=true):sc.names.lookup x=some .globalImplicit:=Jl h
def wz {K:Qb}(hv:∀as H,ag K as H w v):∀σ H Q,aG K (ae cl (.lit w)) σ H Q->tC v σ H Q:=λσ H Q h=>by
 obtain⟨as,env,m,S,G,P⟩:=h;exact ak.ok (m:=m) P S (hv as H)
def yt (hs:zW y=true):∀v,HA y env v=pure v:=λv=>by
 cases y<;>first|rfl|cases hs
structure aw(C:Ctx)(sc:GR)(N:List Str)(e:Ex)(n:Nd):Prop where
 h:∀(cl:Nat → List Wd → Me → Rz) (d:Nat) (X:Cx),bF C X cl d → X.env.scope=sc → X.N=N → bH cl X e n
def zu (h:aw C sc N e n):∀X:Cx,bF C X cl d->X.env.scope=sc->X.N=N->bH cl X e n:=h.h cl d
def aw.«var»{C:Ctx}{sc:GR}{N:List Str}{i:Nat}{x:Str}{p:Pos}(h1:N[i]?=some x)(h2:gO sc x=true)(h3:zV x=true):aw C sc N (.var i) (.e (.Name x p)):=by
 constructor;intro cl d;intro X hC es eN;subst es;subst eN;obtain⟨n1,n2,_⟩:=yq h3;refine bH.of (PE.imp (vu h1 (v7 h2) n1 n2) λσ H Q q=>?_);obtain⟨as,env,m,S,G,P⟩:=q;cases hw:env[i]? with
 |none=>have P':ak X.K as H Q (match env[i]? with|some (some w)=>.ok w m|_=>.no):=P;rw[hw]at P';exact P'.elim
 |some o=>
  cases o with
  |none=>have P':ak X.K as H Q (match env[i]? with|some (some w)=>.ok w m|_=>.no):=P;rw[hw]at P';exact P'.elim
  |some w=>
   have P':ak X.K as H Q (match env[i]? with|some (some w)=>.ok w m|_=>.no):=P;rw[hw]at P';obtain⟨v,hv,R⟩:=G.get i w hw;exact⟨v,hv,ak.ok (m:=m) P' S R⟩
def aw.«non»{C:Ctx}{sc:GR}{N:List Str}{k}{p:Pos}:aw C sc N (.lit .non) (.e (.Constant .none k p)):=by
 constructor;intro cl d;intro X hC es eN;exact bH.of (PE.imp At (wz λ_ _=>am.mpr rfl))
def aw.«bl»{C:Ctx}{sc:GR}{N:List Str}{b:Bool}{k}{p:Pos}:aw C sc N (.lit (.bl b)) (.e (.Constant (.bool b) k p)):=by
 constructor;intro cl d;intro X hC es eN;exact bH.of (PE.imp Al (wz λ_ _=>ai.mpr rfl))
def aw.«int»{C:Ctx}{sc:GR}{N:List Str}{i:Int}{k}{p:Pos}:aw C sc N (.lit (.int i)) (.e (.Constant (.int i) k p)):=by
 constructor;intro cl d;intro X hC es eN;exact bH.of (PE.imp Au (wz λ_ _=>aa.mpr rfl))
def aw.«str»{C:Ctx}{sc:GR}{N:List Str}{s:Str}{t:List Nat}{k}{p:Pos}(h:s.cps.toList=t):aw C sc N (.lit (.str t)) (.e (.Constant (.str s) k p)):=by
 constructor;intro cl d;intro X hC es eN;subst h;exact bH.of (PE.imp vv (wz λ_ _=>ay.mpr (by simp)))
def aw.«con»{C:Ctx}{sc:GR}{N:List Str}{x:Str}{i:Int}{p:Pos}(h1:cu sc x=true)(h2:C.cons.lookup x=some i)(h3:zV x=true):aw C sc N (.lit (.int i)) (.e (.Name x p)):=by
 constructor;intro cl d;intro X hC es eN;subst es;obtain⟨n1,n2,_⟩:=yq h3;obtain⟨t,ht⟩:=hC.con.1 x i h2;exact bH.of (PE.imp (p8 (yJ h1) ht (v:=.int i) ⟨t,rfl⟩ n1) (wz λ_ _=>aa.mpr rfl))
def aw.«bin»{C:Ctx}{sc:GR}{N:List Str}{op:Bo}{a b:Ex}{x y:Expr}{p:Pos}(ra:zg a=false)(ha:aw C sc N a (.e x))(rb:zg b=false)(hb:aw C sc N b (.e y)):aw C sc N (.bin op a b) (.e (.BinOp x (eL op) y p)):=by
 constructor;intro cl d;have iha:=ha.h cl d;have ihb:=hb.h cl d;intro X hC es eN;exact bH.of (uR ((iha X hC es eN).pe ra) ((ihb X hC es eN).pe rb))
def aw.«neg»{C:Ctx}{sc:GR}{N:List Str}{a:Ex}{x:Expr}{p:Pos}(ra:zg a=false)(ha:aw C sc N a (.e x)):aw C sc N (.neg a) (.e (.UnaryOp .USub x p)):=by
 constructor;intro cl d;have iha:=ha.h cl d;intro X hC es eN;exact bH.of (uQ ((iha X hC es eN).pe ra))
def aw.«not»{C:Ctx}{sc:GR}{N:List Str}{a:Ex}{x:Expr}{p:Pos}(ra:zg a=false)(ia:wv a=false)(ha:aw C sc N a (.e x)):aw C sc N (.not a) (.e (.UnaryOp .Not x p)):=by
 constructor;intro cl d;have iha:=ha.h cl d;intro X hC es eN;have s1:=iha X hC es eN;exact⟨λ_=>⟨pE (s1.pe ra),λ_=>uP (s1.pt ra ia),λop vs pos z=>by cases z⟩,λtg=>wZ (pE (s1.pe ra))⟩
def aw.«and2»{C:Ctx}{sc:GR}{N:List Str}{a b:Ex}{x y:Expr}{p:Pos}(ra:zg a=false)(ia:wv a=false)(ha:aw C sc N a (.e x))(rb:zg b=false)(ib:wv b=false)(hb:aw C sc N b (.e y)):aw C sc N (.and a b) (.e (.BoolOp .And [x,y] p)):=by
 constructor;intro cl d;have iha:=ha.h cl d;have ihb:=hb.h cl d;intro X hC es eN;have sa:=iha X hC es eN;have sb:=ihb X hC es eN;have e:=λ(p:Pos)=>pD (pos:=p) (sa.pe ra) (pM (sb.pe rb));have w:=λ(p:Pos)=>pC (pos:=p) (sa.pt ra ia) (CO (sb.pt rb ib));exact⟨λ_=>⟨e _,λ_=>(w _).pt,λop vs pos z=>by cases z;exact w _⟩,λtg=>wZ (e _)⟩
def aw.«andN»{C:Ctx}{sc:GR}{N:List Str}{a b:Ex}{x y z:Expr}{r:List Expr}{p:Pos}(ra:zg a=false)(ia:wv a=false)(ha:aw C sc N a (.e x))(rb:zg b=false)(hb:aw C sc N b (.e (.BoolOp .And (y::z::r) p))):aw C sc N (.and a b) (.e (.BoolOp .And (x::y::z::r) p)):=by
 constructor;intro cl d;have iha:=ha.h cl d;have ihb:=hb.h cl d;intro X hC es eN;have sa:=iha X hC es eN;have sb:=ihb X hC es eN;have e:=pD (sa.pe ra) (sb.pe rb);have w:=pC (sa.pt ra ia) (sb.pw rb);exact⟨λ_=>⟨e,λ_=>w.pt,λop vs pos z=>by cases z;exact w⟩,λtg=>wZ e⟩
def aw.«or2»{C:Ctx}{sc:GR}{N:List Str}{a b:Ex}{x y:Expr}{p:Pos}(ra:zg a=false)(ia:wv a=false)(ha:aw C sc N a (.e x))(rb:zg b=false)(ib:wv b=false)(hb:aw C sc N b (.e y)):aw C sc N (.or a b) (.e (.BoolOp .Or [x,y] p)):=by
 constructor;intro cl d;have iha:=ha.h cl d;have ihb:=hb.h cl d;intro X hC es eN;have sa:=iha X hC es eN;have sb:=ihb X hC es eN;have e:=λ(p:Pos)=>um (pos:=p) (sa.pe ra) (pM (sb.pe rb));have w:=λ(p:Pos)=>ip (pos:=p) (sa.pt ra ia) (Ar (sb.pt rb ib));exact⟨λ_=>⟨e _,λ_=>(w _).pt,λop vs pos z=>by cases z;exact w _⟩,λtg=>wZ (e _)⟩
def aw.«cmp»{C:Ctx}{sc:GR}{N:List Str}{op:Co}{a b:Ex}{x y:Expr}{p:Pos}(hs:zW y=true)(ra:zg a=false)(ha:aw C sc N a (.e x))(rb:zg b=false)(hb:aw C sc N b (.e y)):aw C sc N (.cmp op a b) (.e (.Compare x [cK op] [y] p)):=by
 constructor;intro cl d;have iha:=ha.h cl d;have ihb:=hb.h cl d;intro X hC es eN;have ea:=(iha X hC es eN).pe ra;have eb:=(ihb X hC es eN).pe rb;exact⟨λ_=>⟨pB hC.room.units ea eb hs,λ_=>uO hC.room.units ea eb hs,λop vs pos z=>by cases z⟩,λtg=>wZ (pB hC.room.units ea eb hs)⟩
def aw.«chain»{C:Ctx}{sc:GR}{N:List Str}{o q:Co}{a b c:Ex}{x y z:Expr}{p:Pos}(hs:zW z=true)(ra:zg a=false)(ha:aw C sc N a (.e x))(rb:zg b=false)(hb:aw C sc N b (.e y))(rc:zg c=false)(hc:aw C sc N c (.e z)):aw C sc N (.chain o q a b c) (.e (.Compare x [cK o,cK q] [y,z] p)):=by
 constructor;intro cl d;have iha:=ha.h cl d;have ihb:=hb.h cl d;have ihc:=hc.h cl d;intro X hC es eN;have ea:=(iha X hC es eN).pe ra;have eb:=(ihb X hC es eN).pe rb;have ec:=(ihc X hC es eN).pe rc;exact⟨λ_=>⟨gT hC.room.units ea eb ec hs,λ_=>Dy hC.room.units ea eb ec hs,λop vs pos z=>by cases z⟩,λtg=>wZ (gT hC.room.units ea eb ec hs)⟩
def aw.«ife»{C:Ctx}{sc:GR}{N:List Str}{a b c:Ex}{x y z:Expr}{p:Pos}(rc:zg c=false)(ic:wv c=false)(hc:aw C sc N c (.e x))(ra:zg a=false)(ha:aw C sc N a (.e y))(rb:zg b=false)(hb:aw C sc N b (.e z)):aw C sc N (.ife c a b) (.e (.IfExp x y z p)):=by
 constructor;intro cl d;have ihc:=hc.h cl d;have iha:=ha.h cl d;have ihb:=hb.h cl d;intro X hC es eN;have e:=λ(p:Pos)=>uN (pos:=p) ((ihc X hC es eN).pt rc ic) ((iha X hC es eN).pe ra) ((ihb X hC es eN).pe rb);exact⟨λ_=>⟨e _,λz=>(by cases z),λop vs pos z=>(by cases z)⟩,λtg=>wZ (e _)⟩
def aw.«unit»{C:Ctx}{sc:GR}{N:List Str}:aw C sc N .unit (.a []):=by
 constructor;intro cl d;intro X hC es eN;exact Bn
def aw.«pair»{C:Ctx}{sc:GR}{N:List Str}{a b:Ex}{x:Expr}{xs:List Expr}(hs:zh x=true)(ra:zg a=false)(ha:aw C sc N a (.e x))(hb:aw C sc N b (.a xs)):aw C sc N (.pair a b) (.a (x::xs)):=by
 constructor;intro cl d;have iha:=ha.h cl d;have ihb:=hb.h cl d;intro X hC es eN;exact Bm ((iha X hC es eN).pe ra) (ihb X hC es eN).pa hs
def aw.«call»{C:Ctx}{sc:GR}{N:List Str}{k:Nat}{a:Ex}{f:Str}{y:Expr}{ys:List Expr}{p p':Pos}(h1:C.fns[k]?=some f)(h2:cu sc f=true)(h3:zV f=true)(hs:(y::ys).all zh=true)(ha:aw C sc N a (.a (y::ys))):aw C sc N (.call k a) (.e (.Call (.Name f p) (y::ys) [] p')):=by
 constructor;intro cl d;have iha:=ha.h cl d;intro X hC es eN;subst es;exact bH.of (Bl hC h1 (yJ h2) h3 hs (iha X hC rfl eN).pa)
def aw.«blt»{C:Ctx}{sc:GR}{N:List Str}{b:df}{a:Ex}{nm:Str}{f:Value}{y:Expr}{ys:List Expr}{p p':Pos}(h1:fA b=some (nm,f))(h2:cu sc nm=true)(h3:zV nm=true)(hs:(y::ys).all zh=true)(ha:aw C sc N a (.a (y::ys))):aw C sc N (.blt b a) (.e (.Call (.Name nm p) (y::ys) [] p')):=by
 constructor;intro cl d;have iha:=ha.h cl d;intro X hC es eN;subst es;exact bH.of (uM hC h1 (yJ h2) h3 hs (iha X hC rfl eN).pa)
def aw.«isi»{C:Ctx}{sc:GR}{N:List Str}{t:Tg}{a:Ex}{y:Expr}{p p' p'':Pos}(h1:cu sc "isinstance"=true)(h2:cu sc (Str.ofString (cr t))=true)(hs:zh y=true)(ra:zg a=false)(ha:aw C sc N a (.e y)):aw C sc N (.isi t a) (.e (.Call (.Name "isinstance" p) [y,.Name (Str.ofString (cr t)) p'] [] p'')):=by
 constructor;intro cl d;have iha:=ha.h cl d;intro X hC es eN;subst es;exact bH.of (uL hC (yJ h1) (yJ h2) hs ((iha X hC rfl eN).pe ra))
def aw.«lst»{C:Ctx}{sc:GR}{N:List Str}{a:Ex}{xs:List Expr}{p:Pos}(ha:aw C sc N a (.a xs)):aw C sc N (.lst a) (.e (.List xs p)):=by
 constructor;intro cl d;have iha:=ha.h cl d;intro X hC es eN;exact bH.of (uK (iha X hC es eN).pa)
def aw.«tup»{C:Ctx}{sc:GR}{N:List Str}{a:Ex}{xs:List Expr}{k}{p:Pos}(ha:aw C sc N a (.a xs)):aw C sc N (.tup a) (.e (.Tuple xs k p)):=by
 constructor;intro cl d;have iha:=ha.h cl d;intro X hC es eN;exact bH.of (uJ (iha X hC es eN).pa)
def aw.«idx»{C:Ctx}{sc:GR}{N:List Str}{a b:Ex}{x y:Expr}{p:Pos}(hs:zY y=true)(ra:zg a=false)(ha:aw C sc N a (.e x))(rb:zg b=false)(hb:aw C sc N b (.e y)):aw C sc N (.idx a b) (.e (.Subscript x y p)):=by
 constructor;intro cl d;have iha:=ha.h cl d;have ihb:=hb.h cl d;intro X hC es eN;exact bH.of (uI ((iha X hC es eN).pe ra) ((ihb X hC es eN).pe rb) hs)
def aw.«dict0»{C:Ctx}{sc:GR}{N:List Str}{p:Pos}:aw C sc N .dict0 (.e (.Dict [] [] p)):=by
 constructor;intro cl d;intro X hC es eN;exact bH.of Ds
def aw.«dget»{C:Ctx}{sc:GR}{N:List Str}{a b:Ex}{x y:Expr}{p:Pos}(hs:zY y=true)(ra:zg a=false)(ha:aw C sc N a (.e x))(rb:zg b=false)(hb:aw C sc N b (.e y)):aw C sc N (.dget a b) (.e (.Subscript x y p)):=by
 constructor;intro cl d;have iha:=ha.h cl d;have ihb:=hb.h cl d;intro X hC es eN;exact bH.of (Bd hC.room.units ((iha X hC es eN).pe ra) ((ihb X hC es eN).pe rb) hs)
def aw.«dcon»{C:Ctx}{sc:GR}{N:List Str}{x1 y1 x2 y2 x3 y3 x4 y4:Int}{dn nm:Str}{p pd pn:Pos}{i:Nat}{k1 k2 k3 k4:List Nat}(nd:[k1,k2,k3,k4].Nodup)(g1:cu sc dn=true)(g2:C.dcs.lookup dn=some [(k1,x1,y1),(k2,x2,y2),(k3,x3,y3),(k4,x4,y4)])(g3:zV dn=true)(h1:N[i]?=some nm)(h2:gO sc nm=true)(h3:zV nm=true):
   aw C sc N (.idx (ko (cx x1 y1) (cx x2 y2) (cx x3 y3) (cx x4 y4)) (gc i k1 k2 k3 k4)) (.e (.Subscript (.Name dn pd) (.Name nm pn) p)):=by
 constructor;intro cl d;intro X hC es eN;subst es;subst eN;obtain⟨n1,n2,_⟩:=yq h3;obtain⟨m1,_,_⟩:=yq g3;simp only[QA,Qk,Wi,not_or,or_false]at nd;obtain⟨⟨mj,m13,m14⟩,⟨m23,m24⟩,m34,_⟩:=nd;obtain⟨a,ha,hD⟩:=hC.con.2 _ _ g2;exact bH.of (Ba mj m13 m14 m23 m24 m34 (p8 (yJ g1) ha (v:=.ref a) rfl m1) hD (vu h1 (v7 h2) n1 n2))
def aw.«dgetM»{C:Ctx}{sc:GR}{N:List Str}{a b c:Ex}{x y z:Expr}{ap cp:Pos}(hx:yj x=true)(hl:(ap.endLine==cp.line)=true)(hs:zh y=true)(hs':zh z=true)(ra:zg a=false)(ha:aw C sc N a (.e x))(rb:zg b=false)(hb:aw C sc N b (.e y))(rc:zg c=false)(hc:aw C sc N c (.e z)):aw C sc N (.dop .get a b c) (.e (.Call (.Attribute x "get" ap) [y,z] [] cp)):=by
 constructor;intro cl d;have iha:=ha.h cl d;have ihb:=hb.h cl d;have ihc:=hc.h cl d;intro X hC es eN;exact bH.of (Do hC.room.units ((iha X hC es eN).pe ra) ((ihb X hC es eN).pe rb) ((ihc X hC es eN).pe rc) hx hl hs hs')
def aw.«dgetN»{C:Ctx}{sc:GR}{N:List Str}{a b:Ex}{x y:Expr}{ap cp:Pos}(hx:yj x=true)(hl:(ap.endLine==cp.line)=true)(hs:zh y=true)(ra:zg a=false)(ha:aw C sc N a (.e x))(rb:zg b=false)(hb:aw C sc N b (.e y)):aw C sc N (.dop .get a b (.lit .non)) (.e (.Call (.Attribute x "get" ap) [y] [] cp)):=by
 constructor;intro cl d;have iha:=ha.h cl d;have ihb:=hb.h cl d;intro X hC es eN;exact bH.of (DG hC.room.units ((iha X hC es eN).pe ra) ((ihb X hC es eN).pe rb) hx hl hs)
def aw.«dlix»{C:Ctx}{sc:GR}{N:List Str}{a b:Ex}{x y:Expr}{ap cp:Pos}(hx:yj x=true)(hl:(ap.endLine==cp.line)=true)(hs:zh y=true)(ra:zg a=false)(ha:aw C sc N a (.e x))(rb:zg b=false)(hb:aw C sc N b (.e y)):aw C sc N (.dop .lix a b .unit) (.e (.Call (.Attribute x "index" ap) [y] [] cp)):=by
 constructor;intro cl d;have iha:=ha.h cl d;have ihb:=hb.h cl d;intro X hC es eN;exact bH.of (uD hC.room.units ((iha X hC es eN).pe ra) ((ihb X hC es eN).pe rb) hx hl hs)
def aw.«dsum»{C:Ctx}{sc:GR}{N:List Str}{a:Ex}{x:Expr}{ap p p1 p2:Pos}(hg:cu sc "sum"=true)(hx:yj x=true)(hl:(ap.endLine==p2.line)=true)(ra:zg a=false)(ha:aw C sc N a (.e x)):aw C sc N (.dop .sum a .unit .unit) (.e (.Call (.Name "sum" p1) [.Call (.Attribute x "values" ap) [] [] p2] [] p)):=by
 constructor;intro cl d;have iha:=ha.h cl d;intro X hC es eN;exact bH.of (BY hC.calm ((iha X hC es eN).pe ra) (by rw[<-es]at hg;exact yJ hg) (hC.blt _ (by simp[zn])) hx hl)
def aw.«meth»{C:Ctx}{sc:GR}{N:List Str}{k:dh}{o a:Ex}{x y:Expr}{ys:List Expr}{ap cp:Pos}(hx:yj x=true)(hl:(ap.endLine==cp.line)=true)(hn:(y::ys).length<29)(hs:(y::ys).all zh=true)(ro:zg o=false)(ho:aw C sc N o (.e x))(ha:aw C sc N a (.a (y::ys))):aw C sc N (.meth k o a) (.e (.Call (.Attribute x (eM k).1 ap) (y::ys) [] cp)):=by
 constructor;intro cl d;have iho:=ho.h cl d;have iha:=ha.h cl d;intro X hC es eN;exact bH.of (Bh ((iho X hC es eN).pe ro) (iha X hC es eN).pa hx hl hn hs)
def aw.«rng1»{C:Ctx}{sc:GR}{N:List Str}{b:Ex}{y:Expr}{p p':Pos}(hg:cu sc "range"=true)(hs:zh y=true)(rb:zg b=false)(hb:aw C sc N b (.e y)):aw C sc N (.rng (.lit (.int 0)) b (.lit (.int 1))) (.e (.Call (.Name "range" p) [y] [] p')):=by
 constructor;intro cl d;have ihb:=hb.h cl d;intro X hC es eN;subst es;exact⟨λz=>(by cases z),λtg=>Bg hC (yJ hg) hs ((ihb X hC rfl eN).pe rb)⟩
def aw.«rng2»{C:Ctx}{sc:GR}{N:List Str}{a b:Ex}{x y:Expr}{p p':Pos}(hg:cu sc "range"=true)(hs:zh x=true)(hs':zh y=true)(ra:zg a=false)(ha:aw C sc N a (.e x))(rb:zg b=false)(hb:aw C sc N b (.e y)):aw C sc N (.rng a b (.lit (.int 1))) (.e (.Call (.Name "range" p) [x,y] [] p')):=by
 constructor;intro cl d;have iha:=ha.h cl d;have ihb:=hb.h cl d;intro X hC es eN;subst es;exact⟨λz=>(by cases z),λtg=>Bf hC (yJ hg) hs hs' ((iha X hC rfl eN).pe ra) ((ihb X hC rfl eN).pe rb)⟩
def aw.«comp0»{C:Ctx}{sc scope:GR}{N:List Str}{elt it:Ex}{x i:Expr}{y:Str}{p p':Pos}(hs:zW i=true)(hB:bz sc N scope [y]=true)(hi:aw C sc N it (.e i))(re:zg elt=false)(he:aw C (zA scope sc) (zL N [y]) elt (.e x)):aw C sc N (.comp elt it (.lit (.bl true))) (.e (.ListComp x [⟨.Name y p,i,[],0⟩] scope p')):=by
 constructor;intro cl d;have ihi:=hi.h cl d;have ihe:=he.h cl d;intro X hC es eN;subst es;subst eN;have B:=zC hB;have hI:=(ihi X hC rfl rfl).2 (.Name y p);have hset:∀v,HA i X.env v=pure v:=yt hs;have body:∀Xc,bh X scope [y] Xc->PE Xc x (aG X.K (ae cl elt)):=λXc c=>by
  have q:=(ihe Xc (hC.comp c) c.sc c.N).pe re;rw[c.K]at q;exact q
 refine bH.of (PE.imp (xD B hC.calm (vm B) hI (λXc c=>⟨x6,body Xc c⟩) hset) λσ H Q q=>wQ (λσ H Q q=>?_) q);obtain⟨as,env,m,S,G,P⟩:=q;obtain⟨b,e,q⟩:=ak.ok (m:=m) P S (ai.mpr rfl);cases e;exact q
def aw.«comp1»{C:Ctx}{sc scope:GR}{N:List Str}{elt it cond:Ex}{x i f:Expr}{y:Str}{p p':Pos}(hs:zW i=true)(hB:bz sc N scope [y]=true)(hi:aw C sc N it (.e i))(rc:zg cond=false)(ic:wv cond=false)(hc:aw C (zA scope sc) (zL N [y]) cond (.e f))(re:zg elt=false)(he:aw C (zA scope sc) (zL N [y]) elt (.e x)):aw C sc N (.comp elt it cond) (.e (.ListComp x [⟨.Name y p,i,[f],0⟩] scope p')):=by
 constructor;intro cl d;have ihi:=hi.h cl d;have ihc:=hc.h cl d;have ihe:=he.h cl d;intro X hC es eN;subst es;subst eN;have B:=zC hB;have hI:=(ihi X hC rfl rfl).2 (.Name y p);have hset:∀v,HA i X.env v=pure v:=yt hs;have body:∀Xc,bh X scope [y] Xc->PE Xc x (aG X.K (ae cl elt)):=λXc c=>by
  have q:=(ihe Xc (hC.comp c) c.sc c.N).pe re;rw[c.K]at q;exact q
 refine bH.of (PE.imp (xD B hC.calm (vm B) hI (λXc c=>⟨vl ?_,body Xc c⟩) hset) λσ H Q q=>wQ (λσ H Q q=>q) q);have q:=(ihc Xc (hC.comp c) c.sc c.N).pt rc ic;rw[c.K]at q;exact q
def aw.«compZ0»{C:Ctx}{sc scope:GR}{N:List Str}{elt a b:Ex}{x i j:Expr}{y z:Str}{p p' q q' q2 pt:Pos}{kt:Nat}(hg:cu sc "zip"=true)(hB:bz sc N scope [y,z]=true)(hs:zh i=true)(hs':zh j=true)(ra:zg a=false)(ha:aw C sc N a (.e i))(rb:zg b=false)(hb:aw C sc N b (.e j))(re:zg elt=false)(he:aw C (zA scope sc) (zL N [y,z]) elt (.e x)):
   aw C sc N (.compP .zip elt a b (.lit (.bl true))) (.e (.ListComp x [⟨.Tuple [.Name y p,.Name z q] kt pt,.Call (.Name "zip" q') [i,j] [] q2,[],0⟩] scope p')):=by
 constructor;intro cl d;have iha:=ha.h cl d;have ihb:=hb.h cl d;have ihe:=he.h cl d;intro X hC es eN;subst es;subst eN;have B:=zC hB;have hI:PI X (.Tuple [.Name y p,.Name z q] kt pt) (.Call (.Name "zip" q') [i,j] [] q2) _:=ph (yJ hg) (hC.blt _ (by simp[zn])) (zy ((iha X hC rfl rfl).pe ra) (zy ((ihb X hC rfl rfl).pe rb) yh (zf hs')) (zf hs)) (by rw[zf hs,zf hs'];rfl) (zf hs');have body:∀Xc,bh X scope [y,z] Xc->PE Xc x (aG X.K (ae cl elt)):=λXc c=>by
  have q:=(ihe Xc (hC.comp c) c.sc c.N).pe re;rw[c.K]at q;exact q
 refine bH.of (PE.imp (xD B hC.calm (x8 hC.calm B) hI (λXc c=>⟨x6,body Xc c⟩) (λ_=>rfl)) λσ H Q q=>vY (λσ H Q q=>?_) q);obtain⟨as,env,m,S,G,P⟩:=q;obtain⟨b,e,q⟩:=ak.ok (m:=m) P S (ai.mpr rfl);cases e;exact q
def aw.«compE0»{C:Ctx}{sc scope:GR}{N:List Str}{elt a:Ex}{x i:Expr}{y z:Str}{p p' q q' q2 pt:Pos}{kt:Nat}(hg:cu sc "enumerate"=true)(hB:bz sc N scope [y,z]=true)(hs:zh i=true)(ra:zg a=false)(ha:aw C sc N a (.e i))(re:zg elt=false)(he:aw C (zA scope sc) (zL N [y,z]) elt (.e x)):
   aw C sc N (.compP .enum elt a (.lit (.int 0)) (.lit (.bl true))) (.e (.ListComp x [⟨.Tuple [.Name y p,.Name z q] kt pt,.Call (.Name "enumerate" q') [i] [] q2,[],0⟩] scope p')):=by
 constructor;intro cl d;have iha:=ha.h cl d;have ihe:=he.h cl d;intro X hC es eN;subst es;subst eN;have B:=zC hB;have hI:PI X (.Tuple [.Name y p,.Name z q] kt pt) (.Call (.Name "enumerate" q') [i] [] q2) _:=vn (yJ hg) (hC.blt _ (by simp[zn])) (zy ((iha X hC rfl rfl).pe ra) yh (zf hs)) (zf hs);have body:∀Xc,bh X scope [y,z] Xc->PE Xc x (aG X.K (ae cl elt)):=λXc c=>by
  have q:=(ihe Xc (hC.comp c) c.sc c.N).pe re;rw[c.K]at q;exact q
 refine bH.of (PE.imp (xD B hC.calm (x8 hC.calm B) hI (λXc c=>⟨x6,body Xc c⟩) (λ_=>rfl)) λσ H Q q=>xW (c:=0) rfl (λσ H Q q=>?_) q);obtain⟨as,env,m,S,G,P⟩:=q;obtain⟨b,e,q⟩:=ak.ok (m:=m) P S (ai.mpr rfl);cases e;exact q
def aw.«compE1»{C:Ctx}{sc scope:GR}{N:List Str}{elt a cond:Ex}{x i f:Expr}{y z:Str}{p p' q q' q2 pt:Pos}{kt:Nat}(hg:cu sc "enumerate"=true)(hB:bz sc N scope [y,z]=true)(hs:zh i=true)(ra:zg a=false)(ha:aw C sc N a (.e i))(rc:zg cond=false)(ic:wv cond=false)(hc:aw C (zA scope sc) (zL N [y,z]) cond (.e f))(re:zg elt=false)(he:aw C (zA scope sc) (zL N [y,z]) elt (.e x)):
   aw C sc N (.compP .enum elt a (.lit (.int 0)) cond) (.e (.ListComp x [⟨.Tuple [.Name y p,.Name z q] kt pt,.Call (.Name "enumerate" q') [i] [] q2,[f],0⟩] scope p')):=by
 constructor;intro cl d;have iha:=ha.h cl d;have ihc:=hc.h cl d;have ihe:=he.h cl d;intro X hC es eN;subst es;subst eN;have B:=zC hB;have hI:PI X (.Tuple [.Name y p,.Name z q] kt pt) (.Call (.Name "enumerate" q') [i] [] q2) _:=vn (yJ hg) (hC.blt _ (by simp[zn])) (zy ((iha X hC rfl rfl).pe ra) yh (zf hs)) (zf hs);have body:∀Xc,bh X scope [y,z] Xc->PE Xc x (aG X.K (ae cl elt)):=λXc c=>by
  have q:=(ihe Xc (hC.comp c) c.sc c.N).pe re;rw[c.K]at q;exact q
 refine bH.of (PE.imp (xD B hC.calm (x8 hC.calm B) hI (λXc c=>⟨vl ?_,body Xc c⟩) (λ_=>rfl)) λσ H Q q=>xW (c:=0) rfl (λσ H Q q=>q) q);have q:=(ihc Xc (hC.comp c) c.sc c.N).pt rc ic;rw[c.K]at q;exact q
end
def pH:swappedStores [.Subscript o i p1] v env=pure none:=rfl
def jz (h:∀x p,tg≠.Name x p):swapsWithSole [tg] v line env=pure false:=by
 cases v<;>first|rfl|(cases tg<;>first|rfl|exact Jj rfl (h _ _))
noncomputable def v8:Expr->Bool
 |.ListComp _ _ _ _=>true
 |.SetComp _ _ _ _=>true
 |.DictComp _ _ _ _ _=>true
 |_=>false
def qX (h:v8 v=false):Hn v t line env=pure false:=by
 cases v<;>first|rfl|cases h
noncomputable def av(K:Qb)(as:List Addr)(H:Hp)(D:bJ)(r:Rs):Prop:=match r with
 |.next e m'=>∀as' H' σ',Step as H as' H'->aH K as' m' H'->aB K as' H' e σ'->D.nx σ' H'
 |.ret w m'=>∀as' H' v,Step as H as' H'->aH K as' m' H'->ag K as' H' w v->D.rt v H'
 |_=>False
noncomputable def yf(K:Qb)(g:En->Me->Rs):TS:=λD σ H=>∃as env m,aH K as m H/\aB K as H env σ/\av K as H D (g env m)
section
variable{K:Qb}{as as':List Addr}{H H':Hp}{m:Me}{D:bJ}
set_option tactic.hygienic true in
def av.step{r:Rs}(h:av K as H D r)(T:Step as H as' H'):av K as' H' D r:=by
 cases r with
 |next e m'=>exact λas2 H2 σ' U S G=>h as2 H2 σ' (T.trans U) S G
 |ret w m'=>exact λas2 H2 v U S R=>h as2 H2 v (T.trans U) S R
 |no=>exact h
def av.bind (h:av K as H D (r.bindS env f))(k:∀w m' as' H' v,Step as H as' H'->aH K as' m' H'->ag K as' H' w v->av K as' H' D (f w m')->Q1 v H'):ak K as H Q1 r:=by
 cases r with
 |ok w m'=>exact λas2 H2 v U S R=>k w m' as2 H2 v U S R (av.step (r:=f w m') h U)
 |no=>exact h
def av.bindI (h:av K as H D (r.bindS env f))(k:∀w m',av K as H D (f w m')->(yz m' w).isSome=true/\∀as' H' J,Step as H as' H'->aH K as' m' H'->og K as' H' w J->R1 J H'):bD K as H R1 r:=by
 cases r with
 |ok w m'=>exact k w m' h
 |no=>exact h
theorem av.next (h:av K as H D (.next env m))(S:aH K as m H)(G:aB K as H env σ):D.nx σ H:=h as H σ .refl S G
end
section
variable{cl:Nat->List Wd->Me->Rz}{X:Cx}{e o i:Ex}{x y z:Expr}{pos:Pos}
def BW:bW X [] (yf X.K (bi cl .skip)):=bW.imp CN λD σ H h=>by
 obtain⟨as,env,m,S,G,P⟩:=h;exact av.next (m:=m) P S G
set_option tactic.hygienic true in
def uC {st:Stmt}(ha:PS X st (yf X.K (bi cl a)))(hb:bW X sts (yf X.K (bi cl b))):bW X (st::sts) (yf X.K (bi cl (.seq a b))):=
 bW.imp (jU ha hb) λD σ H h=>by
  obtain⟨as,env,m,S,G,P⟩:=h;refine⟨as,env,m,S,G,?_⟩;have P':av X.K as H D (match bi cl a env m with |.next e1 m1=>bi cl b e1 m1|r=>r):=P;cases hr:bi cl a env m with
  |next e1 m1=>
   rw[hr]at P';exact λas' H' σ' T S' G'=>⟨as',e1,m1,S',G',av.step P' T⟩
  |ret w m1=>rw[hr]at P';exact P'
  |no=>rw[hr]at P';exact P'
def v9 {K:Qb}{i:Nat}(h:yf K (bi cl (.asg i e)) D σ H):e8 (aG K (ae cl e)) (yG i) D σ H:=by
 obtain⟨as,env,m,S,G,P⟩:=h;refine⟨as,env,m,S,G,av.bind P λw m1 as1 H1 v T1 S1 R1 P1=>?_⟩;exact av.next (m:=m1) P1 S1 ((G.mono S T1).set R1 i)
def uB(he:PE X x (aG X.K (ae cl e))):PS X (.Return (some x) pos) (yf X.K (bi cl (.ret e))):=PS.imp (pL he) λD σ H h=>by
 obtain⟨as,env,m,S,G,P⟩:=h;refine⟨as,env,m,S,G,av.bind P λw m1 as1 H1 v T1 S1 R1 P1=>?_⟩;exact P1 as1 H1 v .refl S1 R1
def BV(he:PE X x (aG X.K (ae cl e)))(hc:v8 x=false):PS X (.Expr x pos) (yf X.K (bi cl (.expr e))):=PS.imp (CM he (qX hc)) λD σ H h=>by
 obtain⟨as,env,m,S,G,P⟩:=h;refine⟨as,env,m,S,G,av.bind P λw m1 as1 H1 v T1 S1 R1 P1=>?_⟩;exact av.next (m:=m1) P1 S1 (G.mono S T1)
def DF{st:Stmt}:PS X st (yf X.K (bi cl .never)):=PS.imp D5 λD σ H h=>by
 obtain⟨as,env,m,S,G,P⟩:=h;exact P
def uc (hc:PT X x (yI X.K (ae cl e)))(ha:bW X xs (yf X.K (bi cl a)))(hb:bW X ys (yf X.K (bi cl b))):PS X (.If x xs ys pos) (yf X.K (bi cl (.ite e a b))):=
 PS.imp (Ae hc ha hb) λD σ H h=>by
  obtain⟨as,env,m,S,G,P⟩:=h;refine⟨as,env,m,S,G,av.bind P λw m1 as1 H1 v T1 S1 R1 P1=>?_⟩;cases w with
  |bl k=>
   obtain rfl:=ai.mp R1;refine⟨k,rfl,?_⟩;cases k with
   |true=>exact j4 ⟨as1,env,m1,S1,G.mono S T1,P1⟩
   |false=>exact j0 ⟨as1,env,m1,S1,G.mono S T1,P1⟩
  |_=>exact P1.elim
def DE {K:Qb}{o i:Wd}(S:aH K as m H)(Ro:ag K as H o vo)(Ri:ag K as H i vi)(Rw:ag K as H w v)(h:av K as H D ((je o i w m).bindS env f))(k:∀m' H',Step as H as H'->aH K as m' H'->av K as H' D (f .non m')->Q H'):iN vo vi v H Q:=by
 have key:∀r,je o i w m=r->(∃m',r=.ok .non m')\/r=.no:=λr e=>by
  unfold je at e;split at e
  .split at e
   .split at e
    .exact .inl ⟨_,e.symm⟩
    .exact .inr e.symm
   .exact .inr e.symm
  .exact .inr e.symm
 rcases key _ rfl with⟨m',e⟩|e
 .refine uX S Ro Ri Rw (λm2 e2 H' T S'=>?_) ⟨m',e⟩;rw[e]at e2;cases e2;rw[e]at h;exact k m' H' T S' (av.step (r:=f .non m') h T)
 .rw[e]at h;exact h.elim
def DL {K:Qb}{o i:Wd}(S:aH K as m H)(Ro:ag K as H o vo)(Ri:ag K as H i vi)(Rw:ag K as H w v)(h:av K as H D ((kI o i w m).bindS env f))(k:∀m' H',Step as H as H'->aH K as m' H'->av K as H' D (f .non m')->Q H'):oS K vo vi v H Q:=by
 unfold kI at h;cases o with
 |ref l=>
  obtain⟨a,ha,rfl⟩:=aD.mp Ro;dsimp only at h;cases e:m[l]? with
  |none=>rw[e]at h;exact h.elim
  |some ob=>
   cases ob with
   |lst ys=>rw[e]at h;exact h.elim
   |dct ks ws=>
    rw[e]at h;dsimp only at h;obtain⟨a',xs,vs,ha',td,ek,r,rv,nd⟩:=vK S e;rw[ha]at ha';cases ha';cases eq:jf i with
    |none=>rw[eq]at h;exact h.elim
    |some q=>
     rw[eq]at h;dsimp only at h;obtain⟨b,rfl,qb⟩:=vZ eq Ri;by_cases hl:ks.length<aF
     .rw[Jh hl]at h;refine⟨a,b,q,xs,rfl,rfl,qb,td,?_,λu ru=>?_⟩
      .rw[<-ek,QN]at hl;exact W3 hl
      .obtain ⟨T,S'⟩:=S.setD ha e td ek r rv nd qb Rw ru;exact k _ _ T S' (av.step (r:=f .non _) h T)
     .rw[Ji hl]at h;exact h.elim
 |_=>exact h.elim
def kc {o i:Expr}(hs:zY i=true):∀v,assign (.Subscript o i p) env v=(do
   let ov <-holding [v] (eval o env)
   let iv <-holding [v,ov] (eval i env)
   standAt p
   holding [v,ov,iv] (Hq ov iv v)
   release [v,ov,iv] []):=λv=>by
 cases i<;>first|rfl|cases hs
def BU (hu:X.A.units+64<HF)(ho:PE X x (aG X.K (ae cl (.var j))))(hi:PE X y (aG X.K (ae cl i)))(he:PE X z (aG X.K (ae cl e)))(hs:zY y=true):PS X (.Assign [.Subscript x y p1] z pos) (yf X.K (bi cl (.dput j i e))):=
 PS.imp (qu he (pK ho hi (tX hu) (kc hs)) (jz (by intros;intro q;cases q)) pH) λD σ H h=>by
  obtain⟨as,env,m,S,G,P⟩:=h;refine⟨as,env,m,S,G,av.bind P λw m1 as1 H1 v T1 S1 R1 P1=>?_⟩;refine⟨as1,env,m1,S1,G.mono S T1,av.bind P1 λwo m2 as2 H2 vo T2 S2 R2 P2=>?_⟩;refine⟨as2,env,m2,S2,(G.mono S T1).mono S1 T2,av.bind P2 λwi m3 as3 H3 vi T3 S3 R3 P3=>?_⟩;refine DL S3 (R2.mono S2 T3) R3 ((R1.mono S1 T2).mono S2 T3) P3 λm4 H4 T4 S4 P4=>?_;exact av.next (m:=m4) P4 S4 ((((G.mono S T1).mono S1 T2).mono S2 T3).mono S3 T4)
def BS (ho:PE X x (aG X.K (ae cl o)))(hi:PE X y (aG X.K (ae cl i)))(he:PE X z (aG X.K (ae cl e)))(hs:zY y=true):PS X (.Assign [.Subscript x y p1] z pos) (yf X.K (bi cl (.asgS o i e))):=
 PS.imp (qu he (pK ho hi Ek (kc hs)) (jz (by intros;intro q;cases q)) pH) λD σ H h=>by
  obtain⟨as,env,m,S,G,P⟩:=h;refine⟨as,env,m,S,G,av.bind P λw m1 as1 H1 v T1 S1 R1 P1=>?_⟩;refine⟨as1,env,m1,S1,G.mono S T1,av.bind P1 λwo m2 as2 H2 vo T2 S2 R2 P2=>?_⟩;refine⟨as2,env,m2,S2,(G.mono S T1).mono S1 T2,av.bind P2 λwi m3 as3 H3 vi T3 S3 R3 P3=>?_⟩;refine DE S3 (R2.mono S2 T3) R3 ((R1.mono S1 T2).mono S2 T3) P3 λm4 H4 T4 S4 P4=>?_;exact av.next (m:=m4) P4 S4 ((((G.mono S T1).mono S1 T2).mono S2 T3).mono S3 T4)
end
section
variable{cl:Nat->List Wd->Me->Rz}{X:Cx}{e i j:Ex}{x y z u v:Expr}{pos:Pos}
noncomputable def e7:Bo->Bool
 |.add=>true
 |.sub=>true
 |_=>false
noncomputable def oG:Bo->Int->Int->Int
 |.sub=>λi j=>i-j
 |_=>λi j=>i+j
noncomputable def oF:Bo->Int->Int->Prop
 |_=>λ_ _=>True
noncomputable def oE(op:Bo):fu:=λx y H Q=>∃i j,x=.int i/\y=.int j/\oF op i j/\Q (.int (oG op i j)) H
def io (h:e7 op=true):ik X (eL op) (oE op):=by
 intro pins s σ H x y v u Q I r1 r2 q;obtain⟨i,j,e1,e2,c,q⟩:=q;cases op with
 |add=>exact AV pins s σ H x y v u Q I r1 r2 ⟨i,j,e1,e2,q⟩
 |sub=>exact AU pins s σ H x y v u Q I r1 r2 ⟨i,j,e1,e2,q⟩
 |_=>cases h
def BR (h:e7 op=true){i j:Int}:(oF op i j/\ci op (.int i) (.int j) m=.ok (.int (oG op i j)) m)\/ci op (.int i) (.int j) m=.no:=by
 cases op with
 |add=>exact .inl ⟨trivial,rfl⟩
 |sub=>exact .inl ⟨trivial,rfl⟩
 |_=>cases h
def BQ {K:Qb}(hop:e7 op=true)(Rx:ag K as H wx vx)(Ry:ag K as H wy vy)(h:av K as H D (eW op wx wy m env f))(k:∀z,av K as H D (f (.int z) m)->Q (.int z) H):oE op vx vy H Q:=by
 cases wx with
 |int i=>
  cases wy with
  |int j=>
   have h':av K as H D ((ci op (.int i) (.int j) m).bindS env f):=h;rcases BR hop (i:=i) (j:=j) (m:=m)with⟨c,e⟩|e
   .rw[e]at h';exact⟨i,j,aa.mp Rx,aa.mp Ry,c,k _ h'⟩
   .rw[e]at h';exact h'.elim
  |_=>exact h.elim
 |_=>exact h.elim
set_option tactic.hygienic true in
def uA (hop:e7 op=true)(hN:X.N.Nodup)(hi:X.N[n]?=some nm)(hx:Loc X.env.scope nm)(hf:X.fn nm=true\/X.env.scope.names.lookup nm=some .local)(he:PE X x (aG X.K (ae cl e))):
  PS X (.AugAssign (.Name nm p1) (eL op) x pos) (yf X.K (bi cl (.aug n op e))):=PS.imp (AW hN hi hx he (io hop) hf) λD σ H h=>by
 obtain⟨as,env,m,S,G,P⟩:=h;have P':av X.K as H D (match env[n]? with
  |some (some x)=>(ae cl e env m).bindS env λy m1=>eW op x y m1 env λz m2=>.next (env.set n (some z)) m2
  |_=>.no):=P
 split at P'
 .rename_i wx hw;obtain⟨vx,hv,Rx⟩:=G.get n wx hw;refine⟨vx,hv,as,env,m,S,G,av.bind P' λwy m1 as1 H1 vy T1 S1 R1 P1=>?_⟩;refine BQ hop (Rx.mono S T1) R1 P1 λz P2=>?_;exact av.next (m:=m1) P2 S1 ((G.mono S T1).set (aa.mpr rfl) n)
 .exact P'.elim
end
section
variable{cl:Nat->List Wd->Me->Rz}{K:Qb}
structure cz(K:Qb)(g:TG)(st:Wd->En->Option En):Prop where
 ok:∀{as:List Addr}{H:Hp}{m:Me}{env env':En}{σ:St}{w:Wd}{v:V}{Q:L2.St->Hp->Prop},aH K as m H->aB K as H env σ->ag K as H w v->st w env=some env'->(∀σ',aB K as H env' σ'->Q σ' H)->g v σ H Q
def g9(i:Nat):cz K (yG i) (λw env=>some (env.set i (some w))):=
 ⟨λS G R e k=>by cases e;exact k _ (G.set R i)⟩
set_option tactic.hygienic true in
def ke(i j:Nat):cz K (fe K 2 (xY (yG i) (xY (yG j) ff))) (bN i j):=by
 refine⟨λ{as H m env env' σ w v Q} S G R e k=>?_⟩;unfold bN at e;split at e
 .rename_i a b;cases e;obtain⟨p,vs,rfl,hq,rr⟩:=ah.mp R;obtain⟨va,vb,rfl,ra,rb⟩:=qQ rr;exact⟨p,[va,vb],rfl,hq,rfl,va,[vb],rfl,vb,[],rfl,rfl,k _ ((G.set ra i).set rb j)⟩
 .cases e
set_option tactic.hygienic true in
def wA{g:TG}{st:Wd->En->Option En}{b:En->Me->Rs}(hg:cz K g st){D:bJ}{as1 as':List Addr}{H1 H':Hp}{m':Me}{env':En}{σ':St}{x:Wd}{v:V}{next:En->Me->Rs}{N:L2.St->Hp->Prop}(T:Step as1 H1 as' H')(S':aH K as' m' H')(G':aB K as' H' env' σ')(Rx:ag K as' H' x v)
  (Pt:av K as1 H1 D (match zz st b x env' m' with
    |.next e1 m1=>next e1 m1
    |r=>r))
  (hN:∀as2 m2 e2 σ2 H2,Step as' H' as2 H2->aH K as2 m2 H2->aB K as2 H2 e2 σ2->av K as1 H1 D (next e2 m2)->N σ2 H2) :
  g v σ' H' λσ2 H2=>yf K b {D with nx:=N,ct:=N,bk:=D.nx} σ2 H2:=by
 unfold zz at Pt;cases hs:st x env' with
 |none=>rw[hs]at Pt;exact Pt.elim
 |some e2=>
  rw[hs]at Pt;simp only[]at Pt;refine hg.ok S' G' Rx hs λσ2 G2=>⟨as',e2,m',S',G2,?_⟩;cases hr:b e2 m' with
  |next e3 m3=>rw[hr]at Pt;exact λas3 H3 σ3 U S3 G3=>hN as3 m3 e3 σ3 H3 U S3 G3 Pt
  |ret w' m3=>rw[hr]at Pt;exact λas3 H3 v3 U S3 R3=>Pt as3 H3 v3 (T.trans U) S3 R3
  |no=>rw[hr]at Pt;exact Pt.elim
def qc {st:Wd->En->Option En}(hg:cz K g st)(h:yf K (λenv m=>(it env m).bindS env λw m1=>eB (zz st b) w env m1) D σ H):fG (eP K it) g (yf K b) D σ H:=by
 obtain⟨as,env,m,S,G,P⟩:=h;refine⟨as,env,m,S,G,av.bindI P λw m1 P1=>?_⟩;have seqs:∀(xs:List Wd),av K as H D (xr (zz st b) xs env m1)->∀as1 H1 J,Step as H as1 H1->aH K as1 m1 H1->fS K as1 H1 J xs ->
   ∃W:Nat->Nat->L2.St->Hp->Prop,(∃m,W 0 m σ H1)/\∀i m σ H,W i m σ H ->
    (J.stop i H/\D.nx σ H)\/(J.go i H/\∃N:L2.St->Hp->Prop,(∀σ' H',N σ' H'->∃m',m'<m/\W (i+1) m' σ' H')/\∀x H',J.yld i H x H'->g x σ H' λσ2 H2=>yf K b {D with nx:=N,ct:=N,bk:=D.nx} σ2 H2):=by
  intro xs Pc as1 H1 J T1 S1 hI;obtain⟨vs,ok,hJ,fq,RL,stab⟩:=hI;have hlen:=RL.length;have Pc1:=av.step Pc T1;refine⟨λi n σ' H'=>∃as' m' env',i<=xs.length/\n=xs.length-i/\Step as1 H1 as' H'/\aH K as' m' H'/\aB K as' H' env' σ'/\ok H'/\ab K as' H' xs vs/\av K as1 H1 D (xr (zz st b) (xs.drop i) env' m'),
   ⟨xs.length,as1,m1,env,Ww _,rfl,.refl,S1,G.mono S T1,fq,RL,Pc1⟩,?_⟩
  rintro i n σ' H' ⟨as',m',env',hi,rfl,T',S',G',okH,RL',Pi⟩;by_cases hlt:i<xs.length
  .refine .inr ⟨hJ.go i H' okH (by rw[<-hlen];exact hlt),λσ2 H2=>∃as2 m2 env2,i+1<=xs.length/\Step as1 H1 as2 H2/\aH K as2 m2 H2/\aB K as2 H2 env2 σ2/\ok H2/\ab K as2 H2 xs vs/\av K as1 H1 D (xr (zz st b) (xs.drop (i+1)) env2 m2),?_,λv H'' hy=>?_⟩
   .rintro σ2 H2 ⟨as2,m2,env2,q⟩;exact⟨xs.length-(i+1),by lia,as2,m2,env2,q.1,rfl,q.2⟩
   .obtain ⟨rfl,hv⟩:=hJ.yld i H' v H'' okH (by rw[<-hlen];exact hlt) hy;obtain⟨v',hv',Rx⟩:=RL'.get (i:=i) (x:=xs[i]) (by simp[hlt]);rw[hv]at hv';cases hv';rw[QM hlt]at Pi;refine wA hg (next:=λe m=>xr (zz st b) (xs.drop (i+1)) e m) T' S' G' Rx Pi ?_;intro as2 m2 e2 σ2 H2 U S2 G2 P2;exact⟨as2,m2,e2,hlt,T'.trans U,S2,G2,stab _ _ (S'.kp U) okH,RL'.mono S' U,P2⟩
  .have e:i=xs.length:=by lia
   subst e;rw[WV]at Pi;exact .inl ⟨hJ.stop _ H' okH (by lia),Pi as' H' σ' T' S' G'⟩
 cases w with
 |tup xs=>exact⟨rfl,λas1 H1 J T1 S1 hI=>seqs xs P1 as1 H1 J T1 S1 hI⟩
 |rol xs=>exact⟨rfl,λas1 H1 J T1 S1 hI=>seqs xs P1 as1 H1 J T1 S1 hI⟩
 |ref l=>
  have P2:av K as H D (xt (zz st b) l (aF+1) 0 env m1):=P1;refine⟨?_,λas1 H1 J T1 S1 hI=>?_⟩
  .show (zi m1 l).isSome=true;cases e:zi m1 l with
   |some xs=>rfl
   |none=>
    unfold xt at P2;rw[e]at P2;exact P2.elim
  .obtain ⟨a,ha,rfl⟩:=hI;have Pc1:=av.step P2 T1;refine⟨λi n σ' H'=>∃as' m' env',as'[l]?=some a/\Step as1 H1 as' H'/\aH K as' m' H'/\aB K as' H' env' σ'/\av K as1 H1 D (xt (zz st b) l n i env' m'),⟨aF+1,as1,m1,env,ha,.refl,S1,G.mono S T1,Pc1⟩,?_⟩;rintro i n σ' H' ⟨as',m',env',hl,T',S',G',Pi⟩;cases n with
   |zero=>exact Pi.elim
   |succ n=>
    unfold xt at Pi;cases e:zi m' l with
    |none=>rw[e]at Pi;exact Pi.elim
    |some xs=>
     rw[e]at Pi;simp only[]at Pi;obtain⟨a',vs,ha',eH,RL⟩:=zG S' (zw e);rw[hl]at ha';cases ha';cases ex:xs[i]? with
     |none=>
      rw[ex]at Pi;have hle:vs.length<=i:=by rw[<-RL.length];exact QV.mp ex
      exact .inl ⟨⟨vs,bg.of eH,hle⟩,Pi as' H' σ' T' S' G'⟩
     |some x=>
      rw[ex]at Pi;obtain⟨v0,hv0,Rx⟩:=RL.get ex;refine .inr ⟨⟨vs,v0,bg.of eH,hv0⟩,λσ2 H2=>∃as2 m2 env2,as2[l]?=some a/\Step as1 H1 as2 H2/\aH K as2 m2 H2/\aB K as2 H2 env2 σ2/\av K as1 H1 D (xt (zz st b) l n (i+1) env2 m2),?_,λv H'' hy=>?_⟩
      .rintro σ2 H2 q;exact⟨n,Wj _,q⟩
      .obtain ⟨rfl,hy⟩:=hy;have:=hy vs (bg.of eH);rw[hv0]at this;cases this;refine wA hg (next:=λe m=>xt (zz st b) l n (i+1) e m) T' S' G' Rx Pi ?_;intro as2 m2 e2 σ2 H2 U S2 G2 P2;exact⟨as2,m2,e2,U.get hl,T'.trans U,S2,G2,P2⟩
 |non=>exact P1.elim
 |bl k=>exact P1.elim
 |int i=>exact P1.elim
 |str s=>exact P1.elim
def DK (hg:cz K g (bN i j))(hJ:jv K as1 H1 J gz)(S1:aH K as1 m1 H1)(G1:aB K as1 H1 env σ)(P:av K as1 H1 D (yV (zz (bN i j) b) gz (aF+1) 0 env m1)):
  ∃W:Nat->Nat->L2.St->Hp->Prop,(∃m,W 0 m σ H1)/\∀i m σ H,W i m σ H ->
   (J.stop i H/\D.nx σ H)\/(J.go i H/\∃N:L2.St->Hp->Prop,(∀σ' H',N σ' H'->∃m',m'<m/\W (i+1) m' σ' H')/\∀x H',J.yld i H x H'->g x σ H' λσ2 H2=>yf K b {D with nx:=N,ct:=N,bk:=D.nx} σ2 H2):=by
 refine⟨λi0 n σ' H'=>∃as' m' env',(∀(l:Nat) (a:Addr),as1[l]?=some a->as'[l]?=some a)/\Step as1 H1 as' H'/\aH K as' m' H'/\aB K as' H' env' σ'/\av K as1 H1 D (yV (zz (bN i j) b) gz n i0 env' m'),⟨aF+1,as1,m1,env,λ_ _ e=>e,.refl,S1,G1,P⟩,?_⟩;rintro i0 n σ' H' ⟨as',m',env',hl,T',S',G',Pi⟩;cases n with
 |zero=>exact Pi.elim
 |succ n=>
  unfold yV at Pi;obtain⟨q1,q2⟩:=hJ as' m' H' hl T' S' i0;cases e:gz i0 m' with
  |none=>rw[e]at Pi;exact Pi.elim
  |some o=>
   rw[e]at Pi;cases o with
   |none=>exact .inl ⟨q1 e,Pi as' H' σ' T' S' G'⟩
   |some p=>
    obtain⟨x,y⟩:=p;simp only[]at Pi;obtain⟨go,yl⟩:=q2 x y e;refine .inr ⟨go,λσ2 H2=>∃as2 m2 env2,(∀(l:Nat) (a:Addr),as1[l]?=some a->as2[l]?=some a)/\Step as1 H1 as2 H2/\aH K as2 m2 H2/\aB K as2 H2 env2 σ2/\av K as1 H1 D (yV (zz (bN i j) b) gz n (i0+1) env2 m2),?_,λv H'' hy=>?_⟩
    .rintro σ2 H2 q;exact⟨n,Wj _,q⟩
    .obtain ⟨x',y',⟨T,hT,rfl,rfl⟩,Rx,Ry⟩:=yl v H'' hy;have U:Step as' H' as' (aE H' T (.tup [x',y'])):=Step.updD .refl hT;have S2:aH K as' m' (aE H' T (.tup [x',y'])):=S'.keep U λb _ o e=>by rw[za (zm e hT)];exact e
     have Rp:ag K as' (aE H' T (.tup [x',y'])) (.tup [x,y]) (.ref T):=ah.mpr ⟨T,[x',y'],rfl,bG.of ze,(ab.one (Rx.mono S' U)).append (.one (Ry.mono S' U))⟩;refine wA hg (next:=λe m=>yV (zz (bN i j) b) gz n (i0+1) e m) (T'.trans U) S2 (G'.mono S' U) Rp Pi ?_;intro as2 m2 e2 σ2 H2 U2 S3 G3 P2;exact⟨as2,m2,e2,λl a q=>U2.get (hl l a q),(T'.trans U).trans U2,S3,G3,P2⟩
def qY (h:g i m=none):yV b g (k+1) i env m=.no:=by
 unfold yV;rw[h]
def DJ (h:yf K (bi cl (.forE i j a body)) D σ H):
  fG (iK K 0 (jX (aG K (ae cl a)) fF)) (fe K 2 (xY (yG i) (xY (yG j) ff))) (yf K (bi cl body)) D σ H:=by
 obtain⟨as,env,m,S,G,P⟩:=h;refine⟨as,env,m,S,G,av.bind P λw m1 as1 H1 v T1 S1 R1 P1=>?_⟩;have b9:∃la xs,w=.ref la/\zi m1 la=some xs:=by
  cases e:zo .enum w (.int 0) 0 m1 with
  |none=>rw[qY e]at P1;exact P1.elim
  |some o=>exact w6 e
 obtain⟨la,xs,rfl,e1⟩:=b9;obtain⟨a1,ha1,rfl⟩:=aD.mp R1;obtain⟨a',us,ha',eH,RL⟩:=zG S1 (zw e1);rw[ha1]at ha';cases ha';exact⟨a1,us,rfl,bg.of eH,DK (ke i j) (w5 (c:=0) ha1) S1 (G.mono S T1) P1⟩
set_option tactic.hygienic true in
def qZ (h:yf K (bi cl (.while c b)) D σ H):pJ (yI K (ae cl c)) (yf K (bi cl b)) D σ H:=by
 obtain⟨as,env,m,S,G,P⟩:=h;refine⟨λn σ' H'=>∃as' m' env',Step as H as' H'/\aH K as' m' H'/\aB K as' H' env' σ'/\av K as H D (vG (ae cl c) (bi cl b) n env' m'),⟨1000000,as,m,env,.refl,S,G,P⟩,?_⟩;rintro n σ' H' ⟨as',m',env',T',S',G',Pi⟩;cases n with
 |zero=>exact Pi.elim
 |succ n=>
  unfold vG at Pi;refine⟨as',env',m',S',G',?_⟩;cases hr:ae cl c env' m' with
  |no=>rw[hr]at Pi;exact Pi.elim
  |ok w m1=>
   rw[hr]at Pi;intro as1 H1 v T1 S1 R1;cases w with
   |bl k=>
    obtain rfl:=ai.mp R1;refine⟨k,rfl,?_⟩;cases k with
    |false=>exact j0 (Pi as1 H1 σ' (T'.trans T1) S1 (G'.mono S' T1))
    |true=>
     refine j4 ⟨λσ2 H2=>∃as2 m2 env2,Step as H as2 H2/\aH K as2 m2 H2/\aB K as2 H2 env2 σ2/\av K as H D (vG (ae cl c) (bi cl b) n env2 m2),λσ2 H2 q=>⟨n,Wj _,q⟩,as1,env',m1,S1,G'.mono S' T1,?_⟩;simp only[]at Pi;have T2:=T'.trans T1;cases hb:bi cl b env' m1 with
     |next e3 m3=>rw[hb]at Pi;exact λas3 H3 σ3 U S3 G3=>⟨as3,m3,e3,T2.trans U,S3,G3,Pi⟩
     |ret w' m3=>rw[hb]at Pi;exact λas3 H3 v3 U S3 R3=>Pi as3 H3 v3 (T2.trans U) S3 R3
     |no=>rw[hb]at Pi;exact Pi.elim
   |_=>exact Pi.elim
end
section
variable{X:Cx}{cl:Nat->List Wd->Me->Rz}
noncomputable def xw(n j:Nat):Ex->Bool
 |.var i=>decide (i<n) && ! decide (i=j)
 |.lit _=>true
 |.unit=>true
 |.pair a b=>xw n j a&&xw n j b
 |.call _ a=>xw n j a
 |.blt _ a=>xw n j a
 |.idx a b=>xw n j a&&xw n j b
 |_=>false
def pG (h:∀i,i<n->i≠j->e1[i]?=e2[i]?)(e:Ex):∀(m:Me),xw n j e=true->ae cl e e1 m=ae cl e e2 m:=by
 induction e with
 |var i=>
  intro m q;have q:=QB.mp (show(decide (i<n) && ! decide (i=j))=true from q);show(match e1[i]? with|some (some w)=>Rz.ok w m|_=>.no)=(match e2[i]? with|some (some w)=>Rz.ok w m|_=>.no);rw[h i (Jl q.1) (by simpa using q.2)]
 |lit _=>exact λ_ _=>rfl
 |unit=>exact λ_ _=>rfl
 |pair a b ia ib=>
  intro m q;have q:=QB.mp (show(xw n j a&&xw n j b)=true from q);show(ae cl a e1 m).bind (λx m1=>(ae cl b e1 m1).bind λy m2=>.ok (.tup (x::zj y)) m2)=(ae cl a e2 m).bind (λx m1=>(ae cl b e2 m1).bind λy m2=>.ok (.tup (x::zj y)) m2);rw[ia m q.1];congr 1;funext x m1;rw[ib m1 q.2]
 |call k a ia=>
  intro m q;show(ae cl a e1 m).bind _=(ae cl a e2 m).bind _;rw[ia m q]
 |blt k a ia=>
  intro m q;show(ae cl a e1 m).bind _=(ae cl a e2 m).bind _;rw[ia m q]
 |idx a b ia ib=>
  intro m q;have q:=QB.mp (show(xw n j a&&xw n j b)=true from q);show(ae cl a e1 m).bind (λx m1=>(ae cl b e1 m1).bind λy m2=>xo x y m2)=(ae cl a e2 m).bind (λx m1=>(ae cl b e2 m1).bind λy m2=>xo x y m2);rw[ia m q.1];congr 1;funext x m1;rw[ib m1 q.2]
 |_=>exact λ_ q=>Jj (show false=true from q) (by decide)
noncomputable def cV(p:List Nat×Wd):Wd:=.tup [.str p.1,p.2]
def uy(ws:List (List Nat×Wd))(i:Nat)(m:Me):zo .ptp (.tup (ws.map cV)) (.int 0) i m=some (ws[i]?.map λp=>(.str p.1,p.2)):=by
 show(match (ws.map cV)[i]? with
  |none=>some none
  |some w=>(iH w).map some)=_
 rw[Qu];cases ws[i]?<;>rfl
def DD {ws:List (List Nat×Wd)}(hj:j<env.length)(le:xw (env.length+1) j elt=true)(lm:xw (env.length+1) j mx=true)(S:aH X.K as m H)(G:aB X.K as H (env.set j none) σ)(hs:σ[j]?=some (some (.ref p)))(hp:H p=some (xl p o))(np:p∉as)(f:FO X.prog X.w p o ep kvs)(hl:kvs.length=ws.length)(hk:∀(i:Nat) (k:List Nat) (w:Wd),ws[i]?=some (k,w)->∃v,kvs[i]?=some ((Sum.inr ⟨k.toArray⟩:bv),v)/\xf kvs (Sum.inr ⟨k.toArray⟩)=some v/\ag X.K as H w v)(P:ak X.K as H Q (zJ (λu v m=>ae cl (.cmp .eq (.var (env.length+1)) mx) (env++[some u]++[some v]) m) (λu v m=>ae cl elt (env++[some u]++[some v]) m) (zo .ptp (.tup (ws.map cV)) (.int 0)) (aF+1) 0 [] m)):
  vD fX (sr X (kj j)) (fN (dt (rC X.K .eq) (dt (kP X) (kj j) (kj env.length)) (aG X.K (ae cl mx)))) (aG X.K (ae cl elt)) σ H Q:=by
 have hjs:j<σ.length:=(Qa.mp hs).1;have hls:env.length=σ.length:=by have:=G.len;simpa using this
 refine⟨.ref p,hs,p,o,ep,kvs,rfl,f,hp,λD hD=>?_⟩;refine⟨λi n ys H'=>∃as' m' acc,ca X.K as H D (env.set j none) σ as' m' acc ys H' /\
  ak X.K as H Q (zJ (λu v m=>ae cl (.cmp .eq (.var (env.length+1)) mx) (env++[some u]++[some v]) m) (λu v m=>ae cl elt (env++[some u]++[some v]) m) (zo .ptp (.tup (ws.map cV)) (.int 0)) n i acc m'),⟨aF+1,as,m,[],ca.start (as:=as) (H:=H) S G hD,P⟩,?_⟩
 rintro i n ys H' ⟨as',m',acc,M,Pi⟩;have hp':=M.T.frame _ _ hp np;cases n with
 |zero=>exact Pi.elim
 |succ n=>
  unfold zJ at Pi;rw[uy]at Pi;cases hw:ws[i]? with
  |none=>
   rw[hw]at Pi;have hi:=QV.mp hw;exact .inl ⟨⟨hp',by lia⟩,xg M.S M.T hD M.hD M.n M.R Pi⟩
  |some kw=>
   obtain⟨k,w⟩:=kw;rw[hw]at Pi;obtain⟨v,hv1,hv2,R⟩:=hk i k w hw;have hi:=(Qa.mp hv1).1;refine .inr ⟨⟨hp',hi⟩,λx H'' hy=>?_⟩;obtain⟨rfl,kv,hkv,rfl⟩:=hy;rw[hv1]at hkv;cases hkv;have hlow:∀i',i'<env.length+1->i'≠j->(env++[some (Wd.str k)]++[some w])[i']?=(env.set j none++[some (Wd.str k)])[i']?:=λi' h1 h2=>by
    rw[Qd (by simp;lia)];by_cases z:i'<env.length
    .rw[Qd z,Qd (by simpa using z),Qp (λe=>h2 e.symm)]
    .rw[Qc (by lia),Qc (by simp;lia),WA]
   have hvar:∀m,ae cl (.var (env.length+1)) (env++[some (Wd.str k)]++[some w]) m=.ok w m:=λm=>by
    show(match (env++[some (Wd.str k)]++[some w])[env.length+1]? with|some (some w)=>Rz.ok w m|_=>.no)=_;rw[Qc (by simp)];simp
   have e1:∀m,ae cl (.cmp .eq (.var (env.length+1)) mx) (env++[some (Wd.str k)]++[some w]) m=(ae cl mx (env.set j none++[some (Wd.str k)]) m).bind λy m2=>cn .eq w y m2:=λm=>by
    show(ae cl (.var (env.length+1)) _ m).bind (λx m1=>(ae cl mx _ m1).bind λy m2=>cn .eq x y m2)=_;rw[hvar m];show(ae cl mx (env++[some (Wd.str k)]++[some w]) m).bind (λy m2=>cn .eq w y m2)=_;rw[pG hlow mx m lm]
   have Pi:ak X.K as H Q (((ae cl mx (env.set j none++[some (Wd.str k)]) m').bind λy m2=>cn .eq w y m2).bind λb m1=>match b with
     |.bl true=>(ae cl elt (env++[some (Wd.str k)]++[some w]) m1).bind λz m2=>if acc.length<aF then zJ (λu v m=>ae cl (.cmp .eq (.var (env.length+1)) mx) (env++[some u]++[some v]) m) (λu v m=>ae cl elt (env++[some u]++[some v]) m) (zo .ptp (.tup (ws.map cV)) (.int 0)) n (i+1) (acc++[z]) m2 else .no
     |.bl false=>zJ (λu v m=>ae cl (.cmp .eq (.var (env.length+1)) mx) (env++[some u]++[some v]) m) (λu v m=>ae cl elt (env++[some u]++[some v]) m) (zo .ptp (.tup (ws.map cV)) (.int 0)) n (i+1) acc m1
     |_=>.no):=by
    have:=Pi;simp only[QP]at this;rw[e1]at this;exact this
   have G1:aB X.K as' H'' (env.set j none++[some (Wd.str k)]) (σ++[some (V.str ⟨k.toArray⟩)]):=M.G.push (ay.mpr rfl);refine⟨[V.str ⟨k.toArray⟩],rfl,?_⟩;refine⟨.ref p,by rw[Qd hjs];exact hs,.str ⟨k.toArray⟩,by rw[hls,Qc (Qf _)];simp,p,o,ep,kvs,Sum.inr ⟨k.toArray⟩,v,rfl,rfl,f,hp',hv2,?_⟩;have Pi':ak X.K as H Q ((ae cl mx (env.set j none++[some (Wd.str k)]) m').bind λy m2=>(cn .eq w y m2).bind λb m1=>match b with
     |.bl true=>(ae cl elt (env++[some (Wd.str k)]++[some w]) m1).bind λz m2=>if acc.length<aF then zJ (λu v m=>ae cl (.cmp .eq (.var (env.length+1)) mx) (env++[some u]++[some v]) m) (λu v m=>ae cl elt (env++[some u]++[some v]) m) (zo .ptp (.tup (ws.map cV)) (.int 0)) n (i+1) (acc++[z]) m2 else .no
     |.bl false=>zJ (λu v m=>ae cl (.cmp .eq (.var (env.length+1)) mx) (env++[some u]++[some v]) m) (λu v m=>ae cl elt (env++[some u]++[some v]) m) (zo .ptp (.tup (ws.map cV)) (.int 0)) n (i+1) acc m1
     |_=>.no):=by
    cases z:ae cl mx (env.set j none++[some (Wd.str k)]) m' with
    |ok y m2=>rw[z]at Pi;exact Pi
    |no=>rw[z]at Pi;exact Pi
   refine⟨as',_,m',M.S,G1,dM Pi' M.T λy m2 as2 H2 u T2 S2 R2 P2=>?_⟩;have M2:=M.go T2 S2;refine⟨as2,m2,w,y,S2,(R.mono S M.T).mono M.S T2,R2,dM P2 M2.T λwb m3 as3 H3 vb T3 S3 R3 P3=>?_⟩;have M3:=M2.go T3 S3;cases wb with
   |bl b=>
    obtain rfl:=ai.mp R3;refine⟨b,rfl,?_⟩;cases b with
    |false=>exact j0 ⟨n,Wj _,as3,m3,acc,M3,P3⟩
    |true=>
     have P3:ak X.K as H Q ((ae cl elt (env++[some (Wd.str k)]++[some w]) m3).bind λz m2=>if acc.length<aF then zJ (λu v m=>ae cl (.cmp .eq (.var (env.length+1)) mx) (env++[some u]++[some v]) m) (λu v m=>ae cl elt (env++[some u]++[some v]) m) (zo .ptp (.tup (ws.map cV)) (.int 0)) n (i+1) (acc++[z]) m2 else .no):=P3;rw[pG hlow elt m3 le]at P3;refine j4 ⟨as3,_,m3,S3,(G1.mono M.S T2).mono S2 T3,dM P3 M3.T λwy m4 as4 H4 vy T4 S4 R4 P4=>?_⟩;have M4:=M3.go T4 S4;by_cases hlm:acc.length<aF
     .rw[Jh hlm]at P4;exact⟨M4.hD,by rw[<-M4.R.length];exact Qg hlm yA,n,Wj _,as4,m4,acc++[wy],M4.push hD R4,P4⟩
     .rw[Ji hlm]at P4;exact P4.elim
   |_=>exact P3.elim
def ux(k:List Nat)(a:Ex)(env:En)(m:Me):ae cl (cH k a) env m=(ae cl a env m).bind λw m1=>.ok (cV (k,w)) m1:=by
 show((((ae cl a env m).bind λy m2=>(Rz.ok (.tup []) m2).bind λz m3=>.ok (.tup (y::zj z)) m3).bind λy m2=>.ok (.tup (Wd.str k::zj y)) m2).bind λx m1=>if(zj x).length<=aF then .ok (.tup (zj x)) m1 else .no)=_;cases ae cl a env m with
 |ok w m1=>
  show(if([Wd.str k,w]:List Wd).length<=aF then Rz.ok (.tup [.str k,w]) m1 else .no)=_;rw[Jh (show([Wd.str k,w]:List Wd).length<=aF by show 2<=aF;decide)];rfl
 |no=>rfl
def DC (h1:ae cl (ko a b c d) env m=.ok w m'):
  ∃wa m1 wb m2 wc m3 wd,ae cl a env m=.ok wa m1/\ae cl b env m1=.ok wb m2/\ae cl c env m2=.ok wc m3/\ae cl d env m3=.ok wd m'/\w=.tup [wa,wb,wc,wd]:=by
 obtain⟨z,mz,g1,g2⟩:=cj (show(ae cl (.pair a (.pair b (.pair c (.pair d .unit)))) env m).bind (λx m1=>if(zj x).length<=aF then Rz.ok (.tup (zj x)) m1 else .no)=_ from h1);obtain⟨wa,m1,p1,q1⟩:=cj (show(ae cl a env m).bind (λx m1=>(ae cl (.pair b (.pair c (.pair d .unit))) env m1).bind λy m2=>Rz.ok (.tup (x::zj y)) m2)=_ from g1);obtain⟨yb,n1,p2,q2⟩:=cj q1;obtain⟨wb,m2,p3,q3⟩:=cj (show(ae cl b env m1).bind (λx m1=>(ae cl (.pair c (.pair d .unit)) env m1).bind λy m2=>Rz.ok (.tup (x::zj y)) m2)=_ from p2);obtain⟨yc,n2,p4,q4⟩:=cj q3;obtain⟨wc,m3,p5,q5⟩:=cj (show(ae cl c env m2).bind (λx m1=>(ae cl (.pair d .unit) env m1).bind λy m2=>Rz.ok (.tup (x::zj y)) m2)=_ from p4);obtain⟨yd,n3,p6,q6⟩:=cj q5;obtain⟨wd,m4,p7,q7⟩:=cj (show(ae cl d env m3).bind (λx m1=>(Rz.ok (.tup []) m1).bind λy m2=>Rz.ok (.tup (x::zj y)) m2)=_ from p6);cases q7;cases q6;cases q4;cases q2
 replace g2:(if([wa,wb,wc,wd]:List Wd).length<=aF then Rz.ok (.tup [wa,wb,wc,wd]) mz else .no)=.ok w m':=g2
 rw[Jh (show([wa,wb,wc,wd]:List Wd).length<=aF by show 4<=aF;decide)]at g2;cases g2;exact⟨wa,m1,wb,m2,wc,m3,wd,p1,p3,p5,p7,rfl⟩
def vp (h:ae cl (cH k a) env m=.ok w m'):∃u,ae cl a env m=.ok u m'/\w=cV (k,u):=by
 rw[ux]at h;obtain⟨u,m1,h1,h2⟩:=cj h;cases h2;exact⟨u,h1,rfl⟩
def DB {K:Qb}(h:av K as H D (r.bindS env λw m1=>.ret w m1)):ak K as H D.rt r:=by
 cases r with
 |ok w m'=>exact h
 |no=>exact h
def uw {c1 c2 c3 c4}(hu:X.A.units+64<HF)(hc:X.calm=true)(hN:X.N.Nodup)(hj:X.N[j]?=some mkn)(hl:Loc X.env.scope mkn)(hf:X.fn mkn=true)(e1:s1.cps.toList=k1)(e2:s2.cps.toList=k2)(e3:s3.cps.toList=k3)(e4:s4.cps.toList=k4)(n12:k1≠k2)(n13:k1≠k3)(n14:k1≠k4)(n23:k2≠k3)(n24:k2≠k4)(n34:k3≠k4)(hsw:Hn (.Dict [some (.Constant (.str s1) c1 p1),some (.Constant (.str s2) c2 p2),some (.Constant (.str s3) c3 p3),some (.Constant (.str s4) c4 p4)] [x1,x2,x3,x4] pd) (some (.Name mkn p0)) pa.line X.env=pure false)(ha:PE X x1 (aG X.K (ae cl a)))(hb:PE X x2 (aG X.K (ae cl b)))(hcc:PE X x3 (aG X.K (ae cl c)))(hd:PE X x4 (aG X.K (ae cl d)))(hv:PE X (.Name mkn pi) (kj j))(B:bx X scope [side])(hm:∀Xc,bh X scope [side] Xc->PE Xc (.Name mkn pm) (kj j)/\PE Xc (.Name side ps) (kj X.N.length)/\PE Xc xm (aG X.K (ae cl mx))/\PE Xc xe (aG X.K (ae cl elt)))(hmk:HE .Eq xm=false)(le:xw (X.N.length+1) j elt=true)(lm:xw (X.N.length+1) j mx=true):
  bW X [.Assign [.Name mkn p0] (.Dict [some (.Constant (.str s1) c1 p1),some (.Constant (.str s2) c2 p2),some (.Constant (.str s3) c3 p3),some (.Constant (.str s4) c4 p4)] [x1,x2,x3,x4] pd) pa,
   .Return (some (.ListComp xe [⟨.Name side pt,.Name mkn pi,[.Compare (.Subscript (.Name mkn pm) (.Name side ps) pq) [.Eq] [xm] pc],0⟩] scope pl)) pr] (yf X.K (bi cl (.ret (iu X.N.length k1 k2 k3 k4 a b c d mx elt)))):=by
 obtain rfl:=jw e1;obtain rfl:=jw e2;obtain rfl:=jw e3;obtain rfl:=jw e4;intro pins s σ H D I h;have hlen:=I.len;have body:∀Xc,bh X scope [side] Xc->en Xc [.Compare (.Subscript (.Name mkn pm) (.Name side ps) pq) [.Eq] [xm] pc] (fN (dt (rC X.K .eq) (dt (kP X) (kj j) (kj X.N.length)) (aG X.K (ae cl mx))))/\PE Xc xe (aG X.K (ae cl elt)):=λXc c=>by
  obtain⟨h1,h2,h3,h4⟩:=hm Xc c;refine⟨vl ?_,h4⟩;have q:=pY (pos:=pc) (vM (X:=Xc) (by rw[c.A];exact hu) .eq) (fM (pos:=pq) mr h1 h2 (λ_ _=>rfl)) h3 hmk;have er:kP Xc=kP X:=by unfold kP;rw[c.prog,c.w]
  rw[c.K,er]at q;exact q
 refine(jU (qw hN hj hl (Dz (wu vv ha (wu vv hb (wu vv hcc (wu vv hd Bs)))) rfl rfl (by simp) (by show 4<=15;decide)) hsw (.inl hf)) (pZ (pL (xD B hc (vm B) (C8 hv) body)))) pins s σ H D I ?_;obtain⟨as,env,m,S,G,P⟩:=h;have hle:env.length=X.N.length:=by rw[G.len,hlen]
 have P:ak X.K as H D.rt ((ae cl (ko (cH k1 a) (cH k2 b) (cH k3 c) (cH k4 d)) env m).bind λx m1=>(Rz.ok (.int 0) m1).bind λy m2=>
   zJ (λu v m=>ae cl (.cmp .eq (.var (X.N.length+1)) mx) (env++[some u]++[some v]) m) (λu v m=>ae cl elt (env++[some u]++[some v]) m) (zo .ptp x y) (aF+1) 0 [] m2):=DB P
 cases hr:ae cl (ko (cH k1 a) (cH k2 b) (cH k3 c) (cH k4 d)) env m with
 |no=>rw[hr]at P;exact P.elim
 |ok w m4=>
  rw[hr]at P;obtain⟨ta,m1,tb,m2,tc,m3,td,ea,eb,ec,ed,rfl⟩:=DC hr;obtain⟨wa,fa,rfl⟩:=vp ea;obtain⟨wb,fb,rfl⟩:=vp eb;obtain⟨wc,fc,rfl⟩:=vp ec;obtain⟨wd,fd,rfl⟩:=vp ed;intro p hpn;have T0:Step as H as (aE H p (.dK [])):=⟨⟨[],by simp⟩,λb o h _=>by rw[za (zm h hpn)];exact h,λb hb=>.inl hb⟩;have S0:aH X.K as m (aE H p (.dK [])):=S.keep T0 λb _ o e=>by rw[za (zm e hpn)];exact e
  have G0:=G.mono S T0;have h0:aE H p (.dK []) p=some (.dK []):=ze;have n0:p∉as:=S.new hpn;refine⟨as,env,m,S0,G0,?_⟩;rw[fa];intro as1 H1 va T1 S1 R1;have h1:=T1.frame _ _ h0 n0;have n1:=T1.out h0 n0;have G1:=G0.mono S0 T1;refine⟨as1,env,m1,S1,G1,?_⟩;rw[fb];intro as2 H2 vb T2 S2 R2;have h2:=T2.frame _ _ h1 n1;have n2:=T2.out h1 n1;have G2:=G1.mono S1 T2;refine⟨as2,env,m2,S2,G2,?_⟩;rw[fc];intro as3 H3 vc T3 S3 R3;have h3:=T3.frame _ _ h2 n2;have n3:=T3.out h2 n2;have G3:=G2.mono S2 T3;refine⟨as3,env,m3,S3,G3,?_⟩;rw[fd];intro as4 H4 vd T4 S4 R4;have h4:=T4.frame _ _ h3 n3;have n4:=T4.out h3 n3;have G4:=G3.mono S3 T4;have ne:∀{u v:List Nat},u≠v->(Sum.inr ⟨u.toArray⟩:bv)≠Sum.inr ⟨v.toArray⟩:=λ{u v} h e=>h (by
   have e:=Sum.inr.inj e;have e:u.toArray=v.toArray:=Str.mk.inj e;simpa using Jf WO e)
  refine⟨h4,[((Sum.inr ⟨k1.toArray⟩:bv),va),(Sum.inr ⟨k2.toArray⟩,vb),(Sum.inr ⟨k3.toArray⟩,vc),(Sum.inr ⟨k4.toArray⟩,vd)],rfl,(by show 4<=15;decide),by simp[n12,n13,n14,n23,n24,n34],λo ep f=>?_⟩;have T04:=((T0.trans T1).trans T2).trans (T3.trans T4);have T5:Step as H as4 (aE H4 p (xl p o)):=⟨T04.pre,λb o h hb=>by rw[za (zm h hpn)];exact T04.frame b o h hb,T04.fresh⟩;have k6:Kp X.K H4 (aE H4 p (xl p o)):=Kp.updL h4 trivial;have S5:aH X.K as4 m4 (aE H4 p (xl p o)):=S4.updK k6 λb hb o e=>by rw[za (by rintro rfl;exact n4 hb)];exact e
  have G5:aB X.K as4 (aE H4 p (xl p o)) (env.set j none) (σ.set j (some (.ref p))):=by
   have Gk:=G4.kp k6;refine⟨by simp[Gk.len],λi w e=>?_⟩;by_cases z:i=j
   .subst z;rw[List.getElem?_set_self' ]at e;cases hz:env[i]? with
    |none=>rw[hz]at e;cases e
    |some q=>rw[hz]at e;cases e
   .rw[Qp (λq=>z q.symm)]at e ⊢;exact Gk.get i w e
  have hjn:j<X.N.length:=(Qa.mp hj).1;have res:=DD (X:=X) (cl:=cl) (elt:=elt) (mx:=mx) (env:=env) (σ:=σ.set j (some (.ref p))) (m:=m4) (H:=aE H4 p (xl p o)) (Q:=D.rt) (p:=p) (o:=o) (ep:=ep) (j:=j) (ws:=[(k1,wa),(k2,wb),(k3,wc),(k4,wd)])
   (by lia) (by rw[hle];exact le) (by rw[hle];exact lm) S5 G5 (by rw[Q7 (by lia)]) ze n4 f rfl (λi k w hw=>by
    match i,hw with
    |0,hw=>cases hw;exact⟨va,rfl,by simp[xf],((((R1.mono S1 T2).mono S2 T3).mono S3 T4).kp k6)⟩
    |1,hw=>cases hw;exact⟨vb,rfl,by simp[xf,n12],(((R2.mono S2 T3).mono S3 T4).kp k6)⟩
    |2,hw=>cases hw;exact⟨vc,rfl,by simp[xf,n13,n23],((R3.mono S3 T4).kp k6)⟩
    |3,hw=>cases hw;exact⟨vd,rfl,by simp[xf,n14,n24,n34],(R4.kp k6)⟩
    |i+4,hw=>simp at hw) (by
    rw[hle];exact ak.step P T5)
  rw[hle]at res;exact res
end
section
variable{K:Qb}{cl:Nat->List Wd->Me->Rz}
def DA (e:m[l]?=some (.dct ks ws)):wg m l=ks.length:=by
 unfold wg;rw[e]
def BP {xs:List TK}{i:Nat}(h:xs[i]?=some k):(xs.map (·.1))[i]?=some k.1:=by rw[Qu,h];rfl
def DI (hK:X.K=K)(h:yf K (bi cl (.forD i x body)) D σ H):
  fG (sn X (aG K (ae cl (.var x)))) (yG i) (yf K (bi cl body)) D σ H:=by
 subst hK;obtain⟨as,env,m,S,G,P⟩:=h;refine⟨as,env,m,S,G,av.bind P λw m1 as1 H1 v T1 S1 R1 P1=>?_⟩;cases w with
 |ref l=>
  have P2:av X.K as1 H1 D (yO (zz (λw env=>some (env.set i (some w))) (bi cl body)) l (wg m1 l) (aF+1) 0 env m1):=P1;cases e:m1[l]? with
  |none=>unfold yO at P2;rw[e]at P2;exact P2.elim
  |some o=>
   cases o with
   |lst ys=>unfold yO at P2;rw[e]at P2;exact P2.elim
   |dct ks ws=>
    obtain⟨a,xs,vs,rfl,ha,td,ek,_,_⟩:=xG S1 e R1;have hn:wg m1 l=xs.length:=by rw[DA e,<-ek,QN]
    rw[hn]at P2;refine⟨a,xs,rfl,td,λi0 n σ' H'=>∃as' m' env',as'[l]?=some a/\Step as1 H1 as' H'/\aH X.K as' m' H'/\aB X.K as' H' env' σ'/\av X.K as1 H1 D (yO (zz (λw env=>some (env.set i (some w))) (bi cl body)) l xs.length n i0 env' m'),⟨aF+1,as1,m1,env,ha,.refl,S1,G.mono S T1,P2⟩,?_⟩;rintro i0 n σ' H' ⟨as',m',env',hl,T',S',G',Pi⟩;cases n with
    |zero=>exact Pi.elim
    |succ n=>
     unfold yO at Pi;cases e':m'[l]? with
     |none=>rw[e']at Pi;exact Pi.elim
     |some o=>
      cases o with
      |lst ys=>rw[e']at Pi;exact Pi.elim
      |dct ks' ws'=>
       rw[e']at Pi;dsimp only at Pi;obtain⟨a',xs',vs',ha',td',ek',r',rv',_⟩:=vK S' e';rw[hl]at ha';cases ha';have lk:ks'.length=xs'.length:=by rw[<-ek',QN]
       by_cases hc:ks'.length=xs.length
       .rw[Jh hc]at Pi;cases ex:ks'[i0]? with
        |none=>
         rw[ex]at Pi;have:=QV.mp ex;exact .inl ⟨⟨xs',td',by lia,by lia⟩,Pi as' H' σ' T' S' G'⟩
        |some q=>
         rw[ex]at Pi;have hi:i0<ks'.length:=(Qa.mp ex).1;refine .inr ⟨⟨xs',td',by lia,by lia⟩,λσ2 H2=>∃as2 m2 env2,as2[l]?=some a/\Step as1 H1 as2 H2/\aH X.K as2 m2 H2/\aB X.K as2 H2 env2 σ2/\av X.K as1 H1 D (yO (zz (λw env=>some (env.set i (some w))) (bi cl body)) l xs.length n (i0+1) env2 m2),?_,λv H'' hy=>?_⟩
         .rintro σ2 H2 q;exact⟨n,Wj _,q⟩
         .obtain ⟨rfl,hy⟩:=hy;obtain⟨k,hk,rfl⟩:=hy xs' td';have eq:k.1=q:=by
           have:=BP hk;rw[ek',ex]at this;exact(Option.some.inj this).symm
          have Rk:ag X.K as' H'' (.tup (q.map Wd.int)) (.ref k.2.1):=ah.mpr ⟨k.2.1,q.map V.int,rfl,eq▸td'.2 k (Qm hk),wO q⟩;refine wA (g9 i) (next:=λe m=>yO (zz (λw env=>some (env.set i (some w))) (bi cl body)) l xs.length n (i0+1) e m) T' S' G' Rk Pi ?_;intro as2 m2 e2 σ2 H2 U S2 G2 P2;exact⟨as2,m2,e2,U.get hl,T'.trans U,S2,G2,P2⟩
       .rw[Ji hc]at Pi;exact Pi.elim
 |_=>exact P1.elim
end
set_option genInjectivity false in
inductive Ns where
 |s (st:Stmt)|b (sts:List Stmt)
noncomputable def xx(sc:GR)(x:Str):Bool:=decide (sc.names.lookup x=some .local) || decide (sc.names.lookup x=some .cell)
noncomputable def iU:Expr->Bool
 |.Call _ _ _ _=>true
 |.Name _ _=>true
 |_=>false
noncomputable def oD(cl:Nat->List Wd->Me->Rz)(X:Cx)(s:Sm):Ns->Prop
 |.s st=>PS X st (yf X.K (bi cl s))
 |.b sts=>bW X sts (yf X.K (bi cl s))
structure dF(X:Cx):Prop where
 nd:X.N.Nodup
 fn:∀x,X.fn x=true
 hp:PassesOwn (Hf X.prog X.w) X.A X.env X.xe
section
variable{cl:Nat->List Wd->Me->Rz}
def yk (h:xx sc x=true):Loc sc x:=by
 unfold xx at h;simp only[W0,Jm]at h;exact h
def jA (hc:X.calm=true)(hX:dF X)(hi:X.N[i]?=some nm)(hl:Loc X.env.scope nm)(B:bx X scope xs)(hT:ft X scope xs tg g un)(hI:PI X tg w wi)(body:∀Xc,bh X scope xs Xc->en Xc fs tc/\PE Xc x te)(hset:∀v,HA w X.env v=pure v)(hbind:∀σ H Q,aG X.K (ae cl ce) σ H Q->vD un wi tc te σ H Q)(he:PE X (.ListComp x [⟨tg,w,fs,0⟩] scope pos') (aG X.K (ae cl ce))):
  PS X (.Assign [.Name nm p1] (.ListComp x [⟨tg,w,fs,0⟩] scope pos') pos) (yf X.K (bi cl (.asg i ce))):=by
 have hsw:∃b:Bool,Hn (.ListComp x [⟨tg,w,fs,0⟩] scope pos') (some (.Name nm p1)) pos.line X.env=pure b:=⟨_,rfl⟩;obtain⟨b,hb⟩:=hsw;cases b with
 |false=>exact PS.imp (qw hX.nd hi hl he hb (.inl (hX.fn nm))) λD σ H q=>v9 q
 |true=>
  refine PS.imp (qG B hc hT hI body hX.nd hi hl (.inl (hX.fn nm)) hb hset) λD σ H q=>?_;exact hbind _ _ _ (v9 q)
def Ab(i j:Nat)(e:Ex)(env:En)(m:Me):bi cl (.fort i j (.tup (.pair e .unit)) .skip) env m=(ae cl e env m).bindS env λw m1=>match bN i j w env with
  |some env'=>.next env' m1
  |none=>.no:=by
 have h:ae cl (.tup (.pair e .unit)) env m=(ae cl e env m).bind λw m1=>.ok (.tup [w]) m1:=by
  show(((ae cl e env m).bind λx m1=>.ok (.tup [x]) m1).bind λx m1=>if(zj x).length<=aF then .ok (.tup (zj x)) m1 else .no)=_;cases ae cl e env m with
  |ok w m1=>
   simp only[Rz.bind];simp[zj,aF]
  |no=>rfl
 show(ae cl (.tup (.pair e .unit)) env m).bindS env (λw m1=>eB (zz (bN i j) (bi cl .skip)) w env m1)=_;rw[h];cases ae cl e env m with
 |ok w m1=>
  show xr (zz (bN i j) (bi cl .skip)) [w] env m1=match bN i j w env with
   |some env'=>.next env' m1
   |none=>.no
  unfold xr zz;cases bN i j w env with
  |none=>rfl
  |some e2=>rfl
 |no=>rfl
def CA {K:Qb}(h:yf K (bi cl (.fort i j (.tup (.pair e .unit)) .skip)) D σ H):e8 (aG K (ae cl e)) (fe K 2 (xY (yG i) (xY (yG j) ff))) D σ H:=by
 obtain⟨as,env,m,S,G,P⟩:=h;rw[Ab]at P;refine⟨as,env,m,S,G,av.bind P λw m1 as1 H1 v T1 S1 R1 P1=>?_⟩;cases hs:bN i j w env with
 |none=>rw[hs]at P1;exact P1.elim
 |some e2=>rw[hs]at P1;exact(ke i j).ok S1 (G.mono S T1) R1 hs λσ2 G2=>av.next (m:=m1) P1 S1 G2
structure bo(C:Ctx)(sc:GR)(N:List Str)(s:Sm)(n:Ns):Prop where
 h:∀(cl:Nat → List Wd → Me → Rz) (d:Nat) (X:Cx),bF C X cl d → dF X → X.env.scope=sc → X.N=N → oD cl X s n
def Aa (hC:bF C X cl d)(hX:dF X)(h:bo C X.env.scope X.N s n):oD cl X s n:=h.h cl d X hC hX rfl rfl
def bo.«skip0»{C:Ctx}{sc:GR}{N:List Str}:bo C sc N .skip (.b []):=by
 constructor;intro cl d X hC hX es eN;subst es;subst eN;exact BW
def bo.«one»{C:Ctx}{sc:GR}{N:List Str}{s:Sm}{st:Stmt}(h:bo C sc N s (.s st)):bo C sc N s (.b [st]):=by
 constructor;intro cl d X hC hX es eN;subst es;subst eN;have ih:=h.h cl d X hC hX rfl rfl;exact pZ ih
def bo.«seq»{C:Ctx}{sc:GR}{N:List Str}{a b:Sm}{st st':Stmt}{r:List Stmt}(ha:bo C sc N a (.s st))(hb:bo C sc N b (.b (st'::r))):bo C sc N (.seq a b) (.b (st::st'::r)):=by
 constructor;intro cl d X hC hX es eN;subst es;subst eN;have iha:=ha.h cl d X hC hX rfl rfl;have ihb:=hb.h cl d X hC hX rfl rfl;exact uC iha ihb
def bo.«asg»{C:Ctx}{sc:GR}{N:List Str}{i:Nat}{e:Ex}{x:Str}{v:Expr}{p p':Pos}(hc:v8 v=false)(h1:N[i]?=some x)(h2:xx sc x=true)(hr:zg e=false)(he:aw C sc N e (.e v)):bo C sc N (.asg i e) (.s (.Assign [.Name x p] v p')):=by
 constructor;intro cl d X hC hX es eN;subst es;subst eN;exact PS.imp (qw hX.nd h1 (yk h2) ((zu he X hC rfl rfl).pe hr) (qX hc) (.inl (hX.fn _))) λD σ H q=>v9 q
def bo.«asgC0»{C:Ctx}{sc:GR}{N:List Str}{i:Nat}{elt it:Ex}{x y:Str}{z w:Expr}{scope:GR}{p p' q q':Pos}(h1:N[i]?=some x)(h2:xx sc x=true)(hs:zW w=true)(hB:bz sc N scope [y]=true)(hi:aw C sc N it (.e w))(re:zg elt=false)(he:aw C (zA scope sc) (zL N [y]) elt (.e z)):
   bo C sc N (.asg i (.comp elt it (.lit (.bl true)))) (.s (.Assign [.Name x p] (.ListComp z [⟨.Name y q,w,[],0⟩] scope q') p')):=by
 constructor;intro cl d X hC hX es eN;subst es;subst eN;have hset:∀v,HA w X.env v=pure v:=yt hs;refine jA (fs:=[]) (tc:=_) hC.calm hX h1 (yk h2) (zC hB) (vm (zC hB)) ((zu hi X hC rfl rfl).2 _) (te:=aG X.K (ae cl elt)) (λXc c=>⟨x6,?_⟩) hset (λσ H Q q=>wQ (λσ H Q q=>?_) q) ((zu (aw.comp0 hs hB hi re he) X hC rfl rfl).pe rfl)
 .have q:=(zu he Xc (hC.comp c) c.sc c.N).pe re;rw[c.K]at q;exact q
 .obtain ⟨as,env,m,S,G,P⟩:=q;obtain⟨b,e,q⟩:=ak.ok (m:=m) P S (ai.mpr rfl);cases e;exact q
def bo.«asgCZ0»{C:Ctx}{sc:GR}{N:List Str}{i:Nat}{elt a b:Ex}{x y y':Str}{z w w':Expr}{scope:GR}{p p' q q' q2 q3 q4 pt:Pos}{kt:Nat}(h1:N[i]?=some x)(h2:xx sc x=true)(hg:cu sc "zip"=true)(hB:bz sc N scope [y,y']=true)(hs:zh w=true)(hs':zh w'=true)(ra:zg a=false)(ha:aw C sc N a (.e w))(rb:zg b=false)(hb:aw C sc N b (.e w'))(re:zg elt=false)(he:aw C (zA scope sc) (zL N [y,y']) elt (.e z)):
   bo C sc N (.asg i (.compP .zip elt a b (.lit (.bl true)))) (.s (.Assign [.Name x p] (.ListComp z [⟨.Tuple [.Name y q,.Name y' q2] kt pt,.Call (.Name "zip" q3) [w,w'] [] q4,[],0⟩] scope q') p')):=by
 constructor;intro cl d X hC hX es eN;subst es;subst eN;refine jA (fs:=[]) (tc:=_) hC.calm hX h1 (yk h2) (zC hB) (x8 hC.calm (zC hB)) (ph (yJ hg) (hC.blt _ (by simp[zn])) (zy ((zu ha X hC rfl rfl).pe ra) (zy ((zu hb X hC rfl rfl).pe rb) yh (zf hs')) (zf hs)) (by rw[zf hs,zf hs'];rfl) (zf hs')) (te:=aG X.K (ae cl elt)) (λXc c=>⟨x6,?_⟩) (λ_=>rfl) (λσ H Q q=>vY (λσ H Q q=>?_) q) ((zu (aw.compZ0 hg hB hs hs' ra ha rb hb re he) X hC rfl rfl).pe rfl)
 .have q:=(zu he Xc (hC.comp c) c.sc c.N).pe re;rw[c.K]at q;exact q
 .obtain ⟨as,env,m,S,G,P⟩:=q;obtain⟨b,e,q⟩:=ak.ok (m:=m) P S (ai.mpr rfl);cases e;exact q
def bo.«asgCE1»{C:Ctx}{sc:GR}{N:List Str}{i:Nat}{elt a cond:Ex}{x y y':Str}{z w f:Expr}{scope:GR}{p p' q q' q2 q3 q4 pt:Pos}{kt:Nat}(h1:N[i]?=some x)(h2:xx sc x=true)(hg:cu sc "enumerate"=true)(hB:bz sc N scope [y,y']=true)(hs:zh w=true)(ra:zg a=false)(ha:aw C sc N a (.e w))(rc:zg cond=false)(ic:wv cond=false)(hc:aw C (zA scope sc) (zL N [y,y']) cond (.e f))(re:zg elt=false)(he:aw C (zA scope sc) (zL N [y,y']) elt (.e z)):
   bo C sc N (.asg i (.compP .enum elt a (.lit (.int 0)) cond)) (.s (.Assign [.Name x p] (.ListComp z [⟨.Tuple [.Name y q,.Name y' q2] kt pt,.Call (.Name "enumerate" q3) [w] [] q4,[f],0⟩] scope q') p')):=by
 constructor;intro cl d X hC hX es eN;subst es;subst eN;refine jA (fs:=[f]) (tc:=_) hC.calm hX h1 (yk h2) (zC hB) (x8 hC.calm (zC hB)) (vn (yJ hg) (hC.blt _ (by simp[zn])) (zy ((zu ha X hC rfl rfl).pe ra) yh (zf hs)) (zf hs)) (te:=aG X.K (ae cl elt)) (λXc c=>⟨vl ?_,?_⟩) (λ_=>rfl) (λσ H Q q=>xW (c:=0) rfl (λσ H Q q=>q) q) ((zu (aw.compE1 hg hB hs ra ha rc ic hc re he) X hC rfl rfl).pe rfl)
 .have q:=(zu hc Xc (hC.comp c) c.sc c.N).pt rc ic;rw[c.K]at q;exact q
 .have q:=(zu he Xc (hC.comp c) c.sc c.N).pe re;rw[c.K]at q;exact q
def bo.«sel»{C:Ctx}{sc:GR}{N:List Str}{a b c d elt mx:Ex}{k1 k2 k3 k4:List Nat}{s1 s2 s3 s4 mkn side:Str}{j:Nat}{x1 x2 x3 x4 xe xm:Expr}{scope:GR}{c1 c2 c3 c4}{p0 p1 p2 p3 p4 pd pa pt pi pm ps pq pc pl pr:Pos}(e1:s1.cps.toList=k1)(e2:s2.cps.toList=k2)(e3:s3.cps.toList=k3)(e4:s4.cps.toList=k4)(nd:[k1,k2,k3,k4].Nodup)
   (h1:N[j]?=some mkn) (h2:xx sc mkn=true) (h3:zV mkn=true) (v1:gO sc mkn=true) (g1:(zL N [side])[j]?=some mkn) (v2:gO (zA scope sc) mkn=true) (g2:(zL N [side])[N.length]?=some side) (v3:gO (zA scope sc) side=true) (g3:zV side=true) (hB:bz sc N scope [side]=true)
   (ra:zg a=false) (ha:aw C sc N a (.e x1)) (rb:zg b=false) (hb:aw C sc N b (.e x2)) (rc:zg c=false) (hc:aw C sc N c (.e x3)) (rd:zg d=false) (hd:aw C sc N d (.e x4))
   (rm:zg mx=false) (hm:aw C (zA scope sc) (zL N [side]) mx (.e xm)) (re:zg elt=false) (he:aw C (zA scope sc) (zL N [side]) elt (.e xe)) (hs:zW xm=true) (le:xw (N.length+1) j elt=true) (lm:xw (N.length+1) j mx=true) :
   bo C sc N (.ret (iu N.length k1 k2 k3 k4 a b c d mx elt)) (.b [.Assign [.Name mkn p0] (.Dict [some (.Constant (.str s1) c1 p1),some (.Constant (.str s2) c2 p2),some (.Constant (.str s3) c3 p3),some (.Constant (.str s4) c4 p4)] [x1,x2,x3,x4] pd) pa,
    .Return (some (.ListComp xe [⟨.Name side pt,.Name mkn pi,[.Compare (.Subscript (.Name mkn pm) (.Name side ps) pq) [.Eq] [xm] pc],0⟩] scope pl)) pr]):=by
 constructor;intro cl d X hC hX es eN;subst es;subst eN;simp only[QA,Qk,Wi,not_or,or_false]at nd;obtain⟨⟨n12,n13,n14⟩,⟨n23,n24⟩,n34,_⟩:=nd;obtain⟨o1,o2,_⟩:=yq h3;obtain⟨o3,o4,_⟩:=yq g3;refine uw hC.room.units hC.calm hX.nd h1 (yk h2) (hX.fn _) e1 e2 e3 e4 n12 n13 n14 n23 n24 n34 (qX rfl) ((zu ha X hC rfl rfl).pe ra) ((zu hb X hC rfl rfl).pe rb) ((zu hc X hC rfl rfl).pe rc) ((zu hd X hC rfl rfl).pe rd) (vu h1 (v7 v1) o1 o2) (zC hB) (λXc c=>⟨vu (by rw[c.N];exact g1) (by rw[c.sc];exact v7 v2) o1 o2,vu (by rw[c.N];exact g2) (by rw[c.sc];exact v7 v3) o3 o4,?_,?_⟩) (fR hs) le lm
 .have q:=(zu hm Xc (hC.comp c) c.sc c.N).pe rm;rw[c.K]at q;exact q
 .have q:=(zu he Xc (hC.comp c) c.sc c.N).pe re;rw[c.K]at q;exact q
def bo.«dput»{C:Ctx}{sc:GR}{N:List Str}{j:Nat}{i e:Ex}{x y z:Expr}{p p':Pos}(hs:zY y=true)(ho:aw C sc N (.var j) (.e x))(ri:zg i=false)(hi:aw C sc N i (.e y))(re:zg e=false)(he:aw C sc N e (.e z)):bo C sc N (.dput j i e) (.s (.Assign [.Subscript x y p] z p')):=by
 constructor;intro cl d X hC hX es eN;subst es;subst eN;exact BU hC.room.units ((zu ho X hC rfl rfl).pe rfl) ((zu hi X hC rfl rfl).pe ri) ((zu he X hC rfl rfl).pe re) hs
def bo.«asgS»{C:Ctx}{sc:GR}{N:List Str}{o i e:Ex}{x y z:Expr}{p p':Pos}(hs:zY y=true)(ro:zg o=false)(ho:aw C sc N o (.e x))(ri:zg i=false)(hi:aw C sc N i (.e y))(re:zg e=false)(he:aw C sc N e (.e z)):bo C sc N (.asgS o i e) (.s (.Assign [.Subscript x y p] z p')):=by
 constructor;intro cl d X hC hX es eN;subst es;subst eN;exact BS ((zu ho X hC rfl rfl).pe ro) ((zu hi X hC rfl rfl).pe ri) ((zu he X hC rfl rfl).pe re) hs
def bo.«aug»{C:Ctx}{sc:GR}{N:List Str}{i:Nat}{op:Bo}{e:Ex}{x:Str}{v:Expr}{p p':Pos}(h1:N[i]?=some x)(h2:xx sc x=true)(h3:e7 op=true)(hr:zg e=false)(he:aw C sc N e (.e v)):bo C sc N (.aug i op e) (.s (.AugAssign (.Name x p) (eL op) v p')):=by
 constructor;intro cl d X hC hX es eN;subst es;subst eN;exact uA h3 hX.nd h1 (yk h2) (.inl (hX.fn _)) ((zu he X hC rfl rfl).pe hr)
def bo.«ite»{C:Ctx}{sc:GR}{N:List Str}{c:Ex}{a b:Sm}{x:Expr}{xs ys:List Stmt}{p:Pos}(rc:zg c=false)(ic:wv c=false)(hc:aw C sc N c (.e x))(ha:bo C sc N a (.b xs))(hb:bo C sc N b (.b ys)):bo C sc N (.ite c a b) (.s (.If x xs ys p)):=by
 constructor;intro cl d X hC hX es eN;subst es;subst eN;have iha:=ha.h cl d X hC hX rfl rfl;have ihb:=hb.h cl d X hC hX rfl rfl;exact uc ((zu hc X hC rfl rfl).pt rc ic) iha ihb
def bo.«forv»{C:Ctx}{sc:GR}{N:List Str}{i:Nat}{it:Ex}{body:Sm}{x:Str}{y:Expr}{sts:List Stmt}{p p':Pos}(h1:N[i]?=some x)(h2:xx sc x=true)(hs:zW y=true)(hi:aw C sc N it (.e y))(hb:bo C sc N body (.b sts)):bo C sc N (.forv i it body) (.s (.For (.Name x p) y sts [] p')):=by
 constructor;intro cl d X hC hX es eN;subst es;subst eN;have ihb:=hb.h cl d X hC hX rfl rfl;have hset:∀v,HA y X.env v=pure v:=yt hs;refine PS.imp (k8 hX.hp hC.calm ((zu hi X hC rfl rfl).2 _) (yg hX.nd h1 (yk h2) (.inl (hX.fn _))) ihb hset) λD σ H q=>?_;exact qc (g9 i) q
def bo.«unp»{C:Ctx}{sc:GR}{N:List Str}{i j:Nat}{e:Ex}{x x':Str}{v:Expr}{k}{p p' p2 p3:Pos}(h1:N[i]?=some x)(h2:xx sc x=true)(h3:N[j]?=some x')(h4:xx sc x'=true)(hv:iU v=true)(hr:zg e=false)(he:aw C sc N e (.e v)):
   bo C sc N (.fort i j (.tup (.pair e .unit)) .skip) (.s (.Assign [.Tuple [.Name x p,.Name x' p'] k p2] v p3)):=by
 constructor;intro cl d X hC hX es eN;subst es;subst eN;refine PS.imp (qu ((zu he X hC rfl rfl).pe hr) (kZ hC.calm (yx (yg hX.nd h1 (yk h2) (.inl (hX.fn _))) (yx (yg hX.nd h3 (yk h4) (.inl (hX.fn _))) vk))) (jz (by intros;intro q;cases q)) (by cases v<;>first|rfl|cases hv)) λD σ H q=>?_;exact CA q
def bo.«fort»{C:Ctx}{sc:GR}{N:List Str}{i j:Nat}{it:Ex}{body:Sm}{x x':Str}{y:Expr}{sts:List Stmt}{k}{p p' p2 p3:Pos}(h1:N[i]?=some x)(h2:xx sc x=true)(h3:N[j]?=some x')(h4:xx sc x'=true)(hs:zW y=true)(hi:aw C sc N it (.e y))(hb:bo C sc N body (.b sts)):bo C sc N (.fort i j it body) (.s (.For (.Tuple [.Name x p,.Name x' p2] k p3) y sts [] p')):=by
 constructor;intro cl d X hC hX es eN;subst es;subst eN;have ihb:=hb.h cl d X hC hX rfl rfl;have hset:∀v,HA y X.env v=pure v:=yt hs;refine PS.imp (k8 hX.hp hC.calm ((zu hi X hC rfl rfl).2 _) (kZ hC.calm (yx (yg hX.nd h1 (yk h2) (.inl (hX.fn _))) (yx (yg hX.nd h3 (yk h4) (.inl (hX.fn _))) vk))) ihb hset) λD σ H q=>?_;exact qc (ke i j) q
def bo.«forD»{C:Ctx}{sc:GR}{N:List Str}{i x:Nat}{body:Sm}{nm nx:Str}{sts:List Stmt}{p p' p2:Pos}(h1:N[i]?=some nm)(h2:xx sc nm=true)(hi:aw C sc N (.var x) (.e (.Name nx p2)))(hb:bo C sc N body (.b sts)):bo C sc N (.forD i x body) (.s (.For (.Name nm p) (.Name nx p2) sts [] p')):=by
 constructor;intro cl d X hC hX es eN;subst es;subst eN;have ihb:=hb.h cl d X hC hX rfl rfl;refine PS.imp (k8 hX.hp hC.calm (Dt ((zu hi X hC rfl rfl).pe rfl)) (yg hX.nd h1 (yk h2) (.inl (hX.fn _))) ihb (yt rfl)) λD σ H q=>?_;exact DI rfl q
def bo.«forE»{C:Ctx}{sc:GR}{N:List Str}{i j:Nat}{a:Ex}{body:Sm}{x x':Str}{w:Expr}{sts:List Stmt}{k}{p p' p2 p3 q q':Pos}(h1:N[i]?=some x)(h2:xx sc x=true)(h3:N[j]?=some x')(h4:xx sc x'=true)(hg:cu sc "enumerate"=true)(hs:zh w=true)(ra:zg a=false)(ha:aw C sc N a (.e w))(hd:bo C sc N body (.b sts)):
   bo C sc N (.forE i j a body) (.s (.For (.Tuple [.Name x p,.Name x' p'] k p2) (.Call (.Name "enumerate" q) [w] [] q') sts [] p3)):=by
 constructor;intro cl d X hC hX es eN;subst es;subst eN;have ihd:=hd.h cl d X hC hX rfl rfl;refine PS.imp (k8 hX.hp hC.calm (vn (yJ hg) (hC.blt _ (by simp[zn])) (zy ((zu ha X hC rfl rfl).pe ra) yh (zf hs)) (zf hs)) (kZ hC.calm (yx (yg hX.nd h1 (yk h2) (.inl (hX.fn _))) (yx (yg hX.nd h3 (yk h4) (.inl (hX.fn _))) vk))) ihd (λ_=>rfl)) λD σ H q=>?_;exact DJ q
def bo.«while»{C:Ctx}{sc:GR}{N:List Str}{c:Ex}{body:Sm}{x:Expr}{sts:List Stmt}{p:Pos}(rc:zg c=false)(ic:wv c=false)(hc:aw C sc N c (.e x))(hb:bo C sc N body (.b sts)):bo C sc N (.while c body) (.s (.While x sts [] p)):=by
 constructor;intro cl d X hC hX es eN;subst es;subst eN;have ihb:=hb.h cl d X hC hX rfl rfl;exact PS.imp (D4 hX.hp ((zu hc X hC rfl rfl).pt rc ic) ihb) λD σ H q=>qZ q
def bo.«ret»{C:Ctx}{sc:GR}{N:List Str}{e:Ex}{x:Expr}{p:Pos}(hr:zg e=false)(he:aw C sc N e (.e x)):bo C sc N (.ret e) (.s (.Return (some x) p)):=by
 constructor;intro cl d X hC hX es eN;subst es;subst eN;exact uB ((zu he X hC rfl rfl).pe hr)
def bo.«expr»{C:Ctx}{sc:GR}{N:List Str}{e:Ex}{x:Expr}{p:Pos}(hc:v8 x=false)(hr:zg e=false)(he:aw C sc N e (.e x)):bo C sc N (.expr e) (.s (.Expr x p)):=by
 constructor;intro cl d X hC hX es eN;subst es;subst eN;exact BV ((zu he X hC rfl rfl).pe hr) hc
def bo.«never»{C:Ctx}{sc:GR}{N:List Str}{st:Stmt}:bo C sc N .never (.s st):=by
 constructor;intro cl d X hC hX es eN;subst es;subst eN;exact DF
end
set_option genInjectivity false in
structure a7 where
 nm:Str
 st:Stmt
 N:List Str
 ps:List Str
 fn:Fn
 on:Str
noncomputable def q8(N ps:List Str)(sc:GR):Bool:=
 decide (sc.kind=.function)&&(decide (sc.isCoroutine=false)&&(decide (sc.isGenerator=false)&&(decide N.Nodup&&(decide (N.take ps.length=ps) &&
  (ps.all (λx=>decide (sc.names.lookup x=some .local) || decide (sc.names.lookup x=some .cell))&&sc.names.all (λy=>!(decide (y.2=.free))))))))
def DH (h:q8 N ps sc=true):bX N ps sc:=by
 unfold q8 at h;simp only[QH,W0,Jm,Wp,W7,decide_eq_false_iff_not]at h;obtain⟨h1,h2,h3,h4,h5,h6,h7⟩:=h;exact⟨h1,h2,h3,h4,h5,h6,h7⟩
structure bp(C:Ctx)(d:a7):Prop where
 sc:q8 d.N d.ps (zF d.st)=true
 ar:d.ps.length=d.fn.ar
 sz:d.N.length=d.fn.sz
 body:bo C (zF d.st) d.N d.fn.body (.b (yF d.st))
section
variable{P:GT}{w:GV}{K:Qb}{mg:Str->Option Value}{base:GZ}{C:Ctx}{cl:Nat->List Wd->Me->Rz}
def Eg (R:ab K as H ws vs)(hl:ws.length=fn.ar)(hN:N.length=fn.sz):aB K as H (xa fn ws) (L2.start N vs):=by
 have hv:=R.length;refine⟨by simp[xa,L2.start,hN,hv],λi w e=>?_⟩;unfold xa at e;by_cases hi:i<ws.length
 .rw[Qd (by simpa using hi),Qu]at e;cases hx:ws[i]? with
  |none=>rw[hx]at e;cases e
  |some x=>
   rw[hx]at e;cases e;obtain⟨v,h1,h2⟩:=R.get hx;refine⟨v,?_,h2⟩;unfold L2.start;rw[Qd (by simp;lia),Qu,h1];rfl
 .rw[Qc (by simpa using hi),Vd]at e;split at e<;>cases e
set_option tactic.hygienic true in
def Cz (F:dQ K d.on d.on d.st f fd)(hd:bp C d)(hfn:∀(i:Nat) (nm:Str),C.fns[i]?=some nm->∃f fd ps,mg nm=some (.ref f)/\WM K (.ref f)=true/\Binds K fd ps []/\cb P w K mg base dr k f fd ps (jt K (cl i)))(hcon:gP K w mg C)(hblt:∀nm∈zn,mg nm=none):
  cb P w K mg base dr (k+1) f fd d.ps (jt K (jh cl d.fn)):=by
 obtain⟨h1,h2,h3,h4⟩:=hd;have Sc:=DH h1;have arity:∀{as:List Addr}{H:Hp}{Q:VK}{ws:List Wd}{m:Me},ak K as H Q (jh cl d.fn ws m)->ws.length=d.fn.ar:=λ{as H Q ws m} h=>by
  unfold jh at h;split at h
  .assumption
  .exact h.elim
 refine F.ok Sc (λvs H Q E h=>?_) (λcdv A outer s H vs Q E hr h=>?_)
 .obtain ⟨as,m,ws,S,R,q⟩:=h;rw[<-R.length,arity q,h2]
 .obtain ⟨as,m,ws,S,R,q⟩:=h;have ha:=arity q;have hC:bF C (jY dr P w K mg base d.N d.on (zF d.st) f cdv A outer s H E).nox cl k:=⟨hr,rfl,hfn,hcon,hblt⟩;have hX:dF (jY dr P w K mg base d.N d.on (zF d.st) f cdv A outer s H E).nox:=⟨Sc.nd,λ_=>rfl,PassesOwn.never⟩;refine⟨_,Aa hC hX h4,as,xa d.fn ws,m,S,Eg R ha h3,?_⟩;unfold jh at q;rw[Jh ha]at q;cases hr:bi cl d.fn.body (xa d.fn ws) m with
  |next e m1=>rw[hr]at q;exact λas' H' σ' T S' G=>q as' H' .non T S' (am.mpr rfl)
  |ret w m1=>rw[hr]at q;exact λas' H' v T S' R'=>q as' H' v T S' R'
  |no=>rw[hr]at q;exact q.elim
noncomputable def kf(K:Qb)(mg:Str->Option Value)(d:a7):Prop:=∃f fd,dQ K d.on d.on d.st f fd/\mg d.nm=some (.ref f)
noncomputable def nW(d:a7):Prop:=∀(kV doc pm:Value) (an:Option Addr) (cdv ct:Value) (us:List Value),us.length=d.ps.length->bindArgs (WD d.on d.on (y8 d.st) (yF d.st) (zF d.st) .none kV doc pm an cdv ct) ⟨us,[]⟩=pure (d.ps.zip us)
theorem ve{D:List a7}(hC:C.fns=D.map (·.nm))(hD:∀d∈D,bp C d)(hB:∀d∈D,nW d)(hK:∀d∈D,kf K mg d)
  (hcon:gP K w mg C) (hblt:∀nm∈zn,mg nm=none) :
  ∀(k:Nat) (i:Nat) (d:a7),D[i]?=some d->∀f fd,dQ K d.on d.on d.st f fd->cb P w K mg base dr k f fd d.ps (jt K (yE (D.map (·.fn)) k i))
 |0,i,d,hi,f,fd,F=>by
  have no:∀{vs:List V}{H:Hp}{Q:VK}{E:XK},¬jt K (yE (D.map (·.fn)) 0 i) vs H Q E:=λ{vs H Q E} h=>by
   obtain⟨as,m,ws,S,R,q⟩:=h;exact q
  exact⟨λvs H Q E h=>(no h).elim,λA outer s H args us vs Q E _ _ _ _ h=>(no h).elim⟩
 |k+1,i,d,hi,f,fd,F=>by
  have ih:=ve hC hD hB hK hcon hblt k;have e:jt K (yE (D.map (·.fn)) (k+1) i)=jt K (jh (yE (D.map (·.fn)) k) d.fn):=by
   have:yE (D.map (·.fn)) (k+1) i=jh (yE (D.map (·.fn)) k) d.fn:=by
    funext ws m;unfold yE;rw[Qu,hi];rfl
   rw[this]
  rw[e];refine Cz F (hD d (Qm hi)) (λj nm hj=>?_) hcon hblt;rw[hC,Qu]at hj;cases hx:D[j]? with
  |none=>rw[hx]at hj;cases hj
  |some d'=>
   rw[hx]at hj;cases hj;obtain⟨f',fd',F',m'⟩:=hK d' (Qm hx);exact⟨f',fd',d'.ps,m',F'.kp,F'.binds (hB d' (Qm hx)),ih j d' hx f' fd' F'⟩
end
def Cy {K:Qb}{D:List a7}{ns:List Int}(hO:fE H)(hS:bg K H a (ns.map V.int))(h:∃m,yE (D.map (·.fn)) k i [.rol (ns.map Wd.int)] []=.ok (.bl true) m):
  jt K (yE (D.map (·.fn)) k i) [.ref a] H (λv _=>v=.bl true) E:=by
 obtain⟨m,h⟩:=h;refine⟨[],[],[.rol (ns.map Wd.int)],⟨rfl,QK,λl a o e=>by simp at e⟩,aj.mpr ⟨.ref a,[],rfl,a8.mpr ⟨a,ns.map V.int,rfl,?_,?_⟩,au.mpr rfl⟩,?_⟩
 .rcases hS with (hS|⟨o,hS⟩)|hS
  .rcases hO a with z|⟨o,xs,z⟩
   .rw[z]at hS;cases hS
   .rw[z]at hS;cases hS
  .exact .inl ⟨o,hS⟩
  .exact .inr hS
 .have all:∀l:List Int,ab K [] H (l.map Wd.int) (l.map V.int):=by
   intro l
   induction l with
   |nil=>exact au.mpr rfl
   |cons n l ih=>exact aj.mpr ⟨_,_,rfl,aa.mpr rfl,ih⟩
  exact all ns
 .rw[h];exact λas' H' v T S R=>ai.mp R
def ub {l:PySem.W.OpenLaw}{Kp:GS->Qb}{D:List a7}{dl:a7}(hn:l.most=some n)(hn2:n<=sizeLine)(hdf:d.params.defaults=[])(hr:bK k Ie)(hY:∀(w:GV) (h:GZ),YP w h->(Kp w.params).In h)(hC:C.fns=D.map (·.nm))(hD:∀d∈D,bp C d)(hB:∀d∈D,nW d)(hi:D[i]?=some dl)(hx:dl.ps=[x])(hnm:d.name=dl.nm)(F:∀(w:GV) (mg:Str->Option Value) (fa:Addr) (h:GZ),(Kp w.params).In h->h.Ns Ha mg->mg d.name=some (.ref fa) ->
   (∀e∈D,kf (Kp w.params) mg e)/\gP (Kp w.params) w mg C/\∀nm∈zn,mg nm=none)(hpure:∀ns:List Int,ns.length<=n->∃m,yE (D.map (·.fn)) k i [.rol (ns.map Wd.int)] []=.ok (.bl true) m):
  VG q loose XP YP l.row.toRowW d [] (λf vs=>PySem.call f vs):=by
 refine L2.CC (n:=n) (k:=k) (x:=x) (CX:=λ_=>dr) (sp:=λw=>jt (Kp w.params) (yE (D.map (·.fn)) k i)) hn hn2 hdf hr hY ?_ (λw H a ns hl hO hS=>Cy hO hS (hpure ns hl)) λ_ _ _ _ _ z=>z;intro w mg fa h KX G hmg;obtain⟨h1,h2,h3⟩:=F w mg fa h KX G hmg;obtain⟨f,fd,Ff,hm⟩:=h1 dl (Qm hi);rw[hnm,hm]at hmg;cases hmg;refine⟨fd,λs u=>?_,λbase kb nb=>?_⟩
 .obtain ⟨oc,od,kV,doc,pm,an,cdv,ct,osl,rfl,lk,hcd⟩:=Ff.ex;have q:=hB dl (Qm hi) kV doc pm an cdv ct [u] (by rw[hx];rfl);rw[hx]at q;exact .of_eq q
 .rw[<-hx];exact ve hC hD hB h1 h2 h3 k i dl hi fa fd Ff
theorem aw.v{C:Ctx}{sc:GR}{N:List Str}{i:Nat}{x:Str}{p:Pos}(h1:N[i]?=some x:=by rfl)(h2:gO sc x=true:=by kernel_rfl)(h3:zV x=true:=by kernel_rfl):aw C sc N (.var i) (.e (.Name x p)):=.var h1 h2 h3
def se{P:List Value->Prop}(h:P []):∀us:List Value,us.length=0->P us
 |[],_=>h
def bU{P:List Value->Prop}(h:∀a,P [a]):∀us:List Value,us.length=1->P us
 |[a],_=>h a
def iT {P:List Value->Prop}(h:∀a (us:List Value),us.length=n->P (a::us)):∀us:List Value,us.length=n+1->P us
 |a::us,e=>h a us (Nat.succ.inj e)
def cc{P:List Value->Prop}(h:∀a b,P [a,b]):∀us:List Value,us.length=2->P us:=iT λa=>bU (P:=λus=>P (a::us)) (h a)
def dU{P:List Value->Prop}(h:∀a b c,P [a,b,c]):∀us:List Value,us.length=3->P us:=iT λa=>cc (P:=λus=>P (a::us)) (h a)
def fV{P:List Value->Prop}(h:∀a b c d,P [a,b,c,d]):∀us:List Value,us.length=4->P us:=iT λa=>dU (P:=λus=>P (a::us)) (h a)
end Mini
namespace Mini
namespace Vl
set_option genInjectivity false in
inductive Dat where
 |non|bl (b:Bool)|int (i:Int)|str (s:List Nat)|tup (xs:List Dat)|lst (xs:List Dat)|scr (ns:List Int)|dct (ks:List (List Int)) (xs:List Dat)
deriving Inhabited
inductive Lv where|no|top|full
deriving DecidableEq,Inhabited
abbrev aK:=List (Option Dat)
inductive Rd where|ok (d:Dat)|no
deriving Inhabited
noncomputable def Rd.bind(r:Rd)(f:Dat->Rd):Rd:=match r with
 |.ok d=>f d
 |.no=>.no
mutual
noncomputable def aA:Dat->Bool
 |.lst _=>false
 |.tup xs=>ba xs
 |.non=>true
 |.bl _=>true
 |.int _=>true
 |.str _=>true
 |.scr _=>true
 |.dct _ _=>false
noncomputable def ba:List Dat->Bool
 |[]=>true
 |d::ds=>aA d&&ba ds
end
mutual
noncomputable def yL:Nat->Dat->Bool
 |0,_=>false
 |_+1,.scr _=>false
 |_+1,.dct _ _=>false
 |k+1,.tup xs=>bt k xs
 |k+1,.lst xs=>bt k xs
 |_+1,.non=>true
 |_+1,.bl _=>true
 |_+1,.int _=>true
 |_+1,.str _=>true
noncomputable def bt:Nat->List Dat->Bool
 |_,[]=>true
 |k,d::ds=>yL k d&&bt k ds
end
mutual
noncomputable def cG:Dat->Dat->Bool
 |.tup a,.tup b=>bZ a b
 |.lst a,.lst b=>bZ a b
 |.non,.non=>true
 |.bl a,.bl b=>a==b
 |.int a,.int b=>decide (a=b)
 |.bl a,.int b=>decide (b2i a=b)
 |.int a,.bl b=>decide (a=b2i b)
 |.str a,.str b=>decide (a=b)
 |_,_=>false
noncomputable def bZ:List Dat->List Dat->Bool
 |[],[]=>true
 |x::xs,y::ys=>cG x y&&bZ xs ys
 |_,_=>false
end
noncomputable def xh:Dat->Option (List Dat)
 |.tup xs=>some xs
 |.lst xs=>some xs
 |.scr ns=>some (ns.map .int)
 |_=>none
noncomputable def ef:Dat->Option (List Dat)
 |.lst xs=>some xs
 |.scr ns=>some (ns.map .int)
 |_=>none
noncomputable def bu(xs:List Dat):Rd:=if xs.length<=aF then .ok (.lst xs)else .no
noncomputable def yK(op:Bo)(x y:Dat):Rd:=match x,y with
 |.int i,.int j=>match op with
  |.add=>.ok (.int (i+j))
  |.sub=>.ok (.int (i-j))
  |.mul=>if xk i || xk j then .ok (.int (i*j))else .no
  |.fdiv=>if 0<j/\j<1073741824 then .ok (.int (i/j))else .no
  |.mod=>if 0<j then .ok (.int (i%j))else .no
  |.pow=>if 0<=j/\j<=1000000/\xk i=true then .ok (.int (i^j.toNat))else .no
  |.shr=>if 0<=j/\j<=1000 then .ok (.int (i/2^j.toNat))else .no
  |.band=>if 0<=i/\j=1 then .ok (.int (i%2))else .no
 |.lst xs,.lst ys=>match op with
  |.add=>bu (xs++ys)
  |_=>.no
 |.lst xs,.int k=>match op with
  |.mul=>if -aF<=k/\k<=aF then bu (QJ k.toNat xs).flatten else .no
  |_=>.no
 |.tup xs,.tup ys=>match op with
  |.add=>if xs.length+ys.length<=aF then .ok (.tup (xs++ys))else .no
  |_=>.no
 |_,_=>.no
noncomputable def dC(x y:Dat):Option Bool:=if yL zS x&&yL zS y then some (cG x y)else none
noncomputable def mC(x:Dat)(ys:List Dat):Option Bool:=if yL zS x&&bt zS ys then some (ys.any λy=>cG y x)else none
noncomputable def eJ:Option Bool->Rd
 |some b=>.ok (.bl b)
 |none=>.no
noncomputable def ir(r:Int->Int->Bool)(x y:Dat):Rd:=match x,y with
 |.int i,.int j=>.ok (.bl (r i j))
 |_,_=>.no
noncomputable def zO:List Dat->Option (List Int)
 |[]=>some []
 |.int i::r=>(zO r).map (i::·)
 |_=>none
noncomputable def mw(x y:Dat):Option Bool:=match y with
 |.dct ks _=>match x with
  |.int _=>some false
  |.tup ds=>(zO ds).map λk=>decide (k∈ks)
  |_=>none
 |_=>none
noncomputable def xM(op:Co)(x y:Dat):Rd:=match op with
 |.eq=>eJ (dC x y)
 |.ne=>eJ ((dC x y).map (!·))
 |.isN=>match y,x with
  |.non,.non=>.ok (.bl true)
  |.non,_=>.ok (.bl false)
  |_,_=>.no
 |.notN=>match y,x with
  |.non,.non=>.ok (.bl false)
  |.non,_=>.ok (.bl true)
  |_,_=>.no
 |.isin=>match xh y with
  |some ys=>eJ (mC x ys)
  |none=>eJ (mw x y)
 |.lt=>ir (λi j=>decide (i<j)) x y
 |.le=>ir (λi j=>decide (i<=j)) x y
noncomputable def hG(t:Tg)(x:Dat):Bool:=match t with
 |.int=>match x with
  |.int _=>true
  |.bl _=>true
  |_=>false
 |.bool=>match x with
  |.bl _=>true
  |_=>false
 |.str=>match x with
  |.str _=>true
  |_=>false
 |.tuple=>match x with
  |.tup _=>true
  |_=>false
 |.list=>match x with
  |.scr _=>true
  |.lst _=>true
  |_=>false
 |.dict=>match x with
  |.dct _ _=>true
  |_=>false
noncomputable def jB:List Dat->Option Int
 |[]=>some 0
 |.int i::r=>(jB r).map (i+·)
 |_=>none
noncomputable def xP:List Dat->Option (List (List Int))
 |[]=>some []
 |.lst xs::r=>match zO xs,xP r with
  |some k,some ks=>some (k::ks)
  |_,_=>none
 |_=>none
noncomputable def q9(xs:List Dat):Option (List Int):=match zO xs with
 |some k=>some (0::k)
 |none=>(xP xs).bind fK
noncomputable def xn:List Dat->Option (List (List Int))
 |[]=>some []
 |.lst xs::r=>match q9 xs,xn r with
  |some k,some ks=>some (k::ks)
  |_,_=>none
 |_=>none
noncomputable def eV:List Dat->Option (List (Dat×Dat))
 |[]=>some []
 |.tup [x,y]::r=>(eV r).map ((x,y)::·)
 |_=>none
noncomputable def kr(b:df)(ws:List Dat):Rd:=match b with
 |.sortI=>match ws with
  |[x]=>match (ef x).bind zO with
   |some k=>if k.length<64 then bu ((eD k).map Dat.int)else .no
   |none=>.no
  |_=>.no
 |.sorted=>match ws with
  |[.lst ds]=>match (xn ds).bind λks=>yN Dat ks ds with
   |some es=>bu es
   |none=>.no
  |_=>.no
 |.len=>match ws with
  |[x]=>match xh x with
   |some xs=>.ok (.int xs.length)
   |none=>.no
  |_=>.no
 |.int=>match ws with
  |[.int i]=>.ok (.int i)
  |[.bl b]=>.ok (.int (b2i b))
  |_=>.no
 |.list=>match ws with
  |[x]=>match xh x with
   |some xs=>bu xs
   |none=>.no
  |_=>.no
 |.tuple=>match ws with
  |[x]=>match xh x with
   |some xs=>.ok (.tup xs)
   |none=>.no
  |_=>.no
 |.sum=>match ws with
  |[x]=>match (ef x).bind jB with
   |some i=>.ok (.int i)
   |none=>.no
  |_=>.no
 |.max2=>match ws with
  |[.int i,.int j]=>.ok (.int (if j > i then j else i))
  |_=>.no
 |.min2=>match ws with
  |[.int i,.int j]=>.ok (.int (if j<i then j else i))
  |_=>.no
noncomputable def wB(x y:Dat):Rd:=match y with
 |.int i=>match xh x with
  |some xs=>match (ix xs.length i).bind λj=>xs[j]? with
   |some v=>.ok v
   |none=>.no
  |none=>.no
 |_=>.no
noncomputable def xQ:Dat->Option (List Int)
 |.tup ds=>zO ds
 |_=>none
noncomputable def kg(x y:Dat):Rd:=match x with
 |.dct ks ds=>match (xQ y).bind (bO ks ds)with
  |some v=>.ok v
  |none=>.no
 |_=>.no
noncomputable def yR(lo st:Int)(n:Nat):List Dat:=(Wn n).map λ(i:Nat)=>.int (lo+st*(i:Int))
noncomputable def mv(x:Dat):Bool:=match x with
 |.lst _=>true
 |_=>false
noncomputable def iE(k:Dk)(x:Dat):Bool:=match k with
 |.lix=>mv x
 |_=>match x with
  |.dct _ _=>true
  |_=>false
noncomputable def eU(k:Dk)(x y z:Dat):Rd:=match k with
 |.get=>match x with
  |.dct ks ds=>match xQ y with
   |some q=>match bO ks ds q with
    |some v=>.ok v
    |none=>.ok z
   |none=>.no
  |_=>.no
 |.sum=>match x with
  |.dct _ ds=>match jB ds with
   |some i=>.ok (.int i)
   |none=>.no
  |_=>.no
 |.lix=>match x with
  |.lst ds=>match (cL (λd=>dC d y) ds).bind λbs=>gb true bs 0 with
   |some j=>.ok (.int (j:Nat))
   |none=>.no
  |_=>.no
noncomputable def fC(a b c:Dat):Rd:=match a,b,c with
 |.int a,.int b,.int c=>if -aF<=a/\a<=aF/\-aF<=b/\b<=aF/\(c=1\/c=-1\/c=-2\/c=2)then .ok (.tup (yR a c (fH a b c)))else .no
 |_,_,_=>.no
noncomputable def zU{α:Type}(c e:α->Rd):List α->List Dat->Rd
 |[],acc=>bu acc
 |x::xs,acc=>(c x).bind λb=>match b with
  |.bl true=>(e x).bind λy=>if acc.length<aF then zU c e xs (acc++[y])else .no
  |.bl false=>zU c e xs acc
  |_=>.no
noncomputable def cR(d:Dat):Option (List Dat):=match d with
 |.tup xs=>some xs
 |.scr ns=>some (ns.map .int)
 |.lst xs=>if xs.length<=aF then some xs else none
 |_=>none
noncomputable def fi:Dat->Option (List Dat)
 |.lst xs=>some xs
 |_=>none
noncomputable def xi(k:Kd)(x y:Dat):Option (List (Dat×Dat)):=match k,x,y with
 |.zip,x,y=>match fi x,fi y with
  |some xs,some ys=>if xs.length<=aF/\ys.length<=aF then some (xs.zip ys)else none
  |_,_=>none
 |.enum,.lst xs,.int s=>if xs.length<=aF then some ((yR s 1 xs.length).zip xs)else none
 |.prs,.lst xs,.int _=>if xs.length<=aF then eV xs else none
 |.ptp,.tup xs,.int _=>if xs.length<=aF then eV xs else none
 |_,_,_=>none
noncomputable def zt:Dat->List Dat
 |.tup xs=>xs
 |_=>[]
noncomputable def ml:Wd->Option Dat
 |.non=>some .non
 |.bl b=>some (.bl b)
 |.int i=>some (.int i)
 |.str s=>some (.str s)
 |_=>none
noncomputable def az(cl:Nat->List Dat->Rd):Ex->aK->Rd
 |.var i,de=>match de[i]? with
  |some (some d)=>.ok d
  |_=>.no
 |.lit w,_=>match ml w with
  |some d=>.ok d
  |none=>.no
 |.bin op a b,de=>(az cl a de).bind λx=>(az cl b de).bind λy=>yK op x y
 |.neg a,de=>(az cl a de).bind λx=>match x with
  |.int i=>.ok (.int (-i))
  |_=>.no
 |.not a,de=>(az cl a de).bind λx=>match x with
  |.bl b=>.ok (.bl (! b))
  |_=>.no
 |.and a b,de=>(az cl a de).bind λx=>match x with
  |.bl true=>az cl b de
  |.bl false=>.ok (.bl false)
  |_=>.no
 |.or a b,de=>(az cl a de).bind λx=>match x with
  |.bl false=>az cl b de
  |.bl true=>.ok (.bl true)
  |_=>.no
 |.cmp op a b,de=>(az cl a de).bind λx=>(az cl b de).bind λy=>xM op x y
 |.chain p q a b c,de=>(az cl a de).bind λx=>(az cl b de).bind λy=>(xM p x y).bind λz=>match z with
  |.bl true=>(az cl c de).bind λu=>xM q y u
  |.bl false=>.ok (.bl false)
  |_=>.no
 |.ife c a b,de=>(az cl c de).bind λx=>match x with
  |.bl true=>az cl a de
  |.bl false=>az cl b de
  |_=>.no
 |.unit,_=>.ok (.tup [])
 |.pair a b,de=>(az cl a de).bind λx=>(az cl b de).bind λy=>.ok (.tup (x::zt y))
 |.call k a,de=>(az cl a de).bind λx=>cl k (zt x)
 |.blt b a,de=>(az cl a de).bind λx=>kr b (zt x)
 |.isi t a,de=>(az cl a de).bind λx=>.ok (.bl (hG t x))
 |.lst a,de=>(az cl a de).bind λx=>bu (zt x)
 |.tup a,de=>(az cl a de).bind λx=>if(zt x).length<=aF then .ok (.tup (zt x))else .no
 |.dict0,_=>.ok (.dct [] [])
 |.dget a b,de=>(az cl a de).bind λx=>(az cl b de).bind λy=>kg x y
 |.idx a b,de=>(az cl a de).bind λx=>(az cl b de).bind λy=>wB x y
 |.dop k a b c,de=>(az cl a de).bind λx=>match iE k x with
  |true=>(az cl b de).bind λy=>(az cl c de).bind λz=>eU k x y z
  |false=>.no
 |.meth _ _ _,_=>.no
 |.rng a b c,de=>(az cl a de).bind λx=>(az cl b de).bind λy=>(az cl c de).bind λz=>fC x y z
 |.comp elt it cond,de=>(az cl it de).bind λx=>match cR x with
  |some xs=>zU (λx=>az cl cond (de++[some x])) (λx=>az cl elt (de++[some x])) xs []
  |none=>.no
 |.compP k elt a b cond,de=>(az cl a de).bind λx=>(az cl b de).bind λy=>match xi k x y with
  |some ps=>zU (λp=>az cl cond (de++[some p.1]++[some p.2])) (λp=>az cl elt (de++[some p.1]++[some p.2])) ps []
  |none=>.no
def wC (h:env[i]?=some (some w))(m:Me):ae cl (.var i) env m=.ok w m:=by
 show(match env[i]? with|some (some w)=>Rz.ok w m|_=>.no)=_;rw[h]
def xy (h:de[i]?=some (some d)):az cl (.var i) de=.ok d:=by
 show(match de[i]? with|some (some d)=>Rd.ok d|_=>.no)=_;rw[h]
def yB (h:de[i]?=none\/de[i]?=some none):az cl (.var i) de=.no:=by
 show(match de[i]? with|some (some d)=>Rd.ok d|_=>.no)=_;rcases h with h|h<;>rw[h]
def wD (h:az cl (.var i) de=.ok d):de[i]?=some (some d):=by
 cases z:de[i]? with
 |none=>rw[yB (.inl z)]at h;cases h
 |some o=>
  cases o with
  |none=>rw[yB (.inr z)]at h;cases h
  |some e=>rw[xy z]at h;cases h;rfl
mutual
noncomputable def ag(R:Nat->Prop)(m:Me):Dat->Wd->Prop
 |.non,w=>w=.non
 |.bl b,w=>w=.bl b
 |.int i,w=>w=.int i
 |.str s,w=>w=.str s
 |.scr ns,w=>w=.rol (ns.map Wd.int)
 |.tup ds,w=>∃xs,w=.tup xs/\ab R m ds xs
 |.lst ds,w=>∃l xs,w=.ref l/\R l/\m[l]?=some (.lst xs)/\ab R m ds xs
 |.dct ks ds,w=>∃l xs,w=.ref l/\R l/\m[l]?=some (.dct ks xs)/\ab R m ds xs
noncomputable def ab(R:Nat->Prop)(m:Me):List Dat->List Wd->Prop
 |[],xs=>xs=[]
 |d::ds,xs=>∃x r,xs=x::r/\ag R m d x/\ab R m ds r
end
noncomputable def Le(m m':Me):Prop:=∀(l:Nat) o,m[l]?=some o->m'[l]?=some o
def Le.refl(m:Me):Le m m:=λ_ _ h=>h
def Le.trans{a b c:Me}(h:Le a b)(k:Le b c):Le a c:=λl o z=>k l o (h l o z)
def Le.app(m x:Me):Le m (m++x):=λl o z=>by
 obtain⟨hl,_⟩:=Qa.mp z;rw[Qd hl];exact z
def Le.len (h:Le a b):a.length<=b.length:=by
 rcases Nat.lt_or_ge b.length a.length with z|z
 .have:=h b.length a[b.length] (Qz z);have:=(Qa.mp this).1;lia
 .exact z
noncomputable def Rf(R:Nat->Prop)(n:Nat):Nat->Prop:=λl=>R l\/n<=l
mutual
theorem ag.frame{R R':Nat->Prop}{m m':Me}(h:∀(l:Nat) o,R l->m[l]?=some o->R' l/\m'[l]?=some o):∀(d:Dat) (w:Wd),ag R m d w->ag R' m' d w
 |.non,w,q=>by unfold ag at q ⊢;exact q
 |.bl b,w,q=>by unfold ag at q ⊢;exact q
 |.int b,w,q=>by unfold ag at q ⊢;exact q
 |.str b,w,q=>by unfold ag at q ⊢;exact q
 |.scr b,w,q=>by unfold ag at q ⊢;exact q
 |.tup ds,w,q=>by
  unfold ag at q ⊢;obtain⟨xs,rfl,q⟩:=q;exact⟨xs,rfl,ab.frame h ds xs q⟩
 |.lst ds,w,q=>by
  unfold ag at q ⊢;obtain⟨l,xs,rfl,r,z,q⟩:=q;exact⟨l,xs,rfl,(h l _ r z).1,(h l _ r z).2,ab.frame h ds xs q⟩
 |.dct ks ds,w,q=>by
  unfold ag at q ⊢;obtain⟨l,xs,rfl,r,z,q⟩:=q;exact⟨l,xs,rfl,(h l _ r z).1,(h l _ r z).2,ab.frame h ds xs q⟩
theorem ab.frame{R R':Nat->Prop}{m m':Me}(h:∀(l:Nat) o,R l->m[l]?=some o->R' l/\m'[l]?=some o):∀(ds:List Dat) (xs:List Wd),ab R m ds xs->ab R' m' ds xs
 |[],xs,q=>by unfold ab at q ⊢;exact q
 |d::ds,xs,q=>by
  unfold ab at q ⊢;obtain⟨x,r,rfl,a,b⟩:=q;exact⟨x,r,rfl,ag.frame h d x a,ab.frame h ds r b⟩
end
def ag.up{R:Nat->Prop}{m m':Me}{d:Dat}{w:Wd}(n:Nat)(h:Le m m')(q:ag R m d w):ag (Rf R n) m' d w:=
 ag.frame (λl o r z=>⟨.inl r,h l o z⟩) d w q
def ab.up{R:Nat->Prop}{m m':Me}{d:List Dat}{w:List Wd}(n:Nat)(h:Le m m')(q:ab R m d w):ab (Rf R n) m' d w:=
 ab.frame (λl o r z=>⟨.inl r,h l o z⟩) d w q
theorem aY:∀{ds:List Dat}{xs:List Wd},ab R m ds xs↔ds.length=xs.length/\∀(i:Nat) d x,ds[i]?=some d->xs[i]?=some x->ag R m d x
 |[],xs=>by
  unfold ab;constructor
  .rintro rfl;exact⟨rfl,by simp⟩
  .rintro ⟨h,_⟩;exact VB h.symm
 |d::ds,xs=>by
  unfold ab;constructor
  .rintro ⟨x,r,rfl,a,b⟩;obtain⟨hl,hb⟩:=aY.mp b;refine⟨by simp[hl],λi e y h1 h2=>?_⟩;cases i with
   |zero=>simp at h1 h2;subst h1;subst h2;exact a
   |succ i=>simp at h1 h2;exact hb i e y h1 h2
  .rintro ⟨hl,h⟩;cases xs with
   |nil=>cases hl
   |cons x r=>
    refine⟨x,r,rfl,h 0 d x rfl rfl,aY.mpr ⟨by simpa using hl,λi e y h1 h2=>h (i+1) e y (by simpa using h1) (by simpa using h2)⟩⟩
def ab.len (h:ab R m ds xs):ds.length=xs.length:=(aY.mp h).1
def ab.get (h:ab R m ds xs){i:Nat}(z:ds[i]?=some d):∃x,xs[i]?=some x/\ag R m d x:=by
 obtain⟨hl,h⟩:=aY.mp h;obtain⟨hi,_⟩:=Qa.mp z;exact⟨xs[i],Qz (by lia),h i d _ z (Qz (by lia))⟩
def ab.nil{R:Nat->Prop}{m:Me}:ab R m [] []:=by unfold ab;rfl
def ab.cons{R:Nat->Prop}{m:Me}{d:Dat}{x:Wd}{ds:List Dat}{xs:List Wd}(a:ag R m d x)(b:ab R m ds xs):ab R m (d::ds) (x::xs):=by
 unfold ab;exact⟨x,xs,rfl,a,b⟩
def ab.cons_inv (h:ab R m (d::ds) xs):∃x r,xs=x::r/\ag R m d x/\ab R m ds r:=by
 unfold ab at h;exact h
def ab.nil_inv (h:ab R m [] xs):xs=[]:=by unfold ab at h;exact h
theorem ab.app:∀{ds es:List Dat}{xs ys:List Wd},ab R m ds xs->ab R m es ys->ab R m (ds++es) (xs++ys)
 |[],es,xs,ys,a,b=>by rw[a.nil_inv];exact b
 |d::ds,es,xs,ys,a,b=>by
  obtain⟨x,r,rfl,p,q⟩:=a.cons_inv;exact .cons p (ab.app q b)
theorem ab.drop{R:Nat->Prop}{m:Me}(n:Nat){ds:List Dat}{xs:List Wd}(h:ab R m ds xs):ab R m (ds.drop n) (xs.drop n):=by
 obtain⟨hl,h⟩:=aY.mp h;refine aY.mpr ⟨by simp[hl],λi d x a b=>h (n+i) d x (by simpa using a) (by simpa using b)⟩
set_option tactic.hygienic true in
theorem ab.take{R:Nat->Prop}{m:Me}(n:Nat){ds:List Dat}{xs:List Wd}(h:ab R m ds xs):ab R m (ds.take n) (xs.take n):=by
 obtain⟨hl,h⟩:=aY.mp h;refine aY.mpr ⟨by simp[hl],λi d x a b=>?_⟩;rw[List.getElem?_take]at a b;split at a
 .next z=>rw[Jh z]at b;exact h i d x a b
 .cases a
theorem ab.rev:∀{ds:List Dat}{xs:List Wd},ab R m ds xs->ab R m ds.reverse xs.reverse
 |[],xs,a=>by rw[a.nil_inv];exact .nil
 |d::ds,xs,a=>by
  obtain⟨x,r,rfl,p,q⟩:=a.cons_inv;rw[Wm,Wm];exact ab.app (ab.rev q) (.cons p .nil)
theorem ab.set{R:Nat->Prop}{m:Me}{ds:List Dat}{xs:List Wd}(h:ab R m ds xs)(j:Nat){d:Dat}{x:Wd}(z:ag R m d x):ab R m (ds.set j d) (xs.set j x):=by
 obtain⟨hl,h⟩:=aY.mp h;refine aY.mpr ⟨by simp[hl],λi e y a b=>?_⟩;rw[QD]at a b;by_cases q:j=i
 .rw[Jh q]at a b;split at a
  .split at b
   .cases a;cases b;exact z
   .cases b
  .cases a
 .rw[Ji q]at a b;exact h i e y a b
theorem ab.rep (h:ab R m ds xs):∀k:Nat,ab R m (QJ k ds).flatten (QJ k xs).flatten
 |0=>.nil
 |k+1=>by
  rw[Q8,Q8,QX,QX];exact ab.app h (ab.rep h k)
theorem dL:∀(l:List Int),ab R m (l.map Dat.int) (l.map Wd.int)
 |[]=>.nil
 |i::l=>.cons (by unfold ag;rfl) (dL l)
def aa:ag R m (.int i) w↔w=.int i:=by unfold ag;exact Iff.rfl
def ai:ag R m (.bl i) w↔w=.bl i:=by unfold ag;exact Iff.rfl
def am:ag R m .non w↔w=.non:=by unfold ag;exact Iff.rfl
def ay:ag R m (.str s) w↔w=.str s:=by unfold ag;exact Iff.rfl
def aT:ag R m (.scr s) w↔w=.rol (s.map Wd.int):=by unfold ag;exact Iff.rfl
def ah:ag R m (.tup ds) w↔∃xs,w=.tup xs/\ab R m ds xs:=by
 constructor
 .intro h;unfold ag at h;exact h
 .intro h;unfold ag;exact h
def aq:ag R m (.lst ds) w↔∃l xs,w=.ref l/\R l/\m[l]?=some (.lst xs)/\ab R m ds xs:=by
 constructor
 .intro h;unfold ag at h;exact h
 .intro h;unfold ag;exact h
def aL:ag R m (.dct ks ds) w↔∃l xs,w=.ref l/\R l/\m[l]?=some (.dct ks xs)/\ab R m ds xs:=by
 constructor
 .intro h;unfold ag at h;exact h
 .intro h;unfold ag;exact h
noncomputable def af(R:Nat->Prop)(m:Me)(r:Rz)(rd:Rd):Prop:=match rd with
 |.ok d=>∃w m',r=.ok w m'/\Le m m'/\ag (Rf R m.length) m' d w
 |.no=>True
def af.lift{R:Nat->Prop}{m m1:Me}{r:Rz}{rd:Rd}(h:Le m m1)(q:af (Rf R m.length) m1 r rd):af R m r rd:=by
 have hl:=h.len;have fr:∀(m':Me) (d:Dat) (w:Wd),ag (Rf (Rf R m.length) m1.length) m' d w->ag (Rf R m.length) m' d w:=λm' d w=>ag.frame (λl o z k=>⟨by rcases z with (z|z)|z;exact .inl z;exact .inr z;exact .inr (by lia),k⟩) d w;cases rd with
 |ok d=>obtain⟨w,m',rfl,k,z⟩:=q;exact⟨w,m',rfl,h.trans k,fr _ _ _ z⟩
 |no=>trivial
theorem af.bind{R:Nat->Prop}{m:Me}{r:Rz}{rd:Rd}{f:Wd->Me->Rz}{g:Dat->Rd}(h:af R m r rd)
  (k:∀d w m',Le m m'->ag (Rf R m.length) m' d w->af (Rf R m.length) m' (f w m') (g d)):af R m (r.bind f) (rd.bind g):=by
 cases rd with
 |ok d=>obtain⟨w,m',rfl,l,z⟩:=h;exact af.lift l (k d w m' l z)
 |no=>trivial
def cC (h:ag R m d w):af R m (.ok w m) (.ok d):=
 ⟨w,m,rfl,Le.refl m,h.up _ (Le.refl m)⟩
theorem af.no{R:Nat->Prop}{m:Me}{r:Rz}:af R m r .no:=trivial
def af.new{R:Nat->Prop}{m:Me}{ds:List Dat}{xs:List Wd}(h:ab R m ds xs):af R m (alloc m xs) (bu ds):=by
 unfold bu alloc;rw[h.len];by_cases z:xs.length<=aF
 .rw[Jh z,Jh z];exact⟨_,_,rfl,Le.app m _,aq.mpr ⟨_,xs,rfl,.inr (Qf _),by simp,h.up _ (Le.app m _)⟩⟩
 .rw[Ji z,Ji z];exact af.no
def xH (h:ag R m d w)(z:xh d=some ds):∃xs,yz m w=some xs/\ab R m ds xs:=by
 cases d with
 |tup es=>obtain⟨xs,rfl,q⟩:=ah.mp h;cases z;exact⟨xs,rfl,q⟩
 |lst es=>
  obtain⟨l,xs,rfl,_,e,q⟩:=aq.mp h;cases z;exact⟨xs,by show zi m l=_;unfold zi;rw[e],q⟩
 |scr ns=>rw[aT.mp h];cases z;exact⟨_,rfl,dL ns⟩
 |_=>cases z
def oX (h:ag R m d w)(z:ef d=some ds):∃xs,kn m w=some xs/\ab R m ds xs:=by
 cases d with
 |lst es=>
  obtain⟨l,xs,rfl,_,e,q⟩:=aq.mp h;cases z;exact⟨xs,by show zi m l=_;unfold zi;rw[e],q⟩
 |scr ns=>rw[aT.mp h];cases z;exact⟨_,rfl,dL ns⟩
 |_=>cases z
theorem qd:∀{a b:List Int},a.map Wd.int=b.map Wd.int->a=b
 |[],[],_=>rfl
 |[],_::_,h=>by cases h
 |_::_,[],h=>by cases h
 |x::a,y::b,h=>by
  simp only[Q2,List.cons.injEq,Wd.int.injEq]at h;rw[h.1,qd h.2]
mutual
theorem ag.det{R R':Nat->Prop}{m:Me}:∀(d e:Dat) (w:Wd),ag R m d w->ag R' m e w->d=e
 |.non,e,w,q,z=>by rw[am.mp q]at z;cases e<;>unfold ag at z<;>first|rfl|(exfalso;simp at z)
 |.bl b,e,w,q,z=>by rw[ai.mp q]at z;cases e<;>unfold ag at z<;>first|(injection z with z;rw[z])|(exfalso;simp at z)
 |.int b,e,w,q,z=>by rw[aa.mp q]at z;cases e<;>unfold ag at z<;>first|(injection z with z;rw[z])|(exfalso;simp at z)
 |.str b,e,w,q,z=>by rw[ay.mp q]at z;cases e<;>unfold ag at z<;>first|(injection z with z;rw[z])|(exfalso;simp at z)
 |.scr b,e,w,q,z=>by rw[aT.mp q]at z;cases e<;>unfold ag at z<;>first|(injection z with z;rw[qd z])|(exfalso;simp at z)
 |.tup ds,e,w,q,z=>by
  obtain⟨xs,rfl,q1⟩:=ah.mp q;cases e with
  |tup es=>obtain⟨ys,e,z1⟩:=ah.mp z;cases e;rw[ab.det ds es xs q1 z1]
  |_=>exfalso;unfold ag at z;simp at z
 |.lst ds,e,w,q,z=>by
  obtain⟨l,xs,rfl,_,hm,q1⟩:=aq.mp q;cases e with
  |lst es=>obtain⟨l',ys,e,_,hn,z1⟩:=aq.mp z;cases e;rw[hm]at hn;cases hn;rw[ab.det ds es xs q1 z1]
  |dct ks es=>obtain⟨l',ys,e,_,hn,z1⟩:=aL.mp z;cases e;rw[hm]at hn;cases hn
  |_=>exfalso;unfold ag at z;simp at z
 |.dct ks ds,e,w,q,z=>by
  obtain⟨l,xs,rfl,_,hm,q1⟩:=aL.mp q;cases e with
  |dct ks' es=>obtain⟨l',ys,e,_,hn,z1⟩:=aL.mp z;cases e;rw[hm]at hn;cases hn;rw[ab.det ds es xs q1 z1]
  |lst es=>obtain⟨l',ys,e,_,hn,z1⟩:=aq.mp z;cases e;rw[hm]at hn;cases hn
  |_=>exfalso;unfold ag at z;simp at z
theorem ab.det{R R':Nat->Prop}{m:Me}:∀(ds es:List Dat) (xs:List Wd),ab R m ds xs->ab R' m es xs->ds=es
 |[],es,xs,q,z=>by
  rw[q.nil_inv]at z;cases es with
  |nil=>rfl
  |cons e es=>obtain⟨_,_,h,_⟩:=z.cons_inv;cases h
 |d::ds,es,xs,q,z=>by
  obtain⟨x,r,rfl,a,b⟩:=q.cons_inv;cases es with
  |nil=>cases z.nil_inv
  |cons e es=>
   obtain⟨_,_,h,a',b'⟩:=z.cons_inv;cases h;rw[ag.det d e x a a',ab.det ds es r b b']
end
def oM(d:Dat):yL 0 d=false:=by cases d<;>rfl
mutual
theorem qe:∀(k:Nat) (d:Dat),yL k d=true->cG d d=true
 |0,d,h=>by rw[oM]at h;cases h
 |k+1,.non,h=>rfl
 |k+1,.bl b,h=>by show(b==b)=true;simp
 |k+1,.int b,h=>by show decide (b=b)=true;simp
 |k+1,.str b,h=>by show decide (b=b)=true;simp
 |k+1,.scr b,h=>Jj (show false=true from h) (by decide)
 |k+1,.dct _ _,h=>Jj (show false=true from h) (by decide)
 |k+1,.tup ds,h=>bS k ds h
 |k+1,.lst ds,h=>bS k ds h
theorem bS:∀(k:Nat) (ds:List Dat),bt k ds=true->bZ ds ds=true
 |k,[],h=>rfl
 |k,d::ds,h=>by
  replace h:(yL k d&&bt k ds)=true:=h
  show(cG d d&&bZ ds ds)=true;rw[QH]at h ⊢;exact⟨qe k d h.1,bS k ds h.2⟩
end
theorem jC (ih:∀(d e:Dat) (x y:Wd),yL k d=true->yL k e=true->ag R m d x->ag R m e y->bM m k x y=some (cG d e)):
  ∀(ds es:List Dat) (xs ys:List Wd),bt k ds=true->bt k es=true->ab R m ds xs->ab R m es ys->∃q,cg (bM m k) xs ys=some q/\(q&&decide (xs.length=ys.length))=bZ ds es
 |[],es,xs,ys,h1,h2,a,b=>by
  rw[a.nil_inv];cases es with
  |nil=>rw[b.nil_inv];exact⟨true,rfl,rfl⟩
  |cons e es=>obtain⟨y,r,rfl,_,_⟩:=b.cons_inv;exact⟨true,rfl,rfl⟩
 |d::ds,es,xs,ys,h1,h2,a,b=>by
  obtain⟨x,r,rfl,p,q⟩:=a.cons_inv;cases es with
  |nil=>rw[b.nil_inv];exact⟨true,rfl,rfl⟩
  |cons e es=>
   obtain⟨y,s,rfl,p',q'⟩:=b.cons_inv
   replace h1:(yL k d&&bt k ds)=true:=h1
   replace h2:(yL k e&&bt k es)=true:=h2
   rw[QH]at h1 h2;obtain⟨t,ht,hb⟩:=jC ih ds es r s h1.2 h2.2 q q';refine⟨cG d e&&t,?_,?_⟩
   .unfold cg;rw[ih d e x y h1.1 h2.1 p p',ht];rfl
   .show (cG d e&&t&&decide (r.length+1=s.length+1))=(cG d e&&bZ ds es);simp only[<-hb,Nat.succ_inj,Bool.and_assoc]
def aN (h:m[l]?=some (.lst xs)):aJ m l=true:=by unfold aJ;rw[h]
def yw (h:m[l]?=some (.lst xs)):(if aJ m l&&true then some false else none)=some false:=by rw[aN h];rfl
theorem iP:∀(k:Nat) (d e:Dat) (x y:Wd),yL k d=true->yL k e=true->ag R m d x->ag R m e y->bM m k x y=some (cG d e)
 |0,d,e,x,y,h,_,_,_=>by rw[oM]at h;cases h
 |k+1,d,e,x,y,h1,h2,a,b=>by
  have ih:=iP (R:=R) (m:=m) k;cases d with
  |scr ns=>exact Jj (show false=true from h1) (by decide)
  |dct _ _=>exact Jj (show false=true from h1) (by decide)
  |tup ds=>
   obtain⟨xs,rfl,a1⟩:=ah.mp a;cases e with
   |scr ns=>exact Jj (show false=true from h2) (by decide)
   |dct _ _=>exact Jj (show false=true from h2) (by decide)
   |tup es=>
    obtain⟨ys,rfl,b1⟩:=ah.mp b;obtain⟨q,h,e⟩:=jC ih ds es xs ys h1 h2 a1 b1;show(cg (bM m k) xs ys).map (· && decide (xs.length=ys.length))=some (bZ ds es);rw[h,<-e];rfl
   |lst es=>
    obtain⟨l,ys,rfl,_,hm,b⟩:=aq.mp b;exact yw hm
   |non=>rw[am.mp b];rfl
   |bl _=>rw[ai.mp b];rfl
   |int _=>rw[aa.mp b];rfl
   |str _=>rw[ay.mp b];rfl
  |lst ds=>
   have a0:=a;obtain⟨l,xs,rfl,_,hm,a⟩:=aq.mp a;cases e with
   |scr ns=>exact Jj (show false=true from h2) (by decide)
   |dct _ _=>exact Jj (show false=true from h2) (by decide)
   |lst es=>
    have b0:=b;obtain⟨l',ys,rfl,_,hn,b⟩:=aq.mp b;show(if l=l' then(if aJ m l then some true else none)else match m[l]?,m[l']? with
     |some (.lst xs),some (.lst ys)=>if xs.length=ys.length then cg (bM m k) xs ys else some false
     |_,_=>none)=_
    by_cases q:l=l'
    .subst q;rw[Jh rfl,Jh (aN hm)];rw[ag.det _ _ _ a0 b0]at *
     rw[qe (k+1) _ h2]
    .rw[Ji q,hm,hn];obtain⟨q,h,e⟩:=jC ih ds es xs ys h1 h2 a b;show(if xs.length=ys.length then cg (bM m k) xs ys else some false)=some (bZ ds es);by_cases z:xs.length=ys.length
     .simp only[z,if_true,h,<-e];simp
     .simp only[z,if_false,<-e];simp
   |tup es=>obtain⟨ys,rfl,b⟩:=ah.mp b;exact yw hm
   |non=>rw[am.mp b];exact yw hm
   |bl _=>rw[ai.mp b];exact yw hm
   |int _=>rw[aa.mp b];exact yw hm
   |str _=>rw[ay.mp b];exact yw hm
  |non=>
   rw[am.mp a];cases e with
   |scr ns=>exact Jj (show false=true from h2) (by decide)
   |dct _ _=>exact Jj (show false=true from h2) (by decide)
   |lst es=>obtain⟨l',ys,rfl,_,hn,b⟩:=aq.mp b;exact yw hn
   |tup es=>obtain⟨ys,rfl,b⟩:=ah.mp b;rfl
   |non=>rw[am.mp b];rfl
   |bl _=>rw[ai.mp b];rfl
   |int _=>rw[aa.mp b];rfl
   |str _=>rw[ay.mp b];rfl
  |bl _=>
   rw[ai.mp a];cases e with
   |scr ns=>exact Jj (show false=true from h2) (by decide)
   |dct _ _=>exact Jj (show false=true from h2) (by decide)
   |lst es=>obtain⟨l',ys,rfl,_,hn,b⟩:=aq.mp b;exact yw hn
   |tup es=>obtain⟨ys,rfl,b⟩:=ah.mp b;rfl
   |non=>rw[am.mp b];rfl
   |bl _=>rw[ai.mp b];rfl
   |int _=>rw[aa.mp b];rfl
   |str _=>rw[ay.mp b];rfl
  |int _=>
   rw[aa.mp a];cases e with
   |scr ns=>exact Jj (show false=true from h2) (by decide)
   |dct _ _=>exact Jj (show false=true from h2) (by decide)
   |lst es=>obtain⟨l',ys,rfl,_,hn,b⟩:=aq.mp b;exact yw hn
   |tup es=>obtain⟨ys,rfl,b⟩:=ah.mp b;rfl
   |non=>rw[am.mp b];rfl
   |bl _=>rw[ai.mp b];rfl
   |int _=>rw[aa.mp b];rfl
   |str _=>rw[ay.mp b];rfl
  |str _=>
   rw[ay.mp a];cases e with
   |scr ns=>exact Jj (show false=true from h2) (by decide)
   |dct _ _=>exact Jj (show false=true from h2) (by decide)
   |lst es=>obtain⟨l',ys,rfl,_,hn,b⟩:=aq.mp b;exact yw hn
   |tup es=>obtain⟨ys,rfl,b⟩:=ah.mp b;rfl
   |non=>rw[am.mp b];rfl
   |bl _=>rw[ai.mp b];rfl
   |int _=>rw[aa.mp b];rfl
   |str _=>rw[ay.mp b];rfl
set_option tactic.hygienic true in
def jD (h:dC d e=some q)(a:ag R m d x)(b:ag R m e y):bM m zS x y=some q:=by
 unfold dC at h;split at h
 .next z=>simp only[QH]at z;cases h;exact iP zS d e x y z.1 z.2 a b
 .cases h
theorem rH (h:yL zS d=true)(a:ag R m d x):∀(es:List Dat) (ys:List Wd),bt zS es=true->ab R m es ys->dz (bM m zS) x ys=some (es.any λe=>cG e d)
 |[],ys,_,b=>by rw[b.nil_inv];rfl
 |e::es,ys,z,b=>by
  obtain⟨y,r,rfl,p,q⟩:=b.cons_inv
  replace z:(yL zS e&&bt zS es)=true:=z
  rw[QH]at z;show(match bM m zS y x with
   |some a=>(dz (bM m zS) x r).map (a || ·)
   |none=>none)=_
  rw[iP zS e d y x z.1 h p a,rH h a es r z.2 q];rfl
set_option tactic.hygienic true in
def BO (h:mC d es=some q)(a:ag R m d x)(b:ab R m es ys):dz (bM m zS) x ys=some q:=by
 unfold mC at h;split at h
 .next z=>simp only[QH]at z;cases h;exact rH z.1 a es ys z.2 b
 .cases h
theorem af.int{R:Nat->Prop}{m:Me}{i:Int}:af R m (.ok (.int i) m) (.ok (.int i)):=cC (aa.mpr rfl)
theorem af.bl{R:Nat->Prop}{m:Me}{i:Bool}:af R m (.ok (.bl i) m) (.ok (.bl i)):=cC (ai.mpr rfl)
def jE (op:Bo)(a:ag R m d x)(b:ag R m e y):af R m (ci op x y m) (yK op d e):=by
 cases d with
 |int i=>
  rw[aa.mp a];cases e with
  |int j=>
   rw[aa.mp b];cases op<;>simp only[ci,yK]
   .exact af.int
   .exact af.int
   .by_cases z:(xk i || xk j)=true
    .rw[Jh z,Jh z];exact af.int
    .rw[Ji z,Ji z];exact af.no
   .by_cases z:0<j/\j<1073741824
    .rw[Jh z,Jh z];exact af.int
    .rw[Ji z,Ji z];exact af.no
   .by_cases z:0<j
    .rw[Jh z,Jh z];exact af.int
    .rw[Ji z,Ji z];exact af.no
   .by_cases z:0<=j/\j<=1000000/\xk i=true
    .rw[Jh z,Jh z];exact af.int
    .rw[Ji z,Ji z];exact af.no
   .by_cases z:0<=j/\j<=1000
    .rw[Jh z,Jh z];exact af.int
    .rw[Ji z,Ji z];exact af.no
   .by_cases z:0<=i/\j=1
    .rw[Jh z,Jh z];exact af.int
    .rw[Ji z,Ji z];exact af.no
  |_=>exact af.no
 |lst ds=>
  obtain⟨l,xs,rfl,_,hm,a1⟩:=aq.mp a;cases e with
  |lst es=>
   obtain⟨l',ys,rfl,_,hn,b1⟩:=aq.mp b;cases op<;>first|exact af.no|skip
   simp only[ci,yK,hm,hn];exact af.new (a1.app b1)
  |int k=>
   rw[aa.mp b];cases op<;>first|exact af.no|skip
   simp only[ci,yK,hm];by_cases z:-(aF:Int)<=k/\k<=(aF:Int)
   .rw[Jh z,Jh z];exact af.new (a1.rep _)
   .rw[Ji z,Ji z];exact af.no
  |_=>exact af.no
 |tup ds=>
  obtain⟨xs,rfl,a1⟩:=ah.mp a;cases e with
  |tup es=>
   obtain⟨ys,rfl,b1⟩:=ah.mp b;cases op<;>first|exact af.no|skip
   simp only[ci,yK];have h1:=a1.len;have h2:=b1.len;rw[h1,h2];by_cases z:xs.length+ys.length<=aF
   .rw[Jh z,Jh z];exact cC (ah.mpr ⟨_,rfl,a1.app b1⟩)
   .rw[Ji z,Ji z];exact af.no
  |_=>exact af.no
 |_=>exact af.no
def rG (r:Int->Int->Bool)(a:ag R m d x)(b:ag R m e y):af R m (j8 r x y m) (ir r d e):=by
 cases d with
 |int i=>
  rw[aa.mp a];cases e with
  |int j=>rw[aa.mp b];exact af.bl
  |_=>exact af.no
 |_=>exact af.no
def jF (h:∀b,q=some b->p=some b):af R m (cI p m) (eJ q):=by
 cases q with
 |none=>exact af.no
 |some b=>rw[h b rfl];exact af.bl
def Cw (h:∀b,q=some b->p=some b):af R m (cI (p.map (!·)) m) (eJ (q.map (!·))):=by
 cases q with
 |none=>exact af.no
 |some b=>rw[h b rfl];exact af.bl
def BN (a:ag R m d x)(b:ag R m e y):af R m (cn .isN x y m) (xM .isN d e):=by
 cases e with
 |non=>
  rw[am.mp b];cases d with
  |non=>rw[am.mp a];exact af.bl
  |bl _=>rw[ai.mp a];exact af.bl
  |int _=>rw[aa.mp a];exact af.bl
  |str _=>rw[ay.mp a];exact af.bl
  |scr _=>rw[aT.mp a];exact af.bl
  |tup _=>obtain⟨xs,rfl,_⟩:=ah.mp a;exact af.bl
  |lst _=>obtain⟨l,xs,rfl,_⟩:=aq.mp a;exact af.bl
  |dct _ _=>obtain⟨l,xs,rfl,_⟩:=aL.mp a;exact af.bl
 |_=>exact af.no
def Cv (a:ag R m d x)(b:ag R m e y):af R m (cn .notN x y m) (xM .notN d e):=by
 cases e with
 |non=>
  rw[am.mp b];cases d with
  |non=>rw[am.mp a];exact af.bl
  |bl _=>rw[ai.mp a];exact af.bl
  |int _=>rw[aa.mp a];exact af.bl
  |str _=>rw[ay.mp a];exact af.bl
  |scr _=>rw[aT.mp a];exact af.bl
  |tup _=>obtain⟨xs,rfl,_⟩:=ah.mp a;exact af.bl
  |lst _=>obtain⟨l,xs,rfl,_⟩:=aq.mp a;exact af.bl
  |dct _ _=>obtain⟨l,xs,rfl,_⟩:=aL.mp a;exact af.bl
 |_=>exact af.no
theorem wR:∀{ds:List Dat}{xs:List Wd}{k:List Int},ab R m ds xs->zO ds=some k->zX xs=some k
 |[],xs,k,a,h=>by rw[a.nil_inv];exact h
 |d::ds,xs,k,a,h=>by
  obtain⟨x,r,rfl,p,q⟩:=a.cons_inv;cases d with
  |int j=>
   rw[aa.mp p];simp only[zO,QG]at h;obtain⟨k,hk,rfl⟩:=h;simp only[zX,wR q hk,QP]
  |_=>simp[zO]at h
def jG (op:Co)(a:ag R m d x)(b:ag R m e y):af R m (cn op x y m) (xM op d e):=by
 cases op with
 |eq=>exact jF λq h=>jD h a b
 |ne=>exact Cw λq h=>jD h a b
 |isN=>exact BN a b
 |notN=>exact Cv a b
 |isin=>
  simp only[cn,xM];cases z:xh e with
  |none=>
   cases e with
   |dct ks ds=>
    obtain⟨l,xs,rfl,_,hm,q⟩:=aL.mp b;have hs:yz m (.ref l)=none:=by show zi m l=none;unfold zi;rw[hm]
    rw[hs];refine jF λt h=>?_;unfold ie;simp only[hm];cases d with
    |int i=>rw[aa.mp a];exact h
    |tup us=>
     obtain⟨ws,rfl,q⟩:=ah.mp a;have h:(zO us).map (λk=>decide (k∈ks))=some t:=h;obtain⟨k,hk,rfl⟩:=QG.mp h;show(zX ws).map _=_;rw[wR q hk];rfl
    |_=>cases h
   |_=>exact af.no
  |some es=>
   obtain⟨ys,h,q⟩:=xH b z;rw[h];exact jF λt h=>BO h a q
 |lt=>exact rG _ a b
 |le=>exact rG _ a b
def BM (t:Tg)(a:ag R m d x):af R m (cI (cE t x m) m) (.ok (.bl (hG t d))):=by
 have h:cE t x m=some (hG t d):=by
  cases d with
  |non=>rw[am.mp a];cases t<;>rfl
  |bl _=>rw[ai.mp a];cases t<;>rfl
  |int _=>rw[aa.mp a];cases t<;>rfl
  |str _=>rw[ay.mp a];cases t<;>rfl
  |scr _=>rw[aT.mp a];cases t<;>rfl
  |tup _=>obtain⟨xs,rfl,_⟩:=ah.mp a;cases t<;>rfl
  |lst _=>obtain⟨l,xs,rfl,_,hm,_⟩:=aq.mp a;cases t<;>(show(match m[l]? with|some (.lst _)=>_|some (.dct _ _)=>_|none=>_)=_;rw[hm];rfl)
  |dct _ _=>obtain⟨l,xs,rfl,_,hm,_⟩:=aL.mp a;cases t<;>(show(match m[l]? with|some (.lst _)=>_|some (.dct _ _)=>_|none=>_)=_;rw[hm];rfl)
 rw[h];exact af.bl
def wE (a:ag R m d x)(h:xQ d=some k):jf x=some k:=by
 cases d with
 |tup ds=>obtain⟨xs,rfl,q⟩:=ah.mp a;exact wR q h
 |_=>cases h
theorem jH:∀{ks:List (List Int)}{ds:List Dat}{xs:List Wd}{d:Dat},ab R m ds xs->bO ks ds q=some d->∃x,bO ks xs q=some x/\ag R m d x
 |[],ds,xs,d,a,h=>by cases ds<;>cases h
 |k::ks,[],xs,d,a,h=>by cases h
 |k::ks,e::ds,xs,d,a,h=>by
  obtain⟨x,r,rfl,p,z⟩:=a.cons_inv;have h':(if k=q then some e else bO ks ds q)=some d:=h;show ∃y,(if k=q then some x else bO ks r q)=some y/\_;by_cases c:k=q
  .rw[Jh c]at h' ⊢;cases h';exact⟨x,rfl,p⟩
  .rw[Ji c]at h' ⊢;exact jH z h'
theorem qf:∀{ks:List (List Int)}{ds:List α}{xs:List β},ds.length=xs.length->bO ks ds q=none->bO ks xs q=none
 |[],_,_,_,_=>rfl
 |k::ks,[],xs,h,_=>by cases xs with
  |nil=>rfl
  |cons _ _=>cases h
 |k::ks,d::ds,[],h,_=>by cases h
 |k::ks,d::ds,x::xs,h,e=>by
  have e':(if k=q then some d else bO ks ds q)=none:=e;show(if k=q then some x else bO ks xs q)=none;by_cases c:k=q
  .rw[Jh c]at e';cases e'
  .rw[Ji c]at e' ⊢;exact qf (by simpa using h) e'
def qg (a:ag R m d x)(b:ag R m e y):af R m (vF x y m) (kg d e):=by
 cases d with
 |dct ks ds=>
  obtain⟨l,xs,rfl,_,hm,q⟩:=aL.mp a;unfold kg vF;simp only[hm];cases hk:xQ e with
  |none=>exact af.no
  |some k=>
   rw[wE b hk];simp only[VP];cases hv:bO ks ds k with
   |none=>exact af.no
   |some v=>
    obtain⟨w,h1,h2⟩:=jH q hv;rw[h1];exact cC h2
 |_=>exact af.no
theorem jI:∀{ds:List Dat}{xs:List Wd}{i:Int},ab R m ds xs->jB ds=some i->km xs=some i
 |[],xs,i,a,h=>by rw[a.nil_inv];exact h
 |d::ds,xs,i,a,h=>by
  obtain⟨x,r,rfl,p,q⟩:=a.cons_inv;cases d with
  |int j=>
   rw[aa.mp p];simp only[jB,QG]at h;obtain⟨k,hk,rfl⟩:=h;simp only[km,jI q hk,QP]
  |_=>simp[jB]at h
theorem wF:∀{ds:List Dat}{xs:List Wd}{k:List Int},ab R m ds xs->zO ds=some k->zX xs=some k
 |[],xs,k,q,h=>by rw[q.nil_inv];exact h
 |d::ds,xs,k,q,h=>by
  obtain⟨x,r,rfl,a,b⟩:=q.cons_inv;cases d with
  |int i=>
   have h':(zO ds).map (i::·)=some k:=h;obtain⟨k',e,rfl⟩:=QG.mp h';rw[aa.mp a];show(zX r).map (i::·)=_;rw[wF b e];rfl
  |_=>cases h
theorem qh:∀{ds:List Dat}{xs:List Wd}{ks:List (List Int)},ab R m ds xs->xP ds=some ks->wY m xs=some ks
 |[],xs,k,q,h=>by rw[q.nil_inv];exact h
 |d::ds,xs,ks,q,h=>by
  obtain⟨x,r,rfl,a,b⟩:=q.cons_inv;cases d with
  |lst es=>
   have h':(match zO es,xP ds with
    |some k,some ks=>some (k::ks)
    |_,_=>none)=some ks:=h
   cases e1:zO es with
   |none=>simp only[e1]at h';cases h'
   |some k=>
    cases e2:xP ds with
    |none=>simp only[e1,e2]at h';cases h'
    |some ks'=>
     simp only[e1,e2]at h';cases h';obtain⟨l,us,rfl,_,hm,q1⟩:=aq.mp a;show(match zi m l with
      |some xs=>match zX xs,wY m r with
       |some k,some ks=>some (k::ks)
       |_,_=>none
      |none=>none)=_
     have e3:zi m l=some us:=by unfold zi;rw[hm]
     simp only[e3,wF q1 e1,qh b e2]
  |_=>cases h
def BL (q:ab R m ds xs)(h:q9 ds=some k):j9 m xs=some k:=by
 unfold q9 at h;cases e:zO ds with
 |some k'=>
  rw[e]at h;unfold j9;rw[wF q e];exact h
 |none=>
  rw[e]at h;obtain⟨kk,h1,h2⟩:=Qv.mp h;have h3:=qh q h1;cases ds with
  |nil=>cases h1;cases h2
  |cons d ds=>
   cases d with
   |lst es=>
    obtain⟨x,r,rfl,a,b⟩:=q.cons_inv;obtain⟨l,us,rfl,_⟩:=aq.mp a;show(wY m (.ref l::r)).bind fK=_;rw[h3];exact h2
   |_=>cases h1
theorem kh:∀{ds:List Dat}{xs:List Wd}{ks:List (List Int)},ab R m ds xs->xn ds=some ks->xq m xs=some ks
 |[],xs,k,q,h=>by rw[q.nil_inv];exact h
 |d::ds,xs,ks,q,h=>by
  obtain⟨x,r,rfl,a,b⟩:=q.cons_inv;cases d with
  |lst es=>
   have h':(match q9 es,xn ds with
    |some k,some ks=>some (k::ks)
    |_,_=>none)=some ks:=h
   cases e1:q9 es with
   |none=>simp only[e1]at h';cases h'
   |some k=>
    cases e2:xn ds with
    |none=>simp only[e1,e2]at h';cases h'
    |some ks'=>
     simp only[e1,e2]at h';cases h';obtain⟨l,us,rfl,_,hm,q1⟩:=aq.mp a;show(match zi m l with
      |some xs=>match j9 m xs,xq m r with
       |some k,some ks=>some (k::ks)
       |_,_=>none
      |none=>none)=_
     have e3:zi m l=some us:=by unfold zi;rw[hm]
     simp only[e3,BL q1 e1,kh b e2]
  |_=>cases h
theorem rF (a:ag R m d x):∀{ps:List (List Int×Dat)}{qs:List (List Int×Wd)},ps.map Prod.fst=qs.map Prod.fst->ab R m (ps.map Prod.snd) (qs.map Prod.snd) ->
  (zP (k,d) ps).map Prod.fst=(zP (k,x) qs).map Prod.fst/\ab R m ((zP (k,d) ps).map Prod.snd) ((zP (k,x) qs).map Prod.snd)
 |[],[],_,_=>⟨rfl,.cons a .nil⟩
 |[],_::_,h,_=>by cases h
 |_::_,[],h,_=>by cases h
 |p::ps,q::qs,h,r=>by
  obtain⟨h1,h2⟩:=List.cons.inj (show p.1::ps.map Prod.fst=q.1::qs.map Prod.fst from h);obtain⟨_,_,e,r1,r2⟩:=ab.cons_inv (show ab R m (p.2::ps.map Prod.snd) (q.2::qs.map Prod.snd)from r);cases e;show(if b8 k p.1 then(k,d)::p::ps else p::zP (k,d) ps).map Prod.fst=(if b8 k q.1 then(k,x)::q::qs else q::zP (k,x) qs).map Prod.fst/\ab R m ((if b8 k p.1 then(k,d)::p::ps else p::zP (k,d) ps).map Prod.snd) ((if b8 k q.1 then(k,x)::q::qs else q::zP (k,x) qs).map Prod.snd);rw[h1];cases b8 k q.1 with
  |true=>exact⟨Jf (k::·) h,.cons a r⟩
  |false=>
   obtain⟨i1,i2⟩:=rF a h2 r2;exact⟨by show p.1::(zP (k,d) ps).map Prod.fst=q.1::(zP (k,x) qs).map Prod.fst;rw[h1,i1],.cons r1 i2⟩
theorem qi:∀{ks:List (List Int)}{ds:List Dat}{xs:List Wd},ab R m ds xs ->
  (zr (ks.zip ds)).map Prod.fst=(zr (ks.zip xs)).map Prod.fst/\ab R m ((zr (ks.zip ds)).map Prod.snd) ((zr (ks.zip xs)).map Prod.snd)
 |[],_,_,_=>⟨rfl,.nil⟩
 |_::_,[],xs,r=>by rw[r.nil_inv];exact⟨rfl,.nil⟩
 |k::ks,d::ds,xs,r=>by
  obtain⟨x,us,rfl,r1,r2⟩:=r.cons_inv;obtain⟨i1,i2⟩:=qi (ks:=ks) r2;rw[Wx,Wx,yn,yn];exact rF r1 i1 i2
def qj (q:ab R m ds xs)(h:yN Dat ks ds=some es):∃ys,yN Wd ks xs=some ys/\ab R m es ys:=by
 obtain⟨e1,e2⟩:=qi (ks:=ks) q;rw[we]at h;have h':(if yM ((zr (ks.zip ds)).map Prod.fst)then some ((zr (ks.zip ds)).map Prod.snd)else none)=some es:=h;rw[we];show ∃ys,(if yM ((zr (ks.zip xs)).map Prod.fst)then some ((zr (ks.zip xs)).map Prod.snd)else none)=some ys/\ab R m es ys;rw[e1]at h';cases z:yM ((zr (ks.zip xs)).map Prod.fst)with
 |false=>rw[z]at h';cases h'
 |true=>rw[z]at h';cases h';exact⟨_,rfl,e2⟩
def BK (b:df)(a:ab R m ds xs):af R m (vj b xs m) (kr b ds):=by
 have one:∀{d:Dat}{xs:List Wd},ab R m [d] xs->∃x,xs=[x]/\ag R m d x:=by
  intro d xs h;obtain⟨x,r,rfl,p,q⟩:=h.cons_inv;rw[q.nil_inv];exact⟨x,rfl,p⟩
 cases b with
 |len=>
  cases ds with
  |nil=>exact af.no
  |cons d ds=>
   cases ds with
   |cons _ _=>exact af.no
   |nil=>
    obtain⟨x,rfl,p⟩:=one a;show af R m _ (match xh d with|some i=>.ok (.int i.length)|none=>.no);cases z:xh d with
    |none=>exact af.no
    |some i=>
     obtain⟨ys,h,q⟩:=xH p z;simp only[vj,h,q.len];exact af.int
 |int=>
  cases ds with
  |nil=>exact af.no
  |cons d ds=>
   cases d with
   |int i=>
    cases ds with
    |cons _ _=>exact af.no
    |nil=>obtain⟨x,rfl,p⟩:=one a;rw[aa.mp p];exact af.int
   |bl i=>
    cases ds with
    |cons _ _=>exact af.no
    |nil=>obtain⟨x,rfl,p⟩:=one a;rw[ai.mp p];exact af.int
   |_=>exact af.no
 |list=>
  cases ds with
  |nil=>exact af.no
  |cons d ds=>
   cases ds with
   |cons _ _=>exact af.no
   |nil=>
    obtain⟨x,rfl,p⟩:=one a;show af R m _ (match xh d with|some i=>bu i|none=>.no);cases z:xh d with
    |none=>exact af.no
    |some i=>
     obtain⟨ys,h,q⟩:=xH p z;simp only[vj,h];exact af.new q
 |tuple=>
  cases ds with
  |nil=>exact af.no
  |cons d ds=>
   cases ds with
   |cons _ _=>exact af.no
   |nil=>
    obtain⟨x,rfl,p⟩:=one a;show af R m _ (match xh d with|some i=>.ok (.tup i)|none=>.no);cases z:xh d with
    |none=>exact af.no
    |some i=>
     obtain⟨ys,h,q⟩:=xH p z;simp only[vj,h];exact cC (ah.mpr ⟨_,rfl,q⟩)
 |sum=>
  cases ds with
  |nil=>exact af.no
  |cons d ds=>
   cases ds with
   |cons _ _=>exact af.no
   |nil=>
    obtain⟨x,rfl,p⟩:=one a;show af R m _ (match (ef d).bind jB with|some i=>.ok (.int i)|none=>.no);cases z:(ef d).bind jB with
    |none=>exact af.no
    |some i=>
     obtain⟨es,z1,z2⟩:=Qv.mp z;obtain⟨ys,h,q⟩:=oX p z1;simp only[vj,h,Q6,jI q z2];exact af.int
 |max2=>
  cases ds with
  |nil=>exact af.no
  |cons d ds=>
   cases d with
   |int i=>
    cases ds with
    |nil=>exact af.no
    |cons e ds=>
     cases e with
     |int j=>
      cases ds with
      |cons _ _=>exact af.no
      |nil=>
       obtain⟨x,r,rfl,p,q⟩:=a.cons_inv;obtain⟨y,rfl,q1⟩:=one q;rw[aa.mp p,aa.mp q1];exact af.int
     |_=>exact af.no
   |_=>exact af.no
 |min2=>
  cases ds with
  |nil=>exact af.no
  |cons d ds=>
   cases d with
   |int i=>
    cases ds with
    |nil=>exact af.no
    |cons e ds=>
     cases e with
     |int j=>
      cases ds with
      |cons _ _=>exact af.no
      |nil=>
       obtain⟨x,r,rfl,p,q⟩:=a.cons_inv;obtain⟨y,rfl,q1⟩:=one q;rw[aa.mp p,aa.mp q1];exact af.int
     |_=>exact af.no
   |_=>exact af.no
 |sorted=>
  cases ds with
  |nil=>exact af.no
  |cons d ds=>
   cases d with
   |lst es=>
    cases ds with
    |cons _ _=>exact af.no
    |nil=>
     obtain⟨x,rfl,p⟩:=one a;obtain⟨l,us,rfl,_,hm,q⟩:=aq.mp p;show af R m _ (match (xn es).bind λks=>yN Dat ks es with|some i=>bu i|none=>.no);cases z:(xn es).bind λks=>yN Dat ks es with
     |none=>exact af.no
     |some i=>
      obtain⟨ks,h1,h2⟩:=Qv.mp z;obtain⟨ys,h3,q3⟩:=qj q h2;have e3:zi m l=some us:=by unfold zi;rw[hm]
      have e4:((xq m us).bind λks=>yN Wd ks us)=some ys:=by rw[kh q h1];exact h3
      simp only[vj,e3,e4];exact af.new q3
   |_=>exact af.no
 |sortI=>
  cases ds with
  |nil=>exact af.no
  |cons d ds=>
   cases ds with
   |cons _ _=>exact af.no
   |nil=>
    obtain⟨x,rfl,p⟩:=one a;show af R m _ (match (ef d).bind zO with|some k=>if k.length<64 then bu ((eD k).map Dat.int)else .no|none=>.no);cases z:(ef d).bind zO with
    |none=>exact af.no
    |some k=>
     obtain⟨es,z1,z2⟩:=Qv.mp z;obtain⟨ys,h,q⟩:=oX p z1;by_cases h64:k.length<64
     .simp only[vj,h,Q6,wF q z2,Jh h64];exact af.new (dL _)
     .simp only[Ji h64];exact af.no
def BJ (a:ag R m d x)(b:ag R m e y):af R m (xo x y m) (wB d e):=by
 cases e with
 |int i=>
  rw[aa.mp b];simp only[wB,xo];cases z:xh d with
  |none=>exact af.no
  |some ds=>
   obtain⟨xs,h,q⟩:=xH a z;simp only[h];cases z:(ix ds.length i).bind λj=>ds[j]? with
   |none=>exact af.no
   |some v=>
    obtain⟨j,h1,h2⟩:=Qv.mp z;obtain⟨x,h3,p⟩:=q.get h2;rw[q.len]at h1;simp only[h1,Q6,h3];exact cC p
 |_=>exact af.no
theorem qk (st:Int):∀(n:Nat) (lo:Int),ab R m (yR lo st n) (eX lo st n)
 |0,lo=>.nil
 |n+1,lo=>by
  have h:yR lo st (n+1)=.int lo::yR (lo+st) st n:=by
   unfold yR;rw[Vf,Q2,VR];congr 1
   .simp
   .apply List.map_congr_left;intro i _;show Dat.int _=Dat.int _;congr 1;rw[show((Nat.succ i:Nat):Int)=(i:Int)+1 from rfl,Int.mul_add,Int.mul_one];lia
  rw[h];exact .cons (aa.mpr rfl) (qk st n _)
theorem rE (b:ag R m e y):∀{ds:List Dat}{xs:List Wd}{bs:List Bool},ab R m ds xs->cL (λd=>dC d e) ds=some bs->cL (λw=>bM m zS w y) xs=some bs
 |[],xs,bs,q,h=>by rw[q.nil_inv];exact h
 |d::ds,xs,bs,q,h=>by
  obtain⟨x,r,rfl,a,q⟩:=q.cons_inv;unfold cL at h ⊢;cases h1:dC d e with
  |none=>simp[h1]at h
  |some c=>
   cases h2:cL (λd=>dC d e) ds with
   |none=>simp[h1,h2]at h
   |some cs=>
    rw[h1,h2]at h;rw[jD h1 a b,rE b q h2];exact h
def BI (k:Dk)(a:ag R m d x)(b:ag R m e y)(c:ag R m f z):af R m (jg k x y z m) (eU k d e f):=by
 cases k with
 |get=>
  cases d with
  |dct ks ds=>
   obtain⟨l,xs,rfl,_,hm,q⟩:=aL.mp a;unfold eU jg;simp only[hm];cases hk:xQ e with
   |none=>exact af.no
   |some k=>
    rw[wE b hk];simp only;cases hv:bO ks ds k with
    |none=>
     have:bO ks xs k=none:=qf q.len hv;rw[this];exact cC c
    |some v=>
     obtain⟨w,h1,h2⟩:=jH q hv;rw[h1];exact cC h2
  |_=>exact af.no
 |sum=>
  cases d with
  |dct ks ds=>
   obtain⟨l,xs,rfl,_,hm,q⟩:=aL.mp a;unfold eU jg;simp only[hm];cases hs:jB ds with
   |none=>exact af.no
   |some i=>rw[jI q hs];exact af.int
  |_=>exact af.no
 |lix=>
  cases d with
  |lst ds=>
   obtain⟨l,xs,rfl,_,hm,q⟩:=aq.mp a;have e3:zi m l=some xs:=by unfold zi;rw[hm]
   unfold eU jg;simp only[e3,Q6];cases hr:cL (λd=>dC d e) ds with
   |none=>exact af.no
   |some bs=>
    rw[rE b q hr];simp only[Q6];cases gb true bs 0 with
    |none=>exact af.no
    |some i=>exact af.int
  |_=>exact af.no
def Cu (a:ag R m d x)(h:iE k d=true):fD k x m=true:=by
 cases k with
 |lix=>
  cases d with
  |lst ds=>obtain⟨l,xs,rfl,_,hm,q⟩:=aq.mp a;unfold fD ye aJ;simp only[hm]
  |_=>cases h
 |get=>
  cases d with
  |dct ks ds=>
   obtain⟨l,xs,rfl,_,hm,q⟩:=aL.mp a;show(match m[l]? with|some (.dct _ _)=>true|_=>false)=true;rw[hm]
  |_=>cases h
 |sum=>
  cases d with
  |dct ks ds=>
   obtain⟨l,xs,rfl,_,hm,q⟩:=aL.mp a;show(match m[l]? with|some (.dct _ _)=>true|_=>false)=true;rw[hm]
  |_=>cases h
def BH (a:ag R m d x)(b:ag R m e y)(c:ag R m f z):af R m (eC x y z m) (fC d e f):=by
 cases d with
 |int i=>
  cases e with
  |int j=>
   cases f with
   |int k=>
    rw[aa.mp a,aa.mp b,aa.mp c];simp only[eC,fC];split
    .exact cC (ah.mpr ⟨_,rfl,qk k _ i⟩)
    .exact af.no
   |_=>exact af.no
  |_=>exact af.no
 |_=>exact af.no
theorem xI {R:Nat->Prop}(hc:∀(R':Nat->Prop) m d x,(∀l,R l->R' l)->Le m0 m->ag R' m d x->af R' m (c x m) (cd d))(he:∀(R':Nat->Prop) m d x,(∀l,R l->R' l)->Le m0 m->ag R' m d x->af R' m (e x m) (ed d)):
  ∀(ds:List Dat) (xs:List Wd) (acc:List Dat) (acx:List Wd) (R':Nat->Prop) (m:Me),(∀l,R l->R' l)->Le m0 m->ab R' m ds xs->ab R' m acc acx->af R' m (yC c e xs acx m) (zU cd ed ds acc)
 |[],xs,acc,acx,R',m,hR,hm,a,b=>by
  rw[a.nil_inv];unfold yC zU;exact af.new b
 |d::ds,xs,acc,acx,R',m,hR,hm,a,b=>by
  obtain⟨x,r,rfl,p,q⟩:=a.cons_inv;unfold yC zU;refine(hc R' m d x hR hm p).bind λt w m1 l1 k1=>?_;cases t with
  |bl t=>
   rw[ai.mp k1];cases t with
   |true=>
    refine(he _ m1 d x (λl z=>.inl (hR l z)) (hm.trans l1) (p.up _ l1)).bind λt w m2 l2 k2=>?_;simp only[b.len];by_cases z:acx.length<aF
    .rw[Jh z,Jh z];exact xI hc he ds r _ _ _ m2 (λl z=>.inl (.inl (hR l z))) ((hm.trans l1).trans l2) ((q.up _ l1).up _ l2) (((b.up _ l1).up _ l2).app (.cons k2 .nil))
    .rw[Ji z,Ji z];exact af.no
   |false=>exact xI hc he ds r _ _ _ m1 (λl z=>.inl (hR l z)) (hm.trans l1) (q.up _ l1) (b.up _ l1)
  |_=>exact af.no
theorem wS {R:Nat->Prop}(hl:m0[l]?=some (.lst xs0))(hc:∀(R':Nat->Prop) m d x,(∀l,R l->R' l)->Le m0 m->ag R' m d x->af R' m (c x m) (cd d))(he:∀(R':Nat->Prop) m d x,(∀l,R l->R' l)->Le m0 m->ag R' m d x->af R' m (e x m) (ed d)):
  ∀(ds:List Dat) (i k:Nat) (acc:List Dat) (acx:List Wd) (R':Nat->Prop) (m:Me),(∀l,R l->R' l)->Le m0 m->ab R' m ds (xs0.drop i)->i+ds.length=xs0.length->ds.length<k->ab R' m acc acx->af R' m (yD c e l k i acx m) (zU cd ed ds acc)
 |[],i,0,acc,acx,R',m,hR,hm,a,hi,hk,b=>by simp at hk
 |d::ds,i,0,acc,acx,R',m,hR,hm,a,hi,hk,b=>by simp at hk
 |[],i,k+1,acc,acx,R',m,hR,hm,a,hi,hk,b=>by
  unfold yD zU zi;rw[hm l _ hl];simp only;rw[Qx (by simp at hi;lia)];exact af.new b
 |d::ds,i,k+1,acc,acx,R',m,hR,hm,a,hi,hk,b=>by
  obtain⟨x,r,e0,p,q⟩:=a.cons_inv;have hx:xs0[i]?=some x:=by
   have:(xs0.drop i)[0]?=some x:=by rw[e0];rfl
   simpa using this
  have hr:r=xs0.drop (i+1):=by
   have:(xs0.drop i).drop 1=r:=by rw[e0];rfl
   rw[<-this,Wu]
  rw[hr]at q;have hi':i+1+ds.length=xs0.length:=by simp at hi;lia
  have hk':ds.length<k:=by simp at hk;lia
  unfold yD zU zi;rw[hm l _ hl];simp only;rw[hx];simp only;refine(hc R' m d x hR hm p).bind λt w m1 l1 k1=>?_;cases t with
  |bl t=>
   rw[ai.mp k1];cases t with
   |true=>
    refine(he _ m1 d x (λl z=>.inl (hR l z)) (hm.trans l1) (p.up _ l1)).bind λt w m2 l2 k2=>?_;simp only[b.len];by_cases z:acx.length<aF
    .rw[Jh z,Jh z];exact wS hl hc he ds (i+1) k _ _ _ m2 (λl z=>.inl (.inl (hR l z))) ((hm.trans l1).trans l2) ((q.up _ l1).up _ l2) hi' hk' (((b.up _ l1).up _ l2).app (.cons k2 .nil))
    .rw[Ji z,Ji z];exact af.no
   |false=>exact wS hl hc he ds (i+1) k _ _ _ m1 (λl z=>.inl (hR l z)) (hm.trans l1) (q.up _ l1) hi' hk' (b.up _ l1)
  |_=>exact af.no
noncomputable def iD(R:Nat->Prop)(m0:Me)(ps:List (Dat×Dat))(g:Nat->Me->Option (Option (Wd×Wd))):Prop:=
 ∀m,Le m0 m->(∀i p,ps[i]?=some p->∃a b,g i m=some (some (a,b))/\ag R m p.1 a/\ag R m p.2 b)/\∀i,ps.length<=i->g i m=some none
theorem vq{α β:Type}:∀{xs:List α}{ys:List β}{i:Nat}{p:α×β},(xs.zip ys)[i]?=some p->xs[i]?=some p.1/\ys[i]?=some p.2
 |[],_,i,p,h=>by simp at h
 |_::_,[],i,p,h=>by simp at h
 |x::xs,y::ys,0,p,h=>by simp at h;subst h;exact⟨rfl,rfl⟩
 |x::xs,y::ys,i+1,p,h=>by
  have h':(xs.zip ys)[i]?=some p:=by simpa using h
  simpa using vq h'
set_option tactic.hygienic true in
theorem jJ:∀{xs:List Dat}{ps:List (Dat×Dat)},eV xs=some ps->ps.length=xs.length/\∀(i:Nat) p,ps[i]?=some p->xs[i]?=some (.tup [p.1,p.2])
 |[],ps,h=>by cases h;exact⟨rfl,λi p q=>by simp at q⟩
 |d::xs,ps,h=>by
  unfold eV at h;split at h
  .next h0=>cases h0
  .next x y r h0=>
   cases h0;obtain⟨qs,e,rfl⟩:=QG.mp h;obtain⟨a,b⟩:=jJ e;refine⟨by simp[a],λi p q=>?_⟩;cases i with
   |zero=>cases q;rfl
   |succ i=>exact b i p q
  .cases h
def oW (hx:ag R m0 x a)(h:fi x=some ds):∃xs,(∀m,Le m0 m->wK m a=some xs)/\ab R m0 ds xs:=by
 cases x with
 |lst es=>
  cases h;obtain⟨l,xs,rfl,_,e1,q⟩:=aq.mp hx;exact⟨xs,λm h=>by show zi m l=_;unfold zi;rw[h _ _ e1],q⟩
 |_=>cases h
set_option tactic.hygienic true in
def kR (e:xi k x y=some ps)(hx:ag R m0 x a)(hy:ag R m0 y b):iD R m0 ps (zo k a b)/\ps.length<=aF:=by
 unfold xi at e;split at e
 .cases f1:fi x with
  |none=>rw[f1]at e;cases e
  |some ds1=>
   cases f2:fi y with
   |none=>rw[f1,f2]at e;cases e
   |some ds2=>
    rw[f1,f2]at e;obtain⟨xs,e1,k1⟩:=oW hx f1;obtain⟨ys,e2,k2⟩:=oW hy f2;dsimp only at e;split at e
    .next z=>
     cases e;refine⟨λm h=>⟨λi p q=>?_,λi q=>?_⟩,by simp;lia⟩
     .obtain ⟨z1,z2⟩:=vq q;obtain⟨a,a1,a2⟩:=k1.get z1;obtain⟨b,b1,b2⟩:=k2.get z2;refine⟨a,b,?_,ag.frame (λl o r z=>⟨r,h l o z⟩) _ _ a2,ag.frame (λl o r z=>⟨r,h l o z⟩) _ _ b2⟩;simp only[zo,e1 m h,e2 m h,a1,b1]
     .simp only[zo,e1 m h,e2 m h];have l1:=k1.len;have l2:=k2.len;simp only[VF]at q;rcases Nat.le_total xs.length ys.length with z3|z3
      .rw[Qx (by lia)]
      .rw[Qx (l:=ys) (by lia)];cases xs[i]?<;>rfl
    .cases e
 .rename_i xs0 st;obtain⟨l,xs,rfl,_,e1,k1⟩:=aq.mp hx;rw[aa.mp hy];split at e
  .next z=>
   cases e;have l1:=k1.len;refine⟨λm h=>⟨λi p q=>?_,λi q=>?_⟩,by simp[yR];lia⟩
   .obtain ⟨z1,z2⟩:=vq q;obtain⟨a,a1,a2⟩:=k1.get z2;have hp:p.1=.int (st+(i:Int)):=by
     simp only[yR,Qu]at z1;cases hr:(Wn xs0.length)[i]? with
     |none=>rw[hr]at z1;cases z1
     |some j=>
      rw[hr]at z1;have:=Qa.mp hr;obtain⟨_,hj⟩:=this;simp only[List.getElem_range]at hj;subst hj;simp only[QP,Option.some.injEq,Int.one_mul]at z1;exact z1.symm
    refine⟨.int (st+(i:Int)),a,?_,by rw[hp];exact aa.mpr rfl,ag.frame (λl o r z=>⟨r,h l o z⟩) _ _ a2⟩;simp only[zo,zi];rw[h _ _ e1];simp only[a1,QP]
   .simp only[zo,zi];rw[h _ _ e1];simp only[yR,VF,QN,List.length_range]at q;simp only;rw[Qx (by lia)];rfl
  .cases e
 .rename_i xs0 st;obtain⟨l,xs,rfl,_,e1,k1⟩:=aq.mp hx;rw[aa.mp hy];split at e
  .next z=>
   have l1:=k1.len;obtain⟨g1,g2⟩:=jJ e;refine⟨λm h=>⟨λi p q=>?_,λi q=>?_⟩,by lia⟩
   .obtain ⟨a,a1,a2⟩:=k1.get (g2 i p q);obtain⟨us,rfl,r2⟩:=ah.mp a2;obtain⟨x,r,rfl,ra,rb⟩:=r2.cons_inv;obtain⟨y,r',rfl,rc,rd⟩:=rb.cons_inv;obtain rfl:=rd.nil_inv;refine⟨x,y,?_,ag.frame (λl o r z=>⟨r,h l o z⟩) _ _ ra,ag.frame (λl o r z=>⟨r,h l o z⟩) _ _ rc⟩;simp only[zo,zi];rw[h _ _ e1];simp only[a1];rfl
   .simp only[zo,zi];rw[h _ _ e1];simp only;rw[Qx (by lia)]
  .cases e
 .rename_i xs0 st;obtain⟨xs,rfl,k1⟩:=ah.mp hx;rw[aa.mp hy];split at e
  .next z=>
   have l1:=k1.len;obtain⟨g1,g2⟩:=jJ e;refine⟨λm h=>⟨λi p q=>?_,λi q=>?_⟩,by lia⟩
   .obtain ⟨a,a1,a2⟩:=k1.get (g2 i p q);obtain⟨us,rfl,r2⟩:=ah.mp a2;obtain⟨x,r,rfl,ra,rb⟩:=r2.cons_inv;obtain⟨y,r',rfl,rc,rd⟩:=rb.cons_inv;obtain rfl:=rd.nil_inv;refine⟨x,y,?_,ag.frame (λl o r z=>⟨r,h l o z⟩) _ _ ra,ag.frame (λl o r z=>⟨r,h l o z⟩) _ _ rc⟩;simp only[zo,a1];rfl
   .simp only[zo];rw[Qx (by lia)]
  .cases e
 .cases e
theorem wT (hg:iD R m0 ps g)(hc:∀(R':Nat->Prop) m p a b,(∀l,R l->R' l)->Le m0 m->ag R' m p.1 a->ag R' m p.2 b->af R' m (c a b m) (cd p))(he:∀(R':Nat->Prop) m p a b,(∀l,R l->R' l)->Le m0 m->ag R' m p.1 a->ag R' m p.2 b->af R' m (e a b m) (ed p)):
  ∀(ds:List (Dat×Dat)) (i k:Nat) (acc:List Dat) (acx:List Wd) (R':Nat->Prop) (m:Me),(∀l,R l->R' l)->Le m0 m->ds=ps.drop i->i+ds.length=ps.length->ds.length<k->ab R' m acc acx->af R' m (zJ c e g k i acx m) (zU cd ed ds acc)
 |[],i,0,acc,acx,R',m,hR,hm,a,hi,hk,b=>by simp at hk
 |d::ds,i,0,acc,acx,R',m,hR,hm,a,hi,hk,b=>by simp at hk
 |[],i,k+1,acc,acx,R',m,hR,hm,a,hi,hk,b=>by
  unfold zJ zU;rw[(hg m hm).2 i (by simp at hi;lia)];exact af.new b
 |d::ds,i,k+1,acc,acx,R',m,hR,hm,a,hi,hk,b=>by
  have hx:ps[i]?=some d:=by
   have:(ps.drop i)[0]?=some d:=by rw[<-a];rfl
   simpa using this
  have hr:ds=ps.drop (i+1):=by
   have:(ps.drop i).drop 1=ds:=by rw[<-a];rfl
   rw[<-this,Wu]
  have hi':i+1+ds.length=ps.length:=by simp at hi;lia
  have hk':ds.length<k:=by simp at hk;lia
  obtain⟨u,v,e0,p,q⟩:=(hg m hm).1 i d hx;have up:∀{d:Dat}{w:Wd},ag R m d w->ag R' m d w:=λz=>ag.frame (λl o r z=>⟨hR l r,z⟩) _ _ z;unfold zJ zU;rw[e0];simp only;refine(hc R' m d u v hR hm (up p) (up q)).bind λt w m1 l1 k1=>?_;cases t with
  |bl t=>
   rw[ai.mp k1];cases t with
   |true=>
    refine(he _ m1 d u v (λl z=>.inl (hR l z)) (hm.trans l1) ((up p).up _ l1) ((up q).up _ l1)).bind λt w m2 l2 k2=>?_;simp only[b.len];by_cases z:acx.length<aF
    .rw[Jh z,Jh z];exact wT hg hc he ds (i+1) k _ _ _ m2 (λl z=>.inl (.inl (hR l z))) ((hm.trans l1).trans l2) hr hi' hk' (((b.up _ l1).up _ l2).app (.cons k2 .nil))
    .rw[Ji z,Ji z];exact af.no
   |false=>exact wT hg hc he ds (i+1) k _ _ _ m1 (λl z=>.inl (hR l z)) (hm.trans l1) hr hi' hk' (b.up _ l1)
  |_=>exact af.no
noncomputable def zl:Ex->List Nat
 |.var i=>[i]
 |.lit _=>[]
 |.bin _ a b=>zl a++zl b
 |.neg a=>zl a
 |.not a=>zl a
 |.and a b=>zl a++zl b
 |.or a b=>zl a++zl b
 |.cmp _ a b=>zl a++zl b
 |.chain _ _ a b c=>zl a++(zl b++zl c)
 |.ife c a b=>zl c++(zl a++zl b)
 |.unit=>[]
 |.pair a b=>zl a++zl b
 |.call _ a=>zl a
 |.blt _ a=>zl a
 |.isi _ a=>zl a
 |.lst a=>zl a
 |.tup a=>zl a
 |.dict0=>[]
 |.dget a b=>zl a++zl b
 |.dop _ a b c=>zl a++(zl b++zl c)
 |.idx a b=>zl a++zl b
 |.meth _ a b=>zl a++zl b
 |.rng a b c=>zl a++(zl b++zl c)
 |.comp e i c=>zl i++(zl e++zl c)
 |.compP _ e a b c=>zl a++(zl b++(zl e++zl c))
@[simp]theorem Gv(i:Nat):zl (.var i)=[i]:=rfl
@[simp]theorem Gu(w:Wd):zl (.lit w)=[]:=rfl
@[simp]theorem Gt(a b:Ex):zl (.idx a b)=zl a++zl b:=rfl
@[simp]theorem Gs(a:Ex):zl (.tup a)=zl a:=rfl
@[simp]theorem GK(a b:Ex):zl (.pair a b)=zl a++zl b:=rfl
@[simp]theorem GJ  : zl (.unit)=[]:=rfl
@[simp]theorem GB(op:Bo)(a b:Ex):zl (.bin op a b)=zl a++zl b:=rfl
@[simp]theorem GI(k:Nat)(a:Ex):zl (.call k a)=zl a:=rfl
@[simp]theorem oK(a:Ex):zl (.neg a)=zl a:=rfl
@[simp]theorem oJ(a:Ex):zl (.lst a)=zl a:=rfl
noncomputable def bE(R:Nat->Prop)(m:Me)(vs:List Nat)(de:aK)(env:En):Prop:=
 de.length=env.length/\∀i∈vs,∀d,de[i]?=some (some d)->∃w,env[i]?=some (some w)/\ag R m d w
def bE.up{R R':Nat->Prop}{m m':Me}{vs:List Nat}{de:aK}{env:En}(hR:∀l,R l->R' l)(h:Le m m')(q:bE R m vs de env):bE R' m' vs de env:=
 ⟨q.1,λi hi d z=>by
  obtain⟨w,a,b⟩:=q.2 i hi d z;exact⟨w,a,ag.frame (λl o r k=>⟨hR l r,h l o k⟩) d w b⟩⟩
def bE.sub{R:Nat->Prop}{m:Me}{vs us:List Nat}{de:aK}{env:En}(h:∀i∈us,i∈vs)(q:bE R m vs de env):bE R m us de env:=
 ⟨q.1,λi hi=>q.2 i (h i hi)⟩
def bE.left{R:Nat->Prop}{m:Me}{us vs:List Nat}{de:aK}{env:En}(q:bE R m (us++vs) de env):bE R m us de env:=q.sub λ_ h=>Q3 _ h
def bE.right{R:Nat->Prop}{m:Me}{us vs:List Nat}{de:aK}{env:En}(q:bE R m (us++vs) de env):bE R m vs de env:=q.sub λ_ h=>Qt _ h
set_option tactic.hygienic true in
def bE.push{R:Nat->Prop}{m:Me}{vs:List Nat}{de:aK}{env:En}{d:Dat}{w:Wd}(q:bE R m vs de env)(h:ag R m d w):bE R m vs (de++[some d]) (env++[some w]):=by
 refine⟨by simp[q.1],λi hi e z=>?_⟩;rw[List.getElem?_append]at z;split at z
 .next k=>
  obtain⟨w,a,b⟩:=q.2 i hi e z;exact⟨w,by rw[Qd (by rw[<-q.1];exact k)];exact a,b⟩
 .next k=>
  rw[Qc (by rw[<-q.1];lia),<-q.1];have:i-de.length=0:=by
   rcases Nat.eq_zero_or_pos (i-de.length)with z0|z0
   .exact z0
   .rw[Qx (by simp;lia)]at z;cases z
  rw[this]at z ⊢;cases z;exact⟨w,rfl,h⟩
noncomputable def bj(cl:Nat->List Wd->Me->Rz)(cd:Nat->List Dat->Rd):Prop:=∀(k:Nat) (ds:List Dat) (ws:List Wd) (R:Nat->Prop) (m:Me),ab R m ds ws->af R m (cl k ws m) (cd k ds)
def zZ (h:ag R m d w):ab R m (zt d) (zj w):=by
 cases d with
 |tup ds=>obtain⟨xs,rfl,q⟩:=ah.mp h;exact q
 |non=>rw[am.mp h];exact .nil
 |bl _=>rw[ai.mp h];exact .nil
 |int _=>rw[aa.mp h];exact .nil
 |str _=>rw[ay.mp h];exact .nil
 |scr _=>rw[aT.mp h];exact .nil
 |lst _=>obtain⟨l,xs,rfl,_⟩:=aq.mp h;exact .nil
 |dct _ _=>obtain⟨l,xs,rfl,_⟩:=aL.mp h;exact .nil
theorem zd (H:bj cl cd):∀(e:Ex) (R:Nat->Prop) (m:Me) (de:aK) (env:En),bE R m (zl e) de env->af R m (ae cl e env m) (az cd e de)
 |.var i,R,m,de,env,q=>by
  cases z:de[i]? with
  |none=>rw[yB (.inl z)];exact af.no
  |some o=>
   cases o with
   |none=>rw[yB (.inr z)];exact af.no
   |some d=>
    obtain⟨w,a,b⟩:=q.2 i (Qr.mpr rfl) d z;rw[xy z,wC a];exact cC b
 |.lit w,R,m,de,env,q=>by
  cases w<;>first|exact af.no|(exact cC (by unfold ag;rfl))
 |.bin op a b,R,m,de,env,q=>by
  refine(zd H a R m de env q.left).bind λd w m1 l1 k1=>?_;refine(zd H b _ m1 de env (q.right.up (λ_=>.inl) l1)).bind λd2 w2 m2 l2 k2=>?_;exact jE op (k1.up _ l2) k2
 |.neg a,R,m,de,env,q=>by
  refine(zd H a R m de env q).bind λd w m1 l1 k1=>?_;cases d with
  |int i=>rw[aa.mp k1];exact af.int
  |_=>exact af.no
 |.not a,R,m,de,env,q=>by
  refine(zd H a R m de env q).bind λd w m1 l1 k1=>?_;cases d with
  |bl i=>rw[ai.mp k1];exact af.bl
  |_=>exact af.no
 |.and a b,R,m,de,env,q=>by
  refine(zd H a R m de env q.left).bind λd w m1 l1 k1=>?_;cases d with
  |bl i=>
   rw[ai.mp k1];cases i with
   |true=>exact zd H b _ m1 de env (q.right.up (λ_=>.inl) l1)
   |false=>exact af.bl
  |_=>exact af.no
 |.or a b,R,m,de,env,q=>by
  refine(zd H a R m de env q.left).bind λd w m1 l1 k1=>?_;cases d with
  |bl i=>
   rw[ai.mp k1];cases i with
   |false=>exact zd H b _ m1 de env (q.right.up (λ_=>.inl) l1)
   |true=>exact af.bl
  |_=>exact af.no
 |.cmp op a b,R,m,de,env,q=>by
  refine(zd H a R m de env q.left).bind λd w m1 l1 k1=>?_;refine(zd H b _ m1 de env (q.right.up (λ_=>.inl) l1)).bind λd2 w2 m2 l2 k2=>?_;exact jG op (k1.up _ l2) k2
 |.chain o p a b c,R,m,de,env,q=>by
  refine(zd H a R m de env q.left).bind λd w m1 l1 k1=>?_;refine(zd H b _ m1 de env (q.right.left.up (λ_=>.inl) l1)).bind λd2 w2 m2 l2 k2=>?_;refine(jG o (k1.up _ l2) k2).bind λd3 w3 m3 l3 k3=>?_;cases d3 with
  |bl i=>
   rw[ai.mp k3];cases i with
   |false=>exact af.bl
   |true=>
    refine(zd H c _ m3 de env (q.right.right.up (λ_ h=>.inl (.inl (.inl h))) ((l1.trans l2).trans l3))).bind λd4 w4 m4 l4 k4=>?_;exact jG p ((k2.up _ l3).up _ l4) k4
  |_=>exact af.no
 |.ife c a b,R,m,de,env,q=>by
  refine(zd H c R m de env q.left).bind λd w m1 l1 k1=>?_;cases d with
  |bl i=>
   rw[ai.mp k1];cases i with
   |true=>exact zd H a _ m1 de env (q.right.left.up (λ_=>.inl) l1)
   |false=>exact zd H b _ m1 de env (q.right.right.up (λ_=>.inl) l1)
  |_=>exact af.no
 |.unit,R,m,de,env,q=>by
  exact cC (ah.mpr ⟨[],rfl,.nil⟩)
 |.pair a b,R,m,de,env,q=>by
  refine(zd H a R m de env q.left).bind λd w m1 l1 k1=>?_;refine(zd H b _ m1 de env (q.right.up (λ_=>.inl) l1)).bind λd2 w2 m2 l2 k2=>?_;exact cC (ah.mpr ⟨_,rfl,.cons (k1.up _ l2) (zZ k2)⟩)
 |.call k a,R,m,de,env,q=>by
  refine(zd H a R m de env q).bind λd w m1 l1 k1=>?_;exact H k _ _ _ m1 (zZ k1)
 |.blt b a,R,m,de,env,q=>by
  refine(zd H a R m de env q).bind λd w m1 l1 k1=>?_;exact BK b (zZ k1)
 |.isi t a,R,m,de,env,q=>by
  refine(zd H a R m de env q).bind λd w m1 l1 k1=>?_;exact BM t k1
 |.lst a,R,m,de,env,q=>by
  refine(zd H a R m de env q).bind λd w m1 l1 k1=>?_;exact af.new (zZ k1)
 |.tup a,R,m,de,env,q=>by
  refine(zd H a R m de env q).bind λd w m1 l1 k1=>?_;have k2:=zZ k1;simp only[k2.len];split
  .exact cC (ah.mpr ⟨_,rfl,k2⟩)
  .exact af.no
 |.dict0,R,m,de,env,q=>by
  exact⟨_,_,rfl,Le.app m _,aL.mpr ⟨_,[],rfl,.inr (Qf _),by simp,.nil⟩⟩
 |.dget a b,R,m,de,env,q=>by
  refine(zd H a R m de env q.left).bind λd w m1 l1 k1=>?_;refine(zd H b _ m1 de env (q.right.up (λ_=>.inl) l1)).bind λd2 w2 m2 l2 k2=>?_;exact qg (k1.up _ l2) k2
 |.dop k a b c,R,m,de,env,q=>by
  refine(zd H a R m de env q.left).bind λd w m1 l1 k1=>?_;cases hb:iE k d with
  |false=>exact af.no
  |true=>
   rw[Cu k1 hb];refine(zd H b _ m1 de env (q.right.left.up (λ_=>.inl) l1)).bind λd2 w2 m2 l2 k2=>?_;refine(zd H c _ m2 de env ((q.right.right.up (λ_=>.inl) l1).up (λ_=>.inl) l2)).bind λd3 w3 m3 l3 k3=>?_;exact BI k ((k1.up _ l2).up _ l3) (k2.up _ l3) k3
 |.idx a b,R,m,de,env,q=>by
  refine(zd H a R m de env q.left).bind λd w m1 l1 k1=>?_;refine(zd H b _ m1 de env (q.right.up (λ_=>.inl) l1)).bind λd2 w2 m2 l2 k2=>?_;exact BJ (k1.up _ l2) k2
 |.meth _ _ _,R,m,de,env,q=>by
  exact af.no
 |.rng a b c,R,m,de,env,q=>by
  refine(zd H a R m de env q.left).bind λd w m1 l1 k1=>?_;refine(zd H b _ m1 de env (q.right.left.up (λ_=>.inl) l1)).bind λd2 w2 m2 l2 k2=>?_;refine(zd H c _ m2 de env (q.right.right.up (λ_ h=>.inl (.inl h)) (l1.trans l2))).bind λd3 w3 m3 l3 k3=>?_;exact BH ((k1.up _ l2).up _ l3) (k2.up _ l3) k3
 |.comp elt it cond,R,m,de,env,q=>by
  refine(zd H it R m de env q.left).bind λd w m1 l1 k1=>?_;have hc:∀(R':Nat->Prop) m' d x,(∀l,Rf R m.length l->R' l)->Le m1 m'->ag R' m' d x->af R' m' (ae cl cond (env++[some x]) m') (az cd cond (de++[some d])):=
   λR' m' d x hR l k=>zd H cond R' m' _ _ ((q.right.right.up (λl h=>hR l (.inl h)) (l1.trans l)).push k)
  have he:∀(R':Nat->Prop) m' d x,(∀l,Rf R m.length l->R' l)->Le m1 m'->ag R' m' d x->af R' m' (ae cl elt (env++[some x]) m') (az cd elt (de++[some d])):=
   λR' m' d x hR l k=>zd H elt R' m' _ _ ((q.right.left.up (λl h=>hR l (.inl h)) (l1.trans l)).push k)
  cases d with
  |tup ds=>
   obtain⟨xs,rfl,k2⟩:=ah.mp k1;exact xI hc he ds xs [] [] _ m1 (λ_ h=>h) (Le.refl _) k2 .nil
  |scr ns=>
   rw[aT.mp k1];exact xI hc he (ns.map .int) (ns.map .int) [] [] _ m1 (λ_ h=>h) (Le.refl _) (dL ns) .nil
  |lst ds=>
   obtain⟨l,xs,rfl,_,hm,k2⟩:=aq.mp k1;simp only[cR];by_cases z:ds.length<=aF
   .rw[Jh z];have hl:=k2.len;exact wS hm hc he ds 0 (aF+1) [] [] _ m1 (λ_ h=>h) (Le.refl _) (by simpa using k2) (by lia) (by lia) .nil
   .rw[Ji z];exact af.no
  |_=>exact af.no
 |.compP k elt a b cond,R,m,de,env,q=>by
  refine(zd H a R m de env q.left).bind λd w m1 l1 k1=>?_;refine(zd H b _ m1 de env (q.right.left.up (λl h=>.inl h) l1)).bind λd' w' m2 l2 k2=>?_;have hc:∀(R':Nat->Prop) m' (p:Dat×Dat) x y,(∀l,Rf (Rf R m.length) m1.length l->R' l)->Le m2 m'->ag R' m' p.1 x->ag R' m' p.2 y->af R' m' (ae cl cond (env++[some x]++[some y]) m') (az cd cond (de++[some p.1]++[some p.2])):=
   λR' m' d x y hR l k k'=>zd H cond R' m' _ _ (((q.right.right.right.up (λl h=>hR l (.inl (.inl h))) ((l1.trans l2).trans l)).push k).push k')
  have he:∀(R':Nat->Prop) m' (p:Dat×Dat) x y,(∀l,Rf (Rf R m.length) m1.length l->R' l)->Le m2 m'->ag R' m' p.1 x->ag R' m' p.2 y->af R' m' (ae cl elt (env++[some x]++[some y]) m') (az cd elt (de++[some p.1]++[some p.2])):=
   λR' m' d x y hR l k k'=>zd H elt R' m' _ _ (((q.right.right.left.up (λl h=>hR l (.inl (.inl h))) ((l1.trans l2).trans l)).push k).push k')
  cases e:xi k d d' with
  |none=>exact af.no
  |some ps=>
   obtain⟨pr,hl⟩:=kR e (k1.up _ l2) k2;exact wT pr hc he ps 0 (aF+1) [] [] _ m2 (λ_ h=>h) (Le.refl _) (by simp) (by simp) (by lia) .nil
mutual
noncomputable def aR(m:Me):Dat->Wd->List Nat->Prop
 |.non,w,A=>w=.non/\A=[]
 |.bl b,w,A=>w=.bl b/\A=[]
 |.int i,w,A=>w=.int i/\A=[]
 |.str s,w,A=>w=.str s/\A=[]
 |.scr ns,w,A=>w=.rol (ns.map Wd.int)/\A=[]
 |.tup ds,w,A=>∃xs,w=.tup xs/\ao m ds xs A
 |.lst ds,w,A=>∃l xs B,w=.ref l/\A=l::B/\m[l]?=some (.lst xs)/\ao m ds xs B
 |.dct ks ds,w,A=>∃l xs B,w=.ref l/\A=l::B/\m[l]?=some (.dct ks xs)/\ao m ds xs B
noncomputable def ao(m:Me):List Dat->List Wd->List Nat->Prop
 |[],xs,A=>xs=[]/\A=[]
 |d::ds,xs,A=>∃x r B C,xs=x::r/\A=B++C/\aR m d x B/\ao m ds r C
end
def aM:aR m (.lst ds) w A↔∃l xs B,w=.ref l/\A=l::B/\m[l]?=some (.lst xs)/\ao m ds xs B:=by
 constructor
 .intro h;unfold aR at h;exact h
 .intro h;unfold aR;exact h
def bA:aR m (.dct ks ds) w A↔∃l xs B,w=.ref l/\A=l::B/\m[l]?=some (.dct ks xs)/\ao m ds xs B:=by
 constructor
 .intro h;unfold aR at h;exact h
 .intro h;unfold aR;exact h
def bm:aR m (.tup ds) w A↔∃xs,w=.tup xs/\ao m ds xs A:=by
 constructor
 .intro h;unfold aR at h;exact h
 .intro h;unfold aR;exact h
def ao.cons_inv (h:ao m (d::ds) xs A):∃x r B C,xs=x::r/\A=B++C/\aR m d x B/\ao m ds r C:=by unfold ao at h;exact h
def ao.nil_inv (h:ao m [] xs A):xs=[]/\A=[]:=by unfold ao at h;exact h
def ao.nil{m:Me}:ao m [] [] []:=by unfold ao;exact⟨rfl,rfl⟩
def ao.cons{m:Me}{d:Dat}{ds:List Dat}{x:Wd}{xs:List Wd}{B C:List Nat}(a:aR m d x B)(b:ao m ds xs C):ao m (d::ds) (x::xs) (B++C):=by
 unfold ao;exact⟨x,xs,B,C,rfl,rfl,a,b⟩
theorem ao.app:∀{ds es:List Dat}{xs ys:List Wd}{A B:List Nat},ao m ds xs A->ao m es ys B->ao m (ds++es) (xs++ys) (A++B)
 |[],es,xs,ys,A,B,a,b=>by rw[a.nil_inv.1,a.nil_inv.2];exact b
 |d::ds,es,xs,ys,A,B,a,b=>by
  obtain⟨x,r,P,Q,rfl,rfl,p,q⟩:=a.cons_inv;rw[Qj];exact .cons p (ao.app q b)
mutual
theorem aR.frame{m m':Me}:∀(d:Dat) (w:Wd) (A:List Nat),(∀l∈A,∀o,m[l]?=some o->m'[l]?=some o)->aR m d w A->aR m' d w A
 |.non,w,A,h,q=>by unfold aR at q ⊢;exact q
 |.bl _,w,A,h,q=>by unfold aR at q ⊢;exact q
 |.int _,w,A,h,q=>by unfold aR at q ⊢;exact q
 |.str _,w,A,h,q=>by unfold aR at q ⊢;exact q
 |.scr _,w,A,h,q=>by unfold aR at q ⊢;exact q
 |.tup ds,w,A,h,q=>by
  obtain⟨xs,rfl,q1⟩:=bm.mp q;exact bm.mpr ⟨xs,rfl,ao.frame ds xs A h q1⟩
 |.lst ds,w,A,h,q=>by
  obtain⟨l,xs,B,rfl,rfl,hm,q1⟩:=aM.mp q;exact aM.mpr ⟨l,xs,B,rfl,rfl,h l QR _ hm,ao.frame ds xs B (λl hl=>h l (Qh _ hl)) q1⟩
 |.dct ks ds,w,A,h,q=>by
  obtain⟨l,xs,B,rfl,rfl,hm,q1⟩:=bA.mp q;exact bA.mpr ⟨l,xs,B,rfl,rfl,h l QR _ hm,ao.frame ds xs B (λl hl=>h l (Qh _ hl)) q1⟩
theorem ao.frame{m m':Me}:∀(ds:List Dat) (xs:List Wd) (A:List Nat),(∀l∈A,∀o,m[l]?=some o->m'[l]?=some o)->ao m ds xs A->ao m' ds xs A
 |[],xs,A,h,q=>by rw[q.nil_inv.1,q.nil_inv.2];exact .nil
 |d::ds,xs,A,h,q=>by
  obtain⟨x,r,B,C,rfl,rfl,a,b⟩:=q.cons_inv;exact .cons (aR.frame d x B (λl hl=>h l (Q3 _ hl)) a) (ao.frame ds r C (λl hl=>h l (Qt _ hl)) b)
end
mutual
theorem aR.rep{m:Me}{R:Nat->Prop}:∀(d:Dat) (w:Wd) (A:List Nat),(∀l∈A,R l)->aR m d w A->ag R m d w
 |.non,w,A,h,q=>by unfold aR at q;exact am.mpr q.1
 |.bl _,w,A,h,q=>by unfold aR at q;exact ai.mpr q.1
 |.int _,w,A,h,q=>by unfold aR at q;exact aa.mpr q.1
 |.str _,w,A,h,q=>by unfold aR at q;exact ay.mpr q.1
 |.scr _,w,A,h,q=>by unfold aR at q;exact aT.mpr q.1
 |.tup ds,w,A,h,q=>by
  obtain⟨xs,rfl,q1⟩:=bm.mp q;exact ah.mpr ⟨xs,rfl,ao.rep ds xs A h q1⟩
 |.lst ds,w,A,h,q=>by
  obtain⟨l,xs,B,rfl,rfl,hm,q1⟩:=aM.mp q;exact aq.mpr ⟨l,xs,rfl,h l QR,hm,ao.rep ds xs B (λl hl=>h l (Qh _ hl)) q1⟩
 |.dct ks ds,w,A,h,q=>by
  obtain⟨l,xs,B,rfl,rfl,hm,q1⟩:=bA.mp q;exact aL.mpr ⟨l,xs,rfl,h l QR,hm,ao.rep ds xs B (λl hl=>h l (Qh _ hl)) q1⟩
theorem ao.rep{m:Me}{R:Nat->Prop}:∀(ds:List Dat) (xs:List Wd) (A:List Nat),(∀l∈A,R l)->ao m ds xs A->ab R m ds xs
 |[],xs,A,h,q=>by rw[q.nil_inv.1];exact .nil
 |d::ds,xs,A,h,q=>by
  obtain⟨x,r,B,C,rfl,rfl,a,b⟩:=q.cons_inv;exact .cons (aR.rep d x B (λl hl=>h l (Q3 _ hl)) a) (ao.rep ds r C (λl hl=>h l (Qt _ hl)) b)
end
mutual
theorem aR.lt{m:Me}:∀(d:Dat) (w:Wd) (A:List Nat),aR m d w A->∀l∈A,l<m.length
 |.non,w,A,q=>by unfold aR at q;rw[q.2];simp
 |.bl _,w,A,q=>by unfold aR at q;rw[q.2];simp
 |.int _,w,A,q=>by unfold aR at q;rw[q.2];simp
 |.str _,w,A,q=>by unfold aR at q;rw[q.2];simp
 |.scr _,w,A,q=>by unfold aR at q;rw[q.2];simp
 |.tup ds,w,A,q=>by
  obtain⟨xs,rfl,q1⟩:=bm.mp q;exact ao.lt ds xs A q1
 |.lst ds,w,A,q=>by
  obtain⟨l,xs,B,rfl,rfl,hm,q1⟩:=aM.mp q;intro k hk;rcases Qk.mp hk with rfl|hk
  .exact (Qa.mp hm).1
  .exact ao.lt ds xs B q1 k hk
 |.dct ks ds,w,A,q=>by
  obtain⟨l,xs,B,rfl,rfl,hm,q1⟩:=bA.mp q;intro k hk;rcases Qk.mp hk with rfl|hk
  .exact (Qa.mp hm).1
  .exact ao.lt ds xs B q1 k hk
theorem ao.lt{m:Me}:∀(ds:List Dat) (xs:List Wd) (A:List Nat),ao m ds xs A->∀l∈A,l<m.length
 |[],xs,A,q=>by rw[q.nil_inv.2];simp
 |d::ds,xs,A,q=>by
  obtain⟨x,r,B,C,rfl,rfl,a,b⟩:=q.cons_inv;intro k hk;rcases Ql.mp hk with hk|hk
  .exact aR.lt d x B a k hk
  .exact ao.lt ds r C b k hk
end
mutual
theorem ag.flat{R:Nat->Prop}{m m':Me}:∀(d:Dat) (w:Wd),aA d=true->ag R m d w->aR m' d w []
 |.non,w,h,q=>by unfold aR;exact⟨am.mp q,rfl⟩
 |.bl _,w,h,q=>by unfold aR;exact⟨ai.mp q,rfl⟩
 |.int _,w,h,q=>by unfold aR;exact⟨aa.mp q,rfl⟩
 |.str _,w,h,q=>by unfold aR;exact⟨ay.mp q,rfl⟩
 |.scr _,w,h,q=>by unfold aR;exact⟨aT.mp q,rfl⟩
 |.tup ds,w,h,q=>by
  obtain⟨xs,rfl,q1⟩:=ah.mp q;exact bm.mpr ⟨xs,rfl,ab.flat ds xs (by unfold Vl.aA at h;exact h) q1⟩
 |.lst ds,w,h,q=>by unfold Vl.aA at h;cases h
 |.dct ks ds,w,h,q=>by unfold Vl.aA at h;cases h
theorem ab.flat{R:Nat->Prop}{m m':Me}:∀(ds:List Dat) (xs:List Wd),ba ds=true->ab R m ds xs->ao m' ds xs []
 |[],xs,h,q=>by rw[q.nil_inv];exact .nil
 |d::ds,xs,h,q=>by
  obtain⟨x,r,rfl,a,b⟩:=q.cons_inv;unfold ba at h;rw[QH]at h;exact ao.cons (B:=[]) (C:=[]) (ag.flat d x h.1 a) (ab.flat ds r h.2 b)
end
noncomputable def a9(R:Nat->Prop)(m:Me)(lv:Lv)(d:Dat)(w:Wd)(A:List Nat):Prop:=match lv with
 |.no=>ag R m d w/\A=[]
 |.top=>∃ds l xs,d=.lst ds/\w=.ref l/\A=[l]/\m[l]?=some (.lst xs)/\ab R m ds xs
 |.full=>aR m d w A
theorem a9.rep (h:∀l,R l->R' l)(k:∀l∈A,R' l)(q:a9 R m lv d w A):ag R' m d w:=by
 cases lv with
 |no=>exact ag.frame (λl o r z=>⟨h l r,z⟩) d w q.1
 |top=>
  obtain⟨ds,l,xs,rfl,rfl,rfl,hm,a⟩:=q;exact aq.mpr ⟨l,xs,rfl,k l (by simp),hm,ab.frame (λl o r z=>⟨h l r,z⟩) ds xs a⟩
 |full=>exact aR.rep d w A k q
theorem a9.frame{R R':Nat->Prop}{m m':Me}{lv:Lv}{d:Dat}{w:Wd}{A:List Nat}(h:∀(l:Nat) o,R l->m[l]?=some o->R' l/\m'[l]?=some o)(k:∀l∈A,∀o,m[l]?=some o->m'[l]?=some o)(q:a9 R m lv d w A):a9 R' m' lv d w A:=by
 cases lv with
 |no=>exact⟨ag.frame h d w q.1,q.2⟩
 |top=>
  obtain⟨ds,l,xs,rfl,rfl,rfl,hm,a⟩:=q;exact⟨ds,l,xs,rfl,rfl,rfl,k l (by simp) _ hm,ab.frame h ds xs a⟩
 |full=>exact aR.frame d w A k q
theorem a9.lt (q:a9 R m lv d w A):∀l∈A,l<m.length:=by
 cases lv with
 |no=>rw[q.2];simp
 |top=>
  obtain⟨ds,l,xs,rfl,rfl,rfl,hm,a⟩:=q;intro k hk;rw[Qr.mp hk];exact(Qa.mp hm).1
 |full=>exact aR.lt d w A q
noncomputable def aX(lev:Nat->Lv):Ex->Dat->Lv
 |.comp elt _ _,d=>if aA d then .full else match d with
  |.lst ds=>if ds.all (λx=>aX lev elt x == .full)then .full else .top
  |_=>.no
 |.compP _ elt _ _ _,d=>if aA d then .full else match d with
  |.lst ds=>if ds.all (λx=>aX lev elt x == .full)then .full else .top
  |_=>.no
 |.lst a,d=>if aA d then .full else match d with
  |.lst ds=>if aX lev a (.tup ds) == .full then .full else .top
  |_=>.no
 |.tup a,d=>aX lev a d
 |.pair a b,d=>if aA d then .full else match d with
  |.tup (x::ds)=>if aX lev a x == .full&&aX lev b (.tup ds) == .full then .full else .no
  |_=>.no
 |.call k _,d=>if aA d then .full else lev k
 |.blt .list _,d=>if aA d then .full else match d with
  |.lst ds=>if ba ds then .full else .top
  |_=>.no
 |.bin _ _ _,d=>if aA d then .full else match d with
  |.lst ds=>if ba ds then .full else .top
  |_=>.no
 |.dict0,d=>if aA d then .full else match d with
  |.dct _ []=>.full
  |_=>.no
 |_,d=>if aA d then .full else .no
@[simp]theorem GA(lev:Nat->Lv)(d:Dat):aX lev .dict0 d=if aA d then .full else match d with
  |.dct _ []=>.full
  |_=>.no:=rfl
@[simp]theorem Fy(lev:Nat->Lv)(a b:Ex)(d:Dat):aX lev (.dget a b) d=if aA d then .full else .no:=rfl
@[simp]theorem Fx(lev:Nat->Lv)(e i c:Ex)(d:Dat):aX lev (.comp e i c) d=if aA d then .full else match d with
  |.lst ds=>if ds.all (λx=>aX lev e x == .full)then .full else .top
  |_=>.no:=rfl
@[simp]theorem Gz(lev:Nat->Lv)(k:Kd)(e a b c:Ex)(d:Dat):aX lev (.compP k e a b c) d=if aA d then .full else match d with
  |.lst ds=>if ds.all (λx=>aX lev e x == .full)then .full else .top
  |_=>.no:=rfl
@[simp]theorem FZ(lev:Nat->Lv)(a:Ex)(d:Dat):aX lev (.lst a) d=if aA d then .full else match d with
  |.lst ds=>if aX lev a (.tup ds) == .full then .full else .top
  |_=>.no:=rfl
@[simp]theorem FY(lev:Nat->Lv)(a:Ex)(d:Dat):aX lev (.tup a) d=aX lev a d:=rfl
@[simp]theorem rD(lev:Nat->Lv)(a b:Ex)(d:Dat):aX lev (.pair a b) d=if aA d then .full else match d with
  |.tup (x::ds)=>if aX lev a x == .full&&aX lev b (.tup ds) == .full then .full else .no
  |_=>.no:=rfl
@[simp]theorem Fw(lev:Nat->Lv)(k:Nat)(a:Ex)(d:Dat):aX lev (.call k a) d=if aA d then .full else lev k:=rfl
@[simp]theorem Fv(lev:Nat->Lv)(a:Ex)(d:Dat):aX lev (.blt .list a) d=if aA d then .full else match d with
  |.lst ds=>if ba ds then .full else .top
  |_=>.no:=rfl
@[simp]theorem FX(lev:Nat->Lv)(op:Bo)(a b:Ex)(d:Dat):aX lev (.bin op a b) d=if aA d then .full else match d with
  |.lst ds=>if ba ds then .full else .top
  |_=>.no:=rfl
@[simp]theorem FW(lev:Nat->Lv)(i:Nat)(d:Dat):aX lev (.var i) d=if aA d then .full else .no:=rfl
@[simp]theorem FV(lev:Nat->Lv)(w:Wd)(d:Dat):aX lev (.lit w) d=if aA d then .full else .no:=rfl
@[simp]theorem FU(lev:Nat->Lv)(a b:Ex)(d:Dat):aX lev (.idx a b) d=if aA d then .full else .no:=rfl
@[simp]theorem FT(lev:Nat->Lv)(a:Ex)(d:Dat):aX lev (.neg a) d=if aA d then .full else .no:=rfl
@[simp]theorem FS(lev:Nat->Lv)(a:Ex)(d:Dat):aX lev (.not a) d=if aA d then .full else .no:=rfl
@[simp]theorem FR(lev:Nat->Lv)(a b:Ex)(d:Dat):aX lev (.and a b) d=if aA d then .full else .no:=rfl
@[simp]theorem sk(lev:Nat->Lv)(a b:Ex)(d:Dat):aX lev (.or a b) d=if aA d then .full else .no:=rfl
@[simp]theorem FQ(lev:Nat->Lv)(op:Co)(a b:Ex)(d:Dat):aX lev (.cmp op a b) d=if aA d then .full else .no:=rfl
@[simp]theorem Gr(lev:Nat->Lv)(c a b:Ex)(d:Dat):aX lev (.ife c a b) d=if aA d then .full else .no:=rfl
@[simp]theorem Fu(lev:Nat->Lv)(d:Dat):aX lev (.unit) d=if aA d then .full else .no:=rfl
@[simp]theorem Gq(lev:Nat->Lv)(t:Tg)(a:Ex)(d:Dat):aX lev (.isi t a) d=if aA d then .full else .no:=rfl
@[simp]theorem Gp(lev:Nat->Lv)(a b c:Ex)(d:Dat):aX lev (.rng a b c) d=if aA d then .full else .no:=rfl
@[simp]theorem Ft(lev:Nat->Lv)(a:Ex)(d:Dat):aX lev (.blt .len a) d=if aA d then .full else .no:=rfl
@[simp]theorem Gf(lev:Nat->Lv)(a:Ex)(d:Dat):aX lev (.blt .int a) d=if aA d then .full else .no:=rfl
@[simp]theorem GH(lev:Nat->Lv)(a:Ex)(d:Dat):aX lev (.blt .tuple a) d=if aA d then .full else .no:=rfl
@[simp]theorem Ge(lev:Nat->Lv)(a:Ex)(d:Dat):aX lev (.blt .sum a) d=if aA d then .full else .no:=rfl
@[simp]theorem Gy(lev:Nat->Lv)(a:Ex)(d:Dat):aX lev (.blt .min2 a) d=if aA d then .full else .no:=rfl
@[simp]theorem Gx(lev:Nat->Lv)(a:Ex)(d:Dat):aX lev (.blt .max2 a) d=if aA d then .full else .no:=rfl
noncomputable def aI(R:Nat->Prop)(m:Me)(lv:Dat->Lv)(r:Rz)(rd:Rd):Prop:=match rd with
 |.ok d=>∃w m' A,r=.ok w m'/\Le m m'/\a9 (λl=>Rf R m.length l/\l∉A) m' (lv d) d w A/\A.Nodup/\∀a∈A,m.length<=a
 |.no=>True
noncomputable def xz(lev:Nat->Lv)(k:Nat)(d:Dat):Lv:=if aA d then .full else lev k
noncomputable def bn(lev:Nat->Lv)(cl:Nat->List Wd->Me->Rz)(cd:Nat->List Dat->Rd):Prop:=∀(k:Nat) (ds:List Dat) (ws:List Wd) (R:Nat->Prop) (m:Me),ab R m ds ws->aI R m (xz lev k) (cl k ws m) (cd k ds)
def aI.sim (h:aI R m lv r rd):af R m r rd:=by
 cases rd with
 |ok d=>
  obtain⟨w,m',A,rfl,l,q,_,hA⟩:=h;exact⟨w,m',rfl,l,q.rep (λ_ z=>z.1) (λa z=>.inr (hA a z))⟩
 |no=>trivial
def bn.r (H:bn lev cl cd):bj cl cd:=λk ds ws R m q=>(H k ds ws R m q).sim
set_option tactic.hygienic true in
def af.own (h:af R m r rd)(hl:∀d,lv d=if aA d then .full else .no):aI R m lv r rd:=by
 cases rd with
 |ok d=>
  obtain⟨w,m',rfl,l,q⟩:=h;refine⟨w,m',[],rfl,l,?_,QK,by simp⟩;rw[hl];split
  .next z=>exact q.flat d w z
  .exact ⟨ag.frame (λl o r z=>⟨⟨r,by simp⟩,z⟩) d w q,rfl⟩
 |no=>trivial
def aI.lift{R:Nat->Prop}{m m1:Me}{r:Rz}{rd:Rd}{lv:Dat->Lv}(h:Le m m1)(q:aI (Rf R m.length) m1 lv r rd):aI R m lv r rd:=by
 have hl:=h.len;cases rd with
 |ok d=>
  obtain⟨w,m',A,rfl,k,z,nd,hA⟩:=q;exact⟨w,m',A,rfl,h.trans k,z.frame (λl o r z=>⟨⟨by rcases r.1 with (r|r)|r;exact .inl r;exact .inr r;exact .inr (by lia),r.2⟩,z⟩) (λ_ _ _ z=>z),nd,λa ha=>by have:=hA a ha;lia⟩
 |no=>trivial
def af.bindO (h:af R m r rd)(k:∀d w m',Le m m'->ag (Rf R m.length) m' d w->aI (Rf R m.length) m' lv (f w m') (g d)):aI R m lv (r.bind f) (rd.bind g):=by
 cases rd with
 |ok d=>obtain⟨w,m',rfl,l,z⟩:=h;exact aI.lift l (k d w m' l z)
 |no=>trivial
theorem aI.no{R:Nat->Prop}{m:Me}{r:Rz}{lv:Dat->Lv}:aI R m lv r .no:=trivial
set_option tactic.hygienic true in
def aI.new{R:Nat->Prop}{m:Me}{ds:List Dat}{xs:List Wd}{lv:Dat->Lv}(h:ab R m ds xs)(hl:∀es,lv (.lst es)=if ba es then .full else .top):aI R m lv (alloc m xs) (bu ds):=by
 unfold bu alloc;rw[h.len];by_cases z:xs.length<=aF
 .rw[Jh z,Jh z];refine⟨_,_,[m.length],rfl,Le.app m _,?_,by simp,by simp⟩;rw[hl];split
  .next f=>exact aM.mpr ⟨_,xs,[],rfl,rfl,by simp,h.flat ds xs f⟩
  .refine ⟨ds,_,xs,rfl,rfl,rfl,by simp,ab.frame (λl o r z=>⟨⟨.inl r,?_⟩,Le.app m _ l o z⟩) ds xs h⟩;have:=(Qa.mp z).1;simp;lia
 .rw[Ji z,Ji z];exact aI.no
def oe (hm:Le m0 m)(h:ao m ds xs A)(nd:A.Nodup)(hA:∀a∈A,m0.length<=a)(hl:lv (.lst ds)=.full)(hlen:ds.length=xs.length):aI R m0 lv (alloc m xs) (bu ds):=by
 unfold bu alloc;rw[hlen];have hlt:=h.lt;by_cases z:xs.length<=aF
 .rw[Jh z,Jh z];refine⟨_,_,m.length::A,rfl,hm.trans (Le.app m _),?_,QA.mpr ⟨λq=>by have:=hlt _ q;lia,nd⟩,?_⟩
  .rw[hl];exact aM.mpr ⟨_,xs,A,rfl,rfl,by simp,ao.frame ds xs A (λl hl o q=>Le.app m _ l o q) h⟩
  .intro a ha;rcases Qk.mp ha with rfl|ha
   .exact hm.len
   .exact hA a ha
 .rw[Ji z,Ji z];exact aI.no
theorem ao.len:∀{ds:List Dat}{xs:List Wd}{A:List Nat},ao m ds xs A->ds.length=xs.length
 |[],xs,A,q=>by rw[q.nil_inv.1];rfl
 |d::ds,xs,A,q=>by
  obtain⟨x,r,B,C,rfl,rfl,a,b⟩:=q.cons_inv;simp[ao.len b]
noncomputable def cB(R:Nat->Prop)(m:Me)(lv:Dat->Lv)(r:Rz)(rd:Rd):Prop:=match rd with
 |.ok d=>∃out m2 outx,d=.lst out/\out.length<=aF/\r=alloc m2 outx/\Le m m2/\ab (Rf R m.length) m2 out outx/\((∀y∈out,lv y=.full)->∃A,ao m2 out outx A/\A.Nodup/\∀a∈A,m.length<=a)
 |.no=>True
noncomputable def b7(m0 m:Me)(lv:Dat->Lv)(acc:List Dat)(acx:List Wd):Prop:=(∀y∈acc,lv y=.full)->∃A,ao m acc acx A/\A.Nodup/\∀a∈A,m0.length<=a
def b7.up{m0 m m':Me}{lv:Dat->Lv}{acc:List Dat}{acx:List Wd}(h:Le m m')(q:b7 m0 m lv acc acx):b7 m0 m' lv acc acx:=λz=>by
 obtain⟨A,a,b,c⟩:=q z;exact⟨A,ao.frame acc acx A (λl _ o k=>h l o k) a,b,c⟩
def b7.push{m0 m m':Me}{lv:Dat->Lv}{acc:List Dat}{acx:List Wd}{d:Dat}{w:Wd}{B:List Nat}(hm:Le m0 m)(h:Le m m')(q:b7 m0 m lv acc acx)(z:lv d=.full->aR m' d w B)(nd:B.Nodup)(hB:∀b∈B,m.length<=b):b7 m0 m' lv (acc++[d]) (acx++[w]):=λf=>by
 obtain⟨A,a,b,c⟩:=q λy hy=>f y (Q3 _ hy);refine⟨A++(B++[]),(ao.frame acc acx A (λl _ o k=>h l o k) a).app (.cons (z (f d (by simp))) .nil),?_,?_⟩
 .rw[QW];refine Qn.mpr ⟨b,nd,λx hx y hy e=>?_⟩;have:=ao.lt acc acx A a x hx;have:=hB y hy;lia
 .intro x hx;rw[QW]at hx;rcases Ql.mp hx with hx|hx
  .exact c x hx
  .have:=hB x hx;have:=hm.len;lia
theorem xJ (hc:∀(R':Nat->Prop) m d x,(∀l,R l->R' l)->Le m0 m->ag R' m d x->af R' m (c x m) (cd d))(he:∀(R':Nat->Prop) m d x,(∀l,R l->R' l)->Le m0 m->ag R' m d x->aI R' m lv (e x m) (ed d)):
  ∀(ds:List Dat) (xs:List Wd) (acc:List Dat) (acx:List Wd) (m:Me),Le m0 m->ab (Rf R m0.length) m ds xs->ab (Rf R m0.length) m acc acx->b7 m0 m lv acc acx->cB R m0 lv (yC c e xs acx m) (zU cd ed ds acc)
 |[],xs,acc,acx,m,hm,a,b,f=>by
  rw[a.nil_inv];unfold yC zU bu;by_cases z:acc.length<=aF
  .rw[Jh z];exact⟨acc,m,acx,rfl,z,rfl,hm,b,f⟩
  .rw[Ji z];trivial
 |d::ds,xs,acc,acx,m,hm,a,b,f=>by
  obtain⟨x,r,rfl,p,q⟩:=a.cons_inv;have hl:=hm.len;have sh:∀{n:Nat}{m':Me}{d:Dat}{w:Wd},m0.length<=n->ag (Rf (Rf R m0.length) n) m' d w->ag (Rf R m0.length) m' d w:=λhn k=>ag.frame (λl o r z=>⟨by rcases r with (r|r)|r;exact .inl r;exact .inr r;exact .inr (by lia),z⟩) _ _ k;unfold yC zU;have h1:=hc _ m d x (λl z=>.inl z) hm p;cases e1:cd d with
  |no=>trivial
  |ok t=>
   rw[e1]at h1;obtain⟨w,m1,h1,l1,k1⟩:=h1;rw[h1];simp only[Rz.bind,Rd.bind];cases t with
   |bl t=>
    rw[ai.mp k1];have fr:∀{ds:List Dat}{xs:List Wd},ab (Rf R m0.length) m ds xs->ab (Rf R m0.length) m1 ds xs:=λk=>ab.frame (λl o r z=>⟨r,l1 l o z⟩) _ _ k;cases t with
    |false=>exact xJ hc he ds r acc acx m1 (hm.trans l1) (fr q) (fr b) (f.up l1)
    |true=>
     have h2:=he _ m1 d x (λl z=>.inl z) (hm.trans l1) (ag.frame (λl o r z=>⟨r,l1 l o z⟩) _ _ p);have hl1:=(hm.trans l1).len;simp only;cases e2:ed d with
     |no=>trivial
     |ok y=>
      rw[e2]at h2;have h3:=h2.sim;obtain⟨w,m2,B,h2,l2,k2,nd,hB⟩:=h2;obtain⟨w',m2',h3,_,k3⟩:=h3;rw[h2]at h3 ⊢;cases h3;simp only[Rz.bind,Rd.bind,b.len];split
      .refine xJ hc he ds r _ _ m2 ((hm.trans l1).trans l2) (ab.frame (λl o r z=>⟨r,l2 l o z⟩) _ _ (fr q)) ((ab.frame (λl o r z=>⟨r,l2 l o z⟩) _ _ (fr b)).app (.cons (sh hl1 k3) .nil)) ((f.up l1).push (hm.trans l1) l2 ?_ nd hB);intro z;rw[z]at k2;exact k2
      .trivial
   |_=>trivial
theorem wU (hx0:m0[l]?=some (.lst xs0))(hc:∀(R':Nat->Prop) m d x,(∀l,R l->R' l)->Le m0 m->ag R' m d x->af R' m (c x m) (cd d))(he:∀(R':Nat->Prop) m d x,(∀l,R l->R' l)->Le m0 m->ag R' m d x->aI R' m lv (e x m) (ed d)):
  ∀(ds:List Dat) (i k:Nat) (acc:List Dat) (acx:List Wd) (m:Me),Le m0 m->ab (Rf R m0.length) m ds (xs0.drop i)->i+ds.length=xs0.length->ds.length<k->ab (Rf R m0.length) m acc acx->b7 m0 m lv acc acx->cB R m0 lv (yD c e l k i acx m) (zU cd ed ds acc)
 |[],i,0,acc,acx,m,hm,a,hi,hk,b,f=>by simp at hk
 |d::ds,i,0,acc,acx,m,hm,a,hi,hk,b,f=>by simp at hk
 |[],i,k+1,acc,acx,m,hm,a,hi,hk,b,f=>by
  unfold yD zU zi bu;rw[hm l _ hx0];simp only;rw[Qx (by simp at hi;lia)];by_cases z:acc.length<=aF
  .rw[Jh z];exact⟨acc,m,acx,rfl,z,rfl,hm,b,f⟩
  .rw[Ji z];trivial
 |d::ds,i,k+1,acc,acx,m,hm,a,hi,hk,b,f=>by
  obtain⟨x,r,e0,p,q⟩:=a.cons_inv;have hx:xs0[i]?=some x:=by
   have:(xs0.drop i)[0]?=some x:=by rw[e0];rfl
   simpa using this
  have hr:r=xs0.drop (i+1):=by
   have:(xs0.drop i).drop 1=r:=by rw[e0];rfl
   rw[<-this,Wu]
  rw[hr]at q;have hi':i+1+ds.length=xs0.length:=by simp at hi;lia
  have hk':ds.length<k:=by simp at hk;lia
  have hl:=hm.len;have sh:∀{n:Nat}{m':Me}{d:Dat}{w:Wd},m0.length<=n->ag (Rf (Rf R m0.length) n) m' d w->ag (Rf R m0.length) m' d w:=λhn k=>ag.frame (λl o r z=>⟨by rcases r with (r|r)|r;exact .inl r;exact .inr r;exact .inr (by lia),z⟩) _ _ k;unfold yD zU zi;rw[hm l _ hx0];simp only;rw[hx];simp only;have h1:=hc _ m d x (λl z=>.inl z) hm p;cases e1:cd d with
  |no=>trivial
  |ok t=>
   rw[e1]at h1;obtain⟨w,m1,h1,l1,k1⟩:=h1;rw[h1];simp only[Rz.bind,Rd.bind];cases t with
   |bl t=>
    rw[ai.mp k1];have fr:∀{ds:List Dat}{xs:List Wd},ab (Rf R m0.length) m ds xs->ab (Rf R m0.length) m1 ds xs:=λk=>ab.frame (λl o r z=>⟨r,l1 l o z⟩) _ _ k;cases t with
    |false=>exact wU hx0 hc he ds (i+1) k acc acx m1 (hm.trans l1) (fr q) hi' hk' (fr b) (f.up l1)
    |true=>
     have h2:=he _ m1 d x (λl z=>.inl z) (hm.trans l1) (ag.frame (λl o r z=>⟨r,l1 l o z⟩) _ _ p);have hl1:=(hm.trans l1).len;simp only;cases e2:ed d with
     |no=>trivial
     |ok y=>
      rw[e2]at h2;have h3:=h2.sim;obtain⟨w,m2,B,h2,l2,k2,nd,hB⟩:=h2;obtain⟨w',m2',h3,_,k3⟩:=h3;rw[h2]at h3 ⊢;cases h3;simp only[Rz.bind,Rd.bind,b.len];split
      .refine wU hx0 hc he ds (i+1) k _ _ m2 ((hm.trans l1).trans l2) (ab.frame (λl o r z=>⟨r,l2 l o z⟩) _ _ (fr q)) hi' hk' ((ab.frame (λl o r z=>⟨r,l2 l o z⟩) _ _ (fr b)).app (.cons (sh hl1 k3) .nil)) ((f.up l1).push (hm.trans l1) l2 ?_ nd hB);intro z;rw[z]at k2;exact k2
      .trivial
   |_=>trivial
theorem wV (hg:iD (Rf R m0.length) m0 ps g)(hc:∀(R':Nat->Prop) m p a b,(∀l,R l->R' l)->Le m0 m->ag R' m p.1 a->ag R' m p.2 b->af R' m (c a b m) (cd p))(he:∀(R':Nat->Prop) m p a b,(∀l,R l->R' l)->Le m0 m->ag R' m p.1 a->ag R' m p.2 b->aI R' m lv (e a b m) (ed p)):
  ∀(ds:List (Dat×Dat)) (i k:Nat) (acc:List Dat) (acx:List Wd) (m:Me),Le m0 m->ds=ps.drop i->i+ds.length=ps.length->ds.length<k->ab (Rf R m0.length) m acc acx->b7 m0 m lv acc acx->cB R m0 lv (zJ c e g k i acx m) (zU cd ed ds acc)
 |[],i,0,acc,acx,m,hm,a,hi,hk,b,f=>by simp at hk
 |d::ds,i,0,acc,acx,m,hm,a,hi,hk,b,f=>by simp at hk
 |[],i,k+1,acc,acx,m,hm,a,hi,hk,b,f=>by
  unfold zJ zU bu;rw[(hg m hm).2 i (by simp at hi;lia)];simp only;by_cases z:acc.length<=aF
  .rw[Jh z];exact⟨acc,m,acx,rfl,z,rfl,hm,b,f⟩
  .rw[Ji z];trivial
 |d::ds,i,k+1,acc,acx,m,hm,a,hi,hk,b,f=>by
  have hx:ps[i]?=some d:=by
   have:(ps.drop i)[0]?=some d:=by rw[<-a];rfl
   simpa using this
  have hr:ds=ps.drop (i+1):=by
   have:(ps.drop i).drop 1=ds:=by rw[<-a];rfl
   rw[<-this,Wu]
  have hi':i+1+ds.length=ps.length:=by simp at hi;lia
  have hk':ds.length<k:=by simp at hk;lia
  obtain⟨u,v,e0,p,q⟩:=(hg m hm).1 i d hx;have hl:=hm.len;have sh:∀{n:Nat}{m':Me}{d:Dat}{w:Wd},m0.length<=n->ag (Rf (Rf R m0.length) n) m' d w->ag (Rf R m0.length) m' d w:=λhn k=>ag.frame (λl o r z=>⟨by rcases r with (r|r)|r;exact .inl r;exact .inr r;exact .inr (by lia),z⟩) _ _ k;unfold zJ zU;rw[e0];simp only;have h1:=hc _ m d u v (λl z=>.inl z) hm p q;cases e1:cd d with
  |no=>trivial
  |ok t=>
   rw[e1]at h1;obtain⟨w,m1,h1,l1,k1⟩:=h1;rw[h1];simp only[Rz.bind,Rd.bind];cases t with
   |bl t=>
    rw[ai.mp k1];have fr:∀{ds:List Dat}{xs:List Wd},ab (Rf R m0.length) m ds xs->ab (Rf R m0.length) m1 ds xs:=λk=>ab.frame (λl o r z=>⟨r,l1 l o z⟩) _ _ k;cases t with
    |false=>exact wV hg hc he ds (i+1) k acc acx m1 (hm.trans l1) hr hi' hk' (fr b) (f.up l1)
    |true=>
     have h2:=he _ m1 d u v (λl z=>.inl z) (hm.trans l1) (ag.frame (λl o r z=>⟨r,l1 l o z⟩) _ _ p) (ag.frame (λl o r z=>⟨r,l1 l o z⟩) _ _ q);have hl1:=(hm.trans l1).len;simp only;cases e2:ed d with
     |no=>trivial
     |ok y=>
      rw[e2]at h2;have h3:=h2.sim;obtain⟨w,m2,B,h2,l2,k2,nd,hB⟩:=h2;obtain⟨w',m2',h3,_,k3⟩:=h3;rw[h2]at h3 ⊢;cases h3;simp only[Rz.bind,Rd.bind,b.len];split
      .refine wV hg hc he ds (i+1) k _ _ m2 ((hm.trans l1).trans l2) hr hi' hk' ((ab.frame (λl o r z=>⟨r,l2 l o z⟩) _ _ (fr b)).app (.cons (sh hl1 k3) .nil)) ((f.up l1).push (hm.trans l1) l2 ?_ nd hB);intro z;rw[z]at k2;exact k2
      .trivial
   |_=>trivial
def cB.sim (h:cB R m lv r rd)(hl:∀ds,lw (.lst ds)=if ds.all (λx=>lv x == .full)then .full else .top):aI R m lw r rd:=by
 cases rd with
 |no=>trivial
 |ok d=>
  obtain⟨out,m2,outx,rfl,hlen,rfl,l2,k2,own⟩:=h;have e:=k2.len;cases z:out.all (λx=>lv x == .full)with
  |true=>
   obtain⟨A,a,b,c⟩:=own λy hy=>by simpa using Wp.mp z y hy
   have:=oe (R:=R) (lv:=lw) l2 a b c (by rw[hl,z];rfl) e;unfold bu at this;rw[Jh hlen]at this;exact this
  |false=>
   unfold alloc;rw[<-e,Jh hlen];have ll:=l2.len;refine⟨_,_,[m2.length],rfl,l2.trans (Le.app m2 _),?_,by simp,by simp;exact ll⟩;rw[hl,z];refine⟨out,_,outx,rfl,rfl,rfl,by simp,ab.frame (λl o r z=>⟨⟨r,?_⟩,Le.app m2 _ l o z⟩) out outx k2⟩;have:=(Qa.mp z).1;simp;lia
theorem wG(lev:Nat->Lv):∀(e:Ex) (d:Dat),aA d=true->aX lev e d=.full
 |.tup a,d,h=>wG lev a d h
 |.comp _ _ _,d,h=>Jh h
 |.compP _ _ _ _ _,d,h=>Jh h
 |.lst _,d,h=>Jh h
 |.pair _ _,d,h=>Jh h
 |.call _ _,d,h=>Jh h
 |.blt b _,d,h=>by cases b<;>exact Jh h
 |.bin _ _ _,d,h=>Jh h
 |.var _,d,h=>Jh h
 |.lit _,d,h=>Jh h
 |.neg _,d,h=>Jh h
 |.not _,d,h=>Jh h
 |.and _ _,d,h=>Jh h
 |.or _ _,d,h=>Jh h
 |.cmp _ _ _,d,h=>Jh h
 |.chain _ _ _ _ _,d,h=>Jh h
 |.ife _ _ _,d,h=>Jh h
 |.unit,d,h=>Jh h
 |.isi _ _,d,h=>Jh h
 |.dict0,d,h=>Jh h
 |.dget _ _,d,h=>Jh h
 |.dop k _ _ _,d,h=>by cases k<;>exact Jh h
 |.idx _ _,d,h=>Jh h
 |.meth _ _ _,d,h=>Jh h
 |.rng _ _ _,d,h=>Jh h
def aI.newTop{R:Nat->Prop}{m0 m:Me}{ds:List Dat}{xs:List Wd}{lv:Dat->Lv}(hm:Le m0 m)(h:ab (Rf R m0.length) m ds xs)(hl:lv (.lst ds)=.top):aI R m0 lv (alloc m xs) (bu ds):=by
 unfold bu alloc;rw[h.len];by_cases z:xs.length<=aF
 .rw[Jh z,Jh z];refine⟨_,_,[m.length],rfl,hm.trans (Le.app m _),?_,by simp,by simp;exact hm.len⟩;rw[hl];refine⟨ds,_,xs,rfl,rfl,rfl,by simp,ab.frame (λl o r z=>⟨⟨r,?_⟩,Le.app m _ l o z⟩) ds xs h⟩;have:=(Qa.mp z).1;simp;lia
 .rw[Ji z,Ji z];exact aI.no
set_option tactic.hygienic true in
def BG{R:Nat->Prop}{m:Me}{d e:Dat}{x y:Wd}{lv:Dat->Lv}(op:Bo)(hl:∀d,lv d=if aA d then .full else match d with |.lst ds=>if ba ds then .full else .top|_=>.no)(a:ag R m d x)(b:ag R m e y):aI R m lv (ci op x y m) (yK op d e):=by
 have hn:∀es,lv (.lst es)=if ba es then .full else .top:=λes=>by rw[hl];simp[aA]
 have hs:=jE op a b;cases d with
 |lst ds=>
  obtain⟨l,xs,rfl,_,hm,a1⟩:=aq.mp a;cases e with
  |lst es=>
   obtain⟨l',ys,rfl,_,hk,b1⟩:=aq.mp b;cases op<;>first|exact aI.no|skip
   simp only[ci,yK,hm,hk];exact aI.new (a1.app b1) hn
  |int k=>
   rw[aa.mp b];cases op<;>first|exact aI.no|skip
   simp only[ci,yK,hm];by_cases z:-(aF:Int)<=k/\k<=(aF:Int)
   .rw[Jh z,Jh z];exact aI.new (a1.rep _) hn
   .rw[Ji z,Ji z];exact aI.no
  |_=>exact aI.no
 |int i=>
  cases e with
  |int j=>
   have hi:∀r:Rd,af R m (ci op x y m) r->(∀d,r=.ok d->aA d=true)->aI R m lv (ci op x y m) r:=by
    intro r h f;cases r with
    |ok d=>
     obtain⟨w,m',h,l,k⟩:=h;refine⟨w,m',[],h,l,?_,QK,by simp⟩;rw[hl,Jh (f d rfl)];exact k.flat d w (f d rfl)
    |no=>trivial
   refine hi _ hs λd h=>?_;cases op<;>simp only[yK]at h
   .cases h;rfl
   .cases h;rfl
   all_goals (split at h<;>(cases h;try rfl))
  |_=>exact aI.no
 |tup ds=>
  obtain⟨xs,rfl,a1⟩:=ah.mp a;cases e with
  |tup es=>
   obtain⟨ys,rfl,b1⟩:=ah.mp b;cases op<;>first|exact aI.no|skip
   simp only[yK]at hs ⊢;split at hs
   .next z=>
    rw[Jh z];obtain⟨w,m',h,l,k⟩:=hs;refine⟨w,m',[],h,l,?_,QK,by simp⟩;rw[hl];split
    .next f=>exact k.flat _ w f
    .exact ⟨ag.frame (λl o r z=>⟨⟨r,by simp⟩,z⟩) _ w k,rfl⟩
   .next z=>rw[Ji z];exact aI.no
  |_=>exact aI.no
 |_=>exact aI.no
set_option tactic.hygienic true in
theorem yS (H:bn lev cl cd):∀(e:Ex) (R:Nat->Prop) (m:Me) (de:aK) (env:En),bE R m (zl e) de env->aI R m (aX lev e) (ae cl e env m) (az cd e de)
 |.call k a,R,m,de,env,q=>by
  have e:aX lev (.call k a)=xz lev k:=by funext d;simp[xz]
  rw[e];refine(zd H.r a R m de env q).bindO λd w m1 l1 k1=>?_;exact H k _ _ _ m1 (zZ k1)
 |.bin op a b,R,m,de,env,q=>by
  refine(zd H.r a R m de env q.left).bindO λd w m1 l1 k1=>?_;refine(zd H.r b _ m1 de env (q.right.up (λ_=>.inl) l1)).bindO λd2 w2 m2 l2 k2=>?_;exact BG op (λd=>by cases d<;>rfl) (k1.up _ l2) k2
 |.blt b a,R,m,de,env,q=>by
  by_cases hb:b=.list
  .subst hb;refine(zd H.r a R m de env q).bindO λd w m1 l1 k1=>?_;have k2:=zZ k1;simp only[kr];split
   .next x hx=>
    rw[hx]at k2;obtain⟨x',r,e0,p,q0⟩:=k2.cons_inv;rw[e0,q0.nil_inv];split
    .next z=>obtain⟨ys,h,q⟩:=xH p z;simp only[vj,h];exact aI.new q (λes=>by simp[aA])
    .exact aI.no
   .exact aI.no
  .exact (zd H.r (.blt b a) R m de env q).own λd=>by cases b<;>first|exact Jj rfl hb|rfl
 |.lst a,R,m,de,env,q=>by
  have ih:=yS H a R m de env q;show aI R m _ ((ae cl a env m).bind λx m1=>alloc m1 (zj x)) ((az cd a de).bind λx=>bu (zt x));cases ea:az cd a de with
  |no=>trivial
  |ok d=>
   rw[ea]at ih;have hs:=ih.sim;obtain⟨w,m1,A,h,l,k,nd,hA⟩:=ih;obtain⟨w',m1',h',_,ks⟩:=hs;rw[h]at h';cases h';rw[h];simp only[Rz.bind,Rd.bind];have ka:=zZ ks;cases z:aX lev a (.tup (zt d)) == .full with
   |false=>exact aI.newTop l ka (by simp[aA,z])
   |true=>
    have z':aX lev a (.tup (zt d))=.full:=by simpa using z
    have own:∃B,ao m1 (zt d) (zj w) B/\B.Nodup/\∀b∈B,m.length<=b:=by
     cases d with
     |tup ds=>
      rw[show aX lev a (.tup ds)=.full from z']at k;obtain⟨xs,rfl,k1⟩:=bm.mp k;exact⟨A,k1,nd,hA⟩
     |_=>refine⟨[],?_,QK,by simp⟩;exact ka.flat _ _ rfl
    obtain⟨B,o,nb,hB⟩:=own;exact oe l o nb hB (by simp[aA,z]) ka.len
 |.tup a,R,m,de,env,q=>by
  have ih:=yS H a R m de env q;have el:aX lev (.tup a)=aX lev a:=by funext d;simp
  rw[el];show aI R m _ ((ae cl a env m).bind λx m1=>if(zj x).length<=aF then .ok (.tup (zj x)) m1 else .no) ((az cd a de).bind λx=>if(zt x).length<=aF then .ok (.tup (zt x))else .no);cases ea:az cd a de with
  |no=>trivial
  |ok d=>
   rw[ea]at ih;have hs:=ih.sim;obtain⟨w,m1,A,h,l,k,nd,hA⟩:=ih;obtain⟨w',m1',h',_,ks⟩:=hs;rw[h]at h';cases h';rw[h];have ka:=zZ ks;simp only[Rz.bind,Rd.bind,ka.len];split
   .cases d with
    |tup ds=>
     obtain⟨xs,rfl,_⟩:=ah.mp ks;exact⟨_,m1,A,rfl,l,k,nd,hA⟩
    |_=>
     refine⟨_,m1,[],rfl,l,?_,QK,by simp⟩;rw[wG lev a _ (by rfl)];exact bm.mpr ⟨_,rfl,ka.flat _ _ rfl⟩
   .trivial
 |.pair a b,R,m,de,env,q=>by
  have iha:=yS H a R m de env q.left;show aI R m _ ((ae cl a env m).bind λx m1=>(ae cl b env m1).bind λy m2=>.ok (.tup (x::zj y)) m2) ((az cd a de).bind λx=>(az cd b de).bind λy=>.ok (.tup (x::zt y)));cases ea:az cd a de with
  |no=>trivial
  |ok d=>
   rw[ea]at iha;have hs:=iha.sim;obtain⟨w,m1,A,h,l,k,nd,hA⟩:=iha;obtain⟨w',m1',h',_,ks⟩:=hs;rw[h]at h';cases h';rw[h];simp only[Rz.bind,Rd.bind];have ihb:=yS H b _ m1 de env (q.right.up (R':=Rf R m.length) (λ_=>.inl) l);cases eb:az cd b de with
   |no=>trivial
   |ok d2=>
    rw[eb]at ihb;have hs2:=ihb.sim;obtain⟨w2,m2,A2,h2,l2,k2,nd2,hA2⟩:=ihb;obtain⟨w2',m2',h2',_,ks2⟩:=hs2;rw[h2]at h2';cases h2';rw[h2];simp only;have ka:=zZ ks2;have hl1:=l.len;cases z:(aX lev a d == .full&&aX lev b (.tup (zt d2)) == .full)with
    |false=>
     have:af R m (.ok (.tup (w::zj w2)) m2) (.ok (.tup (d::zt d2))):=
      af.lift l (af.lift l2 (cC (ah.mpr ⟨_,rfl,.cons (ks.up _ l2) ka⟩)))
     obtain⟨w3,m3,h3,l3,k3⟩:=this;refine⟨w3,m3,[],h3,l3,?_,QK,by simp⟩;by_cases f:aA (.tup (d::zt d2))=true
     .rw[wG lev _ _ f];exact k3.flat _ w3 f
     .have:aX lev (.pair a b) (.tup (d::zt d2))=.no:=by
       rw[rD,Ji f];simp only[z];rfl
      rw[this];exact⟨ag.frame (λl o r z=>⟨⟨r,by simp⟩,z⟩) _ w3 k3,rfl⟩
    |true=>
     rw[QH]at z;have z1:aX lev a d=.full:=by simpa using z.1
     have z2:aX lev b (.tup (zt d2))=.full:=by simpa using z.2
     rw[z1]at k;have own:∃B,ao m2 (zt d2) (zj w2) B/\B.Nodup/\∀b∈B,m1.length<=b:=by
      cases d2 with
      |tup ds=>
       rw[show aX lev b (.tup ds)=.full from z2]at k2;obtain⟨xs,rfl,k3⟩:=bm.mp k2;exact⟨A2,k3,nd2,hA2⟩
      |_=>refine⟨[],?_,QK,by simp⟩;exact ka.flat _ _ rfl
     obtain⟨B,o,nb,hB⟩:=own;refine⟨_,m2,A++B,rfl,l.trans l2,?_,?_,?_⟩
     .have:aX lev (.pair a b) (.tup (d::zt d2))=.full:=by
       rw[rD];simp only[z1,z2];simp
      rw[this];exact bm.mpr ⟨_,rfl,.cons (aR.frame d w A (λx _ o q=>l2 x o q) k) o⟩
     .refine Qn.mpr ⟨nd,nb,λx hx y hy e=>?_⟩;have:=aR.lt d w A k x hx;have:=hB y hy;lia
     .intro x hx;rcases Ql.mp hx with hx|hx
      .exact hA x hx
      .have:=hB x hx;lia
 |.comp elt it cond,R,m,de,env,q=>by
  refine(zd H.r it R m de env q.left).bindO λd w m1 l1 k1=>?_;have hc:∀(R':Nat->Prop) m' d x,(∀l,Rf R m.length l->R' l)->Le m1 m'->ag R' m' d x->af R' m' (ae cl cond (env++[some x]) m') (az cd cond (de++[some d])):=
   λR' m' d x hR l k=>zd H.r cond R' m' _ _ ((q.right.right.up (λl h=>hR l (.inl h)) (l1.trans l)).push k)
  have he:∀(R':Nat->Prop) m' d x,(∀l,Rf R m.length l->R' l)->Le m1 m'->ag R' m' d x->aI R' m' (aX lev elt) (ae cl elt (env++[some x]) m') (az cd elt (de++[some d])):=
   λR' m' d x hR l k=>yS H elt R' m' _ _ ((q.right.left.up (λl h=>hR l (.inl h)) (l1.trans l)).push k)
  have hl:∀ds,aX lev (.comp elt it cond) (.lst ds)=if ds.all (λx=>aX lev elt x == .full)then .full else .top:=λds=>by simp[aA]
  have acc0:b7 m1 m1 (aX lev elt) [] []:=λ_=>⟨[],.nil,QK,by simp⟩;cases d with
  |tup ds=>
   obtain⟨xs,rfl,k2⟩:=ah.mp k1;exact(xJ hc he ds xs [] [] m1 (Le.refl _) (k2.up _ (Le.refl _)) .nil acc0).sim hl
  |scr ns=>
   rw[aT.mp k1];exact(xJ hc he (ns.map .int) (ns.map .int) [] [] m1 (Le.refl _) (dL ns) .nil acc0).sim hl
  |lst ds=>
   obtain⟨l,xs,rfl,_,hm,k2⟩:=aq.mp k1;simp only[cR];by_cases z:ds.length<=aF
   .rw[Jh z];have hl':=k2.len;exact(wU hm hc he ds 0 (aF+1) [] [] m1 (Le.refl _) (by simpa using (k2.up _ (Le.refl _))) (by lia) (by lia) .nil acc0).sim hl
   .rw[Ji z];exact aI.no
  |_=>exact aI.no
 |.compP k elt a b cond,R,m,de,env,q=>by
  refine(zd H.r a R m de env q.left).bindO λd w m1 l1 k1=>?_;refine(zd H.r b _ m1 de env (q.right.left.up (λl h=>.inl h) l1)).bindO λd' w' m2 l2 k2=>?_;have hc:∀(R':Nat->Prop) m' (p:Dat×Dat) x y,(∀l,Rf (Rf R m.length) m1.length l->R' l)->Le m2 m'->ag R' m' p.1 x->ag R' m' p.2 y->af R' m' (ae cl cond (env++[some x]++[some y]) m') (az cd cond (de++[some p.1]++[some p.2])):=
   λR' m' d x y hR l k k'=>zd H.r cond R' m' _ _ (((q.right.right.right.up (λl h=>hR l (.inl (.inl h))) ((l1.trans l2).trans l)).push k).push k')
  have he:∀(R':Nat->Prop) m' (p:Dat×Dat) x y,(∀l,Rf (Rf R m.length) m1.length l->R' l)->Le m2 m'->ag R' m' p.1 x->ag R' m' p.2 y->aI R' m' (aX lev elt) (ae cl elt (env++[some x]++[some y]) m') (az cd elt (de++[some p.1]++[some p.2])):=
   λR' m' d x y hR l k k'=>yS H elt R' m' _ _ (((q.right.right.left.up (λl h=>hR l (.inl (.inl h))) ((l1.trans l2).trans l)).push k).push k')
  have hl:∀ds,aX lev (.compP k elt a b cond) (.lst ds)=if ds.all (λx=>aX lev elt x == .full)then .full else .top:=λds=>by simp[aA]
  have acc0:b7 m2 m2 (aX lev elt) [] []:=λ_=>⟨[],.nil,QK,by simp⟩;cases e:xi k d d' with
  |none=>exact aI.no
  |some ps=>
   obtain⟨pr,hln⟩:=kR e ((k1.up _ l2).up m2.length (Le.refl _)) (k2.up m2.length (Le.refl _));exact(wV pr hc he ps 0 (aF+1) [] [] m2 (Le.refl _) (by simp) (by simp) (by lia) .nil acc0).sim hl
 |.var i,R,m,de,env,q=>(zd H.r _ R m de env q).own λd=>rfl
 |.lit w,R,m,de,env,q=>(zd H.r _ R m de env q).own λd=>rfl
 |.neg a,R,m,de,env,q=>(zd H.r _ R m de env q).own λd=>rfl
 |.not a,R,m,de,env,q=>(zd H.r _ R m de env q).own λd=>rfl
 |.and a b,R,m,de,env,q=>(zd H.r _ R m de env q).own λd=>rfl
 |.or a b,R,m,de,env,q=>(zd H.r _ R m de env q).own λd=>rfl
 |.cmp op a b,R,m,de,env,q=>(zd H.r _ R m de env q).own λd=>rfl
 |.chain o p a b c,R,m,de,env,q=>(zd H.r _ R m de env q).own λd=>rfl
 |.ife c a b,R,m,de,env,q=>(zd H.r _ R m de env q).own λd=>rfl
 |.unit,R,m,de,env,q=>(zd H.r _ R m de env q).own λd=>rfl
 |.isi t a,R,m,de,env,q=>(zd H.r _ R m de env q).own λd=>rfl
 |.dict0,R,m,de,env,q=>⟨_,_,[m.length],rfl,Le.app m _,bA.mpr ⟨_,[],[],rfl,rfl,by simp,.nil⟩,by simp,by simp⟩
 |.dget a b,R,m,de,env,q=>(zd H.r _ R m de env q).own λd=>rfl
 |.dop .get _ _ _,R,m,de,env,q=>(zd H.r _ R m de env q).own λd=>rfl
 |.dop .sum _ _ _,R,m,de,env,q=>(zd H.r _ R m de env q).own λd=>rfl
 |.dop .lix _ _ _,R,m,de,env,q=>(zd H.r _ R m de env q).own λd=>rfl
 |.idx a b,R,m,de,env,q=>(zd H.r _ R m de env q).own λd=>rfl
 |.meth _ _ _,R,m,de,env,q=>(zd H.r _ R m de env q).own λd=>rfl
 |.rng a b c,R,m,de,env,q=>(zd H.r _ R m de env q).own λd=>rfl
set_option genInjectivity false in
inductive bI where
 |next (de:aK) (lv:List Lv)|ret (d:Dat) (l:Lv)|no
deriving Inhabited
noncomputable def Rd.bindS(r:Rd)(f:Dat->bI):bI:=match r with
 |.ok d=>f d
 |.no=>.no
noncomputable def Rd.okS(r:Rd)(f:Dat->bI):bI:=match r with
 |.ok d=>f d
 |_=>.no
noncomputable def aO:List Nat->List Lv->List Lv
 |[],lv=>lv
 |i::vs,lv=>aO vs (lv.set i .no)
noncomputable def bQ(de:aK)(j:Nat)(lv:List Lv):List Lv:=match de[j]?,lv[j]? with
 |some (some (.lst _)),some .full=>lv.set j .top
 |some (some (.lst _)),some .top=>lv.set j .top
 |_,_=>lv.set j .no
noncomputable def xA(e:Ex)(de:aK)(lv:List Lv):List Lv:=match e with
 |.idx (.var j) b=>bQ de j (aO (zl b) lv)
 |.dget (.var i) (.idx (.var _) (.neg (.lit _)))=>aO [i] lv
 |e=>aO (zl e) lv
mutual
noncomputable def cS:Dat->Nat
 |.lst xs=>cm xs+1
 |.dct _ xs=>cm xs+1
 |.tup xs=>cm xs+1
 |.non=>0
 |.bl _=>0
 |.int _=>0
 |.str _=>0
 |.scr _=>0
noncomputable def cm:List Dat->Nat
 |[]=>0
 |d::ds=>max (cS d) (cm ds)
end
noncomputable def ym(lv:List Lv)(j:Nat):Bool:=match lv[j]? with
 |some .top=>true
 |some .full=>true
 |_=>false
noncomputable def ql(lev:Nat->Lv)(e:Ex)(d:Dat)(j:Nat)(de:aK)(lv:List Lv):Option (aK×List Lv):=
 if ym lv j=false then none
 else if aX lev e d=.full then some (de,lv)
 else if j∈zl e then none
 else match e with
  |.var i=>if lv[i]?=some .full/\lv[j]?=some .full then some (de.set i none,lv)else some (de,(aO [i] lv).set j .top)
  |e=>some (de,(xA e de lv).set j .top)
noncomputable def ya{α:Type}(body:α->aK->List Lv->bI):List α->aK->List Lv->bI
 |[],de,lv=>.next de lv
 |x::xs,de,lv=>match body x de lv with
  |.next d1 l1=>ya body xs d1 l1
  |r=>r
noncomputable def jK(c:aK->Rd)(body:aK->List Lv->bI):Nat->aK->List Lv->bI
 |0,_,_=>.no
 |k+1,de,lv=>match c de with
  |.ok (.bl true)=>match body de lv with
   |.next d1 l1=>jK c body k d1 l1
   |r=>r
  |.ok (.bl false)=>.next de lv
  |_=>.no
noncomputable def cJ(d:Dat):Lv:=if aA d then .full else .no
noncomputable def ee(lev:Nat->Lv)(e:Ex)(d:Dat)(lv:List Lv):Lv:=if aA d then .full else match e with
 |.var i=>(lv[i]?).getD .no
 |.tup (.pair (.var a) (.pair (.var b) .unit))=>if a≠b/\lv[a]?=some .full/\lv[b]?=some .full then .full else .no
 |.blt .sorted (.pair (.idx (.var j) (.var _)) .unit)=>if lv[j]?=some .full then .full else .no
 |.dget (.var j) _=>if lv[j]?=some .full then .full else .no
 |e=>aX lev e d
noncomputable def jL(de:aK)(j:Nat):Option (List Dat):=match de[j]? with
 |some (some (.lst ds))=>some ds
 |_=>none
noncomputable def dR(lev:Nat->Lv)(i:Nat)(e:Ex)(d:Dat)(de:aK)(lv:List Lv):bI:=
 if aX lev e d=.full then .next (de.set i (some d)) (lv.set i .full)else .next (de.set i (some d)) ((xA e de lv).set i (aX lev e d))
noncomputable def oI(lev:Nat->Lv)(j:Nat)(k:Dat)(e:Ex)(d:Dat)(de:aK)(lv:List Lv):bI:=match k,jL de j with
 |.int k,some ds=>match ix ds.length k with
  |some p=>match ql lev e d j de lv with
   |some (de1,lv1)=>.next (de1.set j (some (.lst (ds.set p d)))) lv1
   |none=>if ym lv j&&decide (cS d<cS (.lst ds))&&(aA d==false)then .next (de.set j (some (.lst (ds.set p d)))) ((aO (zl e) lv).set j .top)else .no
  |none=>.no
 |_,_=>.no
noncomputable def fB(j:Nat)(r:Dat)(de:aK)(lv:List Lv)(f:List Dat->Option (List Dat)):Option aK:=match r,jL de j with
 |.int k,some ds=>match (ix ds.length k).bind λp=>(ds[p]?).bind λd=>match d with
   |.lst es=>(f es).map λes1=>ds.set p (.lst es1)
   |_=>none with
  |some ds1=>if lv[j]?=some .full then some (de.set j (some (.lst ds1)))else none
  |none=>none
 |_,_=>none
noncomputable def iW(o:Option aK)(lv:List Lv):bI:=match o with
 |some de=>.next de lv
 |none=>.no
noncomputable def fP(k d:Dat)(es:List Dat):Option (List Dat):=match k with
 |.int k=>(ix es.length k).map λp=>es.set p d
 |_=>none
noncomputable def yu(_ _:Sm):Option Unit:=none
noncomputable def uv(lev:Nat->Lv)(cl:Nat->List Dat->Rd)(e:Ex)(de:aK)(lv:List Lv):bI:=match e with
  |.meth .append (.var j) (.pair e .unit)=>(az cl e de).okS λd=>match jL de j with
   |some ds=>if ds.length<aF then match ql lev e d j de lv with
    |some (de1,lv1)=>.next (de1.set j (some (.lst (ds++[d])))) lv1
    |none=>.no
    else .no
   |none=>.no
  |.meth .reverse (.var j) .unit=>match jL de j with
   |some ds=>if ym lv j then .next (de.set j (some (.lst ds.reverse))) lv else .no
   |none=>.no
  |.meth _ _ _=>.no
  |e=>(az cl e de).bindS λ_=>.next de lv
noncomputable def eI(q:List Int):Dat:=.tup (q.map Dat.int)
noncomputable def aU(lev:Nat->Lv)(cl:Nat->List Dat->Rd):Sm->aK->List Lv->bI
 |.skip,de,lv=>.next de lv
 |.seq a b,de,lv=>match aU lev cl a de lv with
  |.next d1 l1=>aU lev cl b d1 l1
  |r=>r
 |.asg i e,de,lv=>(az cl e de).bindS λd=>dR lev i e d de lv
 |.asgS o k e,de,lv=>match o with
  |.var j=>(az cl e de).okS λd=>(az cl k de).okS λk=>oI lev j k e d de lv
  |.idx (.var j) r=>(az cl e de).okS λd=>(az cl r de).okS λr=>(az cl k de).okS λk=>
    if aX lev e d=.full then iW (fB j r de lv (fP k d)) lv
    else if j∈zl e then .no else iW (fB j r de lv (fP k d)) ((xA e de lv).set j .top)
  |_=>.no
 |.aug i op e,de,lv=>match de[i]? with
  |some (some (.int a))=>(az cl e de).okS λy=>match y with
   |.int b=>(yK op (.int a) (.int b)).okS λz=>.next (de.set i (some z)) (lv.set i .full)
   |_=>.no
  |_=>.no
 |.ite c a b,de,lv=>(az cl c de).bindS λx=>match x with
  |.bl true=>aU lev cl a de lv
  |.bl false=>aU lev cl b de lv
  |_=>.no
 |.forv i it body,de,lv=>(az cl it de).bindS λd=>match cR d with
  |some xs=>ya (λx de lv=>aU lev cl body (de.set i (some x)) (lv.set i (cJ x))) xs de (if aA d then lv else xA it de lv)
  |none=>.no
 |.fort i j it body,de,lv=>(az cl it de).bindS λd=>match cR d with
  |some xs=>ya (λx de lv=>match x with
    |.tup [a,b]=>aU lev cl body ((de.set i (some a)).set j (some b)) ((lv.set i (cJ a)).set j (cJ b))
    |_=>.no) xs de (if aA d then lv else xA it de lv)
  |none=>.no
 |.while c body,de,lv=>jK (az cl c) (aU lev cl body) 1000000 de lv
 |.ret e,de,lv=>(az cl e de).bindS λd=>.ret d (ee lev e d lv)
 |.expr e,de,lv=>uv lev cl e de lv
 |.forE i j a body,de,lv=>(az cl a de).okS λx=>match xi .enum x (.int 0)with
  |some ps=>ya (λ(p:Dat×Dat) de lv=>aU lev cl body ((de.set i (some p.1)).set j (some p.2)) ((lv.set i (cJ p.1)).set j (cJ p.2))) ps de (aO (zl a) lv)
  |none=>.no
 |.dput j k e,de,lv=>(az cl e de).okS λd=>(az cl k de).okS λq=>match de[j]?,xQ q with
  |some (some (.dct ks ds)),some q=>if lv[j]?=some .full/\aX lev e d=.full/\ks.length<aF then .next (de.set j (some (.dct (wf ks q) (zQ ks ds q d)))) lv else .no
  |_,_=>.no
 |.forD i x body,de,lv=>match de[x]? with
  |some (some (.dct ks _))=>if ks.length<=aF then ya (λx de lv=>aU lev cl body (de.set i (some x)) (lv.set i (cJ x))) (ks.map eI) de (lv.set x .no)else .no
  |_=>.no
 |.never,_,_=>.no
def rA{lev:Nat->Lv}{cl:Nat->List Dat->Rd}{a b:Sm}{de:aK}{lv:List Lv}:aU lev cl (.seq a b) de lv=match aU lev cl a de lv with
  |.next d1 l1=>aU lev cl b d1 l1
  |r=>r:=rfl
noncomputable def xB(fn:Fn)(ds:List Dat):aK:=ds.map some++QJ (fn.sz-ds.length) none
noncomputable def xX(fn:Fn)(ds:List Dat):List Lv:=ds.map cJ++QJ (fn.sz-ds.length) .full
noncomputable def zgD:Lv->Lv->Bool
 |_,.no=>true
 |.full,.full=>true
 |.top,.top=>true
 |_,_=>false
noncomputable def eG(l:Lv):bI->Rd
 |.next _ _=>.ok .non
 |.ret d k=>if aA d || zgD k l then .ok d else .no
 |_=>.no
noncomputable def jM(lev:Nat->Lv)(cl:Nat->List Dat->Rd)(k:Nat)(fn:Fn)(ds:List Dat):Rd:=
 if ds.length=fn.ar then eG (lev k) (aU lev cl fn.body (xB fn ds) (xX fn ds))else .no
noncomputable def ki(lev:Nat->Lv)(T:List Fn):Nat->Nat->List Dat->Rd
 |0,_,_=>.no
 |d+1,k,ds=>match T[k]? with
  |some fn=>jM lev (ki lev T d) k fn ds
  |none=>.no
noncomputable def zH(RR:Nat->Prop)(A:Nat->List Nat):Nat->Prop:=λl=>RR l/\∀i,l∉A i
structure Inv(lo:Nat)(RR:Nat->Prop)(m:Me)(de:aK)(lv:List Lv)(env:En)(A:Nat->List Nat):Prop where
 len:de.length=env.length
 lvl:lv.length=de.length
 rr:∀l,lo<=l->RR l
 lom:lo<=m.length
 slot:∀i d l,de[i]?=some (some d)->lv[i]?=some l->∃w,env[i]?=some (some w)/\a9 (zH RR A) m l d w (A i)
 nd:∀i,(A i).Nodup
 dj:∀i j a,a∈A i->a∈A j->i=j
 bd:∀i a,a∈A i->lo<=a/\a<m.length
noncomputable def aV(A:Nat->List Nat)(m:Me)(A':Nat->List Nat)(m':Me):Prop:=(∀(l:Nat) o,(∀i,l∉A i)->m[l]?=some o->(∀i,l∉A' i)/\m'[l]?=some o)/\m.length<=m'.length
def aV.refl(A:Nat->List Nat)(m:Me):aV A m A m:=⟨λ_ _ h k=>⟨h,k⟩,Qf _⟩
def aV.trans{A B C:Nat->List Nat}{m m1 m2:Me}(h:aV A m B m1)(k:aV B m1 C m2):aV A m C m2:=
 ⟨λl o a b=>k.1 l o (h.1 l o a b).1 (h.1 l o a b).2,Qs h.2 k.2⟩
def aV.rep (h:aV A m A' m')(q:ag (zH RR A) m d w):ag (zH RR A') m' d w:=
 ag.frame (λl o r z=>⟨⟨r.1,(h.1 l o r.2 z).1⟩,(h.1 l o r.2 z).2⟩) d w q
def aV.repL (h:aV A m A' m')(q:ab (zH RR A) m d w):ab (zH RR A') m' d w:=
 ab.frame (λl o r z=>⟨⟨r.1,(h.1 l o r.2 z).1⟩,(h.1 l o r.2 z).2⟩) d w q
def Inv.getlv (I:Inv lo RR m de lv env A){i:Nat}(h:de[i]?=some o):∃l,lv[i]?=some l:=by
 obtain⟨hi,_⟩:=Qa.mp h;exact⟨_,Qz (by rw[I.lvl];exact hi)⟩
def Inv.envR (I:Inv lo RR m de lv env A)(vs:List Nat):bE RR m vs de env:=
 ⟨I.len,λi _ d h=>by
  obtain⟨l,hl⟩:=I.getlv h;obtain⟨w,a,b⟩:=I.slot i d l h hl;exact⟨w,a,b.rep (λ_ z=>z.1) (λa ha=>I.rr a (I.bd i a ha).1)⟩⟩
def Inv.ext{lo:Nat}{RR:Nat->Prop}{m m':Me}{de:aK}{lv:List Lv}{env:En}{A:Nat->List Nat}(I:Inv lo RR m de lv env A)(h:Le m m'):Inv lo RR m' de lv env A:=
 ⟨I.len,I.lvl,I.rr,Qs I.lom h.len,λi d l a b=>by
  obtain⟨w,p,q⟩:=I.slot i d l a b;exact⟨w,p,q.frame (λl o r z=>⟨r,h l o z⟩) (λl _ o z=>h l o z)⟩,I.nd,I.dj,λi a ha=>⟨(I.bd i a ha).1,Qg (I.bd i a ha).2 h.len⟩⟩
def xK (h:Le m m'):aV A m A m':=⟨λl o a b=>⟨a,h l o b⟩,h.len⟩
noncomputable def aE(A:Nat->List Nat)(i:Nat)(B:List Nat):Nat->List Nat:=λk=>if k=i then B else A k
def ze:aE A i B i=B:=by simp[aE]
def za (h:k≠i):aE A i B k=A k:=by simp[aE,h]
set_option tactic.hygienic true in
def Inv.store{lo:Nat}{RR:Nat->Prop}{m m':Me}{de:aK}{lv:List Lv}{env:En}{A:Nat->List Nat}(I:Inv lo RR m de lv env A)(h:Le m m')(i:Nat){d:Dat}{l:Lv}{w:Wd}{B:List Nat}
  (q:a9 (λl=>(zH RR A l\/m.length<=l)/\l∉B) m' l d w B) (nd:B.Nodup) (hB:∀b∈B,m.length<=b) :
  Inv lo RR m' (de.set i (some d)) (lv.set i l) (env.set i (some w)) (aE A i B)/\aV A m (aE A i B) m':=by
 have hlt:=q.lt;have fr:∀(x:Nat) (o:Ob),(∀k,x∉A k)->m[x]?=some o->∀k,x∉aE A i B k:=by
  intro x o hx hm k;by_cases e:k=i
  .subst e;rw[ze];intro hb;have:=hB x hb;have:=(Qa.mp hm).1;lia
  .rw[za e];exact hx k
 refine⟨⟨by simp[I.len],by simp[I.lvl],I.rr,Qs I.lom h.len,?_,?_,?_,?_⟩,⟨λx o hx hm=>⟨fr x o hx hm,h x o hm⟩,h.len⟩⟩
 .intro k e l' h1 h2;by_cases z:k=i
  .rw[z]at h1 h2 ⊢;rw[QD]at h1 h2;rw[Jh rfl]at h1 h2;split at h1
   .split at h2
    .next q1 q2=>
     cases h1;cases h2;refine⟨w,by rw[QD,Jh rfl,Jh (by rw[<-I.len];exact q1)],?_⟩;rw[ze];refine q.frame (λx o r hm=>⟨⟨?_,λk=>?_⟩,hm⟩) (λ_ _ _ z=>z)
     .rcases r.1 with r1|r1
      .exact r1.1
      .exact I.rr x (Qs I.lom r1)
     .by_cases e:k=i
      .subst e;rw[ze];exact r.2
      .rw[za e];rcases r.1 with r1|r1
       .exact r1.2 k
       .intro ha;have:=(I.bd k x ha).2;lia
    .cases h2
   .cases h1
  .rw[Qp (Ne.symm z)]at h1 h2;obtain⟨w',a,b⟩:=I.slot k e l' h1 h2;refine⟨w',by rw[Qp (Ne.symm z)];exact a,?_⟩;rw[za z];exact b.frame (λx o r hm=>⟨⟨r.1,fr x o r.2 hm⟩,h x o hm⟩) (λx _ o hm=>h x o hm)
 .intro k;by_cases e:k=i
  .subst e;rw[ze];exact nd
  .rw[za e];exact I.nd k
 .intro k j a ha hb;by_cases e:k=i
  .subst e;rw[ze]at ha;by_cases f:j=k
   .exact f.symm
   .rw[za f]at hb;have:=hB a ha;have:=(I.bd j a hb).2;lia
  .rw[za e]at ha;by_cases f:j=i
   .subst f;rw[ze]at hb;have:=hB a hb;have:=(I.bd k a ha).2;lia
   .rw[za f]at hb;exact I.dj k j a ha hb
 .intro k a ha;by_cases e:k=i
  .subst e;rw[ze]at ha;exact⟨Qs I.lom (hB a ha),hlt a ha⟩
  .rw[za e]at ha;exact⟨(I.bd k a ha).1,Qg (I.bd k a ha).2 h.len⟩
def Inv.weak{lo:Nat}{RR:Nat->Prop}{m:Me}{de:aK}{lv:List Lv}{env:En}{A:Nat->List Nat}(I:Inv lo RR m de lv env A)(i:Nat){l:Lv}{B:List Nat}
  (hB:∀b∈B,b∈A i) (nd:B.Nodup) (q:∀d w,de[i]?=some (some d)->env[i]?=some (some w)->a9 (zH RR (aE A i B)) m l d w B) :
  Inv lo RR m de (lv.set i l) env (aE A i B)/\aV A m (aE A i B) m:=by
 have fr:∀x,(∀k,x∉A k)->∀k,x∉aE A i B k:=by
  intro x hx k;by_cases e:k=i
  .subst e;rw[ze];intro hb;exact hx _ (hB x hb)
  .rw[za e];exact hx k
 have sub:∀k a,a∈aE A i B k->a∈A k:=by
  intro k a ha;by_cases e:k=i
  .subst e;rw[ze]at ha;exact hB a ha
  .rw[za e]at ha;exact ha
 refine⟨⟨I.len,by simp[I.lvl],I.rr,I.lom,?_,?_,λk j a ha hb=>I.dj k j a (sub k a ha) (sub j a hb),λk a ha=>I.bd k a (sub k a ha)⟩,⟨λx o hx hm=>⟨fr x hx,hm⟩,Qf _⟩⟩
 .intro k e l' h1 h2;by_cases z:k=i
  .subst z;rw[QD,Jh rfl]at h2;split at h2
   .cases h2;obtain⟨l0,hl0⟩:=I.getlv h1;obtain⟨w,a,_⟩:=I.slot k e l0 h1 hl0;refine⟨w,a,?_⟩;rw[ze];exact q e w h1 a
   .cases h2
  .rw[Qp (Ne.symm z)]at h2;obtain⟨w',a,b⟩:=I.slot k e l' h1 h2;refine⟨w',a,?_⟩;rw[za z];exact b.frame (λx o r hm=>⟨⟨r.1,fr x r.2⟩,hm⟩) (λx _ o hm=>hm)
 .intro k;by_cases e:k=i
  .subst e;rw[ze];exact nd
  .rw[za e];exact I.nd k
def Inv.down{lo:Nat}{RR:Nat->Prop}{m:Me}{de:aK}{lv:List Lv}{env:En}{A:Nat->List Nat}(I:Inv lo RR m de lv env A)(i:Nat):
  Inv lo RR m de (lv.set i .no) env (aE A i [])/\aV A m (aE A i []) m:=by
 refine I.weak i (by simp) QK λd w h1 h2=>⟨?_,rfl⟩;obtain⟨l,hl⟩:=I.getlv h1;obtain⟨w',a,b⟩:=I.slot i d l h1 hl;rw[h2]at a;cases a;refine b.rep (λx r=>⟨r.1,λk=>?_⟩) (λx hx=>⟨I.rr x (I.bd i x hx).1,λk=>?_⟩)
 .by_cases e:k=i
  .subst e;rw[ze];simp
  .rw[za e];exact r.2 k
 .by_cases e:k=i
  .subst e;rw[ze];simp
  .rw[za e];intro ha;exact e (I.dj k i x ha hx)
theorem zN:∀(vs:List Nat) (lv:List Lv) (k:Nat),(aO vs lv)[k]?=if k∈vs/\k<lv.length then some .no else lv[k]?
 |[],lv,k=>by simp[aO]
 |i::vs,lv,k=>by
  unfold aO;rw[zN vs (lv.set i .no) k];rw[WA,QD];by_cases a:k∈vs/\k<lv.length
  .rw[Jh a,Jh ⟨Qh _ a.1,a.2⟩]
  .rw[Ji a];by_cases e:i=k
   .subst e;by_cases b:i<lv.length
    .simp[b]
    .simp[b]
   .rw[Ji e];by_cases c:k∈vs
    .have:¬k<lv.length:=λz=>a ⟨c,z⟩;rw[Ji (λz=>this z.2)]
    .rw[Ji (λz=>by rcases Qk.mp z.1 with z1|z1;exact e z1.symm;exact c z1)]
theorem Inv.downs:∀(vs:List Nat) {lv:List Lv}{A:Nat->List Nat},Inv lo RR m de lv env A ->
  ∃A',Inv lo RR m de (aO vs lv) env A'/\aV A m A' m/\(∀i∈vs,A' i=[])/\(∀i,A' i=A i\/A' i=[])/\∀i,i∉vs->A' i=A i
 |[],lv,A,I=>⟨A,I,aV.refl A m,by simp,λi=>.inl rfl,λ_ _=>rfl⟩
 |j::vs,lv,A,I=>by
  obtain⟨I1,K1⟩:=I.down j;obtain⟨A',I2,K2,h1,h2,h3⟩:=Inv.downs vs I1;refine⟨A',I2,K1.trans K2,λi hi=>?_,λi=>?_,λi hi=>?_⟩
  .by_cases q:i∈vs
   .exact h1 i q
   .rw[h3 i q];rcases Qk.mp hi with rfl|hi
    .exact ze
    .exact Jj hi q
  .rcases h2 i with z|z
   .rw[z];by_cases e:i=j
    .subst e;right;exact ze
    .left;exact za e
   .exact .inr z
  .have:i≠j:=λe=>hi (by rw[e];simp);rw[h3 i (λz=>hi (Qh _ z)),za this]
theorem Inv.top (I:Inv lo RR m de lv env A)(j:Nat)(hd:de[j]?=some (some (.lst ds)))(hj:ym lv j=true):
  ∃l xs A',Inv lo RR m de (lv.set j .top) env A'/\aV A m A' m/\A' j=[l]/\(∀i,i≠j->A' i=A i)/\env[j]?=some (some (.ref l))/\m[l]?=some (.lst xs)/\ab (zH RR A') m ds xs/\l∈A j:=by
 unfold ym at hj;obtain⟨lj,hl⟩:=I.getlv hd;obtain⟨w,a,b⟩:=I.slot j _ lj hd hl;rw[hl]at hj;have key:∃l xs,w=.ref l/\l∈A j/\m[l]?=some (.lst xs)/\ab (zH RR (aE A j [l])) m ds xs:=by
  cases lj with
  |no=>simp at hj
  |top=>
   obtain⟨es,l,xs,e,rfl,hA,hm,r⟩:=b;cases e;refine⟨l,xs,rfl,by rw[hA];simp,hm,ab.frame (λx o r z=>⟨⟨r.1,λk=>?_⟩,z⟩) _ _ r⟩;by_cases e:k=j
   .subst e;rw[ze,<-hA];exact r.2 k
   .rw[za e];exact r.2 k
  |full=>
   obtain⟨l,xs,B,rfl,hA,hm,r⟩:=aM.mp b;refine⟨l,xs,rfl,by rw[hA];simp,hm,ao.rep ds xs B (λx hx=>⟨I.rr x (I.bd j x (by rw[hA];exact Qh _ hx)).1,λk=>?_⟩) r⟩;have nd:=I.nd j;rw[hA]at nd;by_cases e:k=j
   .subst e;rw[ze];intro z;rw[Qr.mp z]at hx;exact(QA.mp nd).1 hx
   .rw[za e];intro z;exact e (I.dj k j x z (by rw[hA];exact Qh _ hx))
 obtain⟨l,xs,rfl,hA,hm,r⟩:=key;obtain⟨I',K⟩:=I.weak j (l:=.top) (B:=[l]) (by intro b hb;rw[Qr.mp hb];exact hA) (by simp) λd w h1 h2=>by
  rw[hd]at h1;cases h1;rw[a]at h2;cases h2;exact⟨ds,l,xs,rfl,rfl,rfl,hm,r⟩
 exact⟨l,xs,_,I',K,ze,λi hi=>za hi,a,hm,r,hA⟩
def zq {m:Me}(h:l≠x):(m.set l o)[x]?=m[x]?:=Qp h
def zT {m:Me}(h:m[l]?=some p):(m.set l o)[l]?=some o:=by
 rw[QD,Jh rfl,Jh (Qa.mp h).1]
def Inv.putO{lo:Nat}{RR:Nat->Prop}{m m1:Me}{de:aK}{lv:List Lv}{env:En}{A:Nat->List Nat}(I:Inv lo RR m de lv env A)(le:Le m m1){j l:Nat}{ob:Ob}(hl:l∈A j)(A1:Nat->List Nat)
  (h3:∀k a,a∈A1 k->(∃k',a∈A k')\/m.length<=a) (nd1:∀k,(A1 k).Nodup) (dj1:∀i k a,a∈A1 i->a∈A1 k->i=k) (bd1:∀k a,a∈A1 k->lo<=a/\a<m1.length)
  {de1:aK}{lv1:List Lv}(len1:de1.length=de.length) (lvl1:lv1.length=lv.length)
  (live:∀k d lk,k≠j->de1[k]?=some (some d)->lv1[k]?=some lk->de[k]?=some (some d)/\lv[k]?=some lk/\A1 k=A k)
  (sj:∀d lj,de1[j]?=some (some d)->lv1[j]?=some lj->∃w,env[j]?=some (some w)/\a9 (zH RR A1) (m1.set l ob) lj d w (A1 j)) :
  Inv lo RR (m1.set l ob) de1 lv1 env A1/\aV A m A1 (m1.set l ob):=by
 have fr:∀(x:Nat) (o:Ob),(∀k,x∉A k)->m[x]?=some o->(∀k,x∉A1 k)/\(m1.set l ob)[x]?=some o:=by
  intro x o hx hm;refine⟨λk ha=>?_,?_⟩
  .rcases h3 k x ha with⟨k',z⟩|z
   .exact hx k' z
   .have:=(Qa.mp hm).1;lia
  .rw[zq (l:=l) (x:=x) (λe=>hx j (by rw[<-e];exact hl))];exact le x o hm
 refine⟨⟨len1.trans I.len,by rw[lvl1,I.lvl,len1],I.rr,by rw[WA];exact Qs I.lom le.len,?_,nd1,dj1,λk a ha=>by rw[WA];exact bd1 k a ha⟩,⟨λx o hx hm=>fr x o hx hm,by rw[WA];exact le.len⟩⟩;intro k d lk h1 h2;by_cases e:k=j
 .subst e;exact sj d lk h1 h2
 .obtain ⟨a,b,c⟩:=live k d lk e h1 h2;obtain⟨w,p,q⟩:=I.slot k d lk a b;refine⟨w,p,?_⟩;rw[c];refine q.frame (λx o r hm=>⟨⟨r.1,(fr x o r.2 hm).1⟩,(fr x o r.2 hm).2⟩) (λx hx o hm=>?_);rw[zq (l:=l) (x:=x) (λz=>e (I.dj k j x hx (by rw[<-z];exact hl)))];exact le x o hm
def Inv.put{lo:Nat}{RR:Nat->Prop}{m m1:Me}{de:aK}{lv:List Lv}{env:En}{A:Nat->List Nat}(I:Inv lo RR m de lv env A)(le:Le m m1){j l:Nat}{xs ys:List Wd}(hl:l∈A j)(A1:Nat->List Nat)
  (h3:∀k a,a∈A1 k->(∃k',a∈A k')\/m.length<=a) (nd1:∀k,(A1 k).Nodup) (dj1:∀i k a,a∈A1 i->a∈A1 k->i=k) (bd1:∀k a,a∈A1 k->lo<=a/\a<m1.length)
  {de1:aK}{lv1:List Lv}(len1:de1.length=de.length) (lvl1:lv1.length=lv.length)
  (live:∀k d lk,k≠j->de1[k]?=some (some d)->lv1[k]?=some lk->de[k]?=some (some d)/\lv[k]?=some lk/\A1 k=A k)
  (sj:∀d lj,de1[j]?=some (some d)->lv1[j]?=some lj->∃w,env[j]?=some (some w)/\a9 (zH RR A1) (m1.set l (.lst ys)) lj d w (A1 j)) :
  Inv lo RR (m1.set l (.lst ys)) de1 lv1 env A1/\aV A m A1 (m1.set l (.lst ys)):=I.putO le hl A1 h3 nd1 dj1 bd1 len1 lvl1 live sj
noncomputable def iq(m m1:Me)(ds:List Dat)(xs:List Wd)(ds':List Dat)(ys:List Wd):Prop:=
 ∀B,B.Nodup->ao m ds xs B->∃B',ao m1 ds' ys B'/\B'.Nodup/\∀b∈B',b∈B\/m.length<=b
noncomputable def nV(RR:Nat->Prop)(A:Nat->List Nat)(m m1:Me)(ds:List Dat)(xs:List Wd)(ds':List Dat)(ys:List Wd):Prop:=
 ab (zH RR A) m ds xs->ab (λx=>zH RR A x\/m.length<=x) m1 ds' ys
noncomputable def eT(RR:Nat->Prop)(A:Nat->List Nat)(m m1:Me)(ds:List Dat)(xs:List Wd)(ds':List Dat)(ys:List Wd):Prop:=
 (∀B,B.Nodup->ao m ds xs B->∃B',ao m1 ds' ys B'/\B'.Nodup/\∀b∈B',b∈B\/m.length<=b)/\(ab (zH RR A) m ds xs->ab (λx=>zH RR A x\/m.length<=x) m1 ds' ys)
def Inv.mut (I:Inv lo RR m de lv env A)(hd:de[j]?=some (some (.lst ds)))(hj:ym lv j=true):
  ∃l xs,env[j]?=some (some (.ref l))/\m[l]?=some (.lst xs)/\ab RR m ds xs/\∀(m1:Me) (ds':List Dat) (ys:List Wd),Le m m1->(lv[j]?=some .full->iq m m1 ds xs ds' ys)->(lv[j]?=some .top->nV RR A m m1 ds xs ds' ys) ->
   ∃A1,Inv lo RR (m1.set l (.lst ys)) (de.set j (some (.lst ds'))) lv env A1/\aV A m A1 (m1.set l (.lst ys)):=by
 unfold ym at hj;obtain⟨lj,hl⟩:=I.getlv hd;obtain⟨w,a,b⟩:=I.slot j _ lj hd hl;rw[hl]at hj;have hjl:j<de.length:=(Qa.mp hd).1;have live:∀(A1:Nat->List Nat),(∀k,k≠j->A1 k=A k)->∀(ds':List Dat) k d lk,k≠j->(de.set j (some (.lst ds')))[k]?=some (some d)->lv[k]?=some lk->de[k]?=some (some d)/\lv[k]?=some lk/\A1 k=A k:=by
  intro A1 h ds' k d lk e h1 h2;rw[Qp (Ne.symm e)]at h1;exact⟨h1,h2,h k e⟩
 cases lj with
 |no=>simp at hj
 |top=>
  obtain⟨es,l,xs,e,rfl,hA,hm,r⟩:=b;cases e;refine⟨l,xs,a,hm,ab.frame (λ_ _ r z=>⟨r.1,z⟩) _ _ r,λm1 ds' ys le _ c=>⟨A,?_⟩⟩;have hlm:=(Qa.mp hm).1;refine I.put le (j:=j) (l:=l) (xs:=xs) (by rw[hA];simp) A (λk a ha=>.inl ⟨k,ha⟩) I.nd I.dj (λk a ha=>⟨(I.bd k a ha).1,Qg (I.bd k a ha).2 le.len⟩) (by simp) rfl (live A (λ_ _=>rfl) ds') ?_;intro d lj h1 h2;rw[QD,Jh rfl,Jh hjl]at h1;cases h1;rw[hl]at h2;cases h2;refine⟨_,a,ds',l,ys,rfl,rfl,hA,zT (le l _ hm),ab.frame (λx o r z=>?_) _ _ (c hl r)⟩;rcases r with r|r
  .exact ⟨r,by rw[zq (l:=l) (x:=x) (λe=>r.2 j (by rw[hA,e];simp))];exact z⟩
  .exact ⟨⟨I.rr x (Qs I.lom r),λk hk=>by have:=(I.bd k x hk).2;lia⟩,by rw[zq (l:=l) (x:=x) (by lia)];exact z⟩
 |full=>
  obtain⟨l,xs,B,rfl,hA,hm,r⟩:=aM.mp b;have hlm:=(Qa.mp hm).1;have nd:=I.nd j;rw[hA]at nd;refine⟨l,xs,a,hm,ao.rep ds xs B (λx hx=>I.rr x (I.bd j x (by rw[hA];exact Qh _ hx)).1) r,λm1 ds' ys le c _=>?_⟩;obtain⟨B',o,nb,hB⟩:=c hl B (QA.mp nd).2 r;have hlB:l∉B':=λz=>by
   rcases hB l z with z|z
   .exact (QA.mp nd).1 z
   .lia
  have sub:∀x∈l::B',x∈A j\/m.length<=x:=by
   intro x hx;rcases Qk.mp hx with rfl|hx
   .left;rw[hA];simp
   .rcases hB x hx with z|z
    .left;rw[hA];exact Qh _ z
    .exact .inr z
  refine⟨aE A j (l::B'),?_⟩;refine I.put le (j:=j) (l:=l) (xs:=xs) (by rw[hA];simp) _ ?_ ?_ ?_ ?_ (by simp) rfl (live _ (λk hk=>za hk) ds') ?_
  .intro k x hx;by_cases e:k=j
   .subst e;rw[ze]at hx;rcases sub x hx with z|z
    .exact .inl ⟨k,z⟩
    .exact .inr z
   .rw[za e]at hx;exact .inl ⟨k,hx⟩
  .intro k;by_cases e:k=j
   .subst e;rw[ze];exact QA.mpr ⟨hlB,nb⟩
   .rw[za e];exact I.nd k
  .intro i k x h1 h2;by_cases e:i=j
   .by_cases f:k=j
    .rw[e,f]
    .rw[e,ze]at h1;rw[za f]at h2;rcases sub x h1 with z|z
     .rw[e];exact I.dj j k x z h2
     .have:=(I.bd k x h2).2;lia
   .rw[za e]at h1;by_cases f:k=j
    .rw[f,ze]at h2;rcases sub x h2 with z|z
     .rw[f];exact I.dj i j x h1 z
     .have:=(I.bd i x h1).2;lia
    .rw[za f]at h2;exact I.dj i k x h1 h2
  .intro k x hx;by_cases e:k=j
   .rw[e,ze]at hx;rcases Qk.mp hx with rfl|hx
    .exact ⟨(I.bd j _ (by rw[hA];simp)).1,Qg hlm le.len⟩
    .refine ⟨?_,ao.lt ds' ys B' o x hx⟩;rcases hB x hx with z|z
     .exact (I.bd j x (by rw[hA];exact Qh _ z)).1
     .exact Qs I.lom z
   .rw[za e]at hx;exact⟨(I.bd k x hx).1,Qg (I.bd k x hx).2 le.len⟩
  .intro d lj h1 h2;rw[QD,Jh rfl,Jh hjl]at h1;cases h1;rw[hl]at h2;cases h2;refine⟨_,a,?_⟩;rw[ze];exact aM.mpr ⟨l,ys,B',rfl,rfl,zT (le l _ hm),ao.frame ds' ys B' (λx hx o z=>by rw[zq (l:=l) (x:=x) (λe=>hlB (by rw[e];exact hx))];exact z) o⟩
theorem ao.item:∀{ds:List Dat}{xs:List Wd}{A:List Nat}{p:Nat}{d:Dat},ao m ds xs A->ds[p]?=some d->∃x B,(xs[p]?=some x/\aR m d x B)/\∀b∈B,b∈A
 |[],xs,A,p,d,h,z=>by simp at z
 |e::ds,xs,A,0,d,h,z=>by
  obtain⟨x,r,B,C,rfl,rfl,a,b⟩:=h.cons_inv;simp at z;subst z;exact⟨x,B,⟨rfl,a⟩,λb hb=>Q3 _ hb⟩
 |e::ds,xs,A,p+1,d,h,z=>by
  obtain⟨x,r,B,C,rfl,rfl,a,b⟩:=h.cons_inv;obtain⟨y,D,h1,h2⟩:=ao.item b (by simpa using z);exact⟨y,D,by simpa using h1,λb hb=>Qt _ (h2 b hb)⟩
theorem ao.split:∀{ds:List Dat}{xs:List Wd}{A:List Nat}{p:Nat}{d:Dat},ao m ds xs A->ds[p]?=some d ->
  ∃x B1 Bp B2,xs[p]?=some x/\A=B1++(Bp++B2)/\aR m d x Bp/\(∀(i:Nat) e y,i≠p->ds[i]?=some e->xs[i]?=some y->∃Bi,aR m e y Bi/\∀b∈Bi,b∈B1\/b∈B2)/\∀(m':Me) (d':Dat) (x':Wd) (B':List Nat),(∀l,l∈B1\/l∈B2->∀o,m[l]?=some o->m'[l]?=some o)->aR m' d' x' B'->ao m' (ds.set p d') (xs.set p x') (B1++(B'++B2))
 |[],xs,A,p,d,h,z=>by simp at z
 |e::ds,xs,A,0,d,h,z=>by
  obtain⟨x,r,B,C,rfl,rfl,a,b⟩:=h.cons_inv;simp at z;subst z;refine⟨x,[],B,C,rfl,rfl,a,λi e y hi h1 h2=>?_,λm' d' x' B' fr o=>?_⟩
  .cases i with
   |zero=>exact Jj rfl hi
   |succ i=>
    simp at h1 h2;obtain⟨y',Bi,o,hB⟩:=ao.item b h1;rw[h2]at o;obtain⟨o1,o2⟩:=o;cases o1;exact⟨Bi,o2,λz hz=>.inr (hB z hz)⟩
  show ao m' (d'::ds) (x'::r) (B'++C);exact ao.cons o (ao.frame ds r C (λl hl=>fr l (.inr hl)) b)
 |e::ds,xs,A,p+1,d,h,z=>by
  obtain⟨x,r,B,C,rfl,rfl,a,b⟩:=h.cons_inv;obtain⟨y,B1,Bp,B2,h1,rfl,h3,h5,h4⟩:=ao.split b (by simpa using z);refine⟨y,B++B1,Bp,B2,by simpa using h1,by simp[Qj],h3,λi e' y' hi g1 g2=>?_,λm' d' x' B' fr o=>?_⟩
  .cases i with
   |zero=>simp at g1 g2;subst g1;subst g2;exact⟨B,a,λz hz=>.inl (Q3 _ hz)⟩
   |succ i=>
    simp at g1 g2;obtain⟨Bi,o,hB⟩:=h5 i e' y' (by lia) g1 g2;exact⟨Bi,o,λz hz=>by rcases hB z hz with q|q;exact .inl (Qt _ q);exact .inr q⟩
  rw[Qj];exact ao.cons (aR.frame e x B (λl hl=>fr l (.inl (Q3 _ hl))) a) (h4 m' d' x' B' (λl hl=>fr l (by rcases hl with hl|hl;exact .inl (Qt _ hl);exact .inr hl)) o)
def rq (le:Le m m1)(o:aR m1 d w B0)(nd:B0.Nodup)(hB:∀b∈B0,m.length<=b):eT RR A m m1 ds xs (ds++[d]) (xs++[w]):=by
 refine⟨λB nb q=>⟨B++(B0++[]),(ao.frame ds xs B (λl _ o z=>le l o z) q).app (.cons o .nil),?_,?_⟩,λq=>?_⟩
 .rw[QW];refine Qn.mpr ⟨nb,nd,λx hx y hy e=>?_⟩;have:=ao.lt ds xs B q x hx;have:=hB y hy;lia
 .intro b hb;rw[QW]at hb;rcases Ql.mp hb with z|z
  .exact .inl z
  .exact .inr (hB b z)
 .exact (ab.frame (λl o r z=>⟨.inl r,le l o z⟩) _ _ q).app (.cons (aR.rep d w B0 (λb hb=>.inr (hB b hb)) o) .nil)
def jN (p:Nat)(le:Le m m1)(o:aR m1 d w B0)(nd:B0.Nodup)(hB:∀b∈B0,m.length<=b):eT RR A m m1 ds xs (ds.set p d) (xs.set p w):=by
 refine⟨λB nb q=>?_,λq=>?_⟩
 .cases hp:ds[p]? with
  |none=>
   have h1:ds.length<=p:=QV.mp hp;rw[WJ h1,WJ (by rw[<-q.len];exact h1)];exact⟨B,ao.frame ds xs B (λl _ o z=>le l o z) q,nb,λb hb=>.inl hb⟩
  |some e=>
   obtain⟨y,B1,Bp,B2,h1,rfl,h3,_,h4⟩:=ao.split q hp;refine⟨B1++(B0++B2),h4 m1 d w B0 (λl _ o z=>le l o z) o,?_,?_⟩
   .have hlt:=ao.lt ds xs _ q;rw[Qn]at nb ⊢;obtain⟨n1,n2,n3⟩:=nb;rw[Qn]at n2 ⊢;obtain⟨n4,n5,n6⟩:=n2;refine⟨n1,⟨nd,n5,λx hx y hy e=>?_⟩,λx hx y hy e=>?_⟩
    .have:=hB x hx;have:=hlt y (by simp[hy]);lia
    .rcases Ql.mp hy with hy|hy
     .have:=hB y hy;have:=hlt x (by simp[hx]);lia
     .exact n3 x hx y (Qt _ hy) e
   .intro b hb;simp only[Ql]at hb ⊢;rcases hb with z|z|z
    .exact .inl (.inl z)
    .exact .inr (hB b z)
    .exact .inl (.inr (.inr z))
 .exact (ab.frame (λl o r z=>⟨.inl r,le l o z⟩) _ _ q).set p (aR.rep d w B0 (λb hb=>.inr (hB b hb)) o)
theorem ao.rev:∀{ds:List Dat}{xs:List Wd}{A:List Nat},A.Nodup->ao m ds xs A->∃B,ao m ds.reverse xs.reverse B/\B.Nodup/\∀b∈B,b∈A
 |[],xs,A,nd,h=>by rw[h.nil_inv.1];exact⟨[],.nil,QK,by simp⟩
 |d::ds,xs,A,nd,h=>by
  obtain⟨x,r,B,C,rfl,rfl,a,b⟩:=h.cons_inv;obtain⟨n1,n2,n3⟩:=Qn.mp nd;obtain⟨D,o,nD,hD⟩:=ao.rev n2 b;rw[Wm,Wm];refine⟨D++(B++[]),o.app (.cons a .nil),?_,?_⟩
  .rw[QW];exact Qn.mpr ⟨nD,n1,λx hx y hy e=>n3 y hy x (hD x hx) e.symm⟩
  .intro b hb;simp only[QW,Ql]at hb ⊢;rcases hb with z|z
   .exact .inr (hD b z)
   .exact .inl z
def cN:eT RR A m m ds xs ds.reverse xs.reverse:=by
 refine⟨λB nb q=>?_,λq=>(ab.frame (λl o r z=>⟨.inl r,z⟩) _ _ q).rev⟩;obtain⟨D,o,nD,hD⟩:=ao.rev nb q;exact⟨D,o,nD,λb hb=>.inl (hD b hb)⟩
def Inv.mutIn (I:Inv lo RR m de lv env A)(hd:de[j]?=some (some (.lst ds)))(hf:lv[j]?=some .full)(hp:ds[p]?=some (.lst es)):
  ∃l xs l2 us,env[j]?=some (some (.ref l))/\m[l]?=some (.lst xs)/\xs[p]?=some (.ref l2)/\m[l2]?=some (.lst us)/\ds.length=xs.length/\ab RR m es us /\
   (∀(m1:Me) (es':List Dat) (vs:List Wd),Le m m1->iq m m1 es us es' vs ->
    ∃A1,Inv lo RR (m1.set l2 (.lst vs)) (de.set j (some (.lst (ds.set p (.lst es'))))) lv env A1/\aV A m A1 (m1.set l2 (.lst vs))) /\
   (∀(m1:Me) (q:Nat) (d:Dat) (w:Wd),Le m m1->ag (λx=>zH RR A x\/m.length<=x) m1 d w ->
    ∃A1,Inv lo RR (m1.set l2 (.lst (us.set q w))) (de.set j (some (.lst (ds.set p (.lst (es.set q d)))))) (lv.set j .top) env A1/\aV A m A1 (m1.set l2 (.lst (us.set q w)))):=by
 obtain⟨w,a,b⟩:=I.slot j _ .full hd hf;obtain⟨l,xs,B,rfl,hA,hm,r⟩:=aM.mp b;obtain⟨x,B1,Bp,B2,h1,hB,h3,h5,h4⟩:=r.split hp;obtain⟨l2,us,Bq,rfl,rfl,hm2,r2⟩:=aM.mp h3;have hjl:j<de.length:=(Qa.mp hd).1;have nd:=I.nd j;rw[hA,hB]at nd;have hlm:=(Qa.mp hm).1;have hlm2:=(Qa.mp hm2).1;obtain⟨n0,n1⟩:=QA.mp nd;obtain⟨n2,n3,n4⟩:=Qn.mp n1;obtain⟨n5,n6,n7⟩:=Qn.mp n3;obtain⟨n8,n9⟩:=QA.mp n5;have inA:∀{x},x=l\/x∈B1\/x=l2\/x∈Bq\/x∈B2->x∈A j:=by
  intro x hx;rw[hA,hB];simp only[Qk,Ql];rcases hx with z|z|z|z|z
  .exact .inl z
  .exact .inr (.inl z)
  .exact .inr (.inr (.inl (.inl z)))
  .exact .inr (.inr (.inl (.inr z)))
  .exact .inr (.inr (.inr z))
 have l2B1:l2∉B1:=λz=>n4 l2 z l2 (by simp) rfl;have l2B2:l2∉B2:=λz=>n7 l2 (by simp) l2 z rfl;have hll:l≠l2:=λe=>n0 (by rw[e];simp);have live:∀(A1:Nat->List Nat) (lv1:List Lv),(∀k,k≠j->A1 k=A k)->(∀k,k≠j->lv1[k]?=lv[k]?)->∀(ds':List Dat) k d lk,k≠j->(de.set j (some (.lst ds')))[k]?=some (some d)->lv1[k]?=some lk->de[k]?=some (some d)/\lv[k]?=some lk/\A1 k=A k:=by
  intro A1 lv1 h hlv ds' k d lk e h1 h2;rw[Qp (Ne.symm e)]at h1;rw[hlv k e]at h2;exact⟨h1,h2,h k e⟩
 refine⟨l,xs,l2,us,a,hm,h1,hm2,r.len,ao.rep es us Bq (λx hx=>I.rr x (I.bd j x (inA (.inr (.inr (.inr (.inl hx)))))).1) r2,?_,?_⟩
 .intro m1 es' vs le c;obtain⟨Bq',o,nb,hBq⟩:=c Bq n9 r2;have hlt:=ao.lt es' vs Bq' o;have l2q:l2∉Bq':=λz=>by
   rcases hBq l2 z with z|z
   .exact n8 z
   .lia
  have sub:∀x∈l::(B1++((l2::Bq')++B2)),x∈A j\/m.length<=x:=by
   intro x hx;simp only[Qk,Ql]at hx;rcases hx with z|z|(z|z)|z
   .exact .inl (inA (.inl z))
   .exact .inl (inA (.inr (.inl z)))
   .exact .inl (inA (.inr (.inr (.inl z))))
   .rcases hBq x z with z|z
    .exact .inl (inA (.inr (.inr (.inr (.inl z)))))
    .exact .inr z
   .exact .inl (inA (.inr (.inr (.inr (.inr z)))))
  have nd1:(l::(B1++((l2::Bq')++B2))).Nodup:=by
   refine QA.mpr ⟨?_,Qn.mpr ⟨n2,Qn.mpr ⟨QA.mpr ⟨l2q,nb⟩,n6,?_⟩,?_⟩⟩
   .intro z;simp only[Qk,Ql]at z n0;rcases z with z|(z|z)|z
    .exact n0 (.inl z)
    .exact hll z
    .rcases hBq l z with z|z
     .exact n0 (.inr (.inl (.inr z)))
     .lia
    .exact n0 (.inr (.inr z))
   .intro x hx y hy e;subst e;rcases Qk.mp hx with z|z
    .subst z;exact l2B2 hy
    .rcases hBq x z with z|z
     .exact n7 x (Qh _ z) x hy rfl
     .have:=(I.bd j x (inA (.inr (.inr (.inr (.inr hy)))))).2;lia
   .intro x hx y hy e;subst e;simp only[Qk,Ql]at hy;rcases hy with (z|z)|z
    .subst z;exact l2B1 hx
    .rcases hBq x z with z|z
     .exact n4 x hx x (by simp[z]) rfl
     .have:=(I.bd j x (inA (.inr (.inl hx)))).2;lia
    .exact n4 x hx x (by simp[z]) rfl
  refine⟨aE A j (l::(B1++((l2::Bq')++B2))),?_⟩;refine I.put le (j:=j) (l:=l2) (xs:=us) (inA (.inr (.inr (.inl rfl)))) _ ?_ ?_ ?_ ?_ (by simp) rfl (live _ lv (λk hk=>za hk) (λ_ _=>rfl) _) ?_
  .intro k x hx;by_cases e:k=j
   .rw[e,ze]at hx;rcases sub x hx with z|z
    .exact .inl ⟨j,z⟩
    .exact .inr z
   .rw[za e]at hx;exact .inl ⟨k,hx⟩
  .intro k;by_cases e:k=j
   .rw[e,ze];exact nd1
   .rw[za e];exact I.nd k
  .intro i k x h1 h2;by_cases e:i=j
   .by_cases f:k=j
    .rw[e,f]
    .rw[e,ze]at h1;rw[za f]at h2;rcases sub x h1 with z|z
     .rw[e];exact I.dj j k x z h2
     .have:=(I.bd k x h2).2;lia
   .rw[za e]at h1;by_cases f:k=j
    .rw[f,ze]at h2;rcases sub x h2 with z|z
     .rw[f];exact I.dj i j x h1 z
     .have:=(I.bd i x h1).2;lia
    .rw[za f]at h2;exact I.dj i k x h1 h2
  .intro k x hx;have ll:=le.len;by_cases e:k=j
   .rw[e,ze]at hx;rcases sub x hx with z|z
    .exact ⟨(I.bd j x z).1,Qg (I.bd j x z).2 ll⟩
    .refine ⟨Qs I.lom z,?_⟩;simp only[Qk,Ql]at hx;rcases hx with q|q|(q|q)|q
     .lia
     .have:=(I.bd j x (inA (.inr (.inl q)))).2;lia
     .lia
     .exact hlt x q
     .have:=(I.bd j x (inA (.inr (.inr (.inr (.inr q)))))).2;lia
   .rw[za e]at hx;exact⟨(I.bd k x hx).1,Qg (I.bd k x hx).2 ll⟩
  .intro d lj g1 g2;rw[QD,Jh rfl,Jh hjl]at g1;cases g1;rw[hf]at g2;cases g2;refine⟨_,a,?_⟩;rw[ze];refine aM.mpr ⟨l,xs,B1++((l2::Bq')++B2),rfl,rfl,?_,?_⟩
   .rw[zq (l:=l2) (x:=l) (Ne.symm hll)];exact le l _ hm
   .have:=h4 (m1.set l2 (.lst vs)) (.lst es') (.ref l2) (l2::Bq') ?_ (aM.mpr ⟨l2,vs,Bq',rfl,rfl,zT (le l2 _ hm2),ao.frame es' vs Bq' (λx hx o z=>by rw[zq (l:=l2) (x:=x) (λe=>l2q (by rw[e];exact hx))];exact z) o⟩)
    .rw[show xs.set p (.ref l2)=xs from by
      obtain⟨hpx,e⟩:=Qa.mp h1;rw[<-e];exact List.set_getElem_self hpx]at this
     exact this
    .intro x hx o z;rw[zq (l:=l2) (x:=x) (λe=>by rcases hx with hx|hx;exact l2B1 (by rw[e];exact hx);exact l2B2 (by rw[e];exact hx))];exact le x o z
 .intro m1 q d w le rw0;have ll:=le.len;have sub:∀k x,x∈aE A j [l] k->x∈A k:=by
   intro k x hx;by_cases e:k=j
   .rw[e,ze]at hx;rw[e,Qr.mp hx];exact inA (.inl rfl)
   .rw[za e]at hx;exact hx
  refine⟨aE A j [l],?_⟩;refine I.put le (j:=j) (l:=l2) (xs:=us) (inA (.inr (.inr (.inl rfl)))) _ (λk x hx=>.inl ⟨k,sub k x hx⟩) ?_ (λi k x g1 g2=>I.dj i k x (sub i x g1) (sub k x g2)) (λk x hx=>⟨(I.bd k x (sub k x hx)).1,Qg (I.bd k x (sub k x hx)).2 ll⟩) (by simp) (by simp) (live _ (lv.set j .top) (λk hk=>za hk) (λk hk=>Qp (Ne.symm hk)) _) ?_
  .intro k;by_cases e:k=j
   .rw[e,ze];simp
   .rw[za e];exact I.nd k
  .intro d' lj g1 g2;rw[QD,Jh rfl,Jh hjl]at g1;cases g1;rw[QD,Jh rfl,Jh (by rw[I.lvl];exact hjl)]at g2;cases g2;refine⟨_,a,ds.set p (.lst (es.set q d)),l,xs,rfl,rfl,ze,?_,?_⟩
   .rw[zq (l:=l2) (x:=l) (Ne.symm hll)];exact le l _ hm
   have fr:∀x,x∈B1\/x∈B2\/x∈Bq\/x=l2->zH RR (aE A j [l]) x:=by
    intro x hx;have hxA:x∈A j:=inA (by rcases hx with z|z|z|z;exact .inr (.inl z);exact .inr (.inr (.inr (.inr z)));exact .inr (.inr (.inr (.inl z)));exact .inr (.inr (.inl z)));refine⟨I.rr x (I.bd j x hxA).1,λk hk=>?_⟩;by_cases e:k=j
    .rw[e,ze]at hk;have e2:=Qr.mp hk;subst e2;rcases hx with z|z|z|z
     .exact n0 (by simp[z])
     .exact n0 (by simp[z])
     .exact n0 (by simp[z])
     .exact hll z
    .rw[za e]at hk;exact e (I.dj k j x hk hxA)
   refine aY.mpr ⟨by simp[r.len],λi e y g1 g2=>?_⟩;by_cases ei:i=p
   .rw[ei]at g1 g2;rw[h1]at g2;cases g2;rw[QD,Jh rfl,Jh (Qa.mp hp).1]at g1;cases g1;refine aq.mpr ⟨l2,us.set q w,rfl,fr l2 (.inr (.inr (.inr rfl))),zT (le l2 _ hm2),?_⟩;refine ab.set (ab.frame (R:=λx=>x∈Bq) (m:=m) (λx o hx z=>⟨fr x (.inr (.inr (.inl hx))),?_⟩) _ _ (ao.rep es us Bq (λ_ h=>h) r2)) q ?_
    .rw[zq (l:=l2) (x:=x) (λe=>n8 (by rw[e];exact hx))];exact le x o z
    .refine ag.frame (λx o hx z=>?_) _ _ rw0;have ne:l2≠x:=by
      rcases hx with hx|hx
      .intro e;exact hx.2 j (by rw[<-e];exact inA (.inr (.inr (.inl rfl))))
      .lia
     refine⟨?_,by rw[zq (l:=l2) (x:=x) ne];exact z⟩;rcases hx with hx|hx
     .exact ⟨hx.1,λk hk=>hx.2 k (sub k x hk)⟩
     .exact ⟨I.rr x (Qs I.lom hx),λk hk=>by have:=(I.bd k x (sub k x hk)).2;lia⟩
   .rw[Qp (Ne.symm ei)]at g1;obtain⟨Bi,o,hBi⟩:=h5 i e y ei g1 g2;refine ag.frame (R:=λx=>x∈Bi) (m:=m) (λx o hx z=>?_) _ _ (aR.rep e y Bi (λ_ h=>h) o);rcases hBi x hx with z1|z1
    .exact ⟨fr x (.inl z1),by rw[zq (l:=l2) (x:=x) (λe=>l2B1 (by rw[e];exact z1))];exact le x _ z⟩
    .exact ⟨fr x (.inr (.inl z1)),by rw[zq (l:=l2) (x:=x) (λe=>l2B2 (by rw[e];exact z1))];exact le x _ z⟩
def Ct (h:ab R m ds xs)(hm:m[l]?=some (.lst xs))(b:ag R m e y):af R m (xo (.ref l) y m) (wB (.lst ds) e):=by
 cases e with
 |int i=>
  rw[aa.mp b];simp only[wB,xo,xh,yz,zi,hm];cases z:(ix ds.length i).bind λj=>ds[j]? with
  |none=>exact af.no
  |some v=>
   obtain⟨j,h1,h2⟩:=Qv.mp z;obtain⟨x,h3,p⟩:=h.get h2;rw[h.len]at h1;simp only[h1,Q6,h3];exact cC p
 |_=>exact af.no
def xL (I:Inv lo RR m de lv env A)(h:∀i∈vs,∀l,lv[i]?=some l->l=.no):bE (zH RR A) m vs de env:=
 ⟨I.len,λi hi d hd=>by
  obtain⟨l,hl⟩:=I.getlv hd;obtain⟨w,a,b⟩:=I.slot i d l hd hl;rw[h i hi l hl]at b;exact⟨w,a,b.1⟩⟩
theorem wW:∀(vs:List Nat) (lv:List Lv),(aO vs lv).length=lv.length
 |[],lv=>rfl
 |i::vs,lv=>by unfold aO;rw[wW vs];simp
def rp (de:aK)(j:Nat)(lv:List Lv)(h:k≠j):(bQ de j lv)[k]?=lv[k]?:=by
 have q:∃l,bQ de j lv=lv.set j l:=by
  unfold bQ;generalize de[j]?=p;generalize lv[j]?=q;cases p with
  |none=>exact⟨_,rfl⟩
  |some o=>
   cases o with
   |none=>exact⟨_,rfl⟩
   |some d=>
    cases d with
    |lst ds=>
     cases q with
     |none=>exact⟨_,rfl⟩
     |some l=>cases l<;>exact⟨_,rfl⟩
    |_=>exact⟨_,rfl⟩
 obtain⟨l,e⟩:=q;rw[e];exact Qp (Ne.symm h)
def rl (q:¬ ∃j i w,o=.var j/\b=.idx (.var i) (.neg (.lit w))):xA (.dget o b) de lv=aO (zl (.dget o b)) lv:=by
 cases o with
 |var j=>
  cases b with
  |idx x y=>
   cases x with
   |var i=>
    cases y with
    |neg z=>
     cases z with
     |lit w=>exact Jj ⟨_,_,_,rfl,rfl⟩ q
     |_=>rfl
    |_=>rfl
   |_=>rfl
  |_=>rfl
 |_=>rfl
set_option tactic.hygienic true in
def rh (e:Ex)(de:aK)(lv:List Lv)(h:k∉zl e):(xA e de lv)[k]?=lv[k]?:=by
 have gen:∀vs,k∉vs->(aO vs lv)[k]?=lv[k]?:=λvs h=>by rw[zN,Ji (λz=>h z.1)]
 cases e with
 |idx o b=>
  cases o with
  |var j=>
   replace h:k∉j::zl b:=h
   rw[Qk,not_or]at h;show(bQ de j (aO (zl b) lv))[k]?=_;rw[rp _ _ _ h.1,gen _ h.2]
  |_=>exact gen _ h
 |dget o b=>
  by_cases q:∃j i w,o=.var j/\b=.idx (.var i) (.neg (.lit w))
  .obtain ⟨j,i,w,rfl,rfl⟩:=q;exact gen [j] (by
    replace h:k∉j::zl (.idx (.var i) (.neg (.lit w))):=h
    rw[Qk,not_or]at h;simpa using h.1)
  .rw[rl q];exact gen _ h
 |_=>exact gen _ h
set_option tactic.hygienic true in
def Inv.topD (I:Inv lo RR m de lv env A)(j:Nat):
  ∃A',Inv lo RR m de (bQ de j lv) env A'/\aV A m A' m/\(∀i,i≠j->A' i=A i)/\((∃ds l xs,de[j]?=some (some (.lst ds))/\A' j=[l]/\env[j]?=some (some (.ref l))/\m[l]?=some (.lst xs)/\ab (zH RR A') m ds xs)\/((Vl.bQ de j lv)[j]?=some .no\/lv.length<=j)):=by
 by_cases h:(∃ds,de[j]?=some (some (.lst ds)))/\ym lv j=true
 .obtain ⟨⟨ds,hd⟩,ho⟩:=h;obtain⟨l,xs,A',I',K,h1,h2,h3,h4,h5,_⟩:=I.top j hd ho;have:Vl.bQ de j lv=lv.set j .top:=by
   unfold Vl.bQ;rw[hd];unfold ym at ho;cases z:lv[j]? with
   |none=>rw[z]at ho;simp at ho
   |some l=>rw[z]at ho;cases l<;>simp at ho ⊢
  rw[this];exact⟨A',I',K,h2,.inl ⟨ds,l,xs,hd,h1,h3,h4,h5⟩⟩
 .obtain ⟨I',K⟩:=I.down j;have:Vl.bQ de j lv=lv.set j .no:=by
   unfold Vl.bQ;split
   .next ds hd hl=>exact Jj ⟨⟨ds,hd⟩,by unfold ym;rw[hl]⟩ h
   .next ds hd hl=>exact Jj ⟨⟨ds,hd⟩,by unfold ym;rw[hl]⟩ h
   .rfl
  rw[this];refine⟨_,I',K,λi hi=>za hi,.inr ?_⟩;by_cases z:j<lv.length
  .left;rw[QD,Jh rfl,Jh z]
  .right;lia
set_option tactic.hygienic true in
def Inv.relEv (H:bn lev cl cd)(I:Inv lo RR m de lv env A)(e:Ex):
  ∃A',Inv lo RR m de (xA e de lv) env A'/\aV A m A' m/\(∀k,k∉zl e->A' k=A k)/\aI (zH RR A') m (aX lev e) (ae cl e env m) (az cd e de):=by
 have gen:xA e de lv=Vl.aO (zl e) lv->∃A',Inv lo RR m de (xA e de lv) env A'/\aV A m A' m/\(∀k,k∉zl e->A' k=A k)/\aI (zH RR A') m (aX lev e) (ae cl e env m) (az cd e de):=by
  intro h;rw[h];obtain⟨A',I',K,h1,_,h3⟩:=Inv.downs (zl e) I;refine⟨A',I',K,h3,yS H e _ m de env (xL I' λi hi l hl=>?_)⟩;rw[zN]at hl;split at hl
  .cases hl;rfl
  .next z=>rw[Qx (by have:¬i<lv.length:=λq=>z ⟨hi,q⟩;lia)]at hl;cases hl
 cases e with
 |dget a b=>
  by_cases q:∃j i w,a=.var j/\b=.idx (.var i) (.neg (.lit w))
  .obtain ⟨j,i0,w0,rfl,rfl⟩:=q;show ∃A',Inv lo RR m de (Vl.aO [j] lv) env A'/\_;obtain⟨A1,I1,K1,h1,_,h3⟩:=Inv.downs [j] I;refine⟨A1,I1,K1,λk hk=>h3 k (λz=>hk (by
    have z:k=j:=by simpa using z
    subst z;show k∈k::zl (.idx (.var i0) (.neg (.lit w0)))
    simp)),af.own ?_ (λd=>rfl)⟩
   show af _ m ((ae cl (.var j) env m).bind λx m1=>(ae cl (.idx (.var i0) (.neg (.lit w0))) env m1).bind λy m2=>vF x y m2) ((az cd (.var j) de).bind λx=>(az cd (.idx (.var i0) (.neg (.lit w0))) de).bind λy=>kg x y);refine(zd H.r (.var j) _ m de env (xL I1 λi hi l hl=>?_)).bind λd w m1 l1 r1=>?_
   .have hi:i=j:=by simpa using hi
    subst hi;rw[zN]at hl;split at hl
    .cases hl;rfl
    .next z=>rw[Qx (by have:¬i<lv.length:=λq=>z ⟨by simp,q⟩;lia)]at hl;cases hl
   .have hb:=zd H.r (.idx (.var i0) (.neg (.lit w0))) RR m1 de env ((I1.ext l1).envR _);cases z2:az cd (.idx (.var i0) (.neg (.lit w0))) de with
    |no=>trivial
    |ok d2=>
     rw[z2]at hb;obtain⟨w2,m2,e2,l2,r2⟩:=hb;rw[e2];cases hk:xQ d2 with
     |none=>
      have:kg d d2=.no:=by
       cases d with
       |dct ks ds=>show(match (xQ d2).bind (bO ks ds)with|some v=>Rd.ok v|none=>.no)=_;rw[hk];rfl
       |_=>rfl
      show af _ _ _ (kg d d2);rw[this];trivial
     |some k=>
      have fl:aA d2=true:=by
       cases d2 with
       |tup ds=>
        have hk:zO ds=some k:=hk;show ba ds=true;clear r2 z2
        induction ds generalizing k with
        |nil=>rfl
        |cons x r ih=>
         cases x with
         |int i=>
          obtain⟨k',e,rfl⟩:=QG.mp (show(zO r).map (i::·)=some k from hk);show(aA (.int i)&&ba r)=true;rw[ih _ e e];rfl
         |_=>cases hk
       |_=>cases hk
      have r3:ag (λ_=>False) m2 d2 w2:=aR.rep d2 w2 [] (by simp) (ag.flat (m':=m2) d2 w2 fl r2);exact af.lift l2 (qg (ag.frame (λl o r z=>⟨.inl r,l2 l o z⟩) _ _ r1) (ag.frame (λl o r z=>⟨.inl (by cases r),z⟩) _ _ r3))
  .exact gen (rl q)
 |idx a b=>
  cases a with
  |var j=>
   show ∃A',Inv lo RR m de (Vl.bQ de j (Vl.aO (zl b) lv)) env A'/\_;obtain⟨A1,I1,K1,h1,h2,h3⟩:=Inv.downs (zl b) I;obtain⟨A2,I2,K2,g1,g2⟩:=I1.topD j;have hne:∀k,k∉zl (.idx (.var j) b)->A2 k=A k:=by
    intro k hk
    replace hk:k∉j::zl b:=hk
    rw[Qk,not_or]at hk;rw[g1 k hk.1,h3 k hk.2]
   refine⟨A2,I2,K1.trans K2,hne,?_⟩;have lvno:∀i,i∈zl b->i≠j->∀l,(Vl.bQ de j (Vl.aO (zl b) lv))[i]?=some l->l=.no:=by
    intro i hi hij l hl;rw[rp _ _ _ hij,zN]at hl;split at hl
    .cases hl;rfl
    .next z=>rw[Qx (by have:¬i<lv.length:=λq=>z ⟨hi,q⟩;lia)]at hl;cases hl
   rcases g2 with⟨ds,l,xs,hd,hA,he,hm,hr⟩|g2
   .have hjb:j∉zl b:=λz=>by
     have h0:=h1 j z;have hx:l∈A1 j:=by
      have i1:=I1;by_cases q:l∈A1 j
      .exact q
      .exfalso;have:=(K2.1 l _ (λk hk=>?_) hm).1 j
       .rw[hA]at this;exact this (by simp)
       .by_cases ek:k=j
        .rw[ek]at hk;exact q hk
        .have e1:=g1 k ek;rw[<-e1]at hk;exact ek (I2.dj k j l hk (by rw[hA];simp))
     rw[h0]at hx;cases hx
    refine af.own ?_ (λd=>rfl);show af _ m ((ae cl (.var j) env m).bind λx m1=>(ae cl b env m1).bind λy m2=>xo x y m2) ((az cd (.var j) de).bind λx=>(az cd b de).bind λy=>wB x y);have e1:ae cl (.var j) env m=.ok (.ref l) m:=wC he m;have e2:az cd (.var j) de=.ok (.lst ds):=xy hd;rw[e1,e2];simp only[Rz.bind,Rd.bind];refine(zd H.r b _ m de env (xL I2 λi hi=>lvno i hi (λe=>hjb (by rw[<-e];exact hi)))).bind λd2 w2 m2 l2 k2=>?_;exact Ct (hr.up _ l2) (l2 l _ hm) k2
   .refine yS H _ _ m de env (xL I2 λi hi l hl=>?_)
    replace hi:i∈j::zl b:=hi
    rw[Qk]at hi;by_cases e:i=j
    .rw[e]at hl;rcases g2 with g2|g2
     .rw[g2]at hl;cases hl;rfl
     .have:(Vl.bQ de j (Vl.aO (zl b) lv)).length=(Vl.aO (zl b) lv).length:=by rw[I2.lvl,I1.lvl]
      rw[Qx (by lia)]at hl;cases hl
    .rcases hi with z|z
     .exact Jj z e
     .exact lvno i z e l hl
  |_=>exact gen rfl
 |_=>exact gen rfl
noncomputable def aC(lo:Nat)(RR:Nat->Prop)(A:Nat->List Nat)(m:Me)(r:Rs)(rd:bI):Prop:=match rd with
 |.next de lv=>∃env m' A',r=.next env m'/\Inv lo RR m' de lv env A'/\aV A m A' m'
 |.ret d l=>∃w m' B,r=.ret w m'/\((∀(x:Nat) o,(∀i,x∉A i)->m[x]?=some o->m'[x]?=some o)/\m.length<=m'.length)/\a9 (λx=>RR x/\x∉B) m' l d w B/\B.Nodup/\∀b∈B,lo<=b
 |.no=>True
set_option tactic.hygienic true in
def aC.keep{lo:Nat}{RR:Nat->Prop}{A A1:Nat->List Nat}{m m1:Me}{r:Rs}{rd:bI}(K:aV A m A1 m1)(h:aC lo RR A1 m1 r rd):aC lo RR A m r rd:=by
 cases rd with
 |next de lv=>obtain⟨e,m',A',h,I,k⟩:=h;exact⟨e,m',A',h,I,K.trans k⟩
 |ret d l=>obtain⟨w,m',B,h,k,z⟩:=h;exact⟨w,m',B,h,⟨λx o a b=>k.1 x o (K.1 x o a b).1 (K.1 x o a b).2,Qs K.2 k.2⟩,z⟩
 |no=>trivial
def Inv.rf (I:Inv lo RR m de lv env A)(h:ag (Rf RR m.length) m' d w):ag RR m' d w:=
 ag.frame (λx o r z=>⟨by rcases r with r|r;exact r;exact I.rr x (Qs I.lom r),z⟩) d w h
def Inv.bindE (H:bj cl cd)(I:Inv lo RR m de lv env A)(e:Ex)(k:∀d w m1,az cd e de=.ok d->ae cl e env m=.ok w m1->Le m m1->ag RR m1 d w->aC lo RR A m1 (f w m1) (g d)):aC lo RR A m ((ae cl e env m).bindS env f) ((az cd e de).bindS g):=by
 have h:=zd H e RR m de env (I.envR _);cases z:az cd e de with
 |no=>trivial
 |ok d=>
  rw[z]at h;obtain⟨w,m',h,l,r⟩:=h;have:=k d w m' z h l (I.rf r);rw[h];exact aC.keep (xK l) this
def Inv.own (H:bn lev cl cd)(I:Inv lo RR m de lv env A)(h1:az cd e de=.ok d)(h2:ae cl e env m=.ok w m1):
  ∃B,a9 (λx=>RR x/\x∉B) m1 (aX lev e d) d w B/\B.Nodup/\∀b∈B,m.length<=b:=by
 have h:=yS H e RR m de env (I.envR _);rw[h1]at h;obtain⟨w',m',B,h3,l,r,nd,hB⟩:=h;rw[h2]at h3;cases h3;exact⟨B,r.frame (λx o r z=>⟨⟨by rcases r.1 with r|r;exact r;exact I.rr x (Qs I.lom r),r.2⟩,z⟩) (λ_ _ _ z=>z),nd,hB⟩
section
variable{lev:Nat->Lv}{cl:Nat->List Wd->Me->Rz}{cd:Nat->List Dat->Rd}{lo:Nat}{RR:Nat->Prop}{m:Me}{de:aK}{lv:List Lv}{env:En}{A:Nat->List Nat}
set_option tactic.hygienic true in
def wH (h:jL de j=some ds):de[j]?=some (some (.lst ds)):=by
 unfold jL at h;split at h
 .next z=>cases h;exact z
 .cases h
set_option tactic.hygienic true in
def rg (h:fB j r de lv f=some de1):
  ∃k ds p es es1,r=.int k/\de[j]?=some (some (.lst ds))/\ix ds.length k=some p/\ds[p]?=some (.lst es)/\f es=some es1/\lv[j]?=some .full/\de1=de.set j (some (.lst (ds.set p (.lst es1)))):=by
 unfold fB at h;split at h
 .next k ds h1=>
  split at h
  .next ds1 h2=>
   split at h
   .next h3=>
    cases h;obtain⟨p,h4,h5⟩:=Qv.mp h2;obtain⟨d,h6,h7⟩:=Qv.mp h5;split at h7
    .next es=>
     obtain⟨es1,h8,h9⟩:=QG.mp h7;exact⟨k,ds,p,es,es1,rfl,wH h1,h4,h6,h8,h3,by rw[h9]⟩
    .cases h7
   .cases h
  .cases h
 .cases h
def u9 (hm:m[l]?=some (.lst xs))(hk:ix xs.length k=some p)(hp:xs[p]?=some w):xo (.ref l) (.int k) m=.ok w m:=by
 simp[xo,yz,zi,hm,hk,hp]
def y6 (h:env[j]?=some (some w))(m:Me):ae cl (.var j) env m=.ok w m:=by
 exact wC h m
def BF(H:bn lev cl cd)(I:Inv lo RR m de lv env A)(i:Nat)(e:Ex):aC lo RR A m (bi cl (.asg i e) env m) (aU lev cd (.asg i e) de lv):=by
 have h:aC lo RR A m ((ae cl e env m).bindS env λw m1=>.next (env.set i (some w)) m1) ((az cd e de).bindS λd=>dR lev i e d de lv):=by
  cases z:az cd e de with
  |no=>trivial
  |ok d=>
   show aC lo RR A m _ (dR lev i e d de lv);unfold dR;by_cases f:aX lev e d=.full
   .rw[Jh f];have h:=yS H e RR m de env (I.envR _);rw[z]at h;obtain⟨w,m1,B,h2,l,r,nd,hB⟩:=h;rw[h2];rw[f]at r;obtain⟨I',K⟩:=I.store l i (l:=.full) (d:=d) (w:=w) (B:=B) r nd hB;exact⟨_,_,_,rfl,I',K⟩
   .rw[Ji f];obtain⟨A1,I1,K1,_,h⟩:=I.relEv H e;rw[z]at h;obtain⟨w,m1,B,h2,l,r,nd,hB⟩:=h;rw[h2];obtain⟨I',K⟩:=I1.store l i (l:=aX lev e d) (d:=d) (w:=w) (B:=B) r nd hB;exact⟨_,_,_,rfl,I',K1.trans K⟩
 exact h
set_option tactic.hygienic true in
def qm (H:bn lev cl cd)(I:Inv lo RR m de lv env A)(hd:de[j]?=some (some (.lst ds)))(h1:az cd e de=.ok d)(h2:ae cl e env m=.ok w m1)(l1:Le m m1)(l2:Le m1 m2)(g:ql lev e d j de lv=some (de1,lv1))(F:List Dat->Dat->List Dat)(G:List Wd->Wd->List Wd)(cF:∀(m m1:Me) (A:Nat->List Nat) (ds:List Dat) (xs:List Wd) (d:Dat) (w:Wd) (B0:List Nat),Le m m1->aR m1 d w B0->B0.Nodup->(∀b∈B0,m.length<=b)->eT RR A m m1 ds xs (F ds d) (G xs w))(cM:∀(m:Me) (ds:List Dat) (xs:List Wd) (d:Dat) (w:Wd) (B B0:List Nat),(B++B0).Nodup->ao m ds xs B->aR m d w B0->∃B',ao m (F ds d) (G xs w) B'/\B'.Nodup/\∀b∈B',b∈B\/b∈B0)(cT:∀(R:Nat->Prop) (m:Me) (ds:List Dat) (xs:List Wd) (d:Dat) (w:Wd),ab R m ds xs->ag R m d w->ab R m (F ds d) (G xs w)):
  ∃l xs,env[j]?=some (some (.ref l))/\m2[l]?=some (.lst xs)/\ds.length=xs.length/\∃A',Inv lo RR (m2.set l (.lst (G xs w))) (de1.set j (some (.lst (F ds d)))) lv1 env A'/\aV A m A' (m2.set l (.lst (G xs w))):=by
 have l12:=l1.trans l2;unfold ql at g;split at g
 .cases g
 .next ho=>
  have ho:ym lv j=true:=by simpa using ho
  split at g
  .next f=>
   cases g;obtain⟨B,r,nd,hB⟩:=I.own H h1 h2;rw[f]at r;obtain⟨l,xs,he,hm,hr,put⟩:=I.mut hd ho;have r':aR m2 d w B:=aR.frame d w B (λx _ o z=>l2 x o z) r;refine⟨l,xs,he,l12 l _ hm,hr.len,put m2 _ _ l12 (λ_=>(cF m m2 A ds xs d w B l12 r' nd hB).1) (λ_=>(cF m m2 A ds xs d w B l12 r' nd hB).2)⟩
  .next f=>
   split at g
   .cases g
   .next hj=>
    have share:lv1=(xA e de lv).set j .top->de1=de->∃l xs,env[j]?=some (some (.ref l))/\m2[l]?=some (.lst xs)/\ds.length=xs.length/\∃A',Inv lo RR (m2.set l (.lst (G xs w))) (de1.set j (some (.lst (F ds d)))) lv1 env A'/\aV A m A' (m2.set l (.lst (G xs w))):=by
     rintro rfl rfl;obtain⟨A1,I1,K1,hA1,h⟩:=I.relEv H e;rw[h1]at h;have ho1:ym (xA e de1 lv) j=true:=by unfold ym;rw[rh e _ _ hj];exact ho
     obtain⟨l,xs,A2,I2,K2,g1,g2,he,hm,hr,hlA⟩:=I1.top j hd ho1;have hs:=h.sim;obtain⟨w',m',h3,_,rw0⟩:=hs;rw[h2]at h3;cases h3;have hjl:j<(xA e de1 lv).length:=by rw[I1.lvl];exact(Qa.mp hd).1
     have ho2:ym ((xA e de1 lv).set j .top) j=true:=by unfold ym;rw[QD,Jh rfl,Jh hjl]
     have hlv:((xA e de1 lv).set j .top)[j]?=some .top:=by rw[QD,Jh rfl,Jh hjl]
     obtain⟨l',xs',he',hm',_,put⟩:=I2.mut hd ho2;rw[he]at he';cases he';rw[hm]at hm';cases hm';obtain⟨A3,I3,K3⟩:=put m2 (F ds d) (G xs w) l12 (λz=>by rw[hlv]at z;cases z) (λ_ q=>by
      refine cT _ m2 ds xs d w (ab.frame (λx o r z=>⟨.inl r,l12 x o z⟩) _ _ q) (ag.frame (λx o r z=>⟨?_,l2 x o z⟩) _ _ rw0);rcases r with r|r
      .left
       refine⟨r.1,λk hk=>?_⟩;by_cases ek:k=j
       .rw[ek,g1]at hk;rw[Qr.mp hk]at r;exact r.2 j hlA
       .rw[g2 k ek]at hk;exact r.2 k hk
      .exact .inr r)
     exact⟨l,xs,he,l12 l _ hm,hr.len,A3,I3,(K1.trans K2).trans K3⟩
    split at g
    .next i=>
     split at g
     .next hfull=>
      cases g;have hij:i≠j:=λe=>hj (by rw[e];exact Qr.mpr rfl)
      -- the move
      have hdi:de[i]?=some (some d):=by
       exact wD h1
      obtain⟨wi,hei,ri⟩:=I.slot i d .full hdi hfull.1;have:ae cl (.var i) env m=.ok wi m:=y6 hei m;rw[this]at h2;cases h2;obtain⟨wj,hej,rj⟩:=I.slot j _ .full hd hfull.2;obtain⟨l,xs,B,rfl,hA,hm,r⟩:=aM.mp rj;have hlm:=(Qa.mp hm).1;have nd:=I.nd j;rw[hA]at nd;obtain⟨n0,n1⟩:=QA.mp nd;have nBi:(B++A i).Nodup:=Qn.mpr ⟨n1,I.nd i,λx hx y hy e=>by
       subst e;exact hij (I.dj i j x hy (by rw[hA];exact Qh _ hx))⟩
      obtain⟨B',o,nB',hB'⟩:=cM m ds xs d w B (A i) nBi r ri;have lB':l∉B':=λz=>by
       rcases hB' l z with q|q
       .exact n0 q
       .exact hij (I.dj i j l q (by rw[hA];simp))
      have sub:∀x∈l::B',x∈A j\/x∈A i:=by
       intro x hx;rcases Qk.mp hx with rfl|hx
       .left;rw[hA];simp
       .rcases hB' x hx with q|q
        .left;rw[hA];exact Qh _ q
        .exact .inr q
      have hjl:j<de.length:=(Qa.mp hd).1;have hil:i<de.length:=(Qa.mp hdi).1;have ui:aE (aE A i []) j (l::B') i=[]:=by rw[za hij,ze]
      have uo:∀k,k≠i->k≠j->aE (aE A i []) j (l::B') k=A k:=λk a b=>by rw[za b,za a]
      have ll2:=l2.len;refine⟨l,xs,hej,l2 l _ hm,r.len,aE (aE A i []) j (l::B'),?_⟩;refine I.put l2 (j:=j) (l:=l) (xs:=xs) (by rw[hA];simp) _ ?_ ?_ ?_ ?_ (by simp) rfl ?_ ?_
      .intro k x hx
       left
       by_cases e:k=j
       .rw[e,ze]at hx;rcases sub x hx with q|q
        .exact ⟨j,q⟩
        .exact ⟨i,q⟩
       .by_cases f:k=i
        .rw[f,ui]at hx;cases hx
        .rw[uo k f e]at hx;exact⟨k,hx⟩
      .intro k;by_cases e:k=j
       .rw[e,ze];exact QA.mpr ⟨lB',nB'⟩
       .by_cases f:k=i
        .rw[f,ui];simp
        .rw[uo k f e];exact I.nd k
      .have main:∀k x,k≠j->x∈l::B'->x∈aE (aE A i []) j (l::B') k->False:=by
        intro k x e hx hk;by_cases f:k=i
        .rw[f,ui]at hk;cases hk
        .rw[uo k f e]at hk;rcases sub x hx with q|q
         .exact e (I.dj k j x hk q)
         .exact f (I.dj k i x hk q)
       intro a b x ha hb;by_cases e:a=j
       .by_cases f:b=j
        .rw[e,f]
        .rw[e,ze]at ha;exact(main b x f ha hb).elim
       .by_cases f:b=j
        .rw[f,ze]at hb;exact(main a x e hb ha).elim
        .by_cases g:a=i
         .rw[g,ui]at ha;cases ha
         .by_cases h:b=i
          .rw[h,ui]at hb;cases hb
          .rw[uo a g e]at ha;rw[uo b h f]at hb;exact I.dj a b x ha hb
      .intro k x hx;by_cases e:k=j
       .rw[e,ze]at hx;rcases sub x hx with q|q
        .exact ⟨(I.bd j x q).1,Qg (I.bd j x q).2 ll2⟩
        .exact ⟨(I.bd i x q).1,Qg (I.bd i x q).2 ll2⟩
       .by_cases f:k=i
        .rw[f,ui]at hx;cases hx
        .rw[uo k f e]at hx;exact⟨(I.bd k x hx).1,Qg (I.bd k x hx).2 ll2⟩
      .intro k d' lk e g1 g2;rw[Qp (Ne.symm e)]at g1;by_cases f:k=i
       .rw[f,QD,Jh rfl,Jh hil]at g1;cases g1
       .rw[Qp (Ne.symm f)]at g1;exact⟨g1,g2,uo k f e⟩
      .intro d' lj g1 g2;rw[QD,Jh rfl,Jh (by simpa using hjl)]at g1;cases g1;rw[hfull.2]at g2;cases g2;refine⟨_,hej,?_⟩;rw[ze];exact aM.mpr ⟨l,_,B',rfl,rfl,zT (l2 l _ hm),ao.frame _ _ B' (λx hx o z=>by rw[zq (l:=l) (x:=x) (λe=>lB' (by rw[e];exact hx))];exact l2 x o z) o⟩
     .cases g;exact share rfl rfl
    .cases g;exact share rfl rfl
end
section
variable{lev:Nat->Lv}{cl:Nat->List Wd->Me->Rz}{cd:Nat->List Dat->Rd}{lo:Nat}{RR:Nat->Prop}{m:Me}{de:aK}{lv:List Lv}{env:En}{A:Nat->List Nat}
def u8 (h1:ae cl o env m=.ok x m1)(h2:ae cl e env m1=.ok w m2)(hl:ye x m1=true:=by simp only[ye,aJ];simp_all):ae cl (.meth n o (.pair e .unit)) env m=cO n x [w] m2:=by
 show(ae cl o env m).bind (λx m1=>match ye x m1 with|true=>((ae cl e env m1).bind λa m2=>.ok (.tup [a]) m2).bind λy m2=>cO n x (zj y) m2|false=>.no)=_;rw[h1];show(match ye x m1 with|true=>((ae cl e env m1).bind λa m2=>.ok (.tup [a]) m2).bind λy m2=>cO n x (zj y) m2|false=>.no)=_;rw[hl,h2];rfl
def BE (h1:ae cl o env m=.ok x m1)(hl:ye x m1=true:=by simp only[ye,aJ];simp_all):ae cl (.meth n o .unit) env m=cO n x [] m1:=by
 show(ae cl o env m).bind (λx m1=>match ye x m1 with|true=>cO n x [] m1|false=>.no)=_;rw[h1];show(match ye x m1 with|true=>cO n x [] m1|false=>.no)=_;rw[hl]
def BD (n:(B++B0).Nodup)(a:ao m ds xs B)(b:aR m d w B0):∃B',ao m (ds++[d]) (xs++[w]) B'/\B'.Nodup/\∀b∈B',b∈B\/b∈B0:=
 ⟨B++(B0++[]),a.app (.cons b .nil),by simpa using n,λx hx=>by simpa using hx⟩
def BC (p:Nat)(n:(B++B0).Nodup)(a:ao m ds xs B)(b:aR m d w B0):∃B',ao m (ds.set p d) (xs.set p w) B'/\B'.Nodup/\∀b∈B',b∈B\/b∈B0:=by
 cases hp:ds[p]? with
 |none=>
  have h1:ds.length<=p:=QV.mp hp;rw[WJ h1,WJ (by rw[<-a.len];exact h1)];exact⟨B,a,(Qn.mp n).1,λb hb=>.inl hb⟩
 |some e=>
  obtain⟨y,B1,Bp,B2,h1,rfl,h3,_,h4⟩:=ao.split a hp;refine⟨B1++(B0++B2),h4 m d w B0 (λl _ o z=>z) b,?_,?_⟩
  .obtain ⟨q1,q2,q3⟩:=Qn.mp n;obtain⟨n1,n2,n3⟩:=Qn.mp q1;obtain⟨n4,n5,n6⟩:=Qn.mp n2;refine Qn.mpr ⟨n1,Qn.mpr ⟨q2,n5,λx hx y hy e=>q3 y (by simp[hy]) x hx e.symm⟩,λx hx y hy e=>?_⟩;rcases Ql.mp hy with hy|hy
   .exact q3 x (by simp[hx]) y hy e
   .exact n3 x hx y (by simp[hy]) e
  .intro x hx;simp only[Ql]at hx ⊢;rcases hx with z|z|z
   .exact .inl (.inl z)
   .exact .inr z
   .exact .inl (.inr (.inr z))
theorem aC.okS{r:Rs}{rd:Rd}{g:Dat->bI}(h:∀d,rd=.ok d->aC lo RR A m r (g d)):aC lo RR A m r (rd.okS g):=by
 cases rd with
 |ok d=>exact h d rfl
 |_=>trivial
theorem Inv.ok (H:bj cl cd)(I:Inv lo RR m de lv env A)(h:az cd e de=.ok d)(l:Le m m1):∃w m2,ae cl e env m1=.ok w m2/\Le m1 m2/\ag RR m2 d w:=by
 have q:=zd H e RR m1 de env ((I.ext l).envR _);rw[h]at q;obtain⟨w,m2,a,b,c⟩:=q;exact⟨w,m2,a,b,(I.ext l).rf c⟩
def Inv.isRef (I:Inv lo RR m de lv env A){j:Nat}(hd:de[j]?=some (some (.lst ds)))(he:env[j]?=some (some w)):ye w m=true:=by
 obtain⟨lj,hl⟩:=I.getlv hd;obtain⟨w',a,b⟩:=I.slot j _ lj hd hl;rw[he]at a;cases a;obtain⟨l,xs,rfl,_,hm,_⟩:=aq.mp (b.rep (R':=λ_=>True) (λ_ _=>trivial) (λ_ _=>trivial));simp[ye,aJ,hm]
set_option tactic.hygienic true in
def Cs(H:bn lev cl cd)(I:Inv lo RR m de lv env A)(j:Nat)(e:Ex):aC lo RR A m (bi cl (.expr (.meth .append (.var j) (.pair e .unit))) env m) (aU lev cd (.expr (.meth .append (.var j) (.pair e .unit))) de lv):=by
 show aC _ _ _ _ ((ae cl _ env m).bindS env _) _;refine aC.okS λd h1=>?_;split
 .next ds hl=>
  split
  .next hlim=>
   split
   .next de1 lv1 g=>
    obtain⟨w,m1,h2,l1,r1⟩:=I.ok H.r h1 (Le.refl m);obtain⟨l,xs,he,hm,hlen,A',I',K⟩:=qm H I (wH hl) h1 h2 l1 (Le.refl m1) g (λds d=>ds++[d]) (λxs w=>xs++[w])
     (λ_ _ _ _ _ _ _ _ le o nd hB=>rq le o nd hB) (λ_ _ _ _ _ _ _ n a b=>BD n a b) (λ_ _ _ _ _ _ a b=>a.app (.cons b .nil))
    rw[u8 (y6 he m) h2 (I.isRef (wH hl) he)];have:cO .append (.ref l) [w] m1=.ok .non (m1.set l (.lst (xs++[w]))):=by
     simp only[cO,hm];rw[Jh (by lia)]
    rw[this];exact⟨_,_,A',rfl,I',K⟩
   .trivial
  .trivial
 .trivial
set_option tactic.hygienic true in
def Cr(I:Inv lo RR m de lv env A)(j:Nat):aC lo RR A m (bi cl (.expr (.meth .reverse (.var j) .unit)) env m) (aU lev cd (.expr (.meth .reverse (.var j) .unit)) de lv):=by
 show aC _ _ _ _ ((ae cl _ env m).bindS env _) (match jL de j with
   |some ds=>if ym lv j then .next (de.set j (some (.lst ds.reverse))) lv else .no
   |none=>.no)
 split
 .next ds hl=>
  split
  .next ho=>
   obtain⟨l,xs,he,hm,hr,put⟩:=I.mut (wH hl) ho;obtain⟨A',I',K⟩:=put m ds.reverse xs.reverse (Le.refl m) (λ_=>(cN (RR:=RR) (A:=A)).1) (λ_=>cN.2);rw[BE (y6 he m)];have:cO .reverse (.ref l) [] m=.ok .non (m.set l (.lst xs.reverse)):=by simp only[cO,hm]
   rw[this];exact⟨_,_,A',rfl,I',K⟩
  .trivial
 .trivial
def oV (H:bj cl cd)(I:Inv lo RR m de lv env A){ds:List Dat}(hr:az cd r de=.ok (.int k))(hp:ix ds.length k=some p)(he:env[j]?=some (some (.ref l)))(hm:m[l]?=some (.lst xs))(hlen:ds.length=xs.length)(hx:xs[p]?=some (.ref l2))(l0:Le m m0):
  ∃m1,ae cl (.idx (.var j) r) env m0=.ok (.ref l2) m1/\Le m0 m1:=by
 obtain⟨w,m1,h2,l1,r1⟩:=I.ok H hr l0;rw[aa.mp r1]at h2;refine⟨m1,?_,l1⟩;show(ae cl (.var j) env m0).bind (λx m1=>(ae cl r env m1).bind λy m2=>xo x y m2)=_;rw[y6 he m0];simp only[Rz.bind,h2];exact u9 (l1 l _ (l0 l _ hm)) (by rw[<-hlen];exact hp) hx
def rZ (h:∀de1,o=some de1->aC lo RR A m r (.next de1 lv1)):aC lo RR A m r (iW o lv1):=by
 cases o with
 |none=>trivial
 |some d=>exact h d rfl
set_option tactic.hygienic true in
def Ce(H:bn lev cl cd)(I:Inv lo RR m de lv env A)(i:Nat)(op:Bo)(e:Ex):aC lo RR A m (bi cl (.aug i op e) env m) (aU lev cd (.aug i op e) de lv):=by
 show aC _ _ _ _ _ (match de[i]? with
  |some (some (.int a))=>(az cd e de).okS λy=>match y with
   |.int b=>(yK op (.int a) (.int b)).okS λz=>.next (de.set i (some z)) (lv.set i .full)
   |_=>.no
  |_=>.no)
 split
 .next a ha=>
  refine aC.okS λy hy=>?_;split
  .next b=>
   refine aC.okS λz hz=>?_;obtain⟨la,hla⟩:=I.getlv ha;obtain⟨wa,hea,ra⟩:=I.slot i _ la ha hla;have ra':=ra.rep (R':=RR) (λ_ z=>z.1) (λx hx=>I.rr x (I.bd i x hx).1);rw[aa.mp ra']at hea;show aC _ _ _ _ (match env[i]? with
    |some (some x)=>(ae cl e env m).bindS env λy m1=>eW op x y m1 env λz m2=>.next (env.set i (some z)) m2
    |_=>.no) _
   rw[hea];obtain⟨w,m1,h2,l1,r1⟩:=I.ok H.r hy (Le.refl m);rw[aa.mp r1]at h2;simp only[h2,Rz.bindS,eW];have hs:=jE (R:=RR) (m:=m1) op (d:=.int a) (e:=.int b) (aa.mpr rfl) (aa.mpr rfl);rw[hz]at hs;obtain⟨w3,m3,h3,l3,r3⟩:=hs;rw[h3];have fz:aA z=true:=by
    cases op<;>simp only[yK]at hz
    .cases hz;rfl
    .cases hz;rfl
    all_goals (split at hz<;>(cases hz;try rfl))
   obtain⟨I',K⟩:=I.store (l1.trans l3) i (l:=.full) (d:=z) (w:=w3) (B:=[]) (r3.flat z w3 fz) QK (by simp);exact⟨_,_,_,rfl,I',K⟩
  .trivial
 .trivial
end
section
variable{lev:Nat->Lv}{cl:Nat->List Wd->Me->Rz}{cd:Nat->List Dat->Rd}{lo:Nat}{RR:Nat->Prop}{m:Me}{de:aK}{lv:List Lv}{env:En}{A:Nat->List Nat}
mutual
theorem ag.avoid{R R':Nat->Prop}{m:Me}{D:Dat}{l:Nat}(hD:ag R' m D (.ref l)):∀(d:Dat) (w:Wd),cS d<cS D->ag R m d w->ag (λx=>R x/\x≠l) m d w
 |.non,w,h,q=>am.mpr (am.mp q)
 |.bl _,w,h,q=>ai.mpr (ai.mp q)
 |.int _,w,h,q=>aa.mpr (aa.mp q)
 |.str _,w,h,q=>ay.mpr (ay.mp q)
 |.scr _,w,h,q=>aT.mpr (aT.mp q)
 |.tup ds,w,h,q=>by
  obtain⟨xs,rfl,q1⟩:=ah.mp q;exact ah.mpr ⟨xs,rfl,ab.avoid hD ds xs (by rw[show cS (.tup ds)=cm ds+1 from by simp[cS]]at h;lia) q1⟩
 |.lst ds,w,h,q=>by
  obtain⟨k,xs,rfl,r,hm,q1⟩:=aq.mp q;refine aq.mpr ⟨k,xs,rfl,⟨r,λe=>?_⟩,hm,ab.avoid hD ds xs (by rw[show cS (.lst ds)=cm ds+1 from by simp[cS]]at h;lia) q1⟩;subst e;have:=ag.det _ _ _ q hD;rw[this]at h;lia
 |.dct ks ds,w,h,q=>by
  obtain⟨k,xs,rfl,r,hm,q1⟩:=aL.mp q;refine aL.mpr ⟨k,xs,rfl,⟨r,λe=>?_⟩,hm,ab.avoid hD ds xs (by rw[show cS (.dct ks ds)=cm ds+1 from by simp[cS]]at h;lia) q1⟩;subst e;have:=ag.det _ _ _ q hD;rw[this]at h;lia
theorem ab.avoid{R R':Nat->Prop}{m:Me}{D:Dat}{l:Nat}(hD:ag R' m D (.ref l)):∀(ds:List Dat) (xs:List Wd),cm ds<cS D->ab R m ds xs->ab (λx=>R x/\x≠l) m ds xs
 |[],xs,h,q=>by rw[q.nil_inv];exact .nil
 |d::ds,xs,h,q=>by
  obtain⟨x,r,rfl,a,b⟩:=q.cons_inv;unfold cm at h;exact .cons (ag.avoid hD d x (by lia) a) (ab.avoid hD ds r (by lia) b)
end
def jO (hm:m[l]?=some (.lst xs))(hk:ix xs.length k=some p):je (.ref l) (.int k) w m=.ok .non (m.set l (.lst (xs.set p w))):=by
 simp[je,hm,hk]
set_option tactic.hygienic true in
def Cq(H:bn lev cl cd)(I:Inv lo RR m de lv env A)(j:Nat)(k e:Ex):aC lo RR A m (bi cl (.asgS (.var j) k e) env m) (aU lev cd (.asgS (.var j) k e) de lv):=by
 show aC _ _ _ _ ((ae cl e env m).bindS env _) _;refine aC.okS λd h1=>aC.okS λkv hk=>?_;unfold oI;split
 .next k' ds hl=>
  have hd:=wH hl;split
  .next p hp=>
   obtain⟨w,m1,h2,l1,r1⟩:=I.ok H.r h1 (Le.refl m);obtain⟨wk,m2,h3,l2,r3⟩:=I.ok H.r hk l1;rw[aa.mp r3]at h3;split
   .next de1 lv1 g=>
    obtain⟨l,xs,he,hm,hlen,A',I',K⟩:=qm H I hd h1 h2 l1 l2 g (λds d=>ds.set p d) (λxs w=>xs.set p w)
     (λ_ _ _ _ _ _ _ _ le o nd hB=>jN p le o nd hB) (λ_ _ _ _ _ _ _ n a b=>BC p n a b) (λ_ _ _ _ _ _ a b=>a.set p b)
    simp only[h2,Rz.bindS,y6 he m1,h3,jO hm (by rw[<-hlen];exact hp)];exact⟨_,_,A',rfl,I',K⟩
   .next g=>
    split
    .next c=>
     simp only[QH,Jm]at c;obtain⟨⟨ho,hdep⟩,_⟩:=c;obtain⟨l,xs,A0,I0,K0,g1,g2,he,hm,hr,hlA⟩:=I.top j hd ho;obtain⟨A1,I1,K1,q1,q2,q3⟩:=Inv.downs ((zl e).filter (·≠j)) I0;have hA1j:A1 j=[l]:=by rw[q3 j (by simp),g1]
     have elv:aO ((zl e).filter (·≠j)) (lv.set j .top)=(aO (zl e) lv).set j .top:=by
      apply WR;intro i;rw[zN,QD];by_cases ei:j=i
      .subst ei;rw[Ji (by simp),Jh rfl,QD,Jh rfl,wW]
      .rw[Ji ei,Qp ei,zN,WA];have:(i∈(zl e).filter (·≠j))↔i∈zl e:=by simp[VE];intro _;exact λz=>ei z.symm
       simp only[this]
     rw[elv]at I1;have lno:∀i∈zl e,i≠j->∀x,((aO (zl e) lv).set j .top)[i]?=some x->x=.no:=by
      intro i hi hij x hx;rw[Qp (Ne.symm hij),zN]at hx;split at hx
      .cases hx;rfl
      .next z=>rw[Qx (by have:¬i<lv.length:=λq=>z ⟨hi,q⟩;lia)]at hx;cases hx
     have hr1:ab (zH RR A1) m ds xs:=(K1.repL hr);have env1:bE (λx=>zH RR A1 x\/x=l) m (zl e) de env:=by
      refine⟨I1.len,λi hi d' hd'=>?_⟩;by_cases ei:i=j
      .subst ei;rw[hd]at hd';cases hd';exact⟨_,he,aq.mpr ⟨l,xs,rfl,.inr rfl,hm,ab.frame (λx o r z=>⟨.inl r,z⟩) _ _ hr1⟩⟩
      .obtain ⟨li,hli⟩:=I1.getlv hd';obtain⟨w',a,b⟩:=I1.slot i d' li hd' hli;rw[lno i hi ei li hli]at b;exact⟨w',a,ag.frame (λx o r z=>⟨.inl r,z⟩) _ _ b.1⟩
     have hs:=zd H.r e _ m de env env1;rw[h1]at hs;obtain⟨w',m1',h2',_,rw1⟩:=hs;rw[h2]at h2';cases h2';have rwa:=ag.avoid (D:=.lst ds) (l:=l) (R':=λ_=>True) (m:=m1) (aq.mpr ⟨l,xs,rfl,trivial,l1 l _ hm,ab.frame (λx o r z=>⟨trivial,l1 x o z⟩) _ _ hr1⟩) d w hdep rw1;have hlm:=(Qa.mp hm).1;have hjl:j<lv.length:=by rw[I.lvl];exact(Qa.mp hd).1
     have hlv:((aO (zl e) lv).set j .top)[j]?=some .top:=by rw[QD,Jh rfl,Jh (by rw[wW];exact hjl)]
     obtain⟨l',xs',he',hm',hrr,put⟩:=I1.mut hd (by unfold ym;rw[hlv]);rw[he]at he';cases he';rw[hm]at hm';cases hm';obtain⟨A3,I3,K3⟩:=put m2 (ds.set p d) (xs.set p w) (l1.trans l2) (λz=>by rw[hlv]at z;cases z) (λ_ q=>by
      refine ab.set (ab.frame (λx o r z=>⟨.inl r,(l1.trans l2) x o z⟩) _ _ q) p (ag.frame (λx o r z=>⟨?_,l2 x o z⟩) _ _ rwa);rcases r.1 with (r1|r1)|r1
      .exact .inl r1
      .exact Jj r1 r.2
      .exact .inr r1)
     simp only[h2,Rz.bindS,y6 he m1,h3,jO (l2 l _ (l1 l _ hm)) (by rw[<-hr.len];exact hp)];exact⟨_,_,A3,rfl,I3,(K0.trans K1).trans K3⟩
    .trivial
  .trivial
 .trivial
set_option tactic.hygienic true in
def qo (h:fP k d es=some es1):∃i p,k=.int i/\ix es.length i=some p/\es1=es.set p d:=by
 unfold fP at h;split at h
 .next i=>obtain⟨p,a,b⟩:=QG.mp h;exact⟨i,p,rfl,a,b.symm⟩
 .cases h
set_option tactic.hygienic true in
def Cp(H:bn lev cl cd)(I:Inv lo RR m de lv env A)(j:Nat)(r k e:Ex):aC lo RR A m (bi cl (.asgS (.idx (.var j) r) k e) env m) (aU lev cd (.asgS (.idx (.var j) r) k e) de lv):=by
 show aC _ _ _ _ ((ae cl e env m).bindS env _) _;refine aC.okS λd h1=>aC.okS λrv hr=>aC.okS λkv hk=>?_;obtain⟨w,m1,h2,l1,r1⟩:=I.ok H.r h1 (Le.refl m);split
 .next f=>
  refine rZ λde1 h=>?_;obtain⟨rk,ds,p,es,es1,rfl,hd,hp,hps,hf,hlv,rfl⟩:=rg h;obtain⟨i,q,rfl,hq,rfl⟩:=qo hf;obtain⟨l,xs,l2,us,he,hm,hx,hm2,hlen,hrep,put,_⟩:=I.mutIn hd hlv hps;obtain⟨m2,h3,l2'⟩:=oV H.r I hr hp he hm hlen hx l1;obtain⟨wk,m3,h4,l3,r4⟩:=I.ok H.r hk (l1.trans l2');rw[aa.mp r4]at h4;obtain⟨B,ro,nd,hB⟩:=I.own H h1 h2;rw[f]at ro;have l123:=(l1.trans l2').trans l3;have ro':aR m3 d w B:=aR.frame d w B (λx _ o z=>l3 x o (l2' x o z)) ro;have ch:eT RR A m m3 es us (es.set q d) (us.set q w):=jN q l123 ro' nd hB;obtain⟨A',I',K⟩:=put m3 _ _ l123 ch.1;simp only[h2,Rz.bindS,h3,h4,jO (l123 _ _ hm2) (by rw[<-hrep.len];exact hq)];exact⟨_,_,A',rfl,I',K⟩
 .next f=>
  split
  .trivial
  .next hj=>
   refine rZ λde1 h=>?_;obtain⟨rk,ds,p,es,es1,rfl,hd,hp,hps,hf,hlv,rfl⟩:=rg h;obtain⟨i,q,rfl,hq,rfl⟩:=qo hf;obtain⟨A1,I1,K1,_,hso⟩:=I.relEv H e;rw[h1]at hso;obtain⟨w',m1',h2',_,rw1⟩:=hso.sim;rw[h2]at h2';cases h2';obtain⟨l,xs,l2,us,he,hm,hx,hm2,hlen,hrep,_,put⟩:=I1.mutIn hd (by rw[rh e _ _ hj];exact hlv) hps;obtain⟨m2,h3,l2'⟩:=oV H.r I hr hp he hm hlen hx l1;obtain⟨wk,m3,h4,l3,r4⟩:=I.ok H.r hk (l1.trans l2');rw[aa.mp r4]at h4;have l123:=(l1.trans l2').trans l3;obtain⟨A',I',K⟩:=put m3 q d w l123 (ag.frame (λx o r z=>⟨r,l3 x o (l2' x o z)⟩) _ _ rw1);simp only[h2,Rz.bindS,h3,h4,jO (l123 _ _ hm2) (by rw[<-hrep.len];exact hq)];exact⟨_,_,A',rfl,I',K1.trans K⟩
end
theorem vf(q:List Int):∀(ks:List (List Int)) (n:Nat),(∃p,∀(α:Type) (zs:List α) (v:α),zs.length=n->zQ ks zs q v=zs.set p v)\/∀(α:Type) (zs:List α) (v:α),zs.length=n->zQ ks zs q v=zs++[v]
 |[],n=>.inr λα zs v _=>by cases zs<;>rfl
 |k::ks,0=>.inr λα zs v h=>by
  cases zs with
  |nil=>rfl
  |cons _ _=>cases h
 |k::ks,n+1=>by
  by_cases e:k=q
  .refine .inl ⟨0,λα zs v h=>?_⟩;cases zs with
   |nil=>cases h
   |cons z zs=>show(if k=q then v::zs else _)=_;rw[Jh e];rfl
  .rcases vf q ks n with⟨p,h⟩|h
   .refine .inl ⟨p+1,λα zs v hz=>?_⟩;cases zs with
    |nil=>cases hz
    |cons z zs=>show(if k=q then _ else z::zQ ks zs q v)=_;rw[Ji e,h α zs v (by simpa using hz)];rfl
   .refine .inr λα zs v hz=>?_;cases zs with
    |nil=>cases hz
    |cons z zs=>show(if k=q then _ else z::zQ ks zs q v)=_;rw[Ji e,h α zs v (by simpa using hz)];rfl
def Cd (ks:List (List Int))(q:List Int)(hlen:ds.length=xs.length)(le:Le m m1)(o:aR m1 d w B0)(nd:B0.Nodup)(hB:∀b∈B0,m.length<=b):eT RR A m m1 ds xs (zQ ks ds q d) (zQ ks xs q w):=by
 rcases vf q ks ds.length with⟨p,h⟩|h
 .rw[h _ ds d rfl,h _ xs w hlen.symm];exact jN p le o nd hB
 .rw[h _ ds d rfl,h _ xs w hlen.symm];exact rq le o nd hB
def Inv.mutD (I:Inv lo RR m de lv env A)(hd:de[j]?=some (some (.dct ks ds)))(hl:lv[j]?=some .full):
  ∃l xs,env[j]?=some (some (.ref l))/\m[l]?=some (.dct ks xs)/\ds.length=xs.length/\∀(m1:Me) (ks':List (List Int)) (ds':List Dat) (ys:List Wd),Le m m1->iq m m1 ds xs ds' ys ->
   ∃A1,Inv lo RR (m1.set l (.dct ks' ys)) (de.set j (some (.dct ks' ds'))) lv env A1/\aV A m A1 (m1.set l (.dct ks' ys)):=by
 obtain⟨w,a,b⟩:=I.slot j _ .full hd hl;have hjl:j<de.length:=(Qa.mp hd).1;obtain⟨l,xs,B,rfl,hA,hm,r⟩:=bA.mp b;have hlm:=(Qa.mp hm).1;have nd:=I.nd j;rw[hA]at nd;refine⟨l,xs,a,hm,r.len,λm1 ks' ds' ys le c=>?_⟩;obtain⟨B',o,nb,hB⟩:=c B (QA.mp nd).2 r;have hlB:l∉B':=λz=>by
  rcases hB l z with z|z
  .exact (QA.mp nd).1 z
  .lia
 have sub:∀x∈l::B',x∈A j\/m.length<=x:=by
  intro x hx;rcases Qk.mp hx with rfl|hx
  .left;rw[hA];simp
  .rcases hB x hx with z|z
   .left;rw[hA];exact Qh _ z
   .exact .inr z
 refine⟨aE A j (l::B'),?_⟩;refine I.putO le (j:=j) (l:=l) (by rw[hA];simp) _ ?_ ?_ ?_ ?_ (by simp) rfl ?_ ?_
 .intro k x hx;by_cases e:k=j
  .subst e;rw[ze]at hx;rcases sub x hx with z|z
   .exact .inl ⟨k,z⟩
   .exact .inr z
  .rw[za e]at hx;exact .inl ⟨k,hx⟩
 .intro k;by_cases e:k=j
  .subst e;rw[ze];exact QA.mpr ⟨hlB,nb⟩
  .rw[za e];exact I.nd k
 .intro i k x h1 h2;by_cases e:i=j
  .by_cases f:k=j
   .rw[e,f]
   .rw[e,ze]at h1;rw[za f]at h2;rcases sub x h1 with z|z
    .rw[e];exact I.dj j k x z h2
    .have:=(I.bd k x h2).2;lia
  .rw[za e]at h1;by_cases f:k=j
   .rw[f,ze]at h2;rcases sub x h2 with z|z
    .rw[f];exact I.dj i j x h1 z
    .have:=(I.bd i x h1).2;lia
   .rw[za f]at h2;exact I.dj i k x h1 h2
 .intro k x hx;by_cases e:k=j
  .rw[e,ze]at hx;rcases Qk.mp hx with rfl|hx
   .exact ⟨(I.bd j _ (by rw[hA];simp)).1,Qg hlm le.len⟩
   .refine ⟨?_,ao.lt ds' ys B' o x hx⟩;rcases hB x hx with z|z
    .exact (I.bd j x (by rw[hA];exact Qh _ z)).1
    .exact Qs I.lom z
  .rw[za e]at hx;exact⟨(I.bd k x hx).1,Qg (I.bd k x hx).2 le.len⟩
 .intro k d lk e h1 h2;rw[Qp (Ne.symm e)]at h1;exact⟨h1,h2,za e⟩
 .intro d lj h1 h2;rw[QD,Jh rfl,Jh hjl]at h1;cases h1;rw[hl]at h2;cases h2;refine⟨_,a,?_⟩;rw[ze];exact bA.mpr ⟨l,ys,B',rfl,rfl,zT (le l _ hm),ao.frame ds' ys B' (λx hx o z=>by rw[zq (l:=l) (x:=x) (λe=>hlB (by rw[e];exact hx))];exact z) o⟩
section
variable{lev:Nat->Lv}{cl:Nat->List Wd->Me->Rz}{cd:Nat->List Dat->Rd}{lo:Nat}{RR:Nat->Prop}{m:Me}{de:aK}{lv:List Lv}{env:En}{A:Nat->List Nat}
set_option tactic.hygienic true in
def Cn(H:bn lev cl cd)(I:Inv lo RR m de lv env A)(j:Nat)(k e:Ex):aC lo RR A m (bi cl (.dput j k e) env m) (aU lev cd (.dput j k e) de lv):=by
 show aC _ _ _ _ ((ae cl e env m).bindS env _) _;refine aC.okS λd h1=>aC.okS λkv hk=>?_;split
 .next ks ds q hd hq=>
  split
  .next c=>
   obtain⟨c1,c2,c3⟩:=c;obtain⟨w,m1,h2,l1,r1⟩:=I.ok H.r h1 (Le.refl m);obtain⟨wk,m2,h3,l2,r3⟩:=I.ok H.r hk l1;obtain⟨B,ro,nd,hB⟩:=I.own H h1 h2;rw[c2]at ro;have ro:aR m1 d w B:=ro;obtain⟨l,xs,he,hm,hlen,put⟩:=I.mutD hd c1;obtain⟨A1,I1,K1⟩:=put m2 (wf ks q) (zQ ks ds q d) (zQ ks xs q w) (l1.trans l2) (Cd (RR:=RR) (A:=A) ks q hlen (l1.trans l2) (aR.frame d w B (λx _ o z=>l2 x o z) ro) nd hB).1;rw[h2];show aC _ _ _ _ ((ae cl (.var j) env m1).bindS env _) _;rw[y6 he m1];show aC _ _ _ _ ((ae cl k env m1).bindS env _) _;rw[h3];have e2:kI (.ref l) wk w m2=.ok .non (m2.set l (.dct (wf ks q) (zQ ks xs q w))):=by
    unfold kI;simp only[(l1.trans l2) l _ hm,wE r3 hq,Jh c3]
   show aC _ _ _ _ ((kI (.ref l) wk w m2).bindS env _) _;rw[e2];exact⟨env,_,A1,rfl,I1,K1⟩
  .trivial
 .trivial
end
section
variable{cl:Nat->List Wd->Me->Rz}{lo:Nat}{RR:Nat->Prop}
def ck (q:List Int):ag R m (eI q) (.tup (q.map Wd.int)):=ah.mpr ⟨_,rfl,dL q⟩
set_option tactic.hygienic true in
theorem kS (hb:∀x w m de lv env A,Inv lo RR m de lv env A->ag (zH RR A) m x w->aC lo RR A m (bw w env m) (bd x de lv)):
  ∀(qs:List (List Int)) (i k:Nat) (m:Me) (de:aK) (lv:List Lv) (env:En) (A:Nat->List Nat),Inv lo RR m de lv env A->(∀k,l∉A k)->m[l]?=some (.dct ks ws)->qs=ks.drop i->i+qs.length=ks.length->qs.length<k->aC lo RR A m (yO bw l ks.length k i env m) (ya bd (qs.map eI) de lv)
 |[],i,0,m,de,lv,env,A,I,hl,hm,r,hi,hk=>by simp at hk
 |d::ds,i,0,m,de,lv,env,A,I,hl,hm,r,hi,hk=>by simp at hk
 |[],i,k+1,m,de,lv,env,A,I,hl,hm,r,hi,hk=>by
  unfold yO ya;rw[hm];simp only[if_true];rw[Qx (by simp at hi;lia)];exact⟨env,m,A,rfl,I,aV.refl A m⟩
 |q::qs,i,k+1,m,de,lv,env,A,I,hl,hm,r,hi,hk=>by
  have hx:ks[i]?=some q:=by
   have:(ks.drop i)[0]?=some q:=by rw[<-r];rfl
   simpa using this
  have hr:qs=ks.drop (i+1):=by
   have:(ks.drop i).drop 1=qs:=by rw[<-r];rfl
   rw[<-this,Wu]
  have hi':i+1+qs.length=ks.length:=by simp at hi;lia
  have hk':qs.length<k:=by simp at hk;lia
  have h:=hb (eI q) _ m de lv env A I (ck q);unfold yO;rw[Q2];unfold ya;rw[hm];simp only[if_true];rw[hx];simp only;cases z:bd (eI q) de lv with
  |next d1 l1=>
   rw[z]at h;obtain⟨e1,m1,A1,h1,I1,K1⟩:=h;rw[h1];exact aC.keep K1 (kS hb qs (i+1) k m1 d1 l1 e1 A1 I1 (K1.1 l _ hl hm).1 (K1.1 l _ hl hm).2 hr hi' hk')
  |ret d l=>
   rw[z]at h;obtain⟨w,m1,B,h1,k⟩:=h;rw[h1];exact⟨w,m1,B,rfl,k⟩
  |no=>trivial
set_option tactic.hygienic true in
def Ef (I:Inv lo RR m de lv env A)(hd:de[x]?=some (some (.dct ks ds))):
  ∃A1 l ws,Inv lo RR m de (lv.set x .no) env A1/\aV A m A1 m/\env[x]?=some (some (.ref l))/\(∀k,l∉A1 k)/\m[l]?=some (.dct ks ws)/\ab (zH RR A1) m ds ws:=by
 obtain⟨A1,I1,K1,hA,_,_⟩:=Inv.downs [x] I;have hno:∀i∈[x],∀l,(aO [x] lv)[i]?=some l->l=.no:=λi hi l hl=>by
  rw[zN]at hl;split at hl
  .exact (Option.some.inj hl).symm
  .next q=>
   have:i<lv.length:=(Qa.mp hl).1;exact Jj ⟨hi,this⟩ q
 have E:=xL I1 hno;obtain⟨w,hw,r⟩:=E.2 x (by simp) _ hd;obtain⟨l,ws,rfl,fr,hm,q⟩:=aL.mp r;exact⟨A1,l,ws,I1,K1,hw,fr.2,hm,q⟩
set_option tactic.hygienic true in
def Cm{bw:Wd->En->Me->Rs}{bd:Dat->aK->List Lv->bI}(hb:∀x w m de lv env A,Inv lo RR m de lv env A->ag (zH RR A) m x w->aC lo RR A m (bw w env m) (bd x de lv)){m:Me}{de:aK}{lv:List Lv}{env:En}{A:Nat->List Nat}(I:Inv lo RR m de lv env A)(x:Nat):
  aC lo RR A m ((ae cl (.var x) env m).bindS env λw m1=>match w with
   |.ref l=>yO bw l (wg m1 l) (aF+1) 0 env m1
   |_=>.no) (match de[x]? with
   |some (some (.dct ks _))=>if ks.length<=aF then ya bd (ks.map eI) de (lv.set x .no)else .no
   |_=>.no):=by
 split
 .next ks ds hd=>
  split
  .next hz=>
   obtain⟨A1,l,ws,I1,K1,hw,fr,hm,q⟩:=Ef I hd;rw[wC hw m];have e:wg m l=ks.length:=by unfold wg;rw[hm]
   show aC _ _ _ _ (yO bw l (wg m l) (aF+1) 0 env m) _;rw[e];exact aC.keep K1 (kS hb ks 0 (aF+1) m de _ env A1 I1 fr hm rfl (by simp) (by lia))
  .trivial
 .trivial
end
section
variable{lev:Nat->Lv}{cl:Nat->List Wd->Me->Rz}{cd:Nat->List Dat->Rd}{lo:Nat}{RR:Nat->Prop}
set_option tactic.hygienic true in
def Inv.bindSlot{m:Me}{de:aK}{lv:List Lv}{env:En}{A:Nat->List Nat}(I:Inv lo RR m de lv env A)(i:Nat){d:Dat}{w:Wd}(h:ag (zH RR A) m d w):Inv lo RR m (de.set i (some d)) (lv.set i (cJ d)) (env.set i (some w)) (aE A i [])/\aV A m (aE A i []) m:=by
 refine I.store (Le.refl m) i (B:=[]) ?_ QK (by simp);unfold cJ;split
 .next f=>exact h.flat d w f
 .exact ⟨ag.frame (λx o r z=>⟨⟨.inl r,by simp⟩,z⟩) _ _ h,rfl⟩
set_option tactic.hygienic true in
theorem wX (hb:∀x w m de lv env A,Inv lo RR m de lv env A->ag (zH RR A) m x w->aC lo RR A m (bw w env m) (bd x de lv)):
  ∀(ds:List Dat) (xs:List Wd) (m:Me) (de:aK) (lv:List Lv) (env:En) (A:Nat->List Nat),Inv lo RR m de lv env A->ab (zH RR A) m ds xs->aC lo RR A m (xr bw xs env m) (ya bd ds de lv)
 |[],xs,m,de,lv,env,A,I,r=>by
  rw[r.nil_inv];exact⟨env,m,A,rfl,I,aV.refl A m⟩
 |d::ds,xs,m,de,lv,env,A,I,r=>by
  obtain⟨x,xs,rfl,a,b⟩:=r.cons_inv;have h:=hb d x m de lv env A I a;unfold xr ya;cases z:bd d de lv with
  |next d1 l1=>
   rw[z]at h;obtain⟨e1,m1,A1,h1,I1,K1⟩:=h;rw[h1];exact aC.keep K1 (wX hb ds xs m1 d1 l1 e1 A1 I1 (K1.repL b))
  |ret d l=>
   rw[z]at h;obtain⟨w,m1,B,h1,k⟩:=h;rw[h1];exact⟨w,m1,B,rfl,k⟩
  |no=>trivial
set_option tactic.hygienic true in
theorem kT (hb:∀x w m de lv env A,Inv lo RR m de lv env A->ag (zH RR A) m x w->aC lo RR A m (bw w env m) (bd x de lv)):
  ∀(ds:List Dat) (i k:Nat) (m:Me) (de:aK) (lv:List Lv) (env:En) (A:Nat->List Nat),Inv lo RR m de lv env A->(∀k,l∉A k)->m[l]?=some (.lst xs0)->ab (zH RR A) m ds (xs0.drop i)->i+ds.length=xs0.length->ds.length<k->aC lo RR A m (xt bw l k i env m) (ya bd ds de lv)
 |[],i,0,m,de,lv,env,A,I,hl,hm,r,hi,hk=>by simp at hk
 |d::ds,i,0,m,de,lv,env,A,I,hl,hm,r,hi,hk=>by simp at hk
 |[],i,k+1,m,de,lv,env,A,I,hl,hm,r,hi,hk=>by
  unfold xt ya zi;rw[hm];simp only;rw[Qx (by simp at hi;lia)];exact⟨env,m,A,rfl,I,aV.refl A m⟩
 |d::ds,i,k+1,m,de,lv,env,A,I,hl,hm,r,hi,hk=>by
  obtain⟨x,q,e0,a,b⟩:=r.cons_inv;have hx:xs0[i]?=some x:=by
   have:(xs0.drop i)[0]?=some x:=by rw[e0];rfl
   simpa using this
  have hr:q=xs0.drop (i+1):=by
   have:(xs0.drop i).drop 1=q:=by rw[e0];rfl
   rw[<-this,Wu]
  rw[hr]at b;have hi':i+1+ds.length=xs0.length:=by simp at hi;lia
  have hk':ds.length<k:=by simp at hk;lia
  have h:=hb d x m de lv env A I a;unfold xt ya zi;rw[hm];simp only;rw[hx];simp only;cases z:bd d de lv with
  |next d1 l1=>
   rw[z]at h;obtain⟨e1,m1,A1,h1,I1,K1⟩:=h;rw[h1];exact aC.keep K1 (kT hb ds (i+1) k m1 d1 l1 e1 A1 I1 (K1.1 l _ hl hm).1 (K1.1 l _ hl hm).2 (K1.repL b) hi' hk')
  |ret d l=>
   rw[z]at h;obtain⟨w,m1,B,h1,k⟩:=h;rw[h1];exact⟨w,m1,B,rfl,k⟩
  |no=>trivial
set_option tactic.hygienic true in
def rY{bw:Wd->En->Me->Rs}{bd:Dat->aK->List Lv->bI}(H:bn lev cl cd)(hb:∀x w m de lv env A,Inv lo RR m de lv env A->ag (zH RR A) m x w->aC lo RR A m (bw w env m) (bd x de lv)){m:Me}{de:aK}{lv:List Lv}{env:En}{A:Nat->List Nat}(I:Inv lo RR m de lv env A)(it:Ex):
  aC lo RR A m ((ae cl it env m).bindS env λw m1=>eB bw w env m1) ((az cd it de).bindS λd=>match cR d with
   |some xs=>ya bd xs de (if aA d then lv else xA it de lv)
   |none=>.no):=by
 have run:∀(d:Dat) (w:Wd) (m1:Me) (xs:List Dat) (lv1:List Lv) (A1:Nat->List Nat),cR d=some xs->Inv lo RR m1 de lv1 env A1->ag (zH RR A1) m1 d w->aC lo RR A1 m1 (eB bw w env m1) (ya bd xs de lv1):=by
  intro d w m1 xs lv1 A1 hi I1 r;cases d with
  |tup ds=>cases hi;obtain⟨ys,rfl,r1⟩:=ah.mp r;exact wX hb _ _ _ _ _ _ _ I1 r1
  |scr ns=>cases hi;rw[aT.mp r];exact wX hb _ _ _ _ _ _ _ I1 (dL ns)
  |lst ds=>
   simp only[cR]at hi;split at hi
   .next z=>
    cases hi;obtain⟨l,ys,rfl,hR,hm,r1⟩:=aq.mp r;have:=r1.len;exact kT hb _ 0 (aF+1) m1 de lv1 env A1 I1 hR.2 hm (by simpa using r1) (by lia) (by lia)
   .cases hi
  |_=>cases hi
 cases z:az cd it de with
 |no=>trivial
 |ok d=>
  show aC lo RR A m _ (match cR d with
   |some xs=>ya bd xs de (if aA d then lv else xA it de lv)
   |none=>.no)
  cases hi:cR d with
  |none=>trivial
  |some xs=>
   simp only;split
   .next f=>
    obtain⟨w,m1,h2,l1,r1⟩:=I.ok H.r z (Le.refl m);rw[h2];exact aC.keep (xK l1) (run d w m1 xs lv A hi (I.ext l1) (aR.rep d w [] (by simp) (r1.flat d w f)))
   .obtain ⟨A1,I1,K1,_,h⟩:=I.relEv H it;rw[z]at h;obtain⟨w,m1,h2,l1,r1⟩:=h.sim;rw[h2];refine aC.keep (K1.trans (xK l1)) (run d w m1 xs _ A1 hi (I1.ext l1) (ag.frame (λx o r z=>⟨?_,z⟩) _ _ r1));rcases r with r|r
    .exact r
    .exact ⟨I.rr x (Qs I.lom r),λk hk=>by have:=(I1.bd k x hk).2;lia⟩
set_option tactic.hygienic true in
theorem kU{cw:En->Me->Rz}{bw:En->Me->Rs}{c:aK->Rd}{bd:aK->List Lv->bI}(hc:∀m de lv env A,Inv lo RR m de lv env A->match c de with |.ok d=>∃w m1,cw env m=.ok w m1/\Le m m1/\ag RR m1 d w |.no=>True)
  (hb:∀m de lv env A,Inv lo RR m de lv env A->aC lo RR A m (bw env m) (bd de lv)):∀(k:Nat) (m:Me) (de:aK) (lv:List Lv) (env:En) (A:Nat->List Nat),Inv lo RR m de lv env A->aC lo RR A m (vG cw bw k env m) (jK c bd k de lv)
 |0,m,de,lv,env,A,I=>trivial
 |k+1,m,de,lv,env,A,I=>by
  have h:=hc m de lv env A I;unfold vG jK;cases z:c de with
  |no=>trivial
  |ok d=>
   rw[z]at h;obtain⟨w,m1,h1,l1,r1⟩:=h;rw[h1];cases d with
   |bl b=>
    rw[ai.mp r1];cases b with
    |false=>exact⟨env,m1,A,rfl,I.ext l1,xK l1⟩
    |true=>
     have h2:=hb m1 de lv env A (I.ext l1);refine aC.keep (xK l1) ?_;simp only;cases z2:bd de lv with
     |next d1 l2=>
      rw[z2]at h2;obtain⟨e1,m2,A1,h3,I1,K1⟩:=h2;rw[h3];exact aC.keep K1 (kU hc hb k m2 d1 l2 e1 A1 I1)
     |ret d l=>
      rw[z2]at h2;obtain⟨w,m2,B,h3,k⟩:=h2;rw[h3];exact⟨w,m2,B,rfl,k⟩
     |no=>trivial
   |_=>trivial
set_option tactic.hygienic true in
def Ee (hb:∀(p:Dat×Dat) w1 w2 m de lv env A,Inv lo RR m de lv env A->ag (zH RR A) m p.1 w1->ag (zH RR A) m p.2 w2->aC lo RR A m (bw (.tup [w1,w2]) env m) (bd p de lv))(ps:List (Dat×Dat)):
  ∀(i k:Nat) (m:Me) (de:aK) (lv:List Lv) (env:En) (A:Nat->List Nat),Inv lo RR m de lv env A->(∀k,la∉A k)->m[la]?=some (.lst xs)->ab (zH RR A) m da xs ->
   ps=((yR 0 1 da.length).zip da).drop i->i+ps.length=da.length->ps.length<k->aC lo RR A m (yV bw (zo .enum (.ref la) (.int 0)) k i env m) (ya bd ps de lv):=by
 induction ps with
 |nil=>
  intro i k m de lv env A I ha hma ra hp hi hk;obtain⟨k,rfl⟩:∃q,k=q+1:=⟨k-1,by simp at hk;lia⟩;have l1:=ra.len;have e:zo .enum (.ref la) (.int 0) i m=some none:=by
   simp only[zo,zi,hma];simp only[List.length_nil]at hi;rw[Qx (by lia)];rfl
  unfold yV ya;rw[e];exact⟨env,m,A,rfl,I,aV.refl A m⟩
 |cons p ps ih=>
  intro i k m de lv env A I ha hma ra hp hi hk;obtain⟨k,rfl⟩:∃q,k=q+1:=⟨k-1,by simp at hk;lia⟩;have hx:((yR 0 1 da.length).zip da)[i]?=some p:=by
   have:(((yR 0 1 da.length).zip da).drop i)[0]?=some p:=by rw[<-hp];rfl
   simpa using this
  have hr:ps=((yR 0 1 da.length).zip da).drop (i+1):=by
   have:(((yR 0 1 da.length).zip da).drop i).drop 1=ps:=by rw[<-hp];rfl
   rw[<-this,Wu]
  obtain⟨z1,z2⟩:=vq hx;obtain⟨w2,b1,b2⟩:=ra.get z2;have hil:i<da.length:=(Qa.mp z2).1;have hp1:p.1=.int (0+(i:Int)):=by
   have:(yR 0 1 da.length)[i]?=some (.int (0+1*(i:Int))):=by simp[yR,hil]
   rw[this]at z1;rw[<-Option.some.inj z1,Int.one_mul]
  have e:zo .enum (.ref la) (.int 0) i m=some (some (.int (0+(i:Int)),w2)):=by simp only[zo,zi,hma,b1,QP]
  have hi':i+1+ps.length=da.length:=by simp only[WE]at hi;lia
  have hk':ps.length<k:=by simp only[WE]at hk;lia
  have h:=hb p (.int (0+(i:Int))) w2 m de lv env A I (by rw[hp1];exact aa.mpr rfl) b2;unfold yV ya;rw[e];simp only;cases z:bd p de lv with
  |next d1 l1=>
   rw[z]at h;obtain⟨e1,m1,A1,h1,I1,K1⟩:=h;rw[h1];exact aC.keep K1 (ih (i+1) k m1 d1 l1 e1 A1 I1 (K1.1 la _ ha hma).1 (K1.1 la _ ha hma).2 (K1.repL ra) hr hi' hk')
  |ret d l=>
   rw[z]at h;obtain⟨w,m1,B,h1,k⟩:=h;rw[h1];exact⟨w,m1,B,rfl,k⟩
  |no=>trivial
set_option tactic.hygienic true in
def Ck(H:bn lev cl cd){bw:Wd->En->Me->Rs}{bd:Dat×Dat->aK->List Lv->bI}(hb:∀(p:Dat×Dat) w1 w2 m de lv env A,Inv lo RR m de lv env A->ag (zH RR A) m p.1 w1->ag (zH RR A) m p.2 w2->aC lo RR A m (bw (.tup [w1,w2]) env m) (bd p de lv)){m:Me}{de:aK}{lv:List Lv}{env:En}{A:Nat->List Nat}(I:Inv lo RR m de lv env A)(a:Ex):
  aC lo RR A m ((ae cl a env m).bindS env λx m1=>yV bw (zo .enum x (.int 0)) (aF+1) 0 env m1) ((az cd a de).okS λx=>match xi .enum x (.int 0)with
   |some ps=>ya bd ps de (aO (zl a) lv)
   |none=>.no):=by
 obtain⟨A1,I1,K1,hA,_,_⟩:=Inv.downs (zl a) I;have hno:∀i∈zl a,∀l,(aO (zl a) lv)[i]?=some l->l=.no:=λi hi l hl=>by
  rw[zN]at hl;split at hl
  .exact (Option.some.inj hl).symm
  .next q=>
   have:i<lv.length:=(Qa.mp hl).1;exact Jj ⟨hi,this⟩ q
 have E:=xL I1 hno;have hR:∀{n:Nat}{x:Nat},m.length<=n->Rf (zH RR A1) n x->zH RR A1 x:=λ{n x} hn r=>by
  rcases r with r|r
  .exact r
  .exact ⟨I1.rr x (Qs I1.lom (Qs hn r)),λk hk=>by have:=(I1.bd k x hk).2;lia⟩
 refine aC.okS λx hx=>?_;cases hp:xi .enum x (.int 0)with
 |none=>trivial
 |some ps=>
  have ha:=zd H.r a (zH RR A1) m de env E;rw[hx]at ha;obtain⟨w1,m1,e1,l1,r1⟩:=ha;have r1':ag (zH RR A1) m1 x w1:=ag.frame (λl o r z=>⟨hR (Qf _) r,z⟩) _ _ r1;rw[e1];simp only[Rz.bindS];unfold xi at hp;split at hp
  .next h=>cases h
  .obtain ⟨la,xs,rfl,fa,hma,ra⟩:=aq.mp r1'
   next z0=>
   cases z0;split at hp
   .next z=>
    cases hp;refine aC.keep (K1.trans (xK l1)) (Ee hb _ 0 (aF+1) m1 de _ env A1 (I1.ext l1) fa.2 hma ra (by simp) (by simp[yR]) ?_);simp only[VF];lia
   .cases hp
  .contradiction
  .contradiction
  .cases hp
def Inv.drop{m:Me}{de:aK}{lv:List Lv}{env:En}{A:Nat->List Nat}(I:Inv lo RR m de lv env A)(i:Nat)(hi:i<de.length):Inv lo RR m (de.set i none) (lv.set i .full) env A:=by
 refine⟨by simp[I.len],by simp[I.lvl],I.rr,I.lom,λk d l h1 h2=>?_,I.nd,I.dj,I.bd⟩;by_cases e:i=k
 .subst e;rw[QD,Jh rfl]at h1;split at h1
  .cases h1
  .cases h1
 .rw[Qp e]at h1 h2;exact I.slot k d l h1 h2
set_option tactic.hygienic true in
def Cc {ds:List Dat}(o:aR m d w A)(nd:A.Nodup)(e:wB d (.int i)=.ok v)(hv:aA v=false):
  ∃x B,xo w (.int i) m=.ok x m/\aR m v x B/\B.Nodup/\∀b∈B,b∈A:=by
 have go:∀(ds:List Dat) (xs:List Wd) (C:List Nat),xh d=some ds->yz m w=some xs->ao m ds xs C->C.Nodup->(∀b∈C,b∈A)->∃x B,xo w (.int i) m=.ok x m/\aR m v x B/\B.Nodup/\∀b∈B,b∈A:=by
  intro ds xs C h1 h2 r nC hC;simp only[wB,h1]at e;have hlen:=ao.len r;cases h3:(ix ds.length i).bind λj=>ds[j]? with
  |none=>rw[h3]at e;cases e
  |some v'=>
   rw[h3]at e;cases e;obtain⟨p,h4,h5⟩:=Qv.mp h3;obtain⟨x,B1,Bp,B2,g1,g2,g3,g4,g5⟩:=r.split h5;rw[hlen]at h4;refine⟨x,Bp,?_,g3,?_,λb hb=>hC b ?_⟩
   .simp only[xo,h2,h4,Q6,g1]
   .rw[g2]at nC;exact(Qn.mp (Qn.mp nC).2.1).1
   .rw[g2];simp[hb]
 cases d with
 |lst ds=>
  obtain⟨l,xs,B,rfl,rfl,hm,r⟩:=aM.mp o;exact go ds xs B rfl (by show zi m l=some xs;unfold zi;rw[hm]) r (QA.mp nd).2 (λb hb=>Qh _ hb)
 |tup ds=>
  obtain⟨xs,rfl,r⟩:=bm.mp o;exact go ds xs A rfl rfl r nd (λb hb=>hb)
 |scr ns=>
  simp only[wB,xh]at e;cases h3:(ix (ns.map Dat.int).length i).bind λj=>(ns.map Dat.int)[j]? with
  |none=>rw[h3]at e;cases e
  |some v'=>
   rw[h3]at e;cases e;obtain⟨p,h4,h5⟩:=Qv.mp h3;rw[Qu]at h5;cases hn:ns[p]? with
   |none=>rw[hn]at h5;cases h5
   |some n=>rw[hn]at h5;cases h5;cases hv
 |_=>cases e
theorem rX (a:aR m d x B):∀{ps:List (List Int×Dat)}{qs:List (List Int×Wd)}{C:List Nat},ps.map Prod.fst=qs.map Prod.fst->ao m (ps.map Prod.snd) (qs.map Prod.snd) C ->
  (zP (k,d) ps).map Prod.fst=(zP (k,x) qs).map Prod.fst/\∃D,ao m ((zP (k,d) ps).map Prod.snd) ((zP (k,x) qs).map Prod.snd) D/\D.Perm (B++C)
 |[],[],C,_,r=>⟨rfl,_,.cons a r,.refl _⟩
 |[],_::_,_,h,_=>by cases h
 |_::_,[],_,h,_=>by cases h
 |p::ps,q::qs,C,h,r=>by
  obtain⟨h1,h2⟩:=List.cons.inj (show p.1::ps.map Prod.fst=q.1::qs.map Prod.fst from h);show(if b8 k p.1 then(k,d)::p::ps else p::zP (k,d) ps).map Prod.fst=(if b8 k q.1 then(k,x)::q::qs else q::zP (k,x) qs).map Prod.fst/\∃D,ao m ((if b8 k p.1 then(k,d)::p::ps else p::zP (k,d) ps).map Prod.snd) ((if b8 k q.1 then(k,x)::q::qs else q::zP (k,x) qs).map Prod.snd) D/\D.Perm (B++C);rw[h1];cases b8 k q.1 with
  |true=>exact⟨Jf (k::·) h,_,.cons a r,.refl _⟩
  |false=>
   obtain⟨_,_,B1,C1,e,rfl,r1,r2⟩:=ao.cons_inv (show ao m (p.2::ps.map Prod.snd) (q.2::qs.map Prod.snd) C from r);cases e;obtain⟨i1,D,i2,i3⟩:=rX a h2 r2;refine⟨by show p.1::(zP (k,d) ps).map Prod.fst=q.1::(zP (k,x) qs).map Prod.fst;rw[h1,i1],_,.cons r1 i2,?_⟩;refine(i3.append_left B1).trans ?_;rw[<-Qj,<-Qj];exact Wh.append_right C1
theorem qp:∀{ks:List (List Int)}{ds:List Dat}{xs:List Wd}{C:List Nat},ks.length=ds.length->ao m ds xs C ->
  (zr (ks.zip ds)).map Prod.fst=(zr (ks.zip xs)).map Prod.fst/\∃D,ao m ((zr (ks.zip ds)).map Prod.snd) ((zr (ks.zip xs)).map Prod.snd) D/\D.Perm C
 |[],[],_,_,_,r=>by obtain⟨rfl,rfl⟩:=r.nil_inv;exact⟨rfl,[],.nil,.refl _⟩
 |[],_::_,_,_,h,_=>by cases h
 |_::_,[],_,_,h,_=>by cases h
 |k::ks,d::ds,xs,C,h,r=>by
  obtain⟨x,us,B1,C1,rfl,rfl,r1,r2⟩:=r.cons_inv;obtain⟨i1,D,i2,i3⟩:=qp (ks:=ks) (Nat.succ.inj h) r2;obtain⟨j1,D2,j2,j3⟩:=rX (k:=k) r1 i1 i2;rw[Wx,Wx,yn,yn];exact⟨j1,D2,j2,j3.trans (i3.append_left B1)⟩
theorem kW:∀{ds:List Dat}{ks:List (List Int)},xn ds=some ks->ks.length=ds.length
 |[],_,h=>by cases h;rfl
 |d::ds,ks,h=>by
  cases d with
  |lst es=>
   have h':(match q9 es,xn ds with
    |some k,some ks=>some (k::ks)
    |_,_=>none)=some ks:=h
   cases e1:q9 es with
   |none=>simp only[e1]at h';cases h'
   |some k=>
    cases e2:xn ds with
    |none=>simp only[e1,e2]at h';cases h'
    |some ks'=>
     simp only[e1,e2]at h';cases h';exact Jf (·+1) (kW e2)
  |_=>cases h
def Er (I:Inv lo RR m de lv env A)(hj:lv[j]?=some .full)(z:az cd (.blt .sorted (.pair (.idx (.var j) (.var k)) .unit)) de=.ok d)(h2:ae cl (.blt .sorted (.pair (.idx (.var j) (.var k)) .unit)) env m=.ok w m1):∃B,a9 (λx=>RR x/\x∉B) m1 .full d w B/\B.Nodup/\∀b∈B,lo<=b:=by
 have z':((((az cd (.var j) de).bind λx=>(az cd (.var k) de).bind λy=>wB x y).bind λx=>(Rd.ok (.tup [])).bind λy=>.ok (.tup (x::zt y))).bind λx=>kr .sorted (zt x))=.ok d:=z;have h':((((ae cl (.var j) env m).bind λx m1=>(ae cl (.var k) env m1).bind λy m2=>xo x y m2).bind λx m1=>(Rz.ok (.tup []) m1).bind λy m2=>.ok (.tup (x::zj y)) m2).bind λx m1=>vj .sorted (zj x) m1)=.ok w m1:=h2;cases q1:az cd (.var j) de with
 |no=>rw[q1]at z';cases z'
 |ok dj=>
  cases q2:az cd (.var k) de with
  |no=>rw[q1,q2]at z';cases z'
  |ok dk=>
   rw[q1,q2]at z';simp only[Rd.bind]at z';have g1:=wD q1;have g2:=wD q2;cases dk with
   |int i=>
    cases q3:wB dj (.int i)with
    |no=>rw[q3]at z';cases z'
    |ok v=>
     rw[q3]at z';simp only[zt]at z';cases v with
     |lst es=>
      have z2:(match (xn es).bind λks=>yN Dat ks es with|some i=>bu i|none=>.no)=.ok d:=z';cases q4:(xn es).bind λks=>yN Dat ks es with
      |none=>rw[q4]at z2;cases z2
      |some es'=>
       rw[q4]at z2;obtain⟨ks,k1,k2⟩:=Qv.mp q4;obtain⟨lk,hlk⟩:=I.getlv g2;obtain⟨wj,ej,oj⟩:=I.slot j dj .full g1 hj;obtain⟨wk,ek,ok⟩:=I.slot k _ lk g2 hlk;have rk:ag (λ_=>True) m (.int i) wk:=a9.rep (λ_ _=>trivial) (λ_ _=>trivial) ok;obtain rfl:=aa.mp rk;obtain⟨x,B,hx,ox,nB,hB⟩:=Cc (ds:=[]) oj (I.nd j) q3 rfl;obtain⟨l2,us,B2,rfl,rfl,hm2,r2⟩:=aM.mp ox;rw[y6 ej m]at h';simp only[Rz.bind]at h';rw[y6 ek m]at h';simp only[Rz.bind,hx,zj]at h';have rr:ab (λ_=>True) m es us:=ao.rep es us B2 (λ_ _=>trivial) r2;obtain⟨ys,h3,_⟩:=qj rr k2;have e3:zi m l2=some us:=by unfold zi;rw[hm2]
       have e4:((xq m us).bind λks=>yN Wd ks us)=some ys:=by rw[kh rr k1];exact h3
       simp only[vj,e3,e4]at h';have nB2:=(QA.mp nB).2;obtain⟨B3,r3,n3,s3⟩:∃B3,ao m es' ys B3/\B3.Nodup/\∀b∈B3,b∈B2:=by
        obtain⟨e1,D,r3,n3⟩:=qp (kW k1) r2;rw[we]at k2 h3;have k2':(if yM ((zr (ks.zip es)).map Prod.fst)then some ((zr (ks.zip es)).map Prod.snd)else none)=some es':=k2;have h3':(if yM ((zr (ks.zip us)).map Prod.fst)then some ((zr (ks.zip us)).map Prod.snd)else none)=some ys:=h3;rw[e1]at k2';cases c:yM ((zr (ks.zip us)).map Prod.fst)with
        |false=>rw[c]at k2';cases k2'
        |true=>rw[c]at k2' h3';cases k2';cases h3';exact⟨D,r3,n3.nodup_iff.mpr nB2,λb hb=>n3.mem_iff.mp hb⟩
       have hlen:=ao.len r3;have z3:(if es'.length<=aF then Rd.ok (.lst es')else .no)=.ok d:=z2;unfold alloc at h';by_cases c:es'.length<=aF
       .rw[Jh c]at z3;rw[Jh (by lia)]at h';cases z3;cases h';have hlt:=ao.lt es' ys B3 r3;refine⟨m.length::B3,aM.mpr ⟨_,ys,B3,rfl,rfl,by simp,ao.frame es' ys B3 (λl hl o q=>Le.app m _ l o q) r3⟩,QA.mpr ⟨λq=>by have:=hlt _ q;lia,n3⟩,λb hb=>?_⟩;rcases Qk.mp hb with rfl|hb
        .exact I.lom
        .exact (I.bd j b (hB b (Qh _ (s3 b hb)))).1
       .rw[Ji c]at z3;cases z3
     |_=>cases z'
   |_=>cases z'
theorem rW:∀{ks:List (List Int)}{ds:List Dat}{xs:List Wd}{A:List Nat},ao m ds xs A->A.Nodup->bO ks ds q=some d->∃x B,bO ks xs q=some x/\aR m d x B/\B.Nodup/\∀b∈B,b∈A
 |[],_,_,_,_,_,h=>by cases h
 |k::ks,[],_,_,_,_,h=>by cases h
 |k::ks,e::ds,xs,A,o,nd,h=>by
  obtain⟨x,r,B,C,rfl,rfl,o1,o2⟩:=o.cons_inv;have h':(if k=q then some e else bO ks ds q)=some d:=h;obtain⟨n1,n2,_⟩:=Qn.mp nd;by_cases c:k=q
  .rw[Jh c]at h';cases h';exact⟨x,B,Jh c,o1,n1,λb hb=>Q3 _ hb⟩
  .rw[Ji c]at h';obtain⟨y,B',e1,e2,e3,e4⟩:=rW o2 n2 h';exact⟨y,B',(Ji c).trans e1,e2,e3,λb hb=>Qt _ (e4 b hb)⟩
def Cj (H:bn lev cl cd)(I:Inv lo RR m de lv env A)(hj:lv[j]?=some .full)(z:az cd (.dget (.var j) k) de=.ok d)(h2:ae cl (.dget (.var j) k) env m=.ok w m1):∃B,a9 (λx=>RR x/\x∉B) m1 .full d w B/\B.Nodup/\∀b∈B,lo<=b:=by
 have z':((az cd (.var j) de).bind λx=>(az cd k de).bind λy=>kg x y)=.ok d:=z;have h':((ae cl (.var j) env m).bind λx m1=>(ae cl k env m1).bind λy m2=>vF x y m2)=.ok w m1:=h2;cases q1:az cd (.var j) de with
 |no=>rw[q1]at z';cases z'
 |ok dj=>
  cases q2:az cd k de with
  |no=>rw[q1,q2]at z';cases z'
  |ok dk=>
   rw[q1,q2]at z';simp only[Rd.bind]at z';obtain⟨wj,ej,oj⟩:=I.slot j dj .full (wD q1) hj;obtain⟨wk,mk,e2,l2,r2⟩:=I.ok H.r q2 (Le.refl m);cases dj with
   |dct ks ds=>
    have z2:(match (xQ dk).bind (bO ks ds)with|some v=>Rd.ok v|none=>.no)=.ok d:=z';cases q3:xQ dk with
    |none=>rw[q3]at z2;cases z2
    |some q=>
     rw[q3]at z2;simp only[Q6]at z2;cases q4:bO ks ds q with
     |none=>rw[q4]at z2;cases z2
     |some v=>
      rw[q4]at z2;cases z2;obtain⟨l,xs,B,rfl,hA,hm,o2⟩:=bA.mp oj;have nd:=I.nd j;rw[hA,QA]at nd;obtain⟨x,B',a1,a2,a3,a4⟩:=rW o2 nd.2 q4;rw[y6 ej m]at h';simp only[Rz.bind,e2]at h';have h3:(match mk[l]? with
       |some (.dct ks ws)=>match (jf wk).bind (bO ks ws)with
        |some v=>Rz.ok v mk
        |none=>.no
       |_=>.no)=.ok w m1:=h'
      rw[l2 l _ hm]at h3;simp only[wE r2 q3,Q6,a1]at h3;cases h3;refine⟨B',aR.frame _ _ B' (λb hb o ho=>l2 b o ho) a2,a3,λb hb=>(I.bd j b ?_).1⟩;rw[hA];exact Qh _ (a4 b hb)
   |_=>cases z'
set_option tactic.hygienic true in
def Cb (H:bn lev cl cd)(I:Inv lo RR m de lv env A)(e:Ex):aC lo RR A m (bi cl (.ret e) env m) (aU lev cd (.ret e) de lv):=by
 show aC _ _ _ _ ((ae cl e env m).bindS env _) ((az cd e de).bindS _);cases z:az cd e de with
 |no=>trivial
 |ok d=>
  obtain⟨w,m1,h2,l1,r1⟩:=I.ok H.r z (Le.refl m);rw[h2];show aC lo RR A m (.ret w m1) (.ret d (ee lev e d lv));have kp:(∀(x:Nat) o,(∀i,x∉A i)->m[x]?=some o->m1[x]?=some o)/\m.length<=m1.length:=⟨λx o _ b=>l1 x o b,l1.len⟩;have no:a9 (λx=>RR x/\x∉([]:List Nat)) m1 .no d w []:=⟨ag.frame (λx o r z=>⟨⟨r,by simp⟩,z⟩) _ _ r1,rfl⟩;by_cases f:aA d=true
  .refine ⟨w,m1,[],rfl,kp,?_,QK,by simp⟩;unfold ee;rw[Jh f];exact r1.flat d w f
  .unfold ee;rw[Ji f];split
   .next i=>
    have hdi:de[i]?=some (some d):=by
     exact wD z
    obtain⟨l,hl⟩:=I.getlv hdi;obtain⟨w',he,ro⟩:=I.slot i d l hdi hl;rw[y6 he m]at h2;cases h2;rw[hl];refine⟨_,_,A i,rfl,kp,?_,I.nd i,λb hb=>(I.bd i b hb).1⟩;exact ro.frame (λx o r z=>⟨⟨r.1,r.2 i⟩,z⟩) (λ_ _ _ z=>z)
   .next a b=>
    split
    .next c=>
     obtain⟨hab,ha,hb⟩:=c;have:∃da db,de[a]?=some (some da)/\de[b]?=some (some db)/\d=.tup [da,db]:=by
      have hz:az cd (.tup (.pair (.var a) (.pair (.var b) .unit))) de=((az cd (.var a) de).bind λx=>((az cd (.var b) de).bind λy=>.ok (.tup [y])).bind λy=>.ok (.tup (x::zt y))).bind λx=>if(zt x).length<=aF then .ok (.tup (zt x))else .no:=rfl;rw[hz]at z;cases q1:de[a]? with
      |none=>rw[yB (.inl q1)]at z;cases z
      |some o=>cases o with
       |none=>rw[yB (.inr q1)]at z;cases z
       |some da=>
        rw[xy q1]at z;cases q2:de[b]? with
        |none=>rw[yB (.inl q2)]at z;cases z
        |some o=>cases o with
         |none=>rw[yB (.inr q2)]at z;cases z
         |some db=>
          rw[xy q2]at z;simp[Rd.bind,zt,aF]at z;exact⟨da,db,rfl,rfl,z.symm⟩
     obtain⟨da,db,h3,h4,rfl⟩:=this;obtain⟨wa,ea,oa⟩:=I.slot a da .full h3 ha;obtain⟨wb,eb,ob⟩:=I.slot b db .full h4 hb;have hw:ae cl (.tup (.pair (.var a) (.pair (.var b) .unit))) env m=.ok (.tup [wa,wb]) m:=by
      show(((ae cl (.var a) env m).bind λx m1=>((ae cl (.var b) env m1).bind λy m2=>.ok (.tup [y]) m2).bind λy m2=>.ok (.tup (x::zj y)) m2).bind λx m1=>if(zj x).length<=aF then .ok (.tup (zj x)) m1 else .no)=_;rw[y6 ea m];simp only[Rz.bind];rw[y6 eb m];simp[zj,aF]
     rw[hw]at h2;cases h2;refine⟨_,_,A a++(A b++[]),rfl,kp,bm.mpr ⟨_,rfl,.cons oa (.cons ob .nil)⟩,?_,?_⟩
     .rw[QW];exact Qn.mpr ⟨I.nd a,I.nd b,λx hx y hy e=>hab (I.dj a b x hx (by rw[e];exact hy))⟩
     .intro x hx;rw[QW]at hx;rcases Ql.mp hx with q|q
      .exact (I.bd a x q).1
      .exact (I.bd b x q).1
    .exact ⟨w,m1,[],rfl,kp,no,QK,by simp⟩
   .next j k=>
    split
    .next hj=>
     obtain⟨B,ro,nd,hB⟩:=Er I hj z h2;exact⟨w,m1,B,rfl,kp,ro,nd,hB⟩
    .exact ⟨w,m1,[],rfl,kp,no,QK,by simp⟩
   .next j k=>
    split
    .next hj=>
     obtain⟨B,ro,nd,hB⟩:=Cj H I hj z h2;exact⟨w,m1,B,rfl,kp,ro,nd,hB⟩
    .exact ⟨w,m1,[],rfl,kp,no,QK,by simp⟩
   .obtain ⟨B,ro,nd,hB⟩:=I.own H z h2;exact⟨w,m1,B,rfl,kp,ro,nd,λb hb=>Qs I.lom (hB b hb)⟩
set_option tactic.hygienic true in
theorem yT(H:bn lev cl cd):∀(s:Sm) (m:Me) (de:aK) (lv:List Lv) (env:En) (A:Nat->List Nat),Inv lo RR m de lv env A->aC lo RR A m (bi cl s env m) (aU lev cd s de lv)
 |.skip,m,de,lv,env,A,I=>by show aC _ _ _ _ (.next env m) (.next de lv);exact⟨env,m,A,rfl,I,aV.refl A m⟩
 |.seq a b,m,de,lv,env,A,I=>by
  have h:=yT H a m de lv env A I;rw[rA];show aC _ _ _ _ (match bi cl a env m with
   |.next e1 m1=>bi cl b e1 m1
   |r=>r) _
  cases z:aU lev cd a de lv with
  |next d1 l1=>
   rw[z]at h;obtain⟨e1,m1,A1,h1,I1,K1⟩:=h;rw[h1];exact aC.keep K1 (yT H b m1 d1 l1 e1 A1 I1)
  |ret d l=>
   rw[z]at h;obtain⟨w,m1,B,h1,k⟩:=h;rw[h1];exact⟨w,m1,B,rfl,k⟩
  |no=>trivial
 |.asg i e,m,de,lv,env,A,I=>BF H I i e
 |.dput j k e,m,de,lv,env,A,I=>Cn H I j k e
 |.forD i x body,m,de,lv,env,A,I=>Cm (cl:=cl) (bw:=λx e m=>bi cl body (e.set i (some x)) m) (bd:=λx de lv=>aU lev cd body (de.set i (some x)) (lv.set i (cJ x))) (λx w m de lv env A I r=>by
   obtain⟨I1,K1⟩:=I.bindSlot i r;exact aC.keep K1 (yT H body m _ _ _ _ I1)) I x
 |.asgS o k e,m,de,lv,env,A,I=>by
  cases o with
  |var j=>exact Cq H I j k e
  |idx a r=>
   cases a with
   |var j=>exact Cp H I j r k e
   |_=>exact trivial
  |_=>exact trivial
 |.aug i op e,m,de,lv,env,A,I=>Ce H I i op e
 |.ite c a b,m,de,lv,env,A,I=>by
  refine I.bindE H.r c λd w m1 _ _ l1 r1=>?_;cases d with
  |bl t=>
   rw[ai.mp r1];cases t with
   |true=>exact yT H a m1 de lv env A (I.ext l1)
   |false=>exact yT H b m1 de lv env A (I.ext l1)
  |_=>trivial
 |.forv i it body,m,de,lv,env,A,I=>by
  refine rY H (λx w m de lv env A I r=>?_) I it;obtain⟨I1,K1⟩:=I.bindSlot i r;exact aC.keep K1 (yT H body _ _ _ _ _ I1)
 |.fort i j it body,m,de,lv,env,A,I=>by
  refine rY H (λx w m de lv env A I r=>?_) I it;split
  .next a b=>
   obtain⟨xs,rfl,r1⟩:=ah.mp r;obtain⟨x,r2,rfl,ra,rb⟩:=r1.cons_inv;obtain⟨y,r3,rfl,rb,rn⟩:=rb.cons_inv;rw[rn.nil_inv];obtain⟨I1,K1⟩:=I.bindSlot i ra;obtain⟨I2,K2⟩:=I1.bindSlot j (K1.rep rb);exact aC.keep (K1.trans K2) (yT H body _ _ _ _ _ I2)
  .trivial
 |.forE i j a body,m,de,lv,env,A,I=>by
  refine Ck H (λp w1 w2 m de lv env A I ra rb=>?_) I a;obtain⟨I1,K1⟩:=I.bindSlot i ra;obtain⟨I2,K2⟩:=I1.bindSlot j (K1.rep rb);exact aC.keep (K1.trans K2) (yT H body _ _ _ _ _ I2)
 |.while c body,m,de,lv,env,A,I=>by
  refine kU (λm de lv env A I=>?_) (λm de lv env A I=>yT H body m de lv env A I) _ m de lv env A I;have h:=zd H.r c RR m de env (I.envR _);cases z:az cd c de with
  |no=>trivial
  |ok d=>rw[z]at h;obtain⟨w,m1,h1,l1,r1⟩:=h;exact⟨w,m1,h1,l1,I.rf r1⟩
 |.ret e,m,de,lv,env,A,I=>Cb H I e
 |.expr e,m,de,lv,env,A,I=>by
  have dflt:aC lo RR A m (bi cl (.expr e) env m) ((az cd e de).bindS λ_=>.next de lv):=by
   exact I.bindE H.r e λd w m1 _ _ l1 _=>⟨env,m1,A,rfl,I.ext l1,aV.refl A m1⟩
  cases e with
  |meth n o a=>
   cases n with
   |append=>
    cases o with
    |var j=>
     cases a with
     |pair e u=>cases u with
      |unit=>exact Cs H I j e
      |_=>exact trivial
     |_=>exact trivial
    |_=>exact trivial
   |reverse=>
    cases o with
    |var j=>
     cases a with
     |unit=>exact Cr (cl:=cl) (cd:=cd) (lev:=lev) I j
     |_=>exact trivial
    |_=>exact trivial
   |_=>exact trivial
  |_=>exact dflt
 |.never,m,de,lv,env,A,I=>by exact trivial
end
def kX{α β:Type}(f:α->β)(z:β)(xs:List α)(n i:Nat):(xs.map f++QJ n z)[i]?=if i<xs.length then(xs[i]?).map f else if i<xs.length+n then some z else none:=by
 rw[List.getElem?_append,QN];split
 .rw[Qu]
 .rw[Vd];by_cases h:i-xs.length<n
  .rw[Jh h,Jh (by lia)]
  .rw[Ji h,Ji (by lia)]
set_option tactic.hygienic true in
def Ed (fn:Fn)(h:ab R m ds ws):Inv m.length (Rf R m.length) m (xB fn ds) (xX fn ds) (xa fn ws) (λ_=>[]):=by
 have hl:=h.len;refine⟨?_,?_,λl hl=>.inr hl,Qf _,?_,λ_=>QK,(λ_ _ _ h=>by cases h),(λ_ _ h=>by cases h)⟩
 .simp[xB,xa,hl]
 .simp[xB,xX]
 .intro i d l h1 h2;unfold xB at h1;unfold xX at h2;rw[kX]at h1 h2;by_cases hi:i<ds.length
  .rw[Jh hi]at h1 h2;obtain⟨d',e1,e2⟩:=QG.mp h1;cases e2;rw[e1]at h2;cases h2;obtain⟨w,hw,r⟩:=h.get e1;refine⟨w,?_,?_⟩
   .unfold xa;rw[kX,Jh (by lia),hw];rfl
   .unfold cJ;split
    .next f=>exact r.flat d w f
    .exact ⟨ag.frame (λx o r z=>⟨⟨.inl r,λ_ h=>by cases h⟩,z⟩) _ _ r,rfl⟩
  .rw[Ji hi]at h1;split at h1<;>cases h1
set_option tactic.hygienic true in
def Ca (H:bn lev cl cd)(k:Nat)(fn:Fn)(ds:List Dat)(ws:List Wd)(R:Nat->Prop)(m:Me)(h:ab R m ds ws):aI R m (xz lev k) (jh cl fn ws m) (jM lev cd k fn ds):=by
 unfold jh jM;rw[h.len];split
 .have s:=yT H fn.body m _ _ _ _ (Ed fn h);cases z:aU lev cd fn.body (xB fn ds) (xX fn ds)with
  |next d1 l1=>
   rw[z]at s;obtain⟨e1,m1,A1,h1,I1,K1⟩:=s;rw[h1];refine⟨.non,m1,[],rfl,λl o q=>(K1.1 l o (λ_ h=>by cases h) q).2,?_,QK,by simp⟩;unfold xz a9 aR;simp[aA]
  |ret d l=>
   rw[z]at s;obtain⟨w,m1,B,h1,⟨kp,_⟩,ro,nd,hB⟩:=s;rw[h1];have le:Le m m1:=λl o q=>kp l o (λ_ h=>by cases h) q;show aI R m (xz lev k) (.ok w m1) (if aA d || zgD l (lev k)then .ok d else .no);split
   .next c=>
    by_cases f:aA d=true
    .refine ⟨w,m1,[],rfl,le,?_,QK,by simp⟩;unfold xz;rw[Jh f];exact(ro.rep (R':=λ_=>True) (λ_ _=>trivial) (λ_ _=>trivial)).flat d w f
    .have g:zgD l (lev k)=true:=by simpa [f]using c
     unfold aI xz;simp only[Ji f];cases e:lev k with
     |no=>
      refine⟨w,m1,[],rfl,le,⟨?_,rfl⟩,QK,by simp⟩;exact ro.rep (λx r=>⟨r.1,by simp⟩) (λb hb=>⟨.inr (hB b hb),by simp⟩)
     |top=>
      rw[e]at g;cases l with
      |top=>exact⟨w,m1,B,rfl,le,ro,nd,hB⟩
      |no=>cases g
      |full=>cases g
     |full=>
      rw[e]at g;cases l with
      |full=>exact⟨w,m1,B,rfl,le,ro,nd,hB⟩
      |no=>cases g
      |top=>cases g
   .trivial
  |no=>trivial
 .trivial
theorem qr(lev:Nat->Lv)(T:List Fn):∀d:Nat,bn lev (yE T d) (ki lev T d)
 |0=>λk ds ws R m h=>trivial
 |d+1=>λk ds ws R m h=>by
  unfold yE ki;cases T[k]? with
  |none=>trivial
  |some fn=>exact Ca (qr lev T d) k fn ds ws R m h
def B9(lev:Nat->Lv)(T:List Fn)(d i:Nat)(ns:List Int)(h:ki lev T d i [.scr ns]=.ok (.bl true)):∃m,yE T d i [.rol (ns.map Wd.int)] []=.ok (.bl true) m:=by
 have s:=qr lev T d i [.scr ns] [.rol (ns.map Wd.int)] (λ_=>True) [] (.cons (aT.mpr rfl) .nil);rw[h]at s;obtain⟨w,m',h1,_,r⟩:=s.sim;rw[ai.mp r]at h1;exact⟨m',h1⟩
section
variable(lev:Nat->Lv)(cl:Nat->List Dat->Rd)(de:aK)(lv:List Lv)
@[simp]theorem Rd.bind_ok(d:Dat)(f:Dat->Rd):(Rd.ok d).bind f=f d:=rfl
@[simp]theorem Rd.bindS_ok(d:Dat)(f:Dat->bI):(Rd.ok d).bindS f=f d:=rfl
@[simp]theorem Rd.okS_ok(d:Dat)(f:Dat->bI):(Rd.ok d).okS f=f d:=rfl
@[simp]theorem Ep(i:Int):az cl (.lit (.int i)) de=.ok (.int i):=rfl
@[simp]theorem GG(i:Bool):az cl (.lit (.bl i)) de=.ok (.bl i):=rfl
@[simp]theorem GP:az cl (.lit .non) de=.ok .non:=rfl
@[simp]theorem GO(s:List Nat):az cl (.lit (.str s)) de=.ok (.str s):=rfl
@[simp]theorem u7(op:Bo)(a b:Ex):az cl (.bin op a b) de=(az cl a de).bind λx=>(az cl b de).bind λy=>yK op x y:=rfl
@[simp]theorem Go(op:Co)(a b:Ex):az cl (.cmp op a b) de=(az cl a de).bind λx=>(az cl b de).bind λy=>xM op x y:=rfl
@[simp]theorem B8:az cl .unit de=.ok (.tup []):=rfl
@[simp]theorem B7(a b:Ex):az cl (.pair a b) de=(az cl a de).bind λx=>(az cl b de).bind λy=>.ok (.tup (x::zt y)):=rfl
@[simp]theorem B6(k:Nat)(a:Ex):az cl (.call k a) de=(az cl a de).bind λx=>cl k (zt x):=rfl
@[simp]theorem Gn(b:df)(a:Ex):az cl (.blt b a) de=(az cl a de).bind λx=>kr b (zt x):=rfl
@[simp]theorem Gm(t:Tg)(a:Ex):az cl (.isi t a) de=(az cl a de).bind λx=>.ok (.bl (hG t x)):=rfl
@[simp]theorem Gj(a b:Ex):az cl (.idx a b) de=(az cl a de).bind λx=>(az cl b de).bind λy=>wB x y:=rfl
@[simp]theorem Gi(a:Ex):az cl (.lst a) de=(az cl a de).bind λx=>bu (zt x):=rfl
@[simp]theorem Gh(a:Ex):az cl (.tup a) de=(az cl a de).bind λx=>if(zt x).length<=aF then .ok (.tup (zt x))else .no:=rfl
@[simp]theorem Gg(a b c:Ex):az cl (.rng a b c) de=(az cl a de).bind λx=>(az cl b de).bind λy=>(az cl c de).bind λz=>fC x y z:=rfl
@[simp]theorem B5(d:Dat)(r:aK):az cl (.var 0) (some d::r)=.ok d:=rfl
@[simp]theorem Gw(i:Nat)(d:Option Dat)(r:aK):az cl (.var (i+1)) (d::r)=az cl (.var i) r:=rfl
@[simp]theorem Fs(a:Ex):az cl (.neg a) de=(az cl a de).bind λx=>match x with
  |.int i=>.ok (.int (-i))
  |_=>.no:=rfl
@[simp]theorem Fq(a:Ex):az cl (.not a) de=(az cl a de).bind λx=>match x with
  |.bl b=>.ok (.bl (! b))
  |_=>.no:=rfl
@[simp]theorem Fp(a b:Ex):az cl (.and a b) de=(az cl a de).bind λx=>match x with
  |.bl true=>az cl b de
  |.bl false=>.ok (.bl false)
  |_=>.no:=rfl
@[simp]theorem tI(a b:Ex):az cl (.or a b) de=(az cl a de).bind λx=>match x with
  |.bl false=>az cl b de
  |.bl true=>.ok (.bl true)
  |_=>.no:=rfl
@[simp]theorem FP(p q:Co)(a b c:Ex):az cl (.chain p q a b c) de=(az cl a de).bind λx=>(az cl b de).bind λy=>(xM p x y).bind λz=>match z with
  |.bl true=>(az cl c de).bind λu=>xM q y u
  |.bl false=>.ok (.bl false)
  |_=>.no:=rfl
@[simp]theorem Fo(c a b:Ex):az cl (.ife c a b) de=(az cl c de).bind λx=>match x with
  |.bl true=>az cl a de
  |.bl false=>az cl b de
  |_=>.no:=rfl
@[simp]theorem Fm(a b:Int):cG (.int a) (.int b)=decide (a=b):=rfl
@[simp]theorem Fl(a b:Bool):cG (.bl a) (.bl b)=(a==b):=rfl
@[simp]theorem Fk(a b:List Nat):cG (.str a) (.str b)=decide (a=b):=rfl
@[simp]theorem Fj(a b:List Dat):cG (.tup a) (.tup b)=bZ a b:=rfl
@[simp]theorem Fi(a b:List Dat):cG (.lst a) (.lst b)=bZ a b:=rfl
@[simp]theorem FN(k:Nat)(a:Int):yL (k+1) (.int a)=true:=rfl
@[simp]theorem Gd(k:Nat)(a:Bool):yL (k+1) (.bl a)=true:=rfl
@[simp]theorem FM(k:Nat)(a:List Nat):yL (k+1) (.str a)=true:=rfl
@[simp]theorem FL(k:Nat):yL (k+1) .non=true:=rfl
@[simp]theorem FK(k:Nat)(a:List Dat):yL (k+1) (.tup a)=bt k a:=rfl
@[simp]theorem FJ(k:Nat)(a:List Dat):yL (k+1) (.lst a)=bt k a:=rfl
@[simp]theorem GF(k:Nat):bt k []=true:=rfl
@[simp]theorem GN(k:Nat)(d:Dat)(a:List Dat):bt k (d::a)=(yL k d&&bt k a):=rfl
@[simp]theorem Gc:zS=11+1:=rfl
@[simp]theorem tK(i j:Int):xM .lt (.int i) (.int j)=.ok (.bl (decide (i<j))):=rfl
@[simp]theorem tL(i j:Int):xM .le (.int i) (.int j)=.ok (.bl (decide (i<=j))):=rfl
@[simp]theorem tM(i j:Int):xM .eq (.int i) (.int j)=.ok (.bl (decide (i=j))):=rfl
@[simp]theorem tJ(i j:Int):xM .ne (.int i) (.int j)=.ok (.bl (! decide (i=j))):=rfl
@[simp]theorem Fh(i j:Bool):xM .eq (.bl i) (.bl j)=.ok (.bl (i==j)):=rfl
@[simp]theorem Fg(i j:Bool):xM .ne (.bl i) (.bl j)=.ok (.bl (!(i==j))):=rfl
@[simp]theorem u6(i j:Int):yK .add (.int i) (.int j)=.ok (.int (i+j)):=rfl
@[simp]theorem Fe(i j:Int):yK .sub (.int i) (.int j)=.ok (.int (i-j)):=rfl
def AB(i j:Int)(h:xk i=true):yK .mul (.int i) (.int j)=.ok (.int (i*j)):=by simp[yK,h]
def u5(i j:Int)(h:0<j):yK .mod (.int i) (.int j)=.ok (.int (i%j)):=by simp[yK,h]
@[simp]theorem Ci(xs:List Dat):zt (.tup xs)=xs:=rfl
@[simp]theorem Gb(xs:List Dat):kr .len [.lst xs]=.ok (.int xs.length):=rfl
@[simp]theorem Ga(xs:List Dat):kr .len [.tup xs]=.ok (.int xs.length):=rfl
@[simp]theorem F9(ns:List Int):kr .len [.scr ns]=.ok (.int ns.length):=by simp[kr,xh]
@[simp]theorem Fd(b:Bool):kr .int [.bl b]=.ok (.int (b2i b)):=rfl
def uZ (h:i<n):ix n (i:Int)=some i:=by unfold ix;rw[Jh (by lia),Jh (by lia)];simp
@[simp]theorem FI(a c:Int)(n:Nat):(yR a c n).length=n:=by simp[yR]
@[simp]theorem GE(a c:Int):∀(n:Nat),ba (yR a c n)=true:=by
 intro n;unfold yR;generalize Wn n=l
 induction l with
 |nil=>rfl
 |cons x l ih=>simp[ba,aA,ih]
@[simp]theorem FH(xs:List Dat):aA (.tup xs)=ba xs:=by rw[aA]
@[simp]theorem FG(xs:List Dat):aA (.lst xs)=false:=by rw[aA]
@[simp]theorem FF(i:Int):aA (.int i)=true:=by rw[aA]
@[simp]theorem F8(i:Bool):aA (.bl i)=true:=by rw[aA]
@[simp]theorem FE:aA .non=true:=by rw[aA]
@[simp]theorem FD(s:List Nat):aA (.str s)=true:=by rw[aA]
@[simp]theorem FC(s:List Int):aA (.scr s)=true:=by rw[aA]
@[simp]theorem GD:ba []=true:=by rw[ba]
@[simp]theorem GM(d:Dat)(ds:List Dat):ba (d::ds)=(aA d&&ba ds):=by rw[ba]
@[simp]theorem GL(l:List Int):ba (l.map Dat.int)=true:=by
 induction l with
 |nil=>rfl
 |cons x l ih=>simp[ih]
@[simp]theorem Fc(xs:List Dat):cR (.tup xs)=some xs:=rfl
@[simp]theorem Fb(xs:List Int):cR (.scr xs)=some (xs.map .int):=rfl
@[simp]theorem F7:aU lev cl .skip de lv=.next de lv:=rfl
@[simp]theorem Fa(e:Ex):aU lev cl (.ret e) de lv=(az cl e de).bindS λd=>.ret d (ee lev e d lv):=rfl
@[simp]theorem uY(i:Nat)(e:Ex):aU lev cl (.asg i e) de lv=(az cl e de).bindS λd=>dR lev i e d de lv:=rfl
@[simp]theorem E9(c:Ex)(a b:Sm):aU lev cl (.ite c a b) de lv=(az cl c de).bindS λx=>match x with
  |.bl true=>aU lev cl a de lv
  |.bl false=>aU lev cl b de lv
  |_=>.no:=rfl
def Ch {lev:Nat->Lv}{de:aK}{lv:List Lv}(h:aA d=true):dR lev i e d de lv=.next (de.set i (some d)) (lv.set i .full):=by
 unfold dR;rw[Jh (wG lev e d h)]
end
namespace Lib
end Lib
section
variable(lev:Nat->Lv)(cl:Nat->List Dat->Rd)(de:aK)(lv:List Lv)
@[simp]theorem E8(i:Nat)(op:Bo)(e:Ex):aU lev cl (.aug i op e) de lv=match de[i]? with
  |some (some (.int a))=>(az cl e de).okS λy=>match y with
   |.int b=>(yK op (.int a) (.int b)).okS λz=>.next (de.set i (some z)) (lv.set i .full)
   |_=>.no
  |_=>.no:=rfl
@[simp]theorem F6(j:Nat)(e:Ex):aU lev cl (.expr (.meth .append (.var j) (.pair e .unit))) de lv=(az cl e de).okS λd=>match jL de j with
   |some ds=>if ds.length<aF then match ql lev e d j de lv with
    |some (de1,lv1)=>.next (de1.set j (some (.lst (ds++[d])))) lv1
    |none=>.no
    else .no
   |none=>.no:=rfl
@[simp]theorem F5(j:Nat):aU lev cl (.expr (.meth .reverse (.var j) .unit)) de lv=match jL de j with
   |some ds=>if ym lv j then .next (de.set j (some (.lst ds.reverse))) lv else .no
   |none=>.no:=rfl
noncomputable def bI.then(r:bI)(f:aK->List Lv->bI):bI:=match r with
 |.next d l=>f d l
 |r=>r
@[simp]theorem GC(d:aK)(l:List Lv)(f:aK->List Lv->bI):(bI.next d l).then f=f d l:=rfl
@[simp]theorem FB(d:Dat)(l:Lv)(f:aK->List Lv->bI):(bI.ret d l).then f=.ret d l:=rfl
def zK (h:yu a b=none):aU lev cl (.seq a b) de lv=(aU lev cl a de lv).then (aU lev cl b):=by
 rw[rA];cases aU lev cl a de lv<;>rfl
def Cg(a:Sm)(c d:Sm):yu a (.seq c d)=none:=rfl
@[simp]theorem E7(a:Sm)(c d:Sm):aU lev cl (.seq a (.seq c d)) de lv=(aU lev cl a de lv).then (aU lev cl (.seq c d)):=zK lev cl de lv (Cg a c d)
def Cf(a:Sm)(e:Ex):yu a (.ret e)=none:=rfl
@[simp]theorem E6(a:Sm)(e:Ex):aU lev cl (.seq a (.ret e)) de lv=(aU lev cl a de lv).then (aU lev cl (.ret e)):=zK lev cl de lv (Cf a e)
def CW(a:Sm)(c:Ex)(x y:Sm):yu a (.ite c x y)=none:=rfl
@[simp]theorem E5(a:Sm)(c:Ex)(x y:Sm):aU lev cl (.seq a (.ite c x y)) de lv=(aU lev cl a de lv).then (aU lev cl (.ite c x y)):=zK lev cl de lv (CW a c x y)
def Ec(a:Sm)(i:Nat)(e:Ex)(x:Sm):yu a (.forv i e x)=none:=rfl
@[simp]theorem F4(a:Sm)(i:Nat)(e:Ex)(x:Sm):aU lev cl (.seq a (.forv i e x)) de lv=(aU lev cl a de lv).then (aU lev cl (.forv i e x)):=zK lev cl de lv (Ec a i e x)
def Eb(a:Sm)(i j:Nat)(e:Ex)(x:Sm):yu a (.fort i j e x)=none:=rfl
@[simp]theorem F3(a:Sm)(i j:Nat)(e:Ex)(x:Sm):aU lev cl (.seq a (.fort i j e x)) de lv=(aU lev cl a de lv).then (aU lev cl (.fort i j e x)):=zK lev cl de lv (Eb a i j e x)
def Eo(a:Sm)(e:Ex)(x:Sm):yu a (.while e x)=none:=rfl
@[simp]theorem FA(a:Sm)(e:Ex)(x:Sm):aU lev cl (.seq a (.while e x)) de lv=(aU lev cl a de lv).then (aU lev cl (.while e x)):=zK lev cl de lv (Eo a e x)
def CV(a:Sm)(i:Nat)(e:Ex):yu a (.asg i e)=none:=rfl
@[simp]theorem EZ(a:Sm)(i:Nat)(e:Ex):aU lev cl (.seq a (.asg i e)) de lv=(aU lev cl a de lv).then (aU lev cl (.asg i e)):=zK lev cl de lv (CV a i e)
def Ea(a:Sm)(o i e:Ex):yu a (.asgS o i e)=none:=rfl
@[simp]theorem F2(a:Sm)(o i e:Ex):aU lev cl (.seq a (.asgS o i e)) de lv=(aU lev cl a de lv).then (aU lev cl (.asgS o i e)):=zK lev cl de lv (Ea a o i e)
def CU(a:Sm)(i:Nat)(op:Bo)(e:Ex):yu a (.aug i op e)=none:=rfl
@[simp]theorem EY(a:Sm)(i:Nat)(op:Bo)(e:Ex):aU lev cl (.seq a (.aug i op e)) de lv=(aU lev cl a de lv).then (aU lev cl (.aug i op e)):=zK lev cl de lv (CU a i op e)
def D9(a:Sm)(e:Ex):yu a (.expr e)=none:=rfl
@[simp]theorem F1(a:Sm)(e:Ex):aU lev cl (.seq a (.expr e)) de lv=(aU lev cl a de lv).then (aU lev cl (.expr e)):=zK lev cl de lv (D9 a e)
def D8(a:Sm): yu a .skip=none:=rfl
@[simp]theorem F0(a:Sm): aU lev cl (.seq a .skip) de lv=(aU lev cl a de lv).then (aU lev cl .skip):=zK lev cl de lv (D8 a)
def Em(a:Sm): yu a .never=none:=rfl
@[simp]theorem Fz(a:Sm): aU lev cl (.seq a .never) de lv=(aU lev cl a de lv).then (aU lev cl .never):=zK lev cl de lv (Em a)
end
namespace Lib
section
noncomputable def fk(r:List Int):Dat:=.lst (r.map .int)
noncomputable def dN(R:List (List Int)):Dat:=.lst (R.map fk)
end
end Lib
namespace Lib
section
noncomputable def S(R:List (List Int))(r c:Nat):Int:=((R.take r).map (λx=>x.getD c 0)).sum
def ac(R:List (List Int))(r c:Nat):Int:=((R.getD r []).take c).sum
end
end Lib
namespace Lib
section
variable{lev:Nat->Lv}{cl:Nat->List Dat->Rd}{k:Nat}
noncomputable def qt:Fn:=⟨2,2,(.seq (.ite (.cmp .lt (.var 1) (.blt .len (.pair (.var 0) .unit))) (.ret (.idx (.var 0) (.var 1))) .skip) (.ret (.bin .add (.bin .mul (.lit (.int 2)) (.var 1)) (.lit (.int 1)))))⟩
def CT(ns:List Int)(i:Nat):∃c:Int,jM lev cl k qt [.scr ns,.int i]=.ok (.int c):=by
 by_cases h:i<ns.length
 .refine ⟨ns[i],?_⟩;have h1:wB (.scr ns) (.int (i:Int))=.ok (.int ns[i]):=by simp[wB,xh,uZ h,h]
  simp[jM,qt,xB,xX,eG,ee,h,h1]
 .refine ⟨2*i+1,?_⟩;simp[jM,qt,xB,xX,eG,ee,h,AB 2 i (by decide)]
end
end Lib
end Vl
end Mini
namespace Mini
open PySem
def aw.p{C:Ctx}{sc:GR}{N:List Str}{a b:Ex}{x:Expr}{xs:List Expr}(ha:aw C sc N a (.e x))(hb:aw C sc N b (.a xs))(hs:zh x=true:=by rfl)(ra:zg a=false:=by rfl): aw C sc N (.pair a b) (.a (x :: xs)):=.pair hs ra ha hb
theorem aw.c{C:Ctx}{sc:GR}{N:List Str}{k:Nat}{a:Ex}{f:Str}{y:Expr}{ys:List Expr}{p p':Pos}(ha:aw C sc N a (.a (y :: ys)))(h1:C.fns[k]? = some f:=by rfl)(h2:cu sc f=true:=by kernel_rfl)(h3:zV f=true:=by kernel_rfl)(hs:(y :: ys).all zh=true:=by rfl): aw C sc N (.call k a) (.e (.Call (.Name f p) (y :: ys) [] p')):=.call h1 h2 h3 hs ha
theorem aw.q{C:Ctx}{sc:GR}{N:List Str}{b:df}{a:Ex}{nm:Str}{f:Value}{y:Expr}{ys:List Expr}{p p':Pos}(ha:aw C sc N a (.a (y :: ys)))(h1:fA b=some (nm,f):=by rfl)(h2:cu sc nm=true:=by kernel_rfl)(h3:zV nm=true:=by kernel_rfl)(hs:(y :: ys).all zh=true:=by rfl): aw C sc N (.blt b a) (.e (.Call (.Name nm p) (y :: ys) [] p')):=.blt h1 h2 h3 hs ha
theorem aw.x{C:Ctx}{sc:GR}{N:List Str}{a b:Ex}{x y:Expr}{p:Pos}(ha:aw C sc N a (.e x))(rb:zg b=false)(hb:aw C sc N b (.e y))(hs:zY y=true:=by rfl)(ra:zg a=false:=by rfl): aw C sc N (.idx a b) (.e (.Subscript x y p)):=.idx hs ra ha rb hb
def aw.k{C:Ctx}{sc:GR}{N:List Str}{op:Co}{a b:Ex}{x y:Expr}{p:Pos}(ha:aw C sc N a (.e x))(rb:zg b=false)(hb:aw C sc N b (.e y))(hs:zW y=true:=by rfl)(ra:zg a=false:=by rfl): aw C sc N (.cmp op a b) (.e (.Compare x [cK op] [y] p)):=.cmp hs ra ha rb hb
theorem bo.s{C:Ctx}{sc:GR}{N:List Str}{i:Nat}{e:Ex}{x:Str}{v:Expr}{p p':Pos}(he:aw C sc N e (.e v))(hc:v8 v=false:=by rfl)(h1:N[i]? = some x:=by rfl)(h2:xx sc x=true:=by kernel_rfl)(hr:zg e=false:=by rfl): bo C sc N (.asg i e) (.s (.Assign [.Name x p] v p')):=.asg hc h1 h2 hr he
end Mini
namespace R72
open PySem L2 Mini
noncomputable def f0:Fn:=⟨1,1,(.ret (.and (.isi .int (.var 0)) (.not (.isi .bool (.var 0)))))⟩
abbrev qdd(a:Str)(i:Nat)(N:List Str)(k:Nat)(f:Fn):a7:=⟨a,top i,N,N.take k,f,a⟩
abbrev d0:=qdd "is_whole" 4 ["thing"] 1 f0
noncomputable def f1:Fn:=⟨2,2,(.ret (.and (.call 0 (.pair (.var 0) .unit)) (.chain .le .le (.lit (.int 1)) (.var 0) (.var 1))))⟩
abbrev d1:=qdd "is_size_to" 5 ["thing","most"] 2 f1
noncomputable def f2:Fn:=⟨2,2,(.ite (.not (.call 1 (.pair (.var 0) (.pair (.var 1) .unit)))) .never .skip)⟩
abbrev d2:=qdd "need_size_to" 6 ["n","most"] 2 f2
noncomputable def f3:Fn:=⟨3,3,(.ret (.and (.chain .le .lt (.lit (.int 0)) (.var 1) (.var 0)) (.chain .le .lt (.lit (.int 0)) (.var 2) (.var 0))))⟩
abbrev d3:=qdd "is_place" 8 ["n","r","c"] 3 f3
noncomputable def f4:Fn:=⟨4,4,(.seq (.ite (.not (.call 3 (.pair (.var 0) (.pair (.var 1) (.pair (.var 2) .unit))))) (.ret (.lit .non)) .skip) (.seq (.ite (.and (.cmp .eq (.var 3) (.lit (.str [85]))) (.cmp .eq (.var 1) (.lit (.int 0)))) (.ret (.var 2)) .skip) (.seq (.ite (.and (.cmp .eq (.var 3) (.lit (.str [82]))) (.cmp .eq (.var 2) (.bin .sub (.var 0) (.lit (.int 1))))) (.ret (.bin .add (.var 0) (.var 1))) .skip) (.seq (.ite (.and (.cmp .eq (.var 3) (.lit (.str [68]))) (.cmp .eq (.var 1) (.bin .sub (.var 0) (.lit (.int 1))))) (.ret (.bin .add (.bin .mul (.lit (.int 2)) (.var 0)) (.bin .sub (.bin .sub (.var 0) (.lit (.int 1))) (.var 2)))) .skip) (.seq (.ite (.and (.cmp .eq (.var 3) (.lit (.str [76]))) (.cmp .eq (.var 2) (.lit (.int 0)))) (.ret (.bin .add (.bin .mul (.lit (.int 3)) (.var 0)) (.bin .sub (.bin .sub (.var 0) (.lit (.int 1))) (.var 1)))) .skip) (.ret (.lit .non)))))))⟩
abbrev d4:=qdd "road_over" 9 ["n","r","c","side"] 4 f4
noncomputable def f5:Fn:=⟨2,4,(.seq (.asg 2 (.bin .fdiv (.var 1) (.var 0))) (.seq (.asg 3 (.bin .mod (.var 1) (.var 0))) (.seq (.ite (.cmp .eq (.var 2) (.lit (.int 0))) (.ret (.tup (.pair (.lit (.int 0)) (.pair (.var 3) (.pair (.lit (.str [85])) .unit))))) .skip) (.seq (.ite (.cmp .eq (.var 2) (.lit (.int 1))) (.ret (.tup (.pair (.var 3) (.pair (.bin .sub (.var 0) (.lit (.int 1))) (.pair (.lit (.str [82])) .unit))))) .skip) (.seq (.ite (.cmp .eq (.var 2) (.lit (.int 2))) (.ret (.tup (.pair (.bin .sub (.var 0) (.lit (.int 1))) (.pair (.bin .sub (.bin .sub (.var 0) (.lit (.int 1))) (.var 3)) (.pair (.lit (.str [68])) .unit))))) .skip) (.ret (.tup (.pair (.bin .sub (.bin .sub (.var 0) (.lit (.int 1))) (.var 3)) (.pair (.lit (.int 0)) (.pair (.lit (.str [76])) .unit))))))))))⟩
abbrev d5:=qdd "place_at" 10 ["n","road","stretch","t"] 2 f5
noncomputable def f6:Fn:=⟨2,2,(.ret (.ife (.cmp .eq (.bin .mod (.bin .add (.var 0) (.var 1)) (.lit (.int 2))) (.lit (.int 0))) (.lit (.str [108,105,103,104,116])) (.lit (.str [100,97,114,107]))))⟩
abbrev d6:=qdd "shade_of" 11 ["i","j"] 2 f6
noncomputable def f7:Fn:=⟨2,5,(.seq (.asg 2 (.lst .unit)) (.seq (.forv 3 (.rng (.lit (.int 1)) (.var 0) (.lit (.int 1))) (.forv 4 (.rng (.lit (.int 1)) (.var 0) (.lit (.int 1))) (.ite (.cmp .eq (.call 6 (.pair (.var 3) (.pair (.var 4) .unit))) (.var 1)) (.expr (.meth .append (.var 2) (.pair (.tup (.pair (.var 3) (.pair (.var 4) .unit))) .unit))) .skip))) (.ret (.var 2))))⟩
abbrev d7:=qdd "squares_within" 12 ["n","shade","points","i","j"] 2 f7
noncomputable def f8:Fn:=⟨1,4,(.seq (.asg 1 (.bin .mul (.lst (.pair (.lit (.int 0)) .unit)) (.blt .len (.pair (.var 0) .unit)))) (.seq (.asg 2 (.lst (.pair (.var 1) .unit))) (.seq (.forv 3 (.var 0) (.seq (.asg 1 (.compP .zip (.bin .add (.var 4) (.var 5)) (.var 1) (.var 3) (.lit (.bl true)))) (.expr (.meth .append (.var 2) (.pair (.var 1) .unit))))) (.ret (.var 2)))))⟩
abbrev d8:=qdd "column_sums" 14 ["state","sums","told","row"] 1 f8
noncomputable def f9:Fn:=⟨2,2,(.ret (.comp (.idx (.var 2) (.var 1)) (.var 0) (.lit (.bl true))))⟩
abbrev d9:=qdd "column_of" 15 ["state","c"] 2 f9
noncomputable def tH:Fn:=⟨1,4,(.seq (.asg 1 (.lit (.int 0))) (.seq (.asg 2 (.lst (.pair (.lit (.int 1)) .unit))) (.seq (.forv 3 (.var 0) (.seq (.aug 1 .add (.var 3)) (.expr (.meth .append (.var 2) (.pair (.bin .sub (.lit (.int 1)) (.bin .mul (.lit (.int 2)) (.var 1))) .unit))))) (.ret (.var 2)))))⟩
abbrev nK:=qdd "across_row" 17 ["row","total","told","sign"] 1 tH
noncomputable def tG:Fn:=⟨1,1,(.ret (.comp (.bin .sub (.bin .mul (.lit (.int 2)) (.var 1)) (.lit (.int 1))) (.var 0) (.lit (.bl true))))⟩
abbrev nJ:=qdd "down_row" 18 ["sums"] 1 tG
noncomputable def tF:Fn:=⟨1,3,(.seq (.asg 1 (.comp (.call 10 (.pair (.var 3) .unit)) (.var 0) (.lit (.bl true)))) (.seq (.asg 2 (.comp (.call 11 (.pair (.var 3) .unit)) (.call 8 (.pair (.var 0) .unit)) (.lit (.bl true)))) (.ret (.tup (.pair (.var 1) (.pair (.var 2) .unit))))))⟩
abbrev nI:=qdd "arrows_of" 19 ["state","across","down"] 1 tF
noncomputable def tE:Fn:=⟨1,1,(.ret (.cmp .eq (.bin .mod (.var 0) (.lit (.int 2))) (.lit (.int 1))))⟩
abbrev nH:=qdd "is_odd" 21 ["number"] 1 tE
noncomputable def tD:Fn:=⟨2,2,(.ret (.compP .enum (.ife (.cmp .eq (.cmp .eq (.var 3) (.lit (.int 1))) (.call 13 (.pair (.bin .add (.var 0) (.var 2)) .unit))) (.lit (.int 1)) (.lit (.int 0))) (.var 1) (.lit (.int 0)) (.lit (.bl true))))⟩
abbrev nG:=qdd "walked_row" 22 ["i","row"] 2 tD
noncomputable def tz:Fn:=⟨1,1,(.ret (.compP .enum (.call 14 (.pair (.var 1) (.pair (.var 2) .unit))) (.var 0) (.lit (.int 0)) (.lit (.bl true))))⟩
abbrev nF:=qdd "walked_grid" 23 ["grid"] 1 tz
noncomputable def tx:Fn:=⟨1,2,(.seq (.asg 1 (.call 12 (.pair (.var 0) .unit))) (.ret (.tup (.pair (.call 15 (.pair (.idx (.var 1) (.lit (.int 0))) .unit)) (.pair (.call 15 (.pair (.idx (.var 1) (.lit (.int 1))) .unit)) .unit)))))⟩
abbrev nE:=qdd "sides_of" 24 ["state","pair"] 1 tx
noncomputable def tw:Fn:=⟨4,6,(.seq (.asg 4 (.call 4 (.pair (.var 0) (.pair (.var 1) (.pair (.var 2) (.pair (.var 3) .unit)))))) (.seq (.ite (.cmp .notN (.var 4) (.lit .non)) (.ret (.var 4)) .skip) (.seq (.asg 5 (.idx (ko (cx (-1) 0) (cx 0 1) (cx 1 0) (cx 0 (-1))) (gc 3 [85] [82] [68] [76]))) (.ret (.tup (.pair (.bin .add (.var 1) (.idx (.var 5) (.lit (.int 0)))) (.pair (.bin .add (.var 2) (.idx (.var 5) (.lit (.int 1)))) .unit)))))))⟩
abbrev nA:=qdd "beyond" 28 ["n","r","c","side","road","step"] 4 tw
noncomputable def tu:Fn:=⟨4,7,(.seq (.asg 4 (.idx (.var 0) (.lit (.int 0)))) (.seq (.asg 5 (.idx (.var 0) (.lit (.int 1)))) (.ret (iu 7 [85] [82] [68] [76] (.idx (.idx (.var 5) (.var 1)) (.var 2)) (.idx (.idx (.var 4) (.var 1)) (.bin .add (.var 2) (.lit (.int 1)))) (.idx (.idx (.var 5) (.bin .add (.var 1) (.lit (.int 1)))) (.var 2)) (.idx (.idx (.var 4) (.var 1)) (.var 2)) (.var 3) (.call 17 (.pair (.blt .len (.pair (.var 4) .unit)) (.pair (.var 1) (.pair (.var 2) (.pair (.var 7) .unit)))))))))⟩
abbrev nz:=qdd "ends_at" 29 ["pair","r","c","mark","across","down","marks"] 4 tu
noncomputable def tt:Fn:=⟨2,6,(.seq (.asg 2 (.call 16 (.pair (.var 0) .unit))) (.seq (.asg 3 .dict0) (.seq (.forv 4 (.rng (.lit (.int 0)) (.blt .len (.pair (.var 0) .unit)) (.lit (.int 1))) (.forv 5 (.rng (.lit (.int 0)) (.blt .len (.pair (.var 0) .unit)) (.lit (.int 1))) (.dput 3 (.tup (.pair (.var 4) (.pair (.var 5) .unit))) (.call 18 (.pair (.var 2) (.pair (.var 4) (.pair (.var 5) (.pair (.var 1) .unit)))))))) (.ret (.var 3)))))⟩
abbrev ny:=qdd "all_ends" 30 ["state","mark","pair","ends","r","c"] 2 tt
noncomputable def tq:Fn:=⟨3,5,(.seq (.asg 3 (.lst (.pair (.var 1) (.pair (.var 2) .unit)))) (.seq (.while (.and (.cmp .isin (.idx (.var 3) (.neg (.lit (.int 1)))) (.var 0)) (.cmp .ne (.idx (.var 3) (.neg (.lit (.int 1)))) (.var 1))) (.seq (.asg 4 (.dget (.var 0) (.idx (.var 3) (.neg (.lit (.int 1)))))) (.expr (.meth .append (.var 3) (.pair (.ife (.cmp .eq (.idx (.var 4) (.lit (.int 0))) (.idx (.var 3) (.neg (.lit (.int 2))))) (.idx (.var 4) (.lit (.int 1))) (.idx (.var 4) (.lit (.int 0)))) .unit))))) (.ret (.var 3))))⟩
abbrev nw:=qdd "trail" 31 ["ends","behind","start","told","both"] 3 tq
noncomputable def tp:Fn:=⟨4,6,(.seq (.asg 4 (.ife (.cmp .eq (.var 3) (.lit (.int 1))) (.bin .mul (.lit (.int 2)) (.var 2)) (.bin .add (.bin .mul (.lit (.int 2)) (.var 2)) (.lit (.int 1))))) (.seq (.asg 5 (.call 5 (.pair (.var 1) (.pair (.var 4) .unit)))) (.ret (.call 20 (.pair (.var 0) (.pair (.var 4) (.pair (.tup (.pair (.idx (.var 5) (.lit (.int 0))) (.pair (.idx (.var 5) (.lit (.int 1))) .unit))) .unit)))))))⟩
abbrev nv:=qdd "road_trail" 32 ["ends","n","k","mark","road","place"] 4 tp
noncomputable def tm:Fn:=⟨2,4,(.seq (.asg 2 (.blt .len (.pair (.var 0) .unit))) (.seq (.asg 3 (.call 19 (.pair (.var 0) (.pair (.var 1) .unit)))) (.ret (.comp (.bin .fdiv (.idx (.call 21 (.pair (.var 3) (.pair (.var 2) (.pair (.var 4) (.pair (.var 1) .unit))))) (.neg (.lit (.int 1)))) (.lit (.int 2))) (.rng (.lit (.int 0)) (.bin .mul (.lit (.int 2)) (.var 2)) (.lit (.int 1))) (.lit (.bl true))))))⟩
abbrev nu:=qdd "links_over" 33 ["state","mark","n","ends"] 2 tm
noncomputable def tj:Fn:=⟨1,1,(.ret (.call 22 (.pair (.var 0) (.pair (.lit (.int 1)) .unit))))⟩
abbrev nr:=qdd "links" 34 ["state"] 1 tj
noncomputable def th:Fn:=⟨2,2,(.ret (.comp (.bin .add (.var 2) (.var 1)) (.var 0) (.lit (.bl true))))⟩
abbrev nq:=qdd "shifted" 37 ["web","step"] 2 th
noncomputable def tf:Fn:=⟨2,7,(.seq (.asg 2 (.lst .unit)) (.seq (.forv 3 (.rng (.lit (.int 0)) (.var 1) (.lit (.int 1))) (.seq (.asg 4 (.bin .add (.bin .mul (.lit (.int 2)) (.var 3)) (.lit (.int 1)))) (.forv 5 (.idx (.var 0) (.var 3)) (.forv 6 (.idx (.var 0) (.bin .sub (.bin .sub (.var 1) (.lit (.int 1))) (.var 3))) (.expr (.meth .append (.var 2) (.pair (.bin .add (.bin .add (.bin .add (.lst (.pair (.var 4) .unit)) (.call 24 (.pair (.var 5) (.pair (.lit (.int 1)) .unit)))) (.lst (.pair (.lit (.int 0)) .unit))) (.call 24 (.pair (.var 6) (.pair (.bin .add (.var 4) (.lit (.int 1))) .unit)))) .unit))))))) (.ret (.var 2))))⟩
abbrev nl:=qdd "webs_made_of" 38 ["told","size","made","within","end","inner","outer"] 2 tf
noncomputable def sZ:Fn:=⟨1,3,(.seq (.expr (.call 2 (.pair (.var 0) (.pair (.lit (.int 6)) .unit)))) (.seq (.asg 1 (.lst (.pair (.lst (.pair (.lst .unit) .unit)) .unit))) (.seq (.forv 2 (.rng (.lit (.int 1)) (.bin .add (.var 0) (.lit (.int 1))) (.lit (.int 1))) (.expr (.meth .append (.var 1) (.pair (.call 25 (.pair (.var 1) (.pair (.var 2) .unit))) .unit)))) (.ret (.blt .sorted (.pair (.idx (.var 1) (.var 0)) .unit))))))⟩
abbrev nk:=qdd "webs" 39 ["n","told","size"] 1 sZ
noncomputable def sY:Fn:=⟨2,5,(.seq (.asg 2 (.lst .unit)) (.seq (.forv 3 (.var 0) (.forv 4 (.tup (.pair (.neg (.lit (.int 1))) (.pair (.lit (.int 0)) (.pair (.lit (.int 1)) .unit)))) (.ite (.and (.cmp .isin (.bin .add (.blt .sum (.pair (.var 3) .unit)) (.var 4)) (.tup (.pair (.lit (.int 0)) (.pair (.lit (.int 1)) .unit)))) (.cmp .isin (.bin .add (.var 1) (.var 4)) (.tup (.pair (.lit (.int 0)) (.pair (.lit (.int 1)) .unit))))) (.expr (.meth .append (.var 2) (.pair (.bin .add (.var 3) (.lst (.pair (.var 4) .unit))) .unit))) .skip))) (.ret (.var 2))))⟩
abbrev nj:=qdd "longer_rows" 42 ["rows","total","told","row","sign"] 2 sY
noncomputable def sX:Fn:=⟨1,3,(.seq (.asg 1 (.lst (.pair (.lst .unit) .unit))) (.seq (.forv 2 (.var 0) (.asg 1 (.call 27 (.pair (.var 1) (.pair (.var 2) .unit))))) (.ret (.comp (.var 3) (.var 1) (.cmp .eq (.blt .sum (.pair (.var 3) .unit)) (.lit (.int 1)))))))⟩
abbrev ni:=qdd "rows_below" 43 ["sums","rows","total"] 1 sX
noncomputable def sW:Fn:=⟨2,5,(.seq (.asg 2 (.lst .unit)) (.seq (.forv 3 (.var 0) (.forv 4 (.call 28 (.pair (.comp (.blt .sum (.pair (.call 9 (.pair (.var 3) (.pair (.var 5) .unit))) .unit)) (.rng (.lit (.int 0)) (.var 1) (.lit (.int 1))) (.lit (.bl true))) .unit)) (.expr (.meth .append (.var 2) (.pair (.bin .add (.comp (.blt .list (.pair (.var 5) .unit)) (.var 3) (.lit (.bl true))) (.lst (.pair (.var 4) .unit))) .unit))))) (.ret (.var 2))))⟩
abbrev nh:=qdd "longer_tables" 44 ["tables","n","told","table","row"] 2 sW
noncomputable def sS:Fn:=⟨1,3,(.seq (.expr (.call 2 (.pair (.var 0) (.pair (.lit (.int 5)) .unit)))) (.seq (.asg 1 (.lst (.pair (.lst .unit) .unit))) (.seq (.forv 2 (.rng (.lit (.int 0)) (.var 0) (.lit (.int 1))) (.asg 1 (.call 29 (.pair (.var 1) (.pair (.var 0) .unit))))) (.ret (.blt .sorted (.pair (.var 1) .unit))))))⟩
abbrev ng:=qdd "states" 45 ["n","tables","r"] 1 sS
noncomputable def mF:Fn:=⟨1,4,(.seq (.asg 1 .dict0) (.seq (.forv 2 (.call 30 (.pair (.var 0) .unit)) (.seq (.asg 3 (.blt .tuple (.pair (.call 23 (.pair (.var 2) .unit)) .unit))) (.dput 1 (.var 3) (.bin .add (.dop .get (.var 1) (.var 3) (.lit (.int 0))) (.lit (.int 1)))))) (.ret (.comp (.tup (.pair (.var 4) (.pair (.dop .get (.var 1) (.blt .tuple (.pair (.var 4) .unit)) (.lit (.int 0))) .unit))) (.call 26 (.pair (.var 0) .unit)) (.lit (.bl true))))))⟩
abbrev nc:=qdd "book" 46 ["n","numbers","state","web"] 1 mF
noncomputable def sR:Fn:=⟨2,4,(.seq (.asg 2 (.lst (.pair (.var 0) .unit))) (.seq (.forv 3 (.var 1) (.expr (.meth .append (.var 2) (.pair (.bin .sub (.bin .add (.idx (.var 2) (.neg (.lit (.int 1)))) (.lit (.int 1))) (.bin .mul (.lit (.int 2)) (.var 3))) .unit)))) (.ret (.var 2))))⟩
abbrev mZ:=qdd "height_row" 48 ["i","sums","row","total"] 2 sR
noncomputable def sQ:Fn:=⟨1,1,(.ret (.compP .enum (.call 32 (.pair (.var 1) (.pair (.var 2) .unit))) (.call 8 (.pair (.var 0) .unit)) (.lit (.int 0)) (.lit (.bl true))))⟩
abbrev mY:=qdd "heights_of" 49 ["state"] 1 sQ
noncomputable def sP:Fn:=⟨3,3,(.ret (.bin .fdiv (.bin .sub (.bin .sub (.bin .add (.idx (.idx (.var 0) (.var 1)) (.bin .add (.var 2) (.lit (.int 1)))) (.idx (.idx (.var 0) (.bin .add (.var 1) (.lit (.int 1)))) (.var 2))) (.idx (.idx (.var 0) (.var 1)) (.var 2))) (.idx (.idx (.var 0) (.bin .add (.var 1) (.lit (.int 1)))) (.bin .add (.var 2) (.lit (.int 1))))) (.lit (.int 2))))⟩
abbrev mX:=qdd "sign_amid" 50 ["table","r","c"] 3 sP
noncomputable def sO:Fn:=⟨2,2,(.ret (.comp (.call 34 (.pair (.var 0) (.pair (.var 1) (.pair (.var 2) .unit)))) (.rng (.lit (.int 0)) (.bin .sub (.blt .len (.pair (.var 0) .unit)) (.lit (.int 1))) (.lit (.int 1))) (.lit (.bl true))))⟩
abbrev mW:=qdd "signs_of_row" 51 ["table","r"] 2 sO
noncomputable def sN:Fn:=⟨1,1,(.ret (.comp (.call 35 (.pair (.var 0) (.pair (.var 1) .unit))) (.rng (.lit (.int 0)) (.bin .sub (.blt .len (.pair (.var 0) .unit)) (.lit (.int 1))) (.lit (.int 1))) (.lit (.bl true))))⟩
abbrev mV:=qdd "signs_of_heights" 52 ["table"] 1 sN
noncomputable def sM:Fn:=⟨3,4,(.seq (.asg 3 (.idx (.idx (.var 0) (.bin .sub (.var 1) (.lit (.int 1)))) (.var 2))) (.ret (.and (.cmp .eq (.idx (.idx (.var 0) (.bin .add (.var 1) (.lit (.int 1)))) (.var 2)) (.var 3)) (.and (.cmp .eq (.idx (.idx (.var 0) (.var 1)) (.bin .sub (.var 2) (.lit (.int 1)))) (.var 3)) (.cmp .eq (.idx (.idx (.var 0) (.var 1)) (.bin .add (.var 2) (.lit (.int 1)))) (.var 3))))))⟩
abbrev mU:=qdd "is_level_round" 54 ["table","i","j","height"] 3 sM
noncomputable def sL:Fn:=⟨3,3,(.ret (.bin .sub (.bin .mul (.lit (.int 2)) (.idx (.idx (.var 0) (.bin .sub (.var 1) (.lit (.int 1)))) (.var 2))) (.idx (.idx (.var 0) (.var 1)) (.var 2))))⟩
abbrev mT:=qdd "height_turned" 55 ["table","i","j"] 3 sL
noncomputable def sK:Fn:=⟨2,5,(.seq (.asg 2 (.call 33 (.pair (.var 0) .unit))) (.seq (.fort 3 4 (.call 7 (.pair (.blt .len (.pair (.var 0) .unit)) (.pair (.var 1) .unit))) (.ite (.call 37 (.pair (.var 2) (.pair (.var 3) (.pair (.var 4) .unit)))) (.asgS (.idx (.var 2) (.var 3)) (.var 4) (.call 38 (.pair (.var 2) (.pair (.var 3) (.pair (.var 4) .unit))))) .skip)) (.ret (.call 36 (.pair (.var 2) .unit)))))⟩
abbrev mS:=qdd "half_turn" 57 ["state","shade","table","i","j"] 2 sK
noncomputable def sJ:Fn:=⟨1,1,(.ret (.call 39 (.pair (.call 39 (.pair (.var 0) (.pair (.lit (.str [108,105,103,104,116])) .unit))) (.pair (.lit (.str [100,97,114,107])) .unit))))⟩
abbrev mR:=qdd "great_turn" 58 ["state"] 1 sJ
noncomputable def sI:Fn:=⟨1,1,(.ret (.comp (.call 9 (.pair (.var 0) (.pair (.var 1) .unit))) (.rng (.lit (.int 0)) (.blt .len (.pair (.var 0) .unit)) (.lit (.int 1))) (.lit (.bl true))))⟩
abbrev mQ:=qdd "crossed" 59 ["state"] 1 sI
noncomputable def sH:Fn:=⟨1,1,(.ret (.call 39 (.pair (.call 41 (.pair (.var 0) .unit)) (.pair (.lit (.str [108,105,103,104,116])) .unit))))⟩
abbrev mP:=qdd "mirrored" 60 ["state"] 1 sH
noncomputable def sG:Fn:=Mini.Vl.Lib.qt
abbrev mO:=qdd "_law_cell_at" 62 ["_law_script","_law_k"] 2 sG
noncomputable def sF:Fn:=⟨1,7,(.seq (.asg 1 (.comp (.lit (.int 0)) (.var 0) (.lit (.bl true)))) (.seq (.asg 2 (.lst (.pair (.comp (.neg (.lit (.int 1))) (.var 0) (.lit (.bl true))) .unit))) (.seq (.asg 3 (.lst .unit)) (.seq (.forv 4 (.var 0) (.seq (.asg 5 (.lst (.pair (.lit (.int 1)) .unit))) (.seq (.forv 6 (.var 4) (.expr (.meth .append (.var 5) (.pair (.bin .sub (.idx (.var 5) (.neg (.lit (.int 1)))) (.bin .mul (.lit (.int 2)) (.var 6))) .unit)))) (.seq (.expr (.meth .append (.var 3) (.pair (.var 5) .unit))) (.seq (.asg 1 (.compP .zip (.bin .add (.var 7) (.var 8)) (.var 1) (.var 4) (.lit (.bl true)))) (.expr (.meth .append (.var 2) (.pair (.comp (.bin .sub (.bin .mul (.lit (.int 2)) (.var 7)) (.lit (.int 1))) (.var 1) (.lit (.bl true))) .unit)))))))) (.ret (.tup (.pair (.var 3) (.pair (.var 2) .unit))))))))⟩
abbrev mN:=qdd "_law_arrows_by" 63 ["_law_state","_law_totals","_law_down","_law_across","_law_line","_law_row","_law_sign"] 1 sF
noncomputable def sE:Fn:=⟨1,8,(.seq (.fort 1 2 (.tup (.pair (.call 44 (.pair (.var 0) .unit)) .unit)) .skip) (.seq (.asg 3 (.lst .unit)) (.seq (.forv 4 (.tup (.pair (.var 1) (.pair (.var 2) .unit))) (.seq (.asg 5 (.lst .unit)) (.seq (.forv 6 (.rng (.lit (.int 0)) (.blt .len (.pair (.var 4) .unit)) (.lit (.int 1))) (.seq (.asg 7 (.idx (.var 4) (.var 6))) (.expr (.meth .append (.var 5) (.pair (.comp (.blt .int (.pair (.cmp .eq (.bin .mul (.idx (.var 7) (.var 8)) (.bin .sub (.lit (.int 1)) (.bin .mul (.lit (.int 2)) (.bin .mod (.bin .add (.var 6) (.var 8)) (.lit (.int 2)))))) (.neg (.lit (.int 1)))) .unit)) (.rng (.lit (.int 0)) (.blt .len (.pair (.var 7) .unit)) (.lit (.int 1))) (.lit (.bl true))) .unit))))) (.expr (.meth .append (.var 3) (.pair (.var 5) .unit)))))) (.ret (.tup (.pair (.idx (.var 3) (.lit (.int 0))) (.pair (.idx (.var 3) (.lit (.int 1))) .unit)))))))⟩
abbrev mM:=qdd "_law_sides_by" 64 ["_law_state","_law_across","_law_down","_law_found","_law_lines","_law_made","_law_i","_law_line"] 1 sE
noncomputable def sD:Fn:=⟨3,7,(.seq (.fort 3 4 (.tup (.pair (.var 0) .unit)) .skip) (.seq (.fort 5 6 (.tup (.pair (.var 1) .unit)) .skip) (.seq (.ite (.and (.cmp .eq (.idx (.idx (.var 4) (.var 5)) (.var 6)) (.lit (.int 1))) (.cmp .ne (.var 2) (.tup (.pair (.bin .sub (.var 5) (.lit (.int 1))) (.pair (.var 6) .unit))))) (.ret (.tup (.pair (.bin .sub (.var 5) (.lit (.int 1))) (.pair (.var 6) .unit)))) .skip) (.seq (.ite (.and (.cmp .eq (.idx (.idx (.var 3) (.var 5)) (.bin .add (.var 6) (.lit (.int 1)))) (.lit (.int 1))) (.cmp .ne (.var 2) (.tup (.pair (.var 5) (.pair (.bin .add (.var 6) (.lit (.int 1))) .unit))))) (.ret (.tup (.pair (.var 5) (.pair (.bin .add (.var 6) (.lit (.int 1))) .unit)))) .skip) (.seq (.ite (.and (.cmp .eq (.idx (.idx (.var 4) (.bin .add (.var 5) (.lit (.int 1)))) (.var 6)) (.lit (.int 1))) (.cmp .ne (.var 2) (.tup (.pair (.bin .add (.var 5) (.lit (.int 1))) (.pair (.var 6) .unit))))) (.ret (.tup (.pair (.bin .add (.var 5) (.lit (.int 1))) (.pair (.var 6) .unit)))) .skip) (.ret (.tup (.pair (.var 5) (.pair (.bin .sub (.var 6) (.lit (.int 1))) .unit)))))))))⟩
abbrev mL:=qdd "_law_step" 65 ["_law_sides","_law_here","_law_behind","_law_across","_law_down","_law_r","_law_c"] 3 sD
noncomputable def sC:Fn:=⟨1,2,(.seq (.asg 1 (.bin .add (.comp (.tup (.pair (.neg (.lit (.int 1))) (.pair (.var 2) .unit))) (.rng (.lit (.int 0)) (.var 0) (.lit (.int 1))) (.lit (.bl true))) (.comp (.tup (.pair (.var 2) (.pair (.var 0) .unit))) (.rng (.lit (.int 0)) (.var 0) (.lit (.int 1))) (.lit (.bl true))))) (.ret (.bin .add (.bin .add (.var 1) (.comp (.tup (.pair (.var 0) (.pair (.bin .sub (.bin .sub (.var 0) (.lit (.int 1))) (.var 2)) .unit))) (.rng (.lit (.int 0)) (.var 0) (.lit (.int 1))) (.lit (.bl true)))) (.comp (.tup (.pair (.bin .sub (.bin .sub (.var 0) (.lit (.int 1))) (.var 2)) (.pair (.neg (.lit (.int 1))) .unit))) (.rng (.lit (.int 0)) (.var 0) (.lit (.int 1))) (.lit (.bl true))))))⟩
abbrev mK:=qdd "_law_roads" 66 ["_law_n","_law_found"] 1 sC
noncomputable def sB:Fn:=⟨2,2,(.ret (.tup (.pair (.blt .min2 (.pair (.blt .max2 (.pair (.idx (.var 1) (.lit (.int 0))) (.pair (.lit (.int 0)) .unit))) (.pair (.bin .sub (.var 0) (.lit (.int 1))) .unit))) (.pair (.blt .min2 (.pair (.blt .max2 (.pair (.idx (.var 1) (.lit (.int 1))) (.pair (.lit (.int 0)) .unit))) (.pair (.bin .sub (.var 0) (.lit (.int 1))) .unit))) .unit))))⟩
abbrev mJ:=qdd "_law_inner" 67 ["_law_n","_law_place"] 2 sB
noncomputable def sy:Fn:=⟨1,10,(.seq (.asg 1 (.blt .len (.pair (.var 0) .unit))) (.seq (.asg 2 (.call 45 (.pair (.var 0) .unit))) (.seq (.asg 3 (.compP .enum (.var 11) (.call 47 (.pair (.var 1) .unit)) (.lit (.int 0)) (.cmp .eq (.bin .mod (.var 10) (.lit (.int 2))) (.lit (.int 0))))) (.seq (.asg 4 (.comp (.lit .non) (.var 3) (.lit (.bl true)))) (.seq (.forE 5 6 (.var 3) (.ite (.cmp .isN (.idx (.var 4) (.var 5)) (.lit .non)) (.seq (.asg 7 (.var 6)) (.seq (.asg 8 (.call 48 (.pair (.var 1) (.pair (.var 6) .unit)))) (.seq (.while (.and (.chain .le .lt (.lit (.int 0)) (.idx (.var 8) (.lit (.int 0))) (.var 1)) (.chain .le .lt (.lit (.int 0)) (.idx (.var 8) (.lit (.int 1))) (.var 1))) (.seq (.asg 9 (.call 46 (.pair (.var 2) (.pair (.var 8) (.pair (.var 7) .unit))))) (.seq (.asg 7 (.var 8)) (.asg 8 (.var 9))))) (.seq (.asgS (.var 4) (.var 5) (.dop .lix (.var 3) (.var 8) .unit)) (.asgS (.var 4) (.idx (.var 4) (.var 5)) (.var 5)))))) .skip)) (.ret (.var 4)))))))⟩
abbrev mI:=qdd "_law_links_by" 68 ["_law_state","_law_n","_law_sides","_law_open_roads","_law_found","_law_k","_law_place","_law_behind","_law_here","_law_ahead"] 1 sy
noncomputable def sw:Fn:=⟨2,5,(.seq (.asg 2 (.blt .len (.pair (.var 0) .unit))) (.seq (.asg 3 (.comp (.lit (.int 0)) (.rng (.lit (.int 0)) (.var 2) (.lit (.int 1))) (.lit (.bl true)))) (.seq (.forv 4 (.rng (.lit (.int 0)) (.var 2) (.lit (.int 1))) (.asgS (.var 3) (.bin .mod (.bin .add (.var 4) (.var 1)) (.var 2)) (.bin .mod (.bin .add (.idx (.var 0) (.var 4)) (.var 1)) (.var 2)))) (.ret (.var 3)))))⟩
abbrev mH:=qdd "_law_turned" 69 ["_law_web","_law_t","_law_many","_law_found","_law_k"] 2 sw
noncomputable def ss:Fn:=⟨1,4,(.seq (.asg 1 (.blt .len (.pair (.var 0) .unit))) (.seq (.asg 2 (.comp (.lit (.int 0)) (.rng (.lit (.int 0)) (.var 1) (.lit (.int 1))) (.lit (.bl true)))) (.seq (.forv 3 (.rng (.lit (.int 0)) (.var 1) (.lit (.int 1))) (.asgS (.var 2) (.bin .mod (.neg (.var 3)) (.var 1)) (.bin .mod (.neg (.idx (.var 0) (.var 3))) (.var 1)))) (.ret (.var 2)))))⟩
abbrev mG:=qdd "_law_mirrored" 70 ["_law_web","_law_many","_law_found","_law_k"] 1 ss
noncomputable def eQ:Fn:=⟨1,9,(.seq (.asg 1 (.bin .add (.lit (.int 1)) (.bin .mod (.call 43 (.pair (.var 0) (.pair (.lit (.int 0)) .unit))) (.lit (.int 4))))) (.seq (.asg 2 (.call 30 (.pair (.var 1) .unit))) (.seq (.asg 3 (.lst .unit)) (.seq (.asg 4 (.lst .unit)) (.seq (.forv 5 (.var 2) (.seq (.asg 6 (.call 49 (.pair (.var 5) .unit))) (.seq (.expr (.meth .append (.var 3) (.pair (.call 40 (.pair (.var 5) .unit)) .unit))) (.seq (.expr (.meth .append (.var 4) (.pair (.call 42 (.pair (.var 5) .unit)) .unit))) (.ite (.or (.cmp .ne (.call 49 (.pair (.idx (.var 3) (.neg (.lit (.int 1)))) .unit)) (.call 50 (.pair (.var 6) (.pair (.neg (.lit (.int 1))) .unit)))) (.cmp .ne (.call 49 (.pair (.idx (.var 4) (.neg (.lit (.int 1)))) .unit)) (.call 51 (.pair (.var 6) .unit)))) (.ret (.lit (.bl false))) .skip))))) (.seq (.ite (.or (.cmp .ne (.blt .sorted (.pair (.var 3) .unit)) (.var 2)) (.cmp .ne (.blt .sorted (.pair (.var 4) .unit)) (.var 2))) (.ret (.lit (.bl false))) .skip) (.seq (.asg 7 .dict0) (.seq (.fort 6 8 (.call 31 (.pair (.var 1) .unit)) (.dput 7 (.blt .tuple (.pair (.var 6) .unit)) (.var 8))) (.seq (.forD 6 7 (.ite (.or (.cmp .ne (.dop .get (.var 7) (.blt .tuple (.pair (.call 50 (.pair (.var 6) (.pair (.lit (.int 1)) .unit))) .unit)) (.lit .non)) (.dget (.var 7) (.var 6))) (.cmp .ne (.dop .get (.var 7) (.blt .tuple (.pair (.call 51 (.pair (.var 6) .unit)) .unit)) (.lit .non)) (.dget (.var 7) (.var 6)))) (.ret (.lit (.bl false))) .skip)) (.ret (.cmp .eq (.dop .sum (.var 7) .unit .unit) (.blt .len (.pair (.var 2) .unit)))))))))))))⟩
abbrev ii:=qdd "law" 71 ["_law_script","_law_n","_law_every","_law_great","_law_glass","_law_state","_law_web","_law_many","_law_number"] 1 eQ
noncomputable def D:List a7:=[d0,d1,d2,d3,d4,d5,d6,d7,d8,d9,nK,nJ,nI,nH,nG,nF,nE,nA,nz,ny,nw,nv,nu,nr,nq,nl,nk,nj,ni,nh,ng,nc,mZ,mY,mX,mW,mV,mU,mT,mS,mR,mQ,mP,mO,mN,mM,mL,mK,mJ,mI,mH,mG,ii]
noncomputable def C:Mini.Ctx:=⟨(("is_whole":Str)::("is_size_to":Str)::("need_size_to":Str)::("is_place":Str)::("road_over":Str)::("place_at":Str)::("shade_of":Str)::("squares_within":Str)::("column_sums":Str)::("column_of":Str)::("across_row":Str)::("down_row":Str)::("arrows_of":Str)::("is_odd":Str)::("walked_row":Str)::("walked_grid":Str)::("sides_of":Str)::("beyond":Str)::("ends_at":Str)::("all_ends":Str)::("trail":Str)::("road_trail":Str)::("links_over":Str)::("links":Str)::("shifted":Str)::("webs_made_of":Str)::("webs":Str)::("longer_rows":Str)::("rows_below":Str)::("longer_tables":Str)::("states":Str)::("book":Str)::("height_row":Str)::("heights_of":Str)::("sign_amid":Str)::("signs_of_row":Str)::("signs_of_heights":Str)::("is_level_round":Str)::("height_turned":Str)::("half_turn":Str)::("great_turn":Str)::("crossed":Str)::("mirrored":Str)::("_law_cell_at":Str)::("_law_arrows_by":Str)::("_law_sides_by":Str)::("_law_step":Str)::("_law_roads":Str)::("_law_inner":Str)::("_law_links_by":Str)::("_law_turned":Str)::("_law_mirrored":Str)::("law":Str)::[]),[("WALKED",1),("GREATEST_LISTED",6),("GREATEST_WALKED",5)],[("STEPS",[([85],-1,0),([82],0,1),([68],1,0),([76],0,-1)])]⟩
def EQ:bp C d0:=⟨by decide +kernel,rfl,rfl,(.one (.ret rfl (.and2 rfl rfl (.isi (by kernel_rfl) (by kernel_rfl) rfl rfl .v) rfl rfl (.not rfl rfl (.isi (by kernel_rfl) (by kernel_rfl) rfl rfl .v)))))⟩
def fq:bp C d1:=⟨by decide +kernel,rfl,rfl,(.one (.ret rfl (.and2 rfl rfl (.c (.p .v .unit)) rfl rfl (.chain rfl rfl .int rfl .v rfl .v))))⟩
def EO:bp C d2:=⟨by decide +kernel,rfl,rfl,(.one (.ite rfl rfl (.not rfl rfl (.c (.p .v (.p .v .unit)))) (.one .never) .skip0))⟩
def EN:bp C d3:=⟨by decide +kernel,rfl,rfl,(.one (.ret rfl (.and2 rfl rfl (.chain rfl rfl .int rfl .v rfl .v) rfl rfl (.chain rfl rfl .int rfl .v rfl .v))))⟩
def EM:bp C d4:=⟨by decide +kernel,rfl,rfl,(.seq (.ite rfl rfl (.not rfl rfl (.c (.p .v (.p .v (.p .v .unit))))) (.one (.ret rfl .non)) .skip0) (.seq (.ite rfl rfl (.and2 rfl rfl (.k .v rfl (.str (by kernel_rfl))) rfl rfl (.k .v rfl .int)) (.one (.ret rfl .v)) .skip0) (.seq (.ite rfl rfl (.and2 rfl rfl (.k .v rfl (.str (by kernel_rfl))) rfl rfl (.k .v rfl (.bin rfl .v rfl .int))) (.one (.ret rfl (.bin rfl .v rfl .v))) .skip0) (.seq (.ite rfl rfl (.and2 rfl rfl (.k .v rfl (.str (by kernel_rfl))) rfl rfl (.k .v rfl (.bin rfl .v rfl .int))) (.one (.ret rfl (.bin rfl (.bin rfl .int rfl .v) rfl (.bin rfl (.bin rfl .v rfl .int) rfl .v)))) .skip0) (.seq (.ite rfl rfl (.and2 rfl rfl (.k .v rfl (.str (by kernel_rfl))) rfl rfl (.k .v rfl .int)) (.one (.ret rfl (.bin rfl (.bin rfl .int rfl .v) rfl (.bin rfl (.bin rfl .v rfl .int) rfl .v)))) .skip0) (.one (.ret rfl .non)))))))⟩
def EL:bp C d5:=⟨by decide +kernel,rfl,rfl,(.seq (.s (.bin rfl .v rfl .v)) (.seq (.s (.bin rfl .v rfl .v)) (.seq (.ite rfl rfl (.k .v rfl .int) (.one (.ret rfl (.tup (.p .int (.p .v (.p (.str (by kernel_rfl)) .unit)))))) .skip0) (.seq (.ite rfl rfl (.k .v rfl .int) (.one (.ret rfl (.tup (.p .v (.p (.bin rfl .v rfl .int) (.p (.str (by kernel_rfl)) .unit)))))) .skip0) (.seq (.ite rfl rfl (.k .v rfl .int) (.one (.ret rfl (.tup (.p (.bin rfl .v rfl .int) (.p (.bin rfl (.bin rfl .v rfl .int) rfl .v) (.p (.str (by kernel_rfl)) .unit)))))) .skip0) (.one (.ret rfl (.tup (.p (.bin rfl (.bin rfl .v rfl .int) rfl .v) (.p .int (.p (.str (by kernel_rfl)) .unit)))))))))))⟩
def EK:bp C d6:=⟨by decide +kernel,rfl,rfl,(.one (.ret rfl (.ife rfl rfl (.k (.bin rfl (.bin rfl .v rfl .v) rfl .int) rfl .int) rfl (.str (by kernel_rfl)) rfl (.str (by kernel_rfl)))))⟩
def EJ:bp C d7:=⟨by decide +kernel,rfl,rfl,(.seq (.s (.lst .unit)) (.seq (.forv rfl (by kernel_rfl) rfl (.rng2 (by kernel_rfl) rfl rfl rfl .int rfl .v) (.one (.forv rfl (by kernel_rfl) rfl (.rng2 (by kernel_rfl) rfl rfl rfl .int rfl .v) (.one (.ite rfl rfl (.k (.c (.p .v (.p .v .unit))) rfl .v) (.one (.expr rfl rfl (.meth rfl rfl (by decide) rfl rfl .v (.p (.tup (.p .v (.p .v .unit))) .unit)))) .skip0))))) (.one (.ret rfl .v))))⟩
def EI:bp C d8:=⟨by decide +kernel,rfl,rfl,(.seq (.s (.bin rfl (.lst (.p .int .unit)) rfl (.q (.p .v .unit)))) (.seq (.s (.lst (.p .v .unit))) (.seq (.forv rfl (by kernel_rfl) rfl .v (.seq (.asgCZ0 rfl (by kernel_rfl) (by kernel_rfl) (by kernel_rfl) rfl rfl rfl .v rfl .v rfl (.bin rfl .v rfl .v)) (.one (.expr rfl rfl (.meth rfl rfl (by decide) rfl rfl .v (.p .v .unit)))))) (.one (.ret rfl .v)))))⟩
def EH:bp C d9:=⟨by decide +kernel,rfl,rfl,(.one (.ret rfl (.comp0 rfl (by kernel_rfl) .v rfl (.x .v rfl .v))))⟩
def mi:bp C nK:=⟨by decide +kernel,rfl,rfl,(.seq (.s .int) (.seq (.s (.lst (.p .int .unit))) (.seq (.forv rfl (by kernel_rfl) rfl .v (.seq (.aug rfl (by kernel_rfl) rfl rfl .v) (.one (.expr rfl rfl (.meth rfl rfl (by decide) rfl rfl .v (.p (.bin rfl .int rfl (.bin rfl .int rfl .v)) .unit)))))) (.one (.ret rfl .v)))))⟩
def mh:bp C nJ:=⟨by decide +kernel,rfl,rfl,(.one (.ret rfl (.comp0 rfl (by kernel_rfl) .v rfl (.bin rfl (.bin rfl .int rfl .v) rfl .int))))⟩
def mf:bp C nI:=⟨by decide +kernel,rfl,rfl,(.seq (.asgC0 rfl (by kernel_rfl) rfl (by kernel_rfl) .v rfl (.c (.p .v .unit))) (.seq (.asgC0 rfl (by kernel_rfl) rfl (by kernel_rfl) (.c (.p .v .unit)) rfl (.c (.p .v .unit))) (.one (.ret rfl (.tup (.p .v (.p .v .unit)))))))⟩
def me:bp C nH:=⟨by decide +kernel,rfl,rfl,(.one (.ret rfl (.k (.bin rfl .v rfl .int) rfl .int)))⟩
def md:bp C nG:=⟨by decide +kernel,rfl,rfl,(.one (.ret rfl (.compE0 (by kernel_rfl) (by kernel_rfl) rfl rfl .v rfl (.ife rfl rfl (.k (.k .v rfl .int) rfl (.c (.p (.bin rfl .v rfl .v) .unit))) rfl .int rfl .int))))⟩
def ma:bp C nF:=⟨by decide +kernel,rfl,rfl,(.one (.ret rfl (.compE0 (by kernel_rfl) (by kernel_rfl) rfl rfl .v rfl (.c (.p .v (.p .v .unit))))))⟩
def l9:bp C nE:=⟨by decide +kernel,rfl,rfl,(.seq (.s (.c (.p .v .unit))) (.one (.ret rfl (.tup (.p (.c (.p (.x .v rfl .int) .unit)) (.p (.c (.p (.x .v rfl .int) .unit)) .unit))))))⟩
def l8:bp C nA:=⟨by decide +kernel,rfl,rfl,(.seq (.s (.c (.p .v (.p .v (.p .v (.p .v .unit)))))) (.seq (.ite rfl rfl (.k .v rfl .non) (.one (.ret rfl .v)) .skip0) (.seq (.s (.dcon (by decide) (by kernel_rfl) (by kernel_rfl) (by kernel_rfl) rfl (by kernel_rfl) (by kernel_rfl))) (.one (.ret rfl (.tup (.p (.bin rfl .v rfl (.x .v rfl .int)) (.p (.bin rfl .v rfl (.x .v rfl .int)) .unit))))))))⟩
def l7:bp C nz:=⟨by decide +kernel,rfl,rfl,(.seq (.s (.x .v rfl .int)) (.seq (.s (.x .v rfl .int)) (.sel (j:=6) (by kernel_rfl) (by kernel_rfl) (by kernel_rfl) (by kernel_rfl) (by decide) rfl (by kernel_rfl) (by kernel_rfl) (by kernel_rfl) rfl (by kernel_rfl) rfl (by kernel_rfl) (by kernel_rfl) (by kernel_rfl) rfl (.x (.x .v rfl .v) rfl .v) rfl (.x (.x .v rfl .v) rfl (.bin rfl .v rfl .int)) rfl (.x (.x .v rfl (.bin rfl .v rfl .int)) rfl .v) rfl (.x (.x .v rfl .v) rfl .v) rfl .v rfl (.c (.p (.q (.p .v .unit)) (.p .v (.p .v (.p .v .unit))))) rfl rfl rfl)))⟩
def l6:bp C ny:=⟨by decide +kernel,rfl,rfl,(.seq (.s (.c (.p .v .unit))) (.seq (.s .dict0) (.seq (.forv rfl (by kernel_rfl) rfl (.rng1 (by kernel_rfl) rfl rfl (.q (.p .v .unit))) (.one (.forv rfl (by kernel_rfl) rfl (.rng1 (by kernel_rfl) rfl rfl (.q (.p .v .unit))) (.one (.dput rfl .v rfl (.tup (.p .v (.p .v .unit))) rfl (.c (.p .v (.p .v (.p .v (.p .v .unit)))))))))) (.one (.ret rfl .v)))))⟩
def l5:bp C nw:=⟨by decide +kernel,rfl,rfl,(.seq (.s (.lst (.p .v (.p .v .unit)))) (.seq (bo.«while» rfl rfl (.and2 rfl rfl (.k (.x .v rfl (.neg rfl .int)) rfl .v) rfl rfl (.k (.x .v rfl (.neg rfl .int)) rfl .v)) (.seq (.s (.dget rfl rfl .v rfl (.x .v rfl (.neg rfl .int)))) (.one (.expr rfl rfl (.meth rfl rfl (by decide) rfl rfl .v (.p (.ife rfl rfl (.k (.x .v rfl .int) rfl (.x .v rfl (.neg rfl .int))) rfl (.x .v rfl .int) rfl (.x .v rfl .int)) .unit)))))) (.one (.ret rfl .v))))⟩
def lZ:bp C nv:=⟨by decide +kernel,rfl,rfl,(.seq (.s (.ife rfl rfl (.k .v rfl (.con (by kernel_rfl) (by kernel_rfl) (by kernel_rfl))) rfl (.bin rfl .int rfl .v) rfl (.bin rfl (.bin rfl .int rfl .v) rfl .int))) (.seq (.s (.c (.p .v (.p .v .unit)))) (.one (.ret rfl (.c (.p .v (.p .v (.p (.tup (.p (.x .v rfl .int) (.p (.x .v rfl .int) .unit))) .unit))))))))⟩
def lY:bp C nu:=⟨by decide +kernel,rfl,rfl,(.seq (.s (.q (.p .v .unit))) (.seq (.s (.c (.p .v (.p .v .unit)))) (.one (.ret rfl (.comp0 rfl (by kernel_rfl) (.rng1 (by kernel_rfl) rfl rfl (.bin rfl .int rfl .v)) rfl (.bin rfl (.x (.c (.p .v (.p .v (.p .v (.p .v .unit))))) rfl (.neg rfl .int)) rfl .int))))))⟩
def lX:bp C nr:=⟨by decide +kernel,rfl,rfl,(.one (.ret rfl (.c (.p .v (.p (.con (by kernel_rfl) (by kernel_rfl) (by kernel_rfl)) .unit)))))⟩
def lW:bp C nq:=⟨by decide +kernel,rfl,rfl,(.one (.ret rfl (.comp0 rfl (by kernel_rfl) .v rfl (.bin rfl .v rfl .v))))⟩
def lV:bp C nl:=⟨by decide +kernel,rfl,rfl,(.seq (.s (.lst .unit)) (.seq (.forv rfl (by kernel_rfl) rfl (.rng1 (by kernel_rfl) rfl rfl .v) (.seq (.s (.bin rfl (.bin rfl .int rfl .v) rfl .int)) (.one (.forv rfl (by kernel_rfl) rfl (.x .v rfl .v) (.one (.forv rfl (by kernel_rfl) rfl (.x .v rfl (.bin rfl (.bin rfl .v rfl .int) rfl .v)) (.one (.expr rfl rfl (.meth rfl rfl (by decide) rfl rfl .v (.p (.bin rfl (.bin rfl (.bin rfl (.lst (.p .v .unit)) rfl (.c (.p .v (.p .int .unit)))) rfl (.lst (.p .int .unit))) rfl (.c (.p .v (.p (.bin rfl .v rfl .int) .unit)))) .unit)))))))))) (.one (.ret rfl .v))))⟩
def lU:bp C nk:=⟨by decide +kernel,rfl,rfl,(.seq (.expr rfl rfl (.c (.p .v (.p (.con (by kernel_rfl) (by kernel_rfl) (by kernel_rfl)) .unit)))) (.seq (.s (.lst (.p (.lst (.p (.lst .unit) .unit)) .unit))) (.seq (.forv rfl (by kernel_rfl) rfl (.rng2 (by kernel_rfl) rfl rfl rfl .int rfl (.bin rfl .v rfl .int)) (.one (.expr rfl rfl (.meth rfl rfl (by decide) rfl rfl .v (.p (.c (.p .v (.p .v .unit))) .unit))))) (.one (.ret rfl (.q (.p (.x .v rfl .v) .unit)))))))⟩
def lT:bp C nj:=⟨by decide +kernel,rfl,rfl,(.seq (.s (.lst .unit)) (.seq (.forv rfl (by kernel_rfl) rfl .v (.one (.forv rfl (by kernel_rfl) rfl (.tup (.p (.neg rfl .int) (.p .int (.p .int .unit)))) (.one (.ite rfl rfl (.and2 rfl rfl (.k (.bin rfl (.q (.p .v .unit)) rfl .v) rfl (.tup (.p .int (.p .int .unit)))) rfl rfl (.k (.bin rfl .v rfl .v) rfl (.tup (.p .int (.p .int .unit))))) (.one (.expr rfl rfl (.meth rfl rfl (by decide) rfl rfl .v (.p (.bin rfl .v rfl (.lst (.p .v .unit))) .unit)))) .skip0))))) (.one (.ret rfl .v))))⟩
def lS:bp C ni:=⟨by decide +kernel,rfl,rfl,(.seq (.s (.lst (.p (.lst .unit) .unit))) (.seq (.forv rfl (by kernel_rfl) rfl .v (.one (.s (.c (.p .v (.p .v .unit)))))) (.one (.ret rfl (.comp1 rfl (by kernel_rfl) .v rfl rfl (.k (.q (.p .v .unit)) rfl .int) rfl .v)))))⟩
def lR:bp C nh:=⟨by decide +kernel,rfl,rfl,(.seq (.s (.lst .unit)) (.seq (.forv rfl (by kernel_rfl) rfl .v (.one (.forv rfl (by kernel_rfl) rfl (.c (.p (.comp0 rfl (by kernel_rfl) (.rng1 (by kernel_rfl) rfl rfl .v) rfl (.q (.p (.c (.p .v (.p .v .unit))) .unit))) .unit)) (.one (.expr rfl rfl (.meth rfl rfl (by decide) rfl rfl .v (.p (.bin rfl (.comp0 rfl (by kernel_rfl) .v rfl (.q (.p .v .unit))) rfl (.lst (.p .v .unit))) .unit))))))) (.one (.ret rfl .v))))⟩
def lQ:bp C ng:=⟨by decide +kernel,rfl,rfl,(.seq (.expr rfl rfl (.c (.p .v (.p (.con (by kernel_rfl) (by kernel_rfl) (by kernel_rfl)) .unit)))) (.seq (.s (.lst (.p (.lst .unit) .unit))) (.seq (.forv rfl (by kernel_rfl) rfl (.rng1 (by kernel_rfl) rfl rfl .v) (.one (.s (.c (.p .v (.p .v .unit)))))) (.one (.ret rfl (.q (.p .v .unit)))))))⟩
def lP:bp C nc:=⟨by decide +kernel,rfl,rfl,(.seq (.s .dict0) (.seq (.forv rfl (by kernel_rfl) rfl (.c (.p .v .unit)) (.seq (.s (.q (.p (.c (.p .v .unit)) .unit))) (.one (.dput rfl .v rfl .v rfl (.bin rfl (.dgetM rfl rfl rfl rfl rfl .v rfl .v rfl .int) rfl .int))))) (.one (.ret rfl (.comp0 rfl (by kernel_rfl) (.c (.p .v .unit)) rfl (.tup (.p .v (.p (.dgetM rfl rfl rfl rfl rfl .v rfl (.q (.p .v .unit)) rfl .int) .unit))))))))⟩
def lO:bp C mZ:=⟨by decide +kernel,rfl,rfl,(.seq (.s (.lst (.p .v .unit))) (.seq (.forv rfl (by kernel_rfl) rfl .v (.one (.expr rfl rfl (.meth rfl rfl (by decide) rfl rfl .v (.p (.bin rfl (.bin rfl (.x .v rfl (.neg rfl .int)) rfl .int) rfl (.bin rfl .int rfl .v)) .unit))))) (.one (.ret rfl .v))))⟩
def lN:bp C mY:=⟨by decide +kernel,rfl,rfl,(.one (.ret rfl (.compE0 (by kernel_rfl) (by kernel_rfl) rfl rfl (.c (.p .v .unit)) rfl (.c (.p .v (.p .v .unit))))))⟩
def lM:bp C mX:=⟨by decide +kernel,rfl,rfl,(.one (.ret rfl (.bin rfl (.bin rfl (.bin rfl (.bin rfl (.x (.x .v rfl .v) rfl (.bin rfl .v rfl .int)) rfl (.x (.x .v rfl (.bin rfl .v rfl .int)) rfl .v)) rfl (.x (.x .v rfl .v) rfl .v)) rfl (.x (.x .v rfl (.bin rfl .v rfl .int)) rfl (.bin rfl .v rfl .int))) rfl .int)))⟩
def lL:bp C mW:=⟨by decide +kernel,rfl,rfl,(.one (.ret rfl (.comp0 rfl (by kernel_rfl) (.rng1 (by kernel_rfl) rfl rfl (.bin rfl (.q (.p .v .unit)) rfl .int)) rfl (.c (.p .v (.p .v (.p .v .unit)))))))⟩
def lK:bp C mV:=⟨by decide +kernel,rfl,rfl,(.one (.ret rfl (.comp0 rfl (by kernel_rfl) (.rng1 (by kernel_rfl) rfl rfl (.bin rfl (.q (.p .v .unit)) rfl .int)) rfl (.c (.p .v (.p .v .unit))))))⟩
def lJ:bp C mU:=⟨by decide +kernel,rfl,rfl,(.seq (.s (.x (.x .v rfl (.bin rfl .v rfl .int)) rfl .v)) (.one (.ret rfl (.andN rfl rfl (.k (.x (.x .v rfl (.bin rfl .v rfl .int)) rfl .v) rfl .v) rfl (.and2 rfl rfl (.k (.x (.x .v rfl .v) rfl (.bin rfl .v rfl .int)) rfl .v) rfl rfl (.k (.x (.x .v rfl .v) rfl (.bin rfl .v rfl .int)) rfl .v))))))⟩
def lI:bp C mT:=⟨by decide +kernel,rfl,rfl,(.one (.ret rfl (.bin rfl (.bin rfl .int rfl (.x (.x .v rfl (.bin rfl .v rfl .int)) rfl .v)) rfl (.x (.x .v rfl .v) rfl .v))))⟩
def lH:bp C mS:=⟨by decide +kernel,rfl,rfl,(.seq (.s (.c (.p .v .unit))) (.seq (.fort rfl (by kernel_rfl) rfl (by kernel_rfl) rfl (.c (.p (.q (.p .v .unit)) (.p .v .unit))) (.one (.ite rfl rfl (.c (.p .v (.p .v (.p .v .unit)))) (.one (.asgS rfl rfl (.x .v rfl .v) rfl .v rfl (.c (.p .v (.p .v (.p .v .unit)))))) .skip0))) (.one (.ret rfl (.c (.p .v .unit))))))⟩
def lG:bp C mR:=⟨by decide +kernel,rfl,rfl,(.one (.ret rfl (.c (.p (.c (.p .v (.p (.str (by kernel_rfl)) .unit))) (.p (.str (by kernel_rfl)) .unit)))))⟩
def lF:bp C mQ:=⟨by decide +kernel,rfl,rfl,(.one (.ret rfl (.comp0 rfl (by kernel_rfl) (.rng1 (by kernel_rfl) rfl rfl (.q (.p .v .unit))) rfl (.c (.p .v (.p .v .unit))))))⟩
def lE:bp C mP:=⟨by decide +kernel,rfl,rfl,(.one (.ret rfl (.c (.p (.c (.p .v .unit)) (.p (.str (by kernel_rfl)) .unit)))))⟩
def lC:bp C mO:=⟨by decide +kernel,rfl,rfl,(.seq (.ite rfl rfl (.k .v rfl (.q (.p .v .unit))) (.one (.ret rfl (.x .v rfl .v))) .skip0) (.one (.ret rfl (.bin rfl (.bin rfl .int rfl .v) rfl .int))))⟩
def lB:bp C mN:=⟨by decide +kernel,rfl,rfl,(.seq (.asgC0 rfl (by kernel_rfl) rfl (by kernel_rfl) .v rfl .int) (.seq (.s (.lst (.p (.comp0 rfl (by kernel_rfl) .v rfl (.neg rfl .int)) .unit))) (.seq (.s (.lst .unit)) (.seq (.forv rfl (by kernel_rfl) rfl .v (.seq (.s (.lst (.p .int .unit))) (.seq (.forv rfl (by kernel_rfl) rfl .v (.one (.expr rfl rfl (.meth rfl rfl (by decide) rfl rfl .v (.p (.bin rfl (.x .v rfl (.neg rfl .int)) rfl (.bin rfl .int rfl .v)) .unit))))) (.seq (.expr rfl rfl (.meth rfl rfl (by decide) rfl rfl .v (.p .v .unit))) (.seq (.asgCZ0 rfl (by kernel_rfl) (by kernel_rfl) (by kernel_rfl) rfl rfl rfl .v rfl .v rfl (.bin rfl .v rfl .v)) (.one (.expr rfl rfl (.meth rfl rfl (by decide) rfl rfl .v (.p (.comp0 rfl (by kernel_rfl) .v rfl (.bin rfl (.bin rfl .int rfl .v) rfl .int)) .unit))))))))) (.one (.ret rfl (.tup (.p .v (.p .v .unit)))))))))⟩
def lA:bp C mM:=⟨by decide +kernel,rfl,rfl,(.seq (.unp rfl (by kernel_rfl) rfl (by kernel_rfl) rfl rfl (.c (.p .v .unit))) (.seq (.s (.lst .unit)) (.seq (.forv rfl (by kernel_rfl) rfl (.tup (.p .v (.p .v .unit))) (.seq (.s (.lst .unit)) (.seq (.forv rfl (by kernel_rfl) rfl (.rng1 (by kernel_rfl) rfl rfl (.q (.p .v .unit))) (.seq (.s (.x .v rfl .v)) (.one (.expr rfl rfl (.meth rfl rfl (by decide) rfl rfl .v (.p (.comp0 rfl (by kernel_rfl) (.rng1 (by kernel_rfl) rfl rfl (.q (.p .v .unit))) rfl (.q (.p (.k (.bin rfl (.x .v rfl .v) rfl (.bin rfl .int rfl (.bin rfl .int rfl (.bin rfl (.bin rfl .v rfl .v) rfl .int)))) rfl (.neg rfl .int)) .unit))) .unit)))))) (.one (.expr rfl rfl (.meth rfl rfl (by decide) rfl rfl .v (.p .v .unit))))))) (.one (.ret rfl (.tup (.p (.x .v rfl .int) (.p (.x .v rfl .int) .unit))))))))⟩
def lz:bp C mL:=⟨by decide +kernel,rfl,rfl,(.seq (.unp rfl (by kernel_rfl) rfl (by kernel_rfl) rfl rfl .v) (.seq (.unp rfl (by kernel_rfl) rfl (by kernel_rfl) rfl rfl .v) (.seq (.ite rfl rfl (.and2 rfl rfl (.k (.x (.x .v rfl .v) rfl .v) rfl .int) rfl rfl (.k .v rfl (.tup (.p (.bin rfl .v rfl .int) (.p .v .unit))))) (.one (.ret rfl (.tup (.p (.bin rfl .v rfl .int) (.p .v .unit))))) .skip0) (.seq (.ite rfl rfl (.and2 rfl rfl (.k (.x (.x .v rfl .v) rfl (.bin rfl .v rfl .int)) rfl .int) rfl rfl (.k .v rfl (.tup (.p .v (.p (.bin rfl .v rfl .int) .unit))))) (.one (.ret rfl (.tup (.p .v (.p (.bin rfl .v rfl .int) .unit))))) .skip0) (.seq (.ite rfl rfl (.and2 rfl rfl (.k (.x (.x .v rfl (.bin rfl .v rfl .int)) rfl .v) rfl .int) rfl rfl (.k .v rfl (.tup (.p (.bin rfl .v rfl .int) (.p .v .unit))))) (.one (.ret rfl (.tup (.p (.bin rfl .v rfl .int) (.p .v .unit))))) .skip0) (.one (.ret rfl (.tup (.p .v (.p (.bin rfl .v rfl .int) .unit))))))))))⟩
def ly:bp C mK:=⟨by decide +kernel,rfl,rfl,(.seq (.s (.bin rfl (.comp0 rfl (by kernel_rfl) (.rng1 (by kernel_rfl) rfl rfl .v) rfl (.tup (.p (.neg rfl .int) (.p .v .unit)))) rfl (.comp0 rfl (by kernel_rfl) (.rng1 (by kernel_rfl) rfl rfl .v) rfl (.tup (.p .v (.p .v .unit)))))) (.one (.ret rfl (.bin rfl (.bin rfl .v rfl (.comp0 rfl (by kernel_rfl) (.rng1 (by kernel_rfl) rfl rfl .v) rfl (.tup (.p .v (.p (.bin rfl (.bin rfl .v rfl .int) rfl .v) .unit))))) rfl (.comp0 rfl (by kernel_rfl) (.rng1 (by kernel_rfl) rfl rfl .v) rfl (.tup (.p (.bin rfl (.bin rfl .v rfl .int) rfl .v) (.p (.neg rfl .int) .unit))))))))⟩
def lx:bp C mJ:=⟨by decide +kernel,rfl,rfl,(.one (.ret rfl (.tup (.p (.q (.p (.q (.p (.x .v rfl .int) (.p .int .unit))) (.p (.bin rfl .v rfl .int) .unit))) (.p (.q (.p (.q (.p (.x .v rfl .int) (.p .int .unit))) (.p (.bin rfl .v rfl .int) .unit))) .unit)))))⟩
def lu:bp C mI:=⟨by decide +kernel,rfl,rfl,(.seq (.s (.q (.p .v .unit))) (.seq (.s (.c (.p .v .unit))) (.seq (.asgCE1 rfl (by kernel_rfl) (by kernel_rfl) (by kernel_rfl) rfl rfl (.c (.p .v .unit)) rfl rfl (.k (.bin rfl .v rfl .int) rfl .int) rfl .v) (.seq (.asgC0 rfl (by kernel_rfl) rfl (by kernel_rfl) .v rfl .non) (.seq (.forE rfl (by kernel_rfl) rfl (by kernel_rfl) (by kernel_rfl) rfl rfl .v (.one (.ite rfl rfl (.k (.x .v rfl .v) rfl .non) (.seq (.s .v) (.seq (.s (.c (.p .v (.p .v .unit)))) (.seq (bo.«while» rfl rfl (.and2 rfl rfl (.chain rfl rfl .int rfl (.x .v rfl .int) rfl .v) rfl rfl (.chain rfl rfl .int rfl (.x .v rfl .int) rfl .v)) (.seq (.s (.c (.p .v (.p .v (.p .v .unit))))) (.seq (.s .v) (.one (.s .v))))) (.seq (.asgS rfl rfl .v rfl .v rfl (.dlix rfl rfl rfl rfl .v rfl .v)) (.one (.asgS rfl rfl .v rfl (.x .v rfl .v) rfl .v)))))) .skip0))) (.one (.ret rfl .v)))))))⟩
def ls:bp C mH:=⟨by decide +kernel,rfl,rfl,(.seq (.s (.q (.p .v .unit))) (.seq (.asgC0 rfl (by kernel_rfl) rfl (by kernel_rfl) (.rng1 (by kernel_rfl) rfl rfl .v) rfl .int) (.seq (.forv rfl (by kernel_rfl) rfl (.rng1 (by kernel_rfl) rfl rfl .v) (.one (.asgS rfl rfl .v rfl (.bin rfl (.bin rfl .v rfl .v) rfl .v) rfl (.bin rfl (.bin rfl (.x .v rfl .v) rfl .v) rfl .v)))) (.one (.ret rfl .v)))))⟩
def lr:bp C mG:=⟨by decide +kernel,rfl,rfl,(.seq (.s (.q (.p .v .unit))) (.seq (.asgC0 rfl (by kernel_rfl) rfl (by kernel_rfl) (.rng1 (by kernel_rfl) rfl rfl .v) rfl .int) (.seq (.forv rfl (by kernel_rfl) rfl (.rng1 (by kernel_rfl) rfl rfl .v) (.one (.asgS rfl rfl .v rfl (.bin rfl (.neg rfl .v) rfl .v) rfl (.bin rfl (.neg rfl (.x .v rfl .v)) rfl .v)))) (.one (.ret rfl .v)))))⟩
def lq:bp C ii:=⟨by decide +kernel,rfl,rfl,(.seq (.s (.bin rfl .int rfl (.bin rfl (.c (.p .v (.p .int .unit))) rfl .int))) (.seq (.s (.c (.p .v .unit))) (.seq (.s (.lst .unit)) (.seq (.s (.lst .unit)) (.seq (.forv rfl (by kernel_rfl) rfl .v (.seq (.s (.c (.p .v .unit))) (.seq (.expr rfl rfl (.meth rfl rfl (by decide) rfl rfl .v (.p (.c (.p .v .unit)) .unit))) (.seq (.expr rfl rfl (.meth rfl rfl (by decide) rfl rfl .v (.p (.c (.p .v .unit)) .unit))) (.one (.ite rfl rfl (.or2 rfl rfl (.k (.c (.p (.x .v rfl (.neg rfl .int)) .unit)) rfl (.c (.p .v (.p (.neg rfl .int) .unit)))) rfl rfl (.k (.c (.p (.x .v rfl (.neg rfl .int)) .unit)) rfl (.c (.p .v .unit)))) (.one (.ret rfl .bl)) .skip0)))))) (.seq (.ite rfl rfl (.or2 rfl rfl (.k (.q (.p .v .unit)) rfl .v) rfl rfl (.k (.q (.p .v .unit)) rfl .v)) (.one (.ret rfl .bl)) .skip0) (.seq (.s .dict0) (.seq (.fort rfl (by kernel_rfl) rfl (by kernel_rfl) rfl (.c (.p .v .unit)) (.one (.dput rfl .v rfl (.q (.p .v .unit)) rfl .v))) (.seq (.forD rfl (by kernel_rfl) .v (.one (.ite rfl rfl (.or2 rfl rfl (.k (.dgetN rfl rfl rfl rfl .v rfl (.q (.p (.c (.p .v (.p .int .unit))) .unit))) rfl (.dget rfl rfl .v rfl .v)) rfl rfl (.k (.dgetN rfl rfl rfl rfl .v rfl (.q (.p (.c (.p .v .unit)) .unit))) rfl (.dget rfl rfl .v rfl .v))) (.one (.ret rfl .bl)) .skip0))) (.one (.ret rfl (.k (.dsum (by kernel_rfl) rfl rfl rfl .v) rfl (.q (.p .v .unit))))))))))))))⟩
def ac {P:a7->Prop}(h:P a)(t:∀d∈l,P d):∀d∈a::l,P d:=List.forall_mem_cons.mpr ⟨h,t⟩
def tT:∀d∈D,bp C d:=ac EQ (ac fq (ac EO (ac EN (ac EM (ac EL (ac EK (ac EJ (ac EI (ac EH (ac mi (ac mh (ac mf (ac me (ac md (ac ma (ac l9 (ac l8 (ac l7 (ac l6 (ac l5 (ac lZ (ac lY (ac lX (ac lW (ac lV (ac lU (ac lT (ac lS (ac lR (ac lQ (ac lP (ac lO (ac lN (ac lM (ac lL (ac lK (ac lJ (ac lI (ac lH (ac lG (ac lF (ac lE (ac lC (ac lB (ac lA (ac lz (ac ly (ac lx (ac lu (ac ls (ac lr (ac lq (λ_ h=>nomatch h)))))))))))))))))))))))))))))))))))))))))))))))))))))
def EV:∀d∈D,nW d:=ac (λ_ _ _ _ _ _=>bU (λ_=>rfl)) (ac (λ_ _ _ _ _ _=>cc (λ_ _=>rfl)) (ac (λ_ _ _ _ _ _=>cc (λ_ _=>rfl)) (ac (λ_ _ _ _ _ _=>dU (λ_ _ _=>rfl)) (ac (λ_ _ _ _ _ _=>fV (λ_ _ _ _=>rfl)) (ac (λ_ _ _ _ _ _=>cc (λ_ _=>rfl)) (ac (λ_ _ _ _ _ _=>cc (λ_ _=>rfl)) (ac (λ_ _ _ _ _ _=>cc (λ_ _=>rfl)) (ac (λ_ _ _ _ _ _=>bU (λ_=>rfl)) (ac (λ_ _ _ _ _ _=>cc (λ_ _=>rfl)) (ac (λ_ _ _ _ _ _=>bU (λ_=>rfl)) (ac (λ_ _ _ _ _ _=>bU (λ_=>rfl)) (ac (λ_ _ _ _ _ _=>bU (λ_=>rfl)) (ac (λ_ _ _ _ _ _=>bU (λ_=>rfl)) (ac (λ_ _ _ _ _ _=>cc (λ_ _=>rfl)) (ac (λ_ _ _ _ _ _=>bU (λ_=>rfl)) (ac (λ_ _ _ _ _ _=>bU (λ_=>rfl)) (ac (λ_ _ _ _ _ _=>fV (λ_ _ _ _=>rfl)) (ac (λ_ _ _ _ _ _=>fV (λ_ _ _ _=>rfl)) (ac (λ_ _ _ _ _ _=>cc (λ_ _=>rfl)) (ac (λ_ _ _ _ _ _=>dU (λ_ _ _=>rfl)) (ac (λ_ _ _ _ _ _=>fV (λ_ _ _ _=>rfl)) (ac (λ_ _ _ _ _ _=>cc (λ_ _=>rfl)) (ac (λ_ _ _ _ _ _=>bU (λ_=>rfl)) (ac (λ_ _ _ _ _ _=>cc (λ_ _=>rfl)) (ac (λ_ _ _ _ _ _=>cc (λ_ _=>rfl)) (ac (λ_ _ _ _ _ _=>bU (λ_=>rfl)) (ac (λ_ _ _ _ _ _=>cc (λ_ _=>rfl)) (ac (λ_ _ _ _ _ _=>bU (λ_=>rfl)) (ac (λ_ _ _ _ _ _=>cc (λ_ _=>rfl)) (ac (λ_ _ _ _ _ _=>bU (λ_=>rfl)) (ac (λ_ _ _ _ _ _=>bU (λ_=>rfl)) (ac (λ_ _ _ _ _ _=>cc (λ_ _=>rfl)) (ac (λ_ _ _ _ _ _=>bU (λ_=>rfl)) (ac (λ_ _ _ _ _ _=>dU (λ_ _ _=>rfl)) (ac (λ_ _ _ _ _ _=>cc (λ_ _=>rfl)) (ac (λ_ _ _ _ _ _=>bU (λ_=>rfl)) (ac (λ_ _ _ _ _ _=>dU (λ_ _ _=>rfl)) (ac (λ_ _ _ _ _ _=>dU (λ_ _ _=>rfl)) (ac (λ_ _ _ _ _ _=>cc (λ_ _=>rfl)) (ac (λ_ _ _ _ _ _=>bU (λ_=>rfl)) (ac (λ_ _ _ _ _ _=>bU (λ_=>rfl)) (ac (λ_ _ _ _ _ _=>bU (λ_=>rfl)) (ac (λ_ _ _ _ _ _=>cc (λ_ _=>rfl)) (ac (λ_ _ _ _ _ _=>bU (λ_=>rfl)) (ac (λ_ _ _ _ _ _=>bU (λ_=>rfl)) (ac (λ_ _ _ _ _ _=>dU (λ_ _ _=>rfl)) (ac (λ_ _ _ _ _ _=>bU (λ_=>rfl)) (ac (λ_ _ _ _ _ _=>cc (λ_ _=>rfl)) (ac (λ_ _ _ _ _ _=>bU (λ_=>rfl)) (ac (λ_ _ _ _ _ _=>cc (λ_ _=>rfl)) (ac (λ_ _ _ _ _ _=>bU (λ_=>rfl)) (ac (λ_ _ _ _ _ _=>bU (λ_=>rfl)) (λ_ h=>nomatch h)))))))))))))))))))))))))))))))))))))))))))))))))))))
def zk{K:Qb}(z0:QO K Ha "len"=some none)(z1:QO K Ha "int"=some none)(z2:QO K Ha "bool"=some none)(z3:QO K Ha "list"=some none)(z4:QO K Ha "tuple"=some none)(z5:QO K Ha "abs"=some none)(z6:QO K Ha "max"=some none)(z7:QO K Ha "min"=some none)(z8:QO K Ha "isinstance"=some none)(z9:QO K Ha "range"=some none)(z10:QO K Ha "str"=some none)(z11:QO K Ha "dict"=some none)(z12:QO K Ha "sum"=some none)(z13:QO K Ha "all"=some none)(z14:QO K Ha "zip"=some none)(z15:QO K Ha "enumerate"=some none)(z16:QO K Ha "sorted"=some none)(z17:QO K Ha "reversed"=some none):∀nm∈zn,QO K Ha nm=some none:=by
 unfold zn;simp only[List.forall_mem_cons];exact⟨z0,z1,z2,z3,z4,z5,z6,z7,z8,z9,z10,z11,z12,z13,z14,z15,z16,z17,λ_ q=>(Wi q).elim⟩
def dk {K:Qb}(X:K.In h)(G:h.Ns Ha mg){an:Option Addr}{kV:Value}(g:QO K Ha d.nm=some (some (.ref a)))(l:K.lookup a=some ⟨oc,od,.func (WD d.on d.on (y8 d.st) (yF d.st) (zF d.st) .none kV dc pm an cd ct),sl⟩)(c:Vh K cd d.on=true)(k:WM K (.ref a)=true):kf K mg d:=⟨a,_,AC l c k,W5 X G g⟩
def mk {K:Qb}(X:K.In h)(G:h.Ns Ha mg)(hD:∀e∈D,kf K mg e)(e0:QO K Ha "WALKED"=some (some (.int 1 t0)))(e1:QO K Ha "GREATEST_LISTED"=some (some (.int 6 t1)))(e2:QO K Ha "GREATEST_WALKED"=some (some (.int 5 t2)))(s0:QO K Ha "STEPS"=some (some (.ref sa0)))(v0:eZ K w sa0 [([85],-1,0),([82],0,1),([68],1,0),([76],0,-1)])(z:∀nm∈zn,QO K Ha nm=some none): (∀e∈D,kf K mg e)/\gP K w mg C/\∀nm∈zn,mg nm=none:=by
 refine⟨λd hd=>?_,⟨λnm i hi=>?_,λnm qq hi=>?_⟩,λnm hn=>?_⟩
 .exact hD d hd
 .unfold C at hi;rw[QU]at hi;cases q0:nm==("WALKED":Str)with
  |true=>
   rw[q0]at hi;cases hi;rw[beq_iff_eq.mp q0];exact⟨t0,W5 X G e0⟩
  |false=>
  rw[q0]at hi;rw[QU]at hi;cases q1:nm==("GREATEST_LISTED":Str)with
  |true=>
   rw[q1]at hi;cases hi;rw[beq_iff_eq.mp q1];exact⟨t1,W5 X G e1⟩
  |false=>
  rw[q1]at hi;rw[QU]at hi;cases q2:nm==("GREATEST_WALKED":Str)with
  |true=>
   rw[q2]at hi;cases hi;rw[beq_iff_eq.mp q2];exact⟨t2,W5 X G e2⟩
  |false=>
  rw[q2]at hi;cases hi
 .unfold C at hi;rw[QU]at hi;cases q0:nm==("STEPS":Str)with
  |true=>
   rw[q0]at hi;cases hi;rw[beq_iff_eq.mp q0];exact⟨sa0,W5 X G s0,v0⟩
  |false=>
  rw[q0]at hi;cases hi
 .exact PySem.W.mg_none_of X G (z nm hn)
end R72
namespace R72
open Mini
noncomputable def T:List Fn:=[f0,f1,f2,f3,f4,f5,f6,f7,f8,f9,tH,tG,tF,tE,tD,tz,tx,tw,tu,tt,tq,tp,tm,tj,th,tf,sZ,sY,sX,sW,sS,mF,sR,sQ,sP,sO,sN,sM,sL,sK,sJ,sI,sH,sG,sF,sE,sD,sC,sB,sy,sw,ss,eQ]
open Vl Vl.Lib
noncomputable def ku:Nat->Lv:=λk=>if k=8\/k=28\/k=29\/k=31 then .top else if k=30\/k=45 then .no else .full
abbrev CD(d:Nat):=ki ku T d
def iF (h:T[k]?=some f)(ds:List Dat):CD (d+1) k ds=jM ku (CD d) k f ds:=by
 show ki ku T (d+1) k ds=_;unfold ki;rw[h]
theorem jP:∀{ds:List Dat}{l:List Int},zO ds=some l->ds=l.map Dat.int
 |[],l,h=>by cases h;rfl
 |d::ds,l,h=>by
  cases d with
  |int i=>
   obtain⟨r,h1,rfl⟩:=QG.mp (show(zO ds).map (i::·)=some l from h);rw[jP h1];rfl
  |_=>cases h
theorem jQ:∀{ds:List Dat}{l:List (List Int)},xP ds=some l->ds=l.map fk
 |[],l,h=>by cases h;rfl
 |d::ds,l,h=>by
  cases d with
  |lst xs=>
   replace h:(match zO xs,xP ds with|some k,some ks=>some (k::ks)|_,_=>none)=some l:=h
   cases h1:zO xs with
   |none=>rw[h1]at h;cases h
   |some k=>
    cases h2:xP ds with
    |none=>rw[h1,h2]at h;cases h
    |some ks=>
     rw[h1,h2]at h;cases h;rw[jQ h2,jP h1];rfl
  |_=>cases h
set_option tactic.hygienic true in
abbrev En:=Nat×Nat×Nat×Nat
noncomputable def c0:List En:=[(22075240,45670123,31,10),(23125000,67450123,24,3),(22114120,5634127,8,8),(23163880,67034125,7,1),(26313160,67450123,30,13),(23176840,5634127,26,22)]
noncomputable def c1:List En:=[(26326120,3456127,25,25),(22076680,45672301,6,9),(23126440,67452301,2,2),(22115560,5612347,1,7),(23165320,67012345,0,0),(26314600,67452301,5,12)]
noncomputable def c2:List En:=[(22232200,5634127,29,11),(23281960,67034125,21,4),(26431240,67450123,32,15),(35879080,67034125,28,14),(23178280,5612347,4,21),(26327560,1452367,3,24)]
noncomputable def c3:List En:=[(23294920,5634127,23,23),(26444200,3456127,27,27),(35892040,5634127,22,26),(22116040,45672301,19,16),(23165800,67452301,12,5),(26315080,67452301,18,18)]
noncomputable def c4:List En:=[(22232680,25634701,17,17),(23282440,67234501,9,6),(26431720,67452301,20,20),(35879560,67234501,16,19),(23178760,45672301,38,35),(26328040,67452301,37,37)]
noncomputable def c5:List En:=[(23295400,25634701,36,36),(26444680,23456701,41,41),(35892520,25634701,40,40),(26483560,67452301,39,39),(35931400,67234501,35,38),(23178920,5612347,14,28)]
noncomputable def c6:List En:=[(26328200,1452367,13,30),(23295560,5634127,11,29),(26444840,3456127,34,34),(35892680,5634127,33,33),(26483720,1452367,15,32),(35931560,1234567,10,31)]
noncomputable def es:List En:=c0++(c1++(c2++(c3++(c4++(c5++c6)))))
noncomputable def dS(c:Nat):List (List Int):=(Wn 4).map λr=>(Wn 4).map λk=>((c/3 ^ (4*r+k)%3:Nat):Int)-1
noncomputable def dW(c:Nat):List Int:=(Wn 8).map λk=>((c/10^k%10:Nat):Int)
noncomputable def EU(t:List (List Int)):Nat:=t.flatten.foldr (λx n=>3*n+(x+1).toNat) 0
noncomputable def sA(i:Nat):List (List Int):=dS (es.getD i (0,0,0,0)).1
noncomputable def ge(r:Rd)(w:List Int):Bool:=match r with
 |.ok (.lst ds)=>decide (zO ds=some w)
 |_=>false
noncomputable def hZ(r:Rd)(t:List (List Int)):Bool:=match r with
 |.ok (.lst ds)=>decide (xP ds=some t)
 |_=>false
def oZ (h:ge r w=true):r=.ok (fk w):=by
 unfold ge at h;split at h
 .rw[jP (Jl h)];rfl
 .cases h
def oY (h:hZ r t=true):r=.ok (dN t):=by
 unfold hZ at h;split at h
 .rw[jQ (Jl h)];rfl
 .cases h
noncomputable def dw(e:En):Bool:=ge (CD 11 49 [dN (dS e.1)]) (dW e.2.1)&&ge (CD 10 23 [dN (dS e.1)]) (dW e.2.1)&&hZ (CD 11 40 [dN (dS e.1)]) (sA e.2.2.1)&&hZ (CD 11 42 [dN (dS e.1)]) (sA e.2.2.2)
def k0:c0.all dw=true:=by kernel_rfl
def k1:c1.all dw=true:=by kernel_rfl
def k2:c2.all dw=true:=by kernel_rfl
def k3:c3.all dw=true:=by kernel_rfl
def k4:c4.all dw=true:=by kernel_rfl
def k5:c5.all dw=true:=by kernel_rfl
def k6:c6.all dw=true:=by kernel_rfl
def kA:es.all dw=true:=by
 unfold es;rw[WL,WL,WL,WL,WL,WL,k0,k1,k2,k3,k4,k5,k6];rfl
noncomputable def an(d k:Nat)(e:En):Option Dat:=if d=10 then(if k=23 then some (fk (dW e.2.1))else none)else if k=49 then some (fk (dW e.2.1))else if k=40 then some (dN (sA e.2.2.1))else if k=42 then some (dN (sA e.2.2.2))else none
noncomputable def b9(d k:Nat)(ds:List Dat):Option Dat:=match ds with
 |[.lst xs]=>(xP xs).bind λt=>(es.find? λe=>e.1==EU t).bind λe=>if dS e.1=t then an d k e else none
 |_=>none
set_option tactic.hygienic true in
def AA (hd:d=10\/d=11)(h:b9 d k ds=some r):CD d k ds=.ok r:=by
 unfold b9 at h;split at h
 .next xs=>
  obtain⟨t,h1,h3⟩:=Qv.mp h;obtain⟨e,h2,h4⟩:=Qv.mp h3;clear h h3;have he:=Wp.mp kA e (List.mem_of_find?_eq_some h2);unfold dw at he;simp only[QH]at he;obtain⟨⟨⟨q1,q2⟩,q3⟩,q4⟩:=he;split at h4
  .next z=>
   rw[z]at q1 q2 q3 q4;rw[show(Dat.lst xs)=dN t by rw[jQ h1];rfl];unfold an at h4;rcases hd with rfl|rfl
   .rw[Jh rfl]at h4;split at h4
    .next y=>subst y;cases h4;exact oZ q2
    .cases h4
   .rw[Ji (by decide)]at h4;split at h4
    .next y=>subst y;cases h4;exact oZ q1
    .split at h4
     .next y=>subst y;cases h4;exact oY q3
     .split at h4
      .next y=>subst y;cases h4;exact oY q4
      .cases h4
  .cases h4
 .cases h
noncomputable def fx(d k:Nat)(ds:List Dat):Rd:=match b9 d k ds with
 |some r=>.ok r
 |none=>CD d k ds
def rV (hd:d=10\/d=11):fx d=CD d:=by
 funext k ds;unfold fx;cases h:b9 d k ds with
 |none=>rfl
 |some r=>exact(AA hd h).symm
noncomputable def cl(k:Nat)(ds:List Dat):Rd:=if k=31 then jM ku (fx 10) 31 mF ds else fx 11 k ds
set_option tactic.hygienic true in
def tS:cl=CD 11:=by
 funext k ds;unfold cl;split
 .next h=>subst h;rw[rV (.inl rfl)];exact(iF (d:=10) rfl ds).symm
 .rw[rV (.inr rfl)]
def EW(d:Nat)(ns:List Int)(i:Nat):∃c:Int,CD (d+1) 43 [.scr ns,.int i]=.ok (.int c):=by rw[iF (f:=qt) rfl];exact CT ns i
noncomputable def fj:Sm:=match eQ.body with
 |.seq _ b=>b
 |s=>s
noncomputable def lg:Ex:=.bin .add (.lit (.int 1)) (.bin .mod (.call 43 (.pair (.var 0) (.pair (.lit (.int 0)) .unit))) (.lit (.int 4)))
noncomputable def eF:bI->Bool
 |.ret (.bl true) _=>true
 |_=>false
def Az (h:eF r=true):eG k r=.ok (.bl true):=by
 unfold eF at h;split at h
 .simp[eG]
 .cases h
noncomputable def go(cl:Nat->List Dat->Rd)(ns:List Int)(n:Int):bI:=aU ku cl fj [some (.scr ns),some (.int n),none,none,none,none,none,none,none] [cJ (.scr ns),.full,.full,.full,.full,.full,.full,.full,.full]
def g1(ns:List Int):eF (go (CD 11) ns 1)=true:=by kernel_rfl
def g2(ns:List Int):eF (go (CD 11) ns 2)=true:=by kernel_rfl
def g3(ns:List Int):eF (go (CD 11) ns 3)=true:=by kernel_rfl
def g4(ns:List Int):eF (go cl ns 4)=true:=by kernel_rfl
set_option tactic.hygienic true in
def CS(ns:List Int):CD 12 52 [.scr ns]=.ok (.bl true):=by
 rw[iF (d:=11) (f:=eQ) rfl];obtain⟨c,h⟩:=EW 10 ns 0;have e1:yK .mod (.int c) (.int 4)=.ok (.int (c%4)):=u5 _ _ (by decide);have es:aU ku (CD 11) eQ.body [some (.scr ns),none,none,none,none,none,none,none,none] [cJ (.scr ns),.full,.full,.full,.full,.full,.full,.full,.full]=go (CD 11) ns (1+c%4):=by
  show aU ku (CD 11) (.seq (.asg 1 lg) fj) _ _=_;have e:az (CD 11) lg [some (.scr ns),none,none,none,none,none,none,none,none]=.ok (.int (1+c%4)):=by
   simp only[lg,u7,B6,B7,B8,B5,Ep,Rd.bind_ok,Ci,show CD 11 43 [.scr ns,.int 0]=.ok (.int c)from h,e1,u6]
  rw[zK ku (CD 11) _ _ rfl,uY,e];simp only[Rd.bindS_ok];rw[Ch rfl];rfl
 unfold jM;rw[Jh (by rfl)];show eG _ (aU ku (CD 11) eQ.body [some (.scr ns),none,none,none,none,none,none,none,none] [cJ (.scr ns),.full,.full,.full,.full,.full,.full,.full,.full])=_;rw[es];refine Az ?_;rcases(by lia:1+c%4=1\/1+c%4=2\/1+c%4=3\/1+c%4=4)with q|q|q|q<;>rw[q]
 .exact g1 ns
 .exact g2 ns
 .exact g3 ns
 .rw[<-tS];exact g4 ns
def pure(ns:List Int)(_:ns.length<=63):∃m,yE (D.map (·.fn)) 12 52 [.rol (ns.map Wd.int)] []=.ok (.bl true) m:=B9 ku T 12 52 ns (CS ns)
end R72
namespace Mini
open PySem PySem.Spec PyProof.Rows L2
def tR {run:Value->List Value->Sem Value}{K:GS->Qb}(e:∀P,as=(K P).map (·.1))(h:VG q loose XP (λw h=>(K w.params).In h) r d kwd run):PySem.W.WalkX q loose XP (PySem.W.X.obsZ as) (PySem.W.X.valZ K n t) r d kwd run:=
 λw s₀ s₁ mg mb G y a o pm cd doc dV kV h1 h2 h3 h4 h5 h6 args vals as' L p1 p2 p3 p4 p5=>h w s₀ s₁ mg mb G (PySem.W.InK.keeps (K:=K) w _ _ (PySem.W.X.z_facts e y).2.1 L.keeps) a o pm cd doc dV kV h1 h2 h3 h4 h5 h6 args vals as' p1 p2 p3 p4 p5
end Mini
namespace R72
open PySem L2 Mini PySem.W
noncomputable def fO(d:a7)(m:Value)(c:Addr):Obj:=iS d.on d.on d.st m c
def ES (X:(K P).In h)(G:h.Ns Ha mg)(g:nsIn (K P) Ha d.nm=some (some (.ref a)))(l:(K P).lookup a=some (fO d m c))(k:codeIn (K P) (.ref c) d.on=true):kf (K P) mg d:=
 dk X G g l k (by show(match (K P).lookup a with|some ⟨_,_,.func _,_⟩=>true|some ⟨_,_,.cls _,_⟩=>_|_=>false)=true;rw[l];rfl)
def ER (X:(K P).In h)(G:h.Ns Ha mg){l:List (a7×Addr×Addr×Value)}(e:l.map (λx=>(nsIn (K P) Ha x.1.nm,(K P).lookup x.2.1,codeIn (K P) (.ref x.2.2.1) x.1.on))=l.map λx=>(some (some (.ref x.2.1)),some (fO x.1 x.2.2.2 x.2.2.1),true)):∀d∈l.map (·.1),kf (K P) mg d:=λd hd=>by
 obtain⟨x,hx,rfl⟩:=WQ.mp hd;have q:=List.map_inj_left.mp e x hx;exact ES X G (Jf (·.1) q) (Jf (·.2.1) q) (Jf (·.2.2) q)
noncomputable def lD:List (a7×Addr×Addr×Value):=[(d0,46,45,m0),(d1,53,52,m0),(d2,60,59,m0),(d3,67,66,m1),(d4,74,73,m1),(d5,81,80,m1),(d6,88,87,m1),(d7,95,94,m1),(d8,100,99,m2),(d9,105,104,m2),(nK,112,111,m3),(nJ,117,116,m3),(nI,122,121,m3),(nH,129,128,m4),(nG,134,133,m4),(nF,139,138,m4),(nE,146,145,m4),(nA,158,157,m5),(nz,163,162,m5),(ny,170,169,m5),(nw,177,176,m5),(nv,184,183,m5),(nu,189,188,m5),(nr,196,195,m5),(nq,201,200,m6),(nl,208,207,m6),(nk,215,214,m6),(nj,222,221,m7),(ni,227,226,m7),(nh,232,231,m7),(ng,239,238,m7),(nc,244,243,m7),(mZ,251,250,m8),(mY,256,255,m8),(mX,263,262,m8),(mW,268,267,m8),(mV,273,272,m8),(mU,280,279,m9),(mT,287,286,m9),(mS,294,293,dO),(mR,301,300,dO),(mQ,306,305,dO),(mP,313,312,dO),(mO,320,319,cf),(mN,325,324,cf),(mM,330,329,cf),(mL,337,336,cf),(mK,342,341,cf),(mJ,349,348,cf),(mI,354,353,cf),(mH,359,358,cf),(mG,364,363,cf),(ii,371,370,cf)]
section
variable(P:GS)
def zb:∀nm∈zn,nsIn (K P) Ha nm=some none:=zk (by kernel_rfl) (by kernel_rfl) (by kernel_rfl) (by kernel_rfl) (by kernel_rfl) (by kernel_rfl) (by kernel_rfl) (by kernel_rfl) (by kernel_rfl) (by kernel_rfl) (by kernel_rfl) (by kernel_rfl) (by kernel_rfl) (by kernel_rfl) (by kernel_rfl) (by kernel_rfl) (by kernel_rfl) (by kernel_rfl)
end
end R72
open PySem PySem.W PyProof.Rows
set_option maxRecDepth 100000 in
theorem PySem.Challenge.cw_loopgyre_k72_whole_books_turned_holds : PySem.Challenge.rw_loopgyre_k72_whole_books_turned.Holds := by
 w_on;o_law
 refine holds_openX (q:=R72.qv) (loose:=R72.fZ) (Xt:=R72.Xt) (XP:=XL R72.qv []) (Yf:=X.obsZ R72.as) (Ya:=X.valZ R72.K 372 703) (N:=4502) R72.hl (λs e=>xl_of s (QB.mp e).1) XL.keeps (by rfl) (by rfl) (by rfl) (λs e=>recFacts_of (QB.mp e).2) (by rfl) (by assumption) (by decide +kernel) ⟨rfl,rfl,rfl,rfl,rfl,by decide +kernel⟩ ?hw ?hc
 case hw=>w_witness2
 refine Mini.tR (K:=R72.K) (λ_=>rfl) ?_;refine Mini.ub (l:=PySem.Challenge.rw_loopgyre_k72_whole_books_turned) (D:=R72.D) (C:=R72.C) (k:=12) (i:=52) (dl:=R72.ii) (x:="_law_script") (n:=63) rfl (by decide) rfl ⟨rfl,by decide,by decide⟩ (λw h Y=>Y) rfl R72.tT R72.EV rfl rfl rfl ?F R72.pure
 case F=>
  intro w mg fa h KX G hmg;exact R72.mk KX G (t0:=367) (t1:=456) (t2:=488) (R72.ER KX G (l:=R72.lD) (by kernel_rfl)) (by kernel_rfl) (by kernel_rfl) (by kernel_rfl) (sa0:=147) (by kernel_rfl) (Mini.ET (a:=147) (b1:=148) (b2:=149) (b3:=150) (b4:=151) (t1:=369) (t2:=373) (t3:=376) (t4:=379) (ep:=4) (r1:=371) (z1:=372) (n1:=0) (o1:=none) (l1:=#[]) (r2:=374) (z2:=375) (n2:=0) (o2:=none) (l2:=#[]) (r3:=377) (z3:=378) (n3:=0) (o3:=none) (l3:=#[]) (r4:=380) (z4:=382) (n4:=0) (o4:=none) (l4:=#[]) (e1:=PyData.keyHash w.params ⟨⟨[85]⟩⟩) (e2:=PyData.keyHash w.params ⟨⟨[82]⟩⟩) (e3:=PyData.keyHash w.params ⟨⟨[68]⟩⟩) (e4:=PyData.keyHash w.params ⟨⟨[76]⟩⟩) rfl (by kernel_rfl) (by kernel_rfl) (by kernel_rfl) (by kernel_rfl) (by kernel_rfl) rfl rfl rfl rfl) (R72.zb w.params)
