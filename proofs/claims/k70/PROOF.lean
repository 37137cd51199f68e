import PyProof.Rows.All
import Wide.All
import OpenK.AllK
import Wide.FinOn
import Lean
import PyProof.EqAt
import PyProof.EqKinds
import PyProof.NeKinds
import PyProof.TupleCall
import OpenK.KOwn
import PyProof.WalkInts
import KE.KIsAll
import KE.RegKIsAll
import PyProof.ExcAttrAll.ValueError
import OpenK.KMake
import PyProof.ExcInit
import PySem.Challenge.RW_loopgyre_k70_sizes_refused
open PySem renaming Scope→HH,Params→HI,Program→HJ,Shared→HK,World→HL,treeTable→HM,hashStr→HN,Paired→HP,Heap→HQ,sysModules→HR,entryOfKey→HS,tupleKind→HU,intKind→HV,mainGlobals→HW,bootBuiltins→HX,Around→HY,GenState→Ia,Model→Ib,wpAny→Ic,model→Ie,backTo→Ig,starEach→Ih,wpAny_mono→Ii,wpAny_loadName_local→Ij,wpAny_loadName_cell→Ik,wpAny_truthy_bool→Il,wpAny_execs_nil→Im,wpAny_execs_cons→Io,swapsWith→Ip,wpAny_Expr_any→Iq,assignEach→Ir,setItem→Is,Operator→Iu,wpAny_bind→Iv,wpAny_holding→Iw,wpAny_standAt→Ix,wpAny_passesOwn→Iy,pyNext→Iz,letOwnedTupleGo→IA,wpAny_pure→IB,rawInt→IC,wpAny_pyIter_list→ID,foldedSetIterable→IE,binaryOp→IF,compareOp→IG,CmpOp→IH,behindInMarks→II,cLine→IJ,FuncData→IK,BindsTo→IL,codeAny→IM,codeAny_mono→IN,wpAny_Call_Name_kw→IP,NameKind→IQ,bindL→IR,bindC→IS,cellsFrom→IT,concat_meets→IU,noFill_tuple_add→IV,seq_tuple_add→IW,IsPart→IX,wpAny_field→IY,getItem→IZ,wpAny_callSpecial?_slot→I0,wpAny_call_entry→Ja,wpAny_newObj_type→Jb,sliceBounds→Jd,attributeBase→Je,backToKw→Jf,keywordEach→Jg,Keyword→Jh,wpAny_Call_method_late→Ji,call_meets→Jj,callerA→Jl,pushCells→Jm,pushCells_keeps→Jn,newFunctionEnv→Jo,relabel→Jp,notedBy→Jq,wpAny_comprehension_free→Jr,wpAny_rule→Js,putAt→Jt,wpAny_notOrdered_dict→Ju,IsTupleKey→Jv,atKey→Jw,wpAny_forIn_list→Jx,wpAny_dictEntries→Jy,wpAny_dictEpoch→Jz,valueAt→JE,wpAny_pyIter_keyiter→JF,wpAny_nextOf_list_end→JG,wpAny_setField→JH,firstArgMember→JI,wpAny_of_eq→JJ,wpAny_attempt→JK,wpAny_typeNameOfWhole_keyiter→JL,wpAny_isOneOf_keyiter→JM,field→JN,wpAny_seqItems→JO,IsZip→JP,IsPair→JQ,wpAny_setField_rec→JR,wpAny_onRaise→JS,wpAny_updateSeq_pair→JT,wpAny_letGo→JU,ItemsOf→JV,codeAny_builtin→JW,checkBuiltinCall→JX,codeAny_call_builtin→JZ,wpAny_loadPart_at→J2,excClassObj→J3,wpAny_isSubtype_exc→J4
open PyProof.Rows renaming AllBare→HZ,subscriptTail_builtinR→Jc,IntsAre→Jk,Keyed→JA,seqObj→JB,get?_update_seq→JC,sortedAll→JD
open PySem.W renaming mroIn→JY,findIn→J0,looks_findIn→J1
open PySem.W renaming Frag→Qa,nsIn→Qq,mg_of→Qy,kitOne→QG,kia_one→QP,keepIn→QY,mroIn→Q0,excIn→Q8,fnOf→Wb,findIn→Wt,cellsFrom_some→WC,codeIn→WH,methodObj→WQ,kitx_list→WR,kitx_dict→WS,instObj→WV,lookIn→WZ,WalkO→W5,hideAll_get→Vb
open List renaming getElem?_eq_some_iff→Qb,mem_cons_of_mem→Qd,getElem?_append_left→Qh,getElem?_append_right→Qi,mem_cons→Qj,mem_of_getElem?→Ql,mem_append_right→Qn,getElem?_set_ne→Qo,size_toArray→Qr,replicate→Qt,nodup_nil→Qu,getElem?_eq_getElem→Qv,nodup_cons→Qw,getElem?_eq_none→Qz,mem_cons_self→QA,nodup_append→QB,getElem?_set→QC,getElem?_map→QD,length_map→QF,lookup_cons→QI,mem_singleton→QK,mem_append_left→QL,mem_append→QN,map_cons→QO,getElem?_eq_none_iff→QR,append_nil→QS,not_mem_nil→QV,getElem?_set_self→QW,replicate_succ→QX,range→Q2,length_append→Q3,reverse_cons→Q5,flatten_cons→Q6,all_cons→Q7,drop_drop→Wc,all_eq_true→Wf,find?_cons→Wk,getElem?_replicate→Wl,getElem_inj→Wo,any_eq_true→Wp,mem_iff_getElem→Wq,length_set→Wr,filterMap_cons→Wu,mem_filterMap→Ww,append_assoc→Wy,any_cons→WA,length_cons→WD,range_succ_eq_map→WF,mem_map→WG,map_append→WI,set_append_right→WK,forIn_nil→WN,any_eq_false→WU,length_take→WX,of_mem_zip→W1,nil_append→W2,forIn_cons→W3,getD_eq_getElem?_getD→W6,foldl→W7,drop_eq_getElem_cons→W8,set_eq_of_length_le→W9
open PySem.Heap renaming get?_push_of_some→Qc,lt_size→Qg,get?_push_size→Qk,SameBut→QT,size_push→We,get?_update_self→Wn,get?_update_ne→WP,size_update→WY,ExtBut→W0
open Nat renaming lt_of_lt_of_le→Qe,le_refl→Qf,le_trans→Qm,ne_of_lt→Qx,lt_irrefl→QZ,lt_succ_self→Q4,lt_succ_of_lt→Wa,ne_of_gt→Wh,le_of_lt→Wv,le_succ→Wz,zero_le→WO,le_of_eq→WW
open Bool renaming and_eq_true→Qp,and_eq_true_iff→Qs,false_ne_true→QJ,false_eq_true→QU,not_eq_true'→Q9,or_eq_true→Ws,beq_eq_decide_eq→WL,eq_iff_iff→W4,not_true→Va
open Option renaming bind_eq_some_iff→QE,map_eq_some_iff→QH,map_some→QM,bind_some→QQ,isSome_iff_exists→Wj,getD_some→WT,bind→Vc
open Array renaming getElem?_eq_getElem→Wg,length_toList→Wi,toList→Wm,getElem?_eq_none→WE,mem_of_getElem?→WJ,mem_toList_iff→WM,getElem?_toList→Vd
open Int renaming fdiv_eq_ediv_of_nonneg→Wx,toNat_natCast→WB
set_option Elab.async false
set_option linter.all false
set_option maxRecDepth 100000
set_option genSizeOf false
set_option maxHeartbeats 0
set_option tactic.hygienic false
set_option bootstrap.genMatcherCode false
set_option compiler.extract_closed false
set_option backward.eqns.nonrecursive false
set_option backward.eqns.deepRecursiveSplit false
noncomputable section
noncomputable def J5.{u,v}:=@congrArg.{u,v}
noncomputable def J6:=@decide_eq_false
noncomputable def J7.{u}:=@if_pos.{u}
noncomputable def J8.{u}:=@if_neg.{u}
noncomputable def J9.{u}:=@absurd.{u}
noncomputable def Ka:=@decide_eq_true
noncomputable def Kb:=@of_decide_eq_true
noncomputable def Kc:=@decide_eq_true_eq
namespace L2
open PySem PySem.Spec PyProof.Rows
noncomputable def yR(s:Stmt):Arguments:=match s with
 |.FunctionDef _ a _ _ _ _ _ _ _ _=>a
 |_=>{posonlyargs:=[],args:=[],vararg:=none,kwonlyargs:=[],kw_defaults:=[],kwarg:=none,defaults:=[]}
noncomputable def yh(s:Stmt):List Stmt:=match s with
 |.FunctionDef _ _ b _ _ _ _ _ _ _=>b
 |_=>[]
noncomputable def zt(s:Stmt):HH:=match s with
 |.FunctionDef _ _ _ _ _ _ sc _ _ _=>sc
 |_=>{kind:=.function,names:=[],isGenerator:=false,isCoroutine:=false}
end L2
namespace R70
open PySem L2 PySem.W
noncomputable def top(i:Nat):Stmt:=PySem.Challenge.pw_loopgyre_k70_sizes_refused.main.body.getD i (.Pass ⟨0,0,0,0⟩)
noncomputable def cA(l:List Value):Obj:=⟨.type "tuple",none,.seq l.toArray 0,#[]⟩
noncomputable def eP(l:List Value):Obj:=⟨.none,none,.fields l.toArray,#[]⟩
noncomputable def fv(s:String)(v:Value):Obj:=⟨.type "builtin_function_or_method",none,.fields #[.builtin s,v],#[]⟩
noncomputable def iu(a b:Nat)(v:Value):Obj:=⟨.type "frame",none,.plain,#[some (.ref a),some (.ref 3),some (.ref b),none,some v,none,some (.ref 0)]⟩
noncomputable def eE(P:HI)(e:Nat)(l:List (Str×Nat×Value)):Obj:=⟨.type "dict",none,.dict (l.map λx=>⟨PyData.keyHash P x.1,.str x.1 x.2.1,x.2.2⟩).toArray e,#[]⟩
noncomputable def eQ(s q:Str)(t l n f a:Nat)(z:Bool)(b:Nat)(c d e:Value)(u:Nat):Obj:=⟨.type "code",none,.fields #[.str s t,.str q (t+1),.str "/claim/cut.py" (t+2),.int l 0,.int n 0,.int 0 0,.int 0 0,.int f 0,.ref a,.bool z,.int 181 0,.ref b,.none,c,d,e,.int u 0,.int l 0,.str "/claim/cut.py" (u+1)],#[]⟩
noncomputable def lz(n q:Str)(d:Stmt):Obj:=⟨.none,none,.func {name:=n,qualname:=q,params:=yR d,body:=.stmts (yh d),scope:=zt d,globals:=0,closure:=[],defaults:=.none,kwdefaults:=.none},#[]⟩
noncomputable def iw(n q:Str)(d:Stmt)(m:Value)(c:Addr):Obj:=⟨.type "function",none,.func (fnOf n q (yR d) (yh d) (zt d) .none .none .none m none (.ref c) .none),#[]⟩
noncomputable def oV(i k:Nat):Stmt:=match top i with
 |.ClassDef _ _ _ b _ _ _ _ _ _ _=>b.getD k (top 0)
 |_=>top 0
noncomputable def Fk(t:Nat)(l:List Str):List Value:=(l.zipIdx t).map λx=>.str x.1 x.2
noncomputable def bF(m:Value)(a t i:Nat):List Obj×List (Str×Nat×Value)×List Value:=match top i with
 |.FunctionDef n g b _ _ _ c _ _ p=>
  let d:=top i
  let v:=c.names.filterMap λx=>match x.2 with |.local=>some x.1|_=>none
  if c.more.isEmpty then([cA [],eP [],cA (Fk (t+3) v),cA [],lz n n d,eQ n n t p.line g.args.length 3 a true (a+1) (.ref (a+2)) (.ref (a+3)) (.ref (a+4)) (t+3+v.length),iw n n d m (a+5)],[(n,t+5+v.length,.ref (a+6))],[.int p.line 0,.int p.col 0,.ref (a+5)])
  else([cA [],eP [],lz n n d,eQ n n t p.line g.args.length 3 a true (a+1) .none .none (.ref (a+2)) (t+3),iw n n d m (a+3)],[(n,t+5,.ref (a+4))],[.int p.line 0,.int p.col 0,.ref (a+3)])
 |_=>([],[],[])
noncomputable def eR(P:HI)(m:Value)(a t i:Nat):List Obj×List (Str×Nat×Value)×List Value:=match top i with
 |.ClassDef n _ _ _ _ _ _ _ _ _ p=>
  let k (l:List (Str×Nat×Value)):List (Str×Nat×Value):=.cons ("__module__",t+7,m) (.append l [("__firstlineno__",t+11,.int p.line (t+10)),("__static_attributes__",t+12,.ref (a+7))])
  ([cA [.ref 24],fv "type.__prepare__" (.type "type"),eE P 4 (k [("__qualname__",t+9,.str n (t+8))]),cA [],eP [],eQ n n (t+2) p.line 0 0 (a+3) false (a+4) .none .none .none (t+5),iu (a+5) (a+2) m,cA [],eE P 2 (.append (k []) [("__doc__",t+13,.none)]),⟨.type "type",none,.cls ⟨n,[.ref 24],[.ref (a+9),.ref 24,.type "ValueError",.type "Exception",.type "BaseException",.type "object"],a+8,n,true,[],[],false,none,false⟩,#[some (.ref a),none,some (.str n t),some (.str n (t+8)),some (.builtin "ValueError.__new__"),some (.bool true)]⟩,⟨.type "super",none,.fields #[.ref (a+9),.ref (a+9),.ref (a+9)],#[]⟩,fv "object.__init_subclass__" (.ref (a+9))],[(n,t+15,.ref (a+9))],[.int p.line 0,.int p.col 0,.ref (a+5)])
 |_=>([],[],[])
noncomputable def m0:Value:=.str "loopgyre.kinds" 344
noncomputable def m1:Value:=.str "loopgyre.floors" 369
noncomputable def m2:Value:=.str "loopgyre.signs" 400
noncomputable def m3:Value:=.str "loopgyre.arrows" 414
noncomputable def m4:Value:=.str "loopgyre.sides" 438
noncomputable def m5:Value:=.str "loopgyre.links" 467
noncomputable def m6:Value:=.str "loopgyre.webs" 556
noncomputable def m7:Value:=.str "loopgyre.books" 588
noncomputable def m8:Value:=.str "loopgyre.counts" 630
noncomputable def m9:Value:=.str "law_loopgyre_k70_sizes_refused" 745
noncomputable def eI:Value:=.str "loopgyre.errors" 187
noncomputable def lA(P:HI):List (List Obj×List (Str×Nat×Value)×List Value):=[([cA [(.type "ValueError")],fv "type.__prepare__" (.type "type"),eE P 4 [("__module__",196,.str "loopgyre.errors" 187),("__qualname__",198,.str "GyreError" 197),("__firstlineno__",200,.int 2 199),("__static_attributes__",201,.ref 22)],cA [],eP [],eQ "GyreError" "GyreError" 191 2 0 0 18 false 19 .none .none .none 194,iu 20 17 (.str "loopgyre.errors" 187),cA [],eE P 3 [("__module__",196,.str "loopgyre.errors" 187),("__firstlineno__",200,.int 2 199),("__static_attributes__",201,.ref 22),("__weakref__",203,.ref 25),("__doc__",204,.none)],⟨.type "type",none,.cls ⟨"GyreError",[(.type "ValueError")],[(.ref 24),(.type "ValueError"),(.type "Exception"),(.type "BaseException"),(.type "object")],23,"GyreError",true,[],[(.ref 44),(.ref 56),(.ref 68),(.ref 80),(.ref 92),(.ref 104),(.ref 116),(.ref 128)],false,none,false⟩,#[(some (.ref 15)),none,(some (.str "GyreError" 189)),(some (.str "GyreError" 197)),(some (.builtin "ValueError.__new__")),(some (.bool true))]⟩,⟨.type "getset_descriptor",none,.fields #[(.str "__weakref__" 202),(.ref 24),(.builtin "ExceptionGroup.__weakref__"),.none],#[]⟩,⟨.type "super",none,.fields #[(.ref 24),(.ref 24),(.ref 24)],#[]⟩,fv "object.__init_subclass__" (.ref 24)],[("GyreError",206,.ref 24)],[.int 2 0,.int 0 0,.ref 20]),
 ([cA [(.ref 24)],fv "type.__prepare__" (.type "type"),eE P 5 [("__module__",214,.str "loopgyre.errors" 187),("__qualname__",216,.str "NoState" 215),("__firstlineno__",218,.int 4 217),("__init__",226,.ref 41),("__static_attributes__",228,.ref 42)],cA [],eP [(.int 6 0),(.int 4 0),(.ref 40)],eQ "NoState" "NoState" 209 4 0 0 31 false 32 .none .none .none 212,iu 33 30 (.str "loopgyre.errors" 187),cA [],eP [],cA [(.str "self" 222),(.str "spot" 223)],cA [],lz "__init__" "NoState.__init__" (oV 2 0),eQ "__init__" "NoState.__init__" 219 6 2 3 35 true 36 (.ref 37) (.ref 38) (.ref 39) 224,iw "__init__" "NoState.__init__" (oV 2 0) eI 40,cA [(.str "spot" 227)],eE P 2 [("__module__",214,.str "loopgyre.errors" 187),("__firstlineno__",218,.int 4 217),("__init__",226,.ref 41),("__static_attributes__",228,.ref 42),("__doc__",229,.none)],⟨.type "type",none,.cls ⟨"NoState",[(.ref 24)],[(.ref 44),(.ref 24),(.type "ValueError"),(.type "Exception"),(.type "BaseException"),(.type "object")],43,"NoState",true,[],[],false,none,false⟩,#[(some (.ref 28)),none,(some (.str "NoState" 207)),(some (.str "NoState" 215)),(some (.builtin "ValueError.__new__")),(some (.bool true))]⟩,⟨.type "super",none,.fields #[(.ref 44),(.ref 44),(.ref 44)],#[]⟩,fv "object.__init_subclass__" (.ref 44)],[("NoState",231,.ref 44)],[.int 4 0,.int 0 0,.ref 33]),
 eR P eI 47 232 3,
 eR P eI 59 248 4,
 eR P eI 71 264 5,
 eR P eI 83 280 6,
 eR P eI 95 296 7,
 eR P eI 107 312 8,
 eR P eI 119 328 9,
 bF m0 131 346 11,
 bF m0 138 353 12,
 bF m0 145 361 13,
 bF m1 152 371 15,
 bF m1 159 380 16,
 bF m1 166 390 17,
 bF m2 173 402 19,
 bF m2 178 408 20,
 bF m3 183 416 22,
 bF m3 190 426 23,
 bF m3 195 432 24,
 bF m4 200 440 26,
 bF m4 207 447 27,
 bF m4 212 453 28,
 bF m4 217 459 29,
 ([],[("WALKED",470,.int 1 469)],[]),
 ([eE P 4 [("U",471,.ref 225),("R",475,.ref 226),("D",478,.ref 227),("L",481,.ref 228)],cA [(.int (-1) 473),(.int 0 474)],cA [(.int 0 476),(.int 1 477)],cA [(.int 1 479),(.int 0 480)],cA [(.int 0 482),(.int (-1) 484)]],[("STEPS",489,.ref 224)],[]),
 bF m5 229 490 33,
 bF m5 236 502 34,
 bF m5 241 508 35,
 bF m5 248 520 36,
 bF m5 255 531 37,
 bF m5 262 543 38,
 bF m5 267 549 39,
 ([],[("GREATEST_LISTED",559,.int 6 558)],[]),
 bF m6 274 560 42,
 bF m6 279 566 43,
 bF m6 286 579 44,
 ([],[("GREATEST_WALKED",591,.int 5 590)],[]),
 bF m7 293 592 47,
 bF m7 300 603 48,
 bF m7 305 609 49,
 bF m7 310 615 50,
 bF m7 317 624 51,
 ([],[("GREATEST_STEPPED",633,.int 7 632)],[]),
 ([],[("GREATEST_PRODUCT",635,.int 30 634)],[]),
 bF m8 322 636 55,
 bF m8 329 643 56,
 bF m8 334 649 57,
 bF m8 341 661 58,
 bF m8 348 673 59,
 bF m8 353 679 60,
 bF m8 358 685 61,
 bF m8 365 692 62,
 bF m8 372 702 63,
 bF m8 379 709 64,
 bF m8 386 720 65,
 bF m8 393 728 66,
 bF m8 400 739 67,
 bF m9 405 747 69,
 bF m9 412 755 70,
 bF m9 419 763 71,
 bF m9 426 772 72]
noncomputable def sE(P:HI):List Obj:=cA []::eP ((lA P).flatMap (·.2.2))::eQ "<module>" "<module>" 182 1 0 0 11 false 12 .none .none .none 185::iu 13 3 (.str "__main__" 164)::(lA P).flatMap (·.1)
noncomputable def sF(P:HI):Obj:=eE P 71 (.append [("__name__",165,.str "law_loopgyre_k70_sizes_refused" 745),("__doc__",166,.none),("__package__",167,.none),("__loader__",168,.builtin "__main__.__loader__#opaque"),("__spec__",169,.none),("__annotations__",170,.ref 6),("__builtins__",171,.ref 4),("__file__",173,.str "/claim/cut.py" 172),("__cached__",174,.none)] ((lA P).flatMap (·.2.1)))
noncomputable def as:List Addr:=[3,23,24,43,44,55,56,67,68,79,80,91,92,103,104,115,116,127,128,136,137,143,144,150,151,157,158,164,165,171,172,176,177,181,182,188,189,193,194,198,199,205,206,210,211,215,216,222,223,224,225,226,227,228,234,235,239,240,246,247,253,254,260,261,265,266,272,273,277,278,284,285,291,292,298,299,303,304,308,309,315,316,320,321,327,328,332,333,339,340,346,347,351,352,356,357,363,364,370,371,377,378,384,385,391,392,398,399,403,404,410,411,417,418,424,425,431,432]
noncomputable def K(P:HI):Frag:=(3,sF P)::as.tail.map λa=>(a,(sE P).getD (a-11) (cA []))
noncomputable def qv:HJ:={PySem.Challenge.pw_loopgyre_k70_sizes_refused with main:={PySem.Challenge.pw_loopgyre_k70_sizes_refused.main with body:=[1,2,3,4,5,6,7,8,9,11,12,13,15,16,17,19,20,22,23,24,26,27,28,29,31,32,33,34,35,36,37,38,39,41,42,43,44,46,47,48,49,50,51,53,54,55,56,57,58,59,60,61,62,63,64,65,66,67,69,70,71,72].map top} }
noncomputable def iM:List Str:=["STEPS"]
noncomputable def Xt(s:HK):Bool:=xlAt qv [] s&&recOk (RowW.records PySem.Challenge.rw_loopgyre_k70_sizes_refused.row.toRowW) s
noncomputable def zS(w:HL):HK:=
 let b:=(((fencedOpening HM PySem.Challenge.pw_loopgyre_k70_sizes_refused w 7230).map λs=>s.heap.objs.toList).getD [])
 {heap:={objs:=(b.take 3++sF w.params::((b.drop 4).take 7++sE w.params)).toArray},toks:=785}
noncomputable def ir(b:Bool)(w:HL):HL:=w.withFollow "special-get-raises" b
theorem uL(w:HL):openEnds HM PySem.Challenge.pw_loopgyre_k70_sizes_refused (ir false w) 7230=some (zS w):=by kernel_rfl
theorem uH(w:HL):openEnds HM PySem.Challenge.pw_loopgyre_k70_sizes_refused (ir true w) 7230=some (zS w):=by kernel_rfl
theorem uS(w:HL):openSeen qv iM (importedModules PySem.Challenge.pw_loopgyre_k70_sizes_refused.main.body) Xt true (zS w)=openGood qv iM:=by kernel_rfl
theorem uR(w:HL):X.obsZ as (zS w)=X.valZ K 433 785 w:=by kernel_rfl
theorem hl:LeftO PySem.Challenge.pw_loopgyre_k70_sizes_refused qv iM Xt (X.obsZ as) (X.valZ K 433 785) 7230:=λw=>by
 have e:ir (w.params.followText "special-get-raises") w=w:=World.withFollow_self w "special-get-raises";have H:∀b,openEnds HM PySem.Challenge.pw_loopgyre_k70_sizes_refused (ir b w) 7230=some (zS w):=by
  intro b;cases b
  .exact uL w
  .exact uH w
 have h:=H (w.params.followText "special-get-raises");rw[e]at h;rw[h];exact J5 some (Prod.ext (uS w) (uR w))
end R70
namespace L2
open PySem PySem.Spec PyProof.Rows
abbrev bB:=Sum Int Str
noncomputable def kL:bB->Value->Bool
 |.inl k,v=>Value.isInt k v
 |.inr x,v=>Value.isStrOf x v
noncomputable def nl(w:HL):bB->Int
 |.inl k=>hashInt k
 |.inr x=>HN w x
def zD:∀{k:bB}{v:Value},kL k v=true->(∃i t,k=Sum.inl i/\v=Value.int i t)\/(∃x t,k=Sum.inr x/\v=Value.str x t)
 |.inl i,v,h=>by
  obtain⟨t,e⟩:=Value.isInt_shape (k:=i) (v:=v) h;exact .inl ⟨i,t,rfl,e⟩
 |.inr x,v,h=>by
  obtain⟨t,e⟩:=Value.isStrOf_shape (x:=x) (v:=v) h;exact .inr ⟨x,t,rfl,e⟩
def EN(i:Int)(t:Tok):kL (.inl i) (.int i t)=true:=by simp[kL,Value.isInt]
def kM(x:Str)(t:Tok):kL (.inr x) (.str x t)=true:=by simp[kL,Value.isStrOf]
def Cy(a b:Int):decide ((Sum.inl a:bB)=Sum.inl b)=(a==b):=by
 by_cases e:a=b
 .subst e;simp
 .have h:¬(Sum.inl a:bB)=Sum.inl b:=λq=>e (Sum.inl.inj q);rw[J6 h];exact(beq_eq_false_iff_ne.mpr e).symm
def Cw(a b:Str):decide ((Sum.inr a:bB)=Sum.inr b)=decide (a=b):=by
 by_cases e:a=b
 .subst e;simp
 .have h:¬(Sum.inr a:bB)=Sum.inr b:=λq=>e (Sum.inr.inj q);rw[J6 h,J6 e]
def Cv(a:Int)(b:Str):decide ((Sum.inl a:bB)=Sum.inr b)=false:=J6 (λq=>nomatch q)
def Cu(a:Str)(b:Int):decide ((Sum.inr a:bB)=Sum.inl b)=false:=J6 (λq=>nomatch q)
noncomputable def zE(prog:HJ)(w:HL):PySem.KeyKind prog w bB where
 is:=kL
 hash:=nl w
 inj:=λv a b ha hb=>by
  rcases zD ha with⟨i,t,rfl,rfl⟩|⟨x,t,rfl,rfl⟩
  .rcases zD hb with⟨j,u,rfl,e⟩|⟨y,u,rfl,e⟩
   .injection e with e1 _;rw[e1]
   .exact nomatch e
  .rcases zD hb with⟨j,u,rfl,e⟩|⟨y,u,rfl,e⟩
   .exact nomatch e
   .injection e with e1 _;rw[e1]
 byValue:=λk v h=>by
  rcases zD h with⟨i,t,rfl,rfl⟩|⟨x,t,rfl,rfl⟩<;>rfl
 pyHash:=λhv h=>by
  rcases zD hv with⟨i,t,rfl,rfl⟩|⟨x,t,rfl,rfl⟩
  .exact wpAny_pyHash_int h
  .exact wpAny_pyHash_str h
 eqBool:=λhu hv h=>by
  rcases zD hu with⟨i,t,rfl,rfl⟩|⟨x,t,rfl,rfl⟩
  .rcases zD hv with⟨j,u,rfl,rfl⟩|⟨y,u,rfl,rfl⟩
   .rw[Cy]at h;exact wpAny_eqBool_int h
   .rw[Cv]at h;exact SeqAt.EqAt.int_str i t y u _ _ _ _ h
  .rcases zD hv with⟨j,u,rfl,rfl⟩|⟨y,u,rfl,rfl⟩
   .rw[Cu]at h;exact SeqAt.EqAt.str_int x t j u _ _ _ _ h
   .rw[Cw]at h;exact wpAny_eqBool_str h
 «strs»:=λk x t v h=>by
  rcases zD h with⟨i,u,rfl,e⟩|⟨y,u,rfl,e⟩
  .exact nomatch e
  .injection e with e1 _
   subst e1;cases v<;>rfl
def jZ(prog:HJ)(w:HL)(i:Int)(t:Tok):(zE prog w).is (.inl i) (.int i t)=true:=EN i t
def j4(prog:HJ)(w:HL)(x:Str)(t:Tok):(zE prog w).is (.inr x) (.str x t)=true:=kM x t
set_option genInjectivity false in
inductive V where
 |non|bl (b:Bool)|int (i:Int)|str (x:Str)|byt (b:Array UInt8)|flt (b:UInt64)|ref (a:Addr)|ty (n:String)
 deriving DecidableEq
noncomputable def RelV:V->Value->Prop
 |.non,u=>u=Value.none
 |.bl b,u=>u=Value.bool b
 |.int i,u=>∃t,u=Value.int i t
 |.str x,u=>∃t,u=Value.str x t
 |.byt b,u=>∃t,u=Value.bytes b t
 |.flt b,u=>∃t,u=Value.float b t
 |.ref a,u=>u=Value.ref a
 |.ty n,u=>u=Value.type n
abbrev av:List V->List Value->Prop:=HP RelV
theorem av.length (r:av xs us):xs.length=us.length:=Paired.length r
theorem av.get:∀{xs:List V}{us:List Value}{i:Nat}{x:V},av xs us->xs[i]?=some x->∃u,us[i]?=some u/\RelV x u
 |_,_,_,_,.nil,e=>by simp at e
 |_,_,0,_,.cons r _,e=>by simp at e;subst e;exact⟨_,rfl,r⟩
 |_,_,i+1,x,.cons _ t,e=>by
  obtain⟨u,h1,h2⟩:=av.get (i:=i) (x:=x) t (by simpa using e);exact⟨u,by simpa using h1,h2⟩
theorem av.append:∀{xs ys:List V}{us ws:List Value},av xs us->av ys ws->av (xs++ys) (us++ws)
 |_,_,_,_,.nil,s=>s
 |_,_,_,_,.cons r t,s=>.cons r (av.append t s)
theorem av.take:∀{xs:List V}{us:List Value}(n:Nat),av xs us->av (xs.take n) (us.take n)
 |_,_,0,_=>.nil
 |_,_,_+1,.nil=>.nil
 |_,_,n+1,.cons r t=>.cons r (av.take n t)
theorem av.drop:∀{xs:List V}{us:List Value}(n:Nat),av xs us->av (xs.drop n) (us.drop n)
 |_,_,0,r=>r
 |_,_,_+1,.nil=>.nil
 |_,_,n+1,.cons _ t=>av.drop n t
noncomputable def dJ:Option V->Option Value->Prop
 |some v,some u=>RelV v u
 |none,none=>True
 |_,_=>False
noncomputable def KV{κ:Type}:List (κ×V)->List (κ×Value)->Prop:=HP λ(p:κ×V) (q:κ×Value)=>p.1=q.1/\RelV p.2 q.2
noncomputable def kV:bB->V
 |.inl i=>.int i
 |.inr x=>.str x
set_option genInjectivity false in
inductive HO where
 /-- a list -/
 |lst (xs:List V)
 /-- a tuple (never changes) -/
 |tup (xs:List V)
 /-- a dict whose keys are ints and texts;one whose keys are tuples of ints and texts (the empty one is both) -/
 |dK (kvs:List (bB×V))|dT (kvs:List (List bB×V))
 /-- a set of ints: its members,its size -/
 |set (S:Int->Bool) (n:Nat)
 /-- an instance of the class at C,its dict at dx,its attributes -/
 |ins (C dx:Addr) (fs:List (Str×V))
 /-- the dict of the instance at x -/
 |own (x:Addr)
 /-- the dict of an exception -/
 |xd (fs:List (Str×V))
 /-- a bound method,f of x -/
 |met (f x:Addr)
 /-- a range object lo,lo+1,.. below hi -/
 |rng (lo hi:Int)
 /-- a thing that is known to the object (the script;a dict while a loop walks it): read,never written while it is so -/
 |frz (o:Obj) (u:HO)
 /-- a code object's table -/
 |tbl (ps:Array Value)
 /-- any other thing,by what is true of its one object (a def of one's own: SetO a S n:=HO.ext λh=>..) -/
 |ext (φ:HQ->Prop)
abbrev Hp:=Addr->Option HO
noncomputable def aG(H:Hp)(a:Addr)(o:HO):Hp:=λb=>if b=a then some o else H b
def zf:aG H a o a=some o:=by unfold aG;rw[J7 rfl]
def ze (h:b≠a):aG H a o b=H b:=by unfold aG;rw[J8 h]
def zo {H:Hp}(h:H a=some o)(h':H b=none):a≠b:=by
 intro e;subst e;rw[h]at h';cases h'
section
variable(P:HJ)(w:HL)
noncomputable def aR(H:Hp)(h:HQ)(a:Addr):HO->Prop
 |.lst xs=>xs.length<=sizeLine/\∃(its:List Value) (n:Nat),av xs its/\h.get? a=some {cls:=.type "list",data:=.seq its.toArray n}
 |.tup xs=>xs.length<=sizeLine/\∃its:List Value,av xs its/\IsTup h a its.toArray
 |.dK kvs=>kvs.length<=sizeLine/\(a==HR)=false/\∃vs,KV kvs vs/\h.DictOf (zE P w) a vs
 |.dT kvs=>kvs.length<=sizeLine/\(a==HR)=false/\∃xs:List (List bB×Addr×Value),
   HP (λ(p:List bB×V) (q:List bB×Addr×Value)=>p.1=q.1/\H q.2.1=some (.tup (p.1.map kV))/\RelV p.2 q.2.2) kvs xs /\
   ∃o es ep,h.get? a=some o/\o.ExactDict/\o.data=.dict es ep/\es.toList=xs.map (HS (HU (zE P w)))/\(xs.map (·.1)).Nodup
 |.set S n=>h.SetOf (HV P w) a S n
 |.ins C dx fs=>H dx=some (.own a)/\fs.length<=1000/\dx≠a/\h.get? a=some (WV C dx) /\
   ∃mA,h.Ns1 dx mA/\(∀f,dJ (fs.lookup f) (mA f))/\PySem.Within mA (fs.map (·.1))
 |.own _=>∃o,h.get? a=some o
 |.xd fs=>∃mA,h.Ns1 a mA/\∀f,dJ (fs.lookup f) (mA f)
 |.rng lo hi=>∃t u v,h.get? a=some {cls:=.type "range",data:=.fields #[.int lo t,.int hi u,.int 1 v]}
 |.frz o u=>h.get? a=some o/\aR H h a u
 |.tbl ps=>h.get? a=some {cls:=.none,data:=.fields ps}
 |.met f x=>h.get? a=some (WQ (.ref f) (.ref x))
 |.ext φ=>φ h/\(∃o,h.get? a=some o)/\∀h1 h2:HQ,φ h1->(∀o,h1.get? a=some o->h2.get? a=some o)->φ h2
noncomputable def b7(H:Hp)(h:HQ):Prop:=∀a o,H a=some o->aR P w H h a o
end
section
variable{P:HJ}{w:HL}{H H':Hp}{h h':HQ}{a:Addr}{o:HO}
theorem aR.lt(x:aR P w H h a o):a<h.objs.size:=by
 cases o with
 |lst xs=>obtain⟨_,_,_,_,e⟩:=x;exact Qg e
 |tup xs=>obtain⟨_,_,_,p⟩:=x;exact p.lt
 |dK kvs=>obtain⟨_,_,_,_,o,_,_,e,_⟩:=x;exact Qg e
 |dT kvs=>obtain⟨_,_,_,_,o,_,_,e,_⟩:=x;exact Qg e
 |set S n=>obtain⟨o,_,_,_,e,_⟩:=x;exact Qg e
 |ins C dx fs=>obtain⟨_,_,_,e,_⟩:=x;exact Qg e
 |own y=>obtain⟨_,e⟩:=x;exact Qg e
 |xd fs=>obtain⟨_,⟨_,_,_,e,_⟩,_⟩:=x;exact Qg e
 |rng lo hi=>obtain⟨_,_,_,e⟩:=x;exact Qg e
 |frz ob u=>obtain⟨e,_⟩:=x;exact Qg e
 |tbl ps=>exact Qg (show h.get? a=some _ from x)
 |met f y=>exact Qg (show h.get? a=some _ from x)
 |ext φ=>obtain⟨_,⟨_,e⟩,_⟩:=x;exact Qg e
theorem oR:∀{l₁:List α}{l₂:List β},HP F l₁ l₂->(∀a b,F a b->G a b)->HP G l₁ l₂
 |_,_,.nil,_=>.nil
 |_,_,.cons r t,f=>.cons (f _ _ r) (oR t f)
def aR.stay(x:aR P w H h a o)(k:∀b u,(b=a\/H b=some (.own a))->h.get? b=some u->h'.get? b=some u)
  (ho:∀b,H b=some (.own a)->H' b=some (.own a)) (ht:∀b xs,H b=some (.tup xs)->H' b=some (.tup xs)):aR P w H' h' a o:=by
 induction o with
 |lst xs=>obtain⟨z,its,n,r,e⟩:=x;exact⟨z,its,n,r,k _ _ (.inl rfl) e⟩
 |tup xs=>obtain⟨z,its,r,ob,e,c⟩:=x;exact⟨z,its,r,ob,k _ _ (.inl rfl) e,c⟩
 |dK kvs=>obtain⟨z,y,vs,r,ob,es,ep,e,c⟩:=x;exact⟨z,y,vs,r,ob,es,ep,k _ _ (.inl rfl) e,c⟩
 |dT kvs=>
  obtain⟨z,y,xs,r,ob,es,ep,e,c⟩:=x;exact⟨z,y,xs,oR r λp q z=>⟨z.1,ht _ _ z.2.1,z.2.2⟩,ob,es,ep,k _ _ (.inl rfl) e,c⟩
 |set S n=>obtain⟨ob,es,ep,t,e,c⟩:=x;exact⟨ob,es,ep,t,k _ _ (.inl rfl) e,c⟩
 |ins C dx fs=>
  obtain⟨d,z,ne,e,mA,⟨od,es,ep,e2,c⟩,r⟩:=x;exact⟨ho _ d,z,ne,k _ _ (.inl rfl) e,mA,⟨od,es,ep,k _ _ (.inr d) e2,c⟩,r⟩
 |own y=>obtain⟨ob,e⟩:=x;exact⟨ob,k _ _ (.inl rfl) e⟩
 |xd fs=>obtain⟨mA,⟨od,es,ep,e,c⟩,r⟩:=x;exact⟨mA,⟨od,es,ep,k _ _ (.inl rfl) e,c⟩,r⟩
 |rng lo hi=>obtain⟨t,u,v,e⟩:=x;exact⟨t,u,v,k _ _ (.inl rfl) e⟩
 |frz ob u ih=>obtain⟨e,q⟩:=x;exact⟨k _ _ (.inl rfl) e,ih q⟩
 |tbl ps=>
  have e:h.get? a=some {cls:=.none,data:=.fields ps}:=x;show h'.get? a=some {cls:=.none,data:=.fields ps};exact k a _ (.inl rfl) e
 |met f y=>
  have e:h.get? a=some (WQ (.ref f) (.ref y)):=x;show h'.get? a=some (WQ (.ref f) (.ref y));exact k a _ (.inl rfl) e
 |ext φ=>obtain⟨p,⟨o,e⟩,st⟩:=x;exact⟨st _ _ p λo q=>k _ _ (.inl rfl) q,⟨o,k _ _ (.inl rfl) e⟩,st⟩
theorem b7.lt(x:b7 P w H h)(e:H a=some o):a<h.objs.size:=(x a o e).lt
def b7.fresh(x:b7 P w H h)(e:h.objs.size<=a):H a=none:=by
 cases q:H a with
 |none=>rfl
 |some u=>exact J9 (Qe (x.lt q) e) (QZ _)
def b7.kept(x:b7 P w H h)(k:∀b u,h.get? b=some u->h'.get? b=some u):b7 P w H h':=λa o e=>
 (x a o e).stay (λb u _ q=>k b u q) (λ_ q=>q) λ_ _ q=>q
def b7.laid(x:b7 P w H h)(k:∀b u,h.get? b=some u->h'.get? b=some u)(hp:h.objs.size<=a)(new:aR P w (aG H a o) h' a o):b7 P w (aG H a o) h':=λb u e=>by
 have hn:=x.fresh hp;by_cases hb:b=a
 .subst hb;rw[zf]at e;cases e;exact new
 .rw[ze hb]at e;exact(x b u e).stay (λc v _ q=>k c v q) (λc q=>by rw[ze (zo q hn)];exact q) λc xs q=>by rw[ze (zo q hn)];exact q
end
noncomputable def Rd(H:Hp)(a:Addr)(u:HO):Prop:=H a=some u\/∃o,H a=some (.frz o u)
def Rd.ok (r:Rd H a u)(x:b7 P w H h):aR P w H h a u:=by
 rcases r with r|⟨o,r⟩
 .exact x a u r
 .obtain ⟨_,q⟩:=x a _ r;exact q
noncomputable def fW:Option HO->Prop
 |some (.lst _)=>True
 |some (.dK _)=>True
 |some (.dT _)=>True
 |some (.set _ _)=>True
 |some (.ins _ _ _)=>True
 |some (.ext _)=>True
 |_=>False
section
variable{P:HJ}{w:HL}{H:Hp}{h h':HQ}{x e:Addr}{o':HO}
def b7.write(ok:b7 P w H h)(mu:fW (H x))(he:e=x\/H e=some (.own x))(k:∀b u,b≠e->h.get? b=some u->h'.get? b=some u)(heo:∃u,h'.get? e=some u)
  (new:aR P w (aG H x o') h' x o'):b7 P w (aG H x o') h':=λb u q=>by
 have nown:∀c y,H c=some (.own y)->c≠x:=λc y r z=>by subst z;rw[r]at mu;exact mu
 have ntup:∀c xs,H c=some (.tup xs)->c≠x:=λc xs r z=>by subst z;rw[r]at mu;exact mu
 by_cases hb:b=x
 .subst hb;rw[zf]at q;cases q;exact new
 .rw[ze hb]at q;by_cases hbe:b=e
  .have q':H b=some (.own x):=by
    rcases he with z|z
    .exact J9 (hbe.trans z) hb
    .rw[hbe];exact z
   rw[q]at q';cases q';obtain⟨v,hv⟩:=heo;exact⟨v,by rw[hbe];exact hv⟩
  .refine (ok b u q).stay (λc v hc r=>k c v ?_ r) (λc r=>by rw[ze (nown c b r)];exact r) λc xs r=>by rw[ze (ntup c xs r)];exact r
   rcases hc with rfl|hc
   .exact hbe
   .rintro rfl;rcases he with z|z
    .exact nown c b hc z
    .rw[hc]at z;cases z;exact hb rfl
end
structure Un(fs ex:List Addr)(H H':Hp)(h h':HQ):Prop where
 keep:∀b o,h.get? b=some o->H b=none->b∉fs->b∉ex->h'.get? b=some o
 slot:∀b o,h.get? b=some o->H b=none->b∈fs->b∉ex->∃sl,h'.get? b=some {o with slots:=sl}
 free:∀b o,h.get? b=some o->H b=none->b∉ex->H' b=none
 there:∀b o,h.get? b=some o->b∉ex->∃o',h'.get? b=some o'
 tups:∀b xs,H b=some (.tup xs)->H' b=some (.tup xs)
 frzs:∀b o u,H b=some (.frz o u)->H' b=some (.frz o u)
 tbls:∀b ps,H b=some (.tbl ps)->∃more,H' b=some (.tbl (ps++more))
section
variable{fs ex:List Addr}{H H1:Hp}{h h1 h':HQ}{a x e:Addr}{o:HO}
def Un.any (u:Un fs ex H H1 h h1)(q:h.get? b=some ob)(n:H b=none)(hx:b∉ex):∃sl,h1.get? b=some {ob with slots:=sl}:=by
 by_cases hb:b∈fs
 .exact u.slot b ob q n hb hx
 .exact ⟨ob.slots,u.keep b ob q n hb hx⟩
def Un.kept(k:∀b u,h.get? b=some u->h'.get? b=some u):Un fs ex H H h h':=
 ⟨λb ob q _ _ _=>k b ob q,λb ob q _ _ _=>⟨ob.slots,k b ob q⟩,λ_ _ _ n _=>n,λb ob q _=>⟨ob,k b ob q⟩,λ_ _ q=>q,λ_ _ _ q=>q,λ_ ps q=>⟨#[],by rw[q];simp⟩⟩
def Un.refl:Un fs ex H H h h:=Un.kept λ_ _ q=>q
def Un.laid(k:∀b u,h.get? b=some u->h'.get? b=some u)(hp:h.objs.size<=a)(hn:H a=none):Un fs ex H (aG H a o) h h' where
 keep:=λb u q _ _ _=>k b u q
 slot:=λb u q _ _ _=>⟨u.slots,k b u q⟩
 free:=λb u q n _=>by rw[ze (Qx (Qe (Qg q) hp))];exact n
 there:=λb u q _=>⟨u,k b u q⟩
 tups:=λb xs q=>by rw[ze (zo q hn)];exact q
 frzs:=λb u xs q=>by rw[ze (zo q hn)];exact q
 tbls:=λb ps q=>⟨#[],by rw[ze (zo q hn),q];simp⟩
def Un.write(mu:fW (H x))(he:e=x\/H e=some (.own x))(k:∀b u,b≠e->h.get? b=some u->h'.get? b=some u)(heo:∃u,h'.get? e=some u):Un fs ex H (aG H x o) h h':=by
 have hx:∀b,H b=none->b≠x:=λb n z=>by subst z;rw[n]at mu;exact mu
 have hb:∀b,H b=none->b≠e:=λb n z=>by
  subst z;rcases he with r|r
  .exact hx b n r
  .rw[n]at r;cases r
 have hm:∀b u,H b=some u->¬fW (some u)->b≠x:=λb u q nm z=>by subst z;rw[q]at mu;exact nm mu
 refine⟨λb u q n _ _=>k b u (hb b n) q,λb u q n _ _=>⟨u.slots,k b u (hb b n) q⟩,λb u q n _=>by rw[ze (hx b n)];exact n,λb u q _=>?_,
  λb xs q=>by rw[ze (hm b _ q λz=>z)];exact q,λb u xs q=>by rw[ze (hm b _ q λz=>z)];exact q,λb ps q=>⟨#[],by rw[ze (hm b _ q λz=>z),q];simp⟩⟩
 by_cases hbe:b=e
 .subst hbe;exact heo
 .exact ⟨u,k b u hbe q⟩
end
noncomputable def iK(h:HQ)(H:Hp):List Addr:=(Q2 h.objs.size).filter λa=>(H a).isSome
noncomputable def jk(h:HQ)(H:Hp):HQ:=PySem.W.hideAll h (iK h H)
def EM(h:HQ)(H:Hp):(jk h H).objs.size=h.objs.size:=PySem.W.hideAll_size _ _
def Eg (e:h.get? b=some o)(n:H b=none):(jk h H).get? b=some o:=
 Vb _ e λhm=>by
  have q:(H b).isSome=true:=(List.mem_filter.mp hm).2;rw[n]at q;simp at q
def CP (e:(jk h H).get? b=some o):h.get? b=some o/\H b=none:=by
 have e':h.get? b=some o:=PySem.W.of_hideAll (iK h H) e;refine⟨e',?_⟩;cases q:H b with
 |none=>rfl
 |some x=>
  have hm:b∈iK h H:=List.mem_filter.mpr ⟨List.mem_range.mpr (Qg e'),by simp[q]⟩;have z:(jk h H).get? b=none:=PySem.W.hideAll_none (iK h H) hm;rw[z]at e;cases e
structure Mod(K:Qa)(mg:Str->Option Value)(base:HQ):Prop where
 kin:K.In base
 glob:base.Ns HW mg
 blt:∃mb,base.Ns builtinsNs mb/\∀x:Str,x ≠ "__name__" -> mb x=HX x
 nolimit:base.NoLimit
set_option genInjectivity false in
structure Cx where
 prog:HJ
 w:HL
 K:Qa
 mg:Str->Option Value
 base:HQ
 A:HY
 N:List Str
 s₀:HK
 H₀:Hp
 env:Env
 outer:List Env
 stack:List Env
 ex:List Addr
 fn:Str->Bool
 calm:Bool
 pn:List (Addr×Obj)
 xe:Value->HK->Prop
noncomputable def bG(l:List Env):List Addr:=l.filterMap (·.frame)
abbrev Cx.fs(X:Cx):List Addr:=bG X.outer
noncomputable def eK(sc:HH)(x:Str):Prop:=sc.names.lookup x=some .local\/sc.names.lookup x=some .cell\/sc.names.lookup x=some .free
noncomputable def Loc(sc:HH)(x:Str):Prop:=sc.names.lookup x=some .local\/sc.names.lookup x=some .cell
noncomputable def Look(env:Env)(h:HQ)(m:Str->Option Value)(x:Str)(u:Value):Prop:=
 (env.kindOf x=some .local/\m x=some u)\/((env.kindOf x=some .cell\/env.kindOf x=some .free)/\∃c,env.cells.lookup x=some c/\h.IsCell c (some u))
structure Cx.Ok(X:Cx):Prop where
 mod:Mod X.K X.mg X.base
 kind:X.env.scope.kind=.function
 glob:X.env.globals=HW
 blt:X.env.builtins=builtinsNs
 above:X.s₀.heap.objs.size<=X.env.locals
 inj:∀x y c,X.env.cells.lookup x=some c->X.env.cells.lookup y=some c->x=y
 has:∀x,(X.env.kindOf x=some .cell\/X.env.kindOf x=some .free)->∃c,X.env.cells.lookup x=some c
 cab:∀x c,X.fn x=true->X.env.cells.lookup x=some c->X.s₀.heap.objs.size<=c
 hd:X.calm=true->X.A.handled=none
 frames:X.A.frames=some X.stack
 stk:X.stack=X.outer\/(X.stack=X.env::X.outer/\X.env.frame=some X.env.locals)
 exf:∀b∈X.ex,b≠X.env.locals/\∀x c,X.env.cells.lookup x=some c->c≠b
 bs:∀b o,X.base.get? b=some o->X.s₀.heap.get? b=some o/\X.H₀ b=none
 bsz:X.base.objs.size<=X.s₀.heap.objs.size
 noex:∀b o,X.base.get? b=some o->b∉X.ex
 exfs:∀b∈X.ex,b∉X.fs
 funs:X.s₀.heap.FunFrames X.base X.outer
 frf:∀b∈X.fs,X.H₀ b=none
structure Inv(X:Cx)(pins:List (Addr×Obj))(σ:List (Option V))(H:Hp)(s:HK):Prop where
 ok:X.Ok
 os:s.os=X.s₀.os
 bare:HZ s.gens
 base:Un X.fs X.ex X.H₀ H X.s₀.heap s.heap
 loc:∃m,s.heap.Ns X.env.locals m/\∀(i:Nat) (x:Str) (v:V),X.N[i]?=some x->σ[i]?=some (some v)->eK X.env.scope x->∃u,RelV v u/\Look X.env s.heap m x u
 cell:∀x c,X.env.cells.lookup x=some c->∃v,s.heap.IsCell c v
 free:H X.env.locals=none
 freeC:∀x c,X.env.cells.lookup x=some c->H c=none
 pin:∀p∈X.pn++pins,s.heap.get? p.1=some p.2/\H p.1=none/\p.1≠X.env.locals/\p.1∉X.fs/\∀v,p.2.data≠.cell v
 hok:b7 X.prog X.w H s.heap
 len:σ.length=X.N.length
section
variable{X:Cx}{pins:List (Addr×Obj)}{σ:List (Option V)}{H H':Hp}{s:HK}{h':HQ}
def Cx.Ok.nofr (ok:X.Ok)(e:X.base.get? b=some o):b∉X.fs:=λhb=>by
 have:=(ok.funs.mem hb).1;rw[e]at this;cases this
theorem Inv.bs(I:Inv X pins σ H s):∀b o,X.base.get? b=some o->s.heap.get? b=some o/\H b=none:=λb o e=>
 ⟨I.base.keep b o (I.ok.bs b o e).1 (I.ok.bs b o e).2 (I.ok.nofr e) (I.ok.noex b o e),I.base.free b o (I.ok.bs b o e).1 (I.ok.bs b o e).2 (I.ok.noex b o e)⟩
def Inv.bk(I:Inv X pins σ H s):∀b o,X.base.get? b=some o->s.heap.get? b=some o:=λb o e=>(I.bs b o e).1
theorem Inv.mod(I:Inv X pins σ H s):Mod X.K X.mg X.base:=I.ok.mod
def Inv.kIn(I:Inv X pins σ H s):X.K.In s.heap:=I.ok.mod.kin.keeps I.bk
theorem Inv.lt(I:Inv X pins σ H s):X.env.locals<s.heap.objs.size:=let⟨_,hn,_⟩:=I.loc;hn.lt
def Inv.sz(I:Inv X pins σ H s):X.s₀.heap.objs.size<=s.heap.objs.size:=Qm I.ok.above (Wv I.lt)
def Inv.nofs (I:Inv X pins σ H s)(h:s.heap.objs.size<=a):a∉X.fs:=λhb=>by
 obtain⟨_,o,ho,_⟩:=I.ok.funs.mem hb;exact J9 (Qe (Qg ho) (Qm I.sz h)) (QZ _)
def Inv.cne(I:Inv X pins σ H s):∀x c,X.env.cells.lookup x=some c->c≠X.env.locals:=λx c e z=>by
 obtain⟨v,o,ho,hd⟩:=I.cell x c e;obtain⟨m,⟨o',es,ep,ho',hd',_⟩,_⟩:=I.loc;rw[z,ho']at ho;cases ho;rw[hd']at hd;cases hd
theorem Inv.funs(I:Inv X pins σ H s):s.heap.FunFrames X.base X.outer:=by
 have all:∀(l:List Env),(∀b∈bG l,b∈X.fs)->X.s₀.heap.FunFrames X.base l->s.heap.FunFrames X.base l:=by
  intro l
  induction l with
  |nil=>intro _ _;trivial
  |cons env r ih=>
   intro hs hl;obtain⟨hk,⟨L,o,hf,hn,ho,hd⟩,hr⟩:=hl;have hL:L∈X.fs:=hs L (by unfold bG;rw[Wu,hf];exact QA);obtain⟨sl,e⟩:=I.base.slot L o ho (I.ok.frf L hL) hL λz=>I.ok.exfs L z hL;exact⟨hk,⟨L,_,hf,hn,e,hd⟩,ih (λb hb=>hs b (by unfold bG;rw[Wu,hf];exact Qd _ hb)) hr⟩
 exact all X.outer (λ_ hb=>hb) I.ok.funs
theorem Inv.stack(I:Inv X pins σ H s):s.heap.FunFrames X.base X.stack:=by
 rcases I.ok.stk with e|⟨e,hf⟩
 .rw[e];exact I.funs
 .rw[e];obtain⟨m,hn,_⟩:=I.loc;refine .cons (by rw[I.ok.kind];decide) hf hn ?_ I.funs;exact Heap.get?_none_of_le (Qm I.ok.bsz I.ok.above)
def Inv.stkSub(I:Inv X pins σ H s):∀b∈bG X.stack,b∈X.env.locals::X.fs:=λb hb=>by
 rcases I.ok.stk with e|⟨e,hf⟩
 .rw[e]at hb;exact Qd _ hb
 .rw[e]at hb;unfold bG at hb;rw[Wu,hf]at hb;exact hb
def Inv.stkFree(I:Inv X pins σ H s):∀b∈bG X.stack,H b=none:=λb hb=>by
 rcases Qj.mp (I.stkSub b hb)with e|hb
 .rw[e];exact I.free
 .obtain ⟨_,o,ho,_⟩:=I.ok.funs.mem hb;exact I.base.free b o ho (I.ok.frf b hb) λz=>I.ok.exfs b z hb
def Inv.step{g':Array Ia}{t':Nat}{d':Drawn}{ch:List Addr}(I:Inv X pins σ H s)
  (hch:∀b∈ch,(b∈X.ex\/X.s₀.heap.objs.size<=b)/\b≠X.env.locals/\(∀x c,X.env.cells.lookup x=some c->c≠b)/\∀p∈X.pn++pins,p.1≠b)
  (keep:∀b o,b≠X.env.locals->b∉X.fs->b∉ch->s.heap.get? b=some o->H b=none->h'.get? b=some o)
  (slot:∀b o,b≠X.env.locals->b∈X.fs->b∉ch->s.heap.get? b=some o->H b=none->∃sl,h'.get? b=some {o with slots:=sl}) (free:∀b o,b∉ch->s.heap.get? b=some o->H b=none->H' b=none)
  (there:∀b o,b∉ch->s.heap.get? b=some o->∃o',h'.get? b=some o')
  (tups:∀b xs,H b=some (.tup xs)->H' b=some (.tup xs)) (frzs:∀b o u,H b=some (.frz o u)->H' b=some (.frz o u)) (tbls:∀b ps,H b=some (.tbl ps)->∃more,H' b=some (.tbl (ps++more)))
  (ns:∀m,s.heap.Ns X.env.locals m->h'.Ns X.env.locals m) (hok:b7 X.prog X.w H' h') (hg:HZ g') :
  Inv X pins σ H' {s with heap:=h',gens:=g',drawn:=d',toks:=t' }:=by
 have neL:∀b o,X.s₀.heap.get? b=some o->b≠X.env.locals:=λb o e=>Qx (Qe (Qg e) I.ok.above);have neC:∀b o,X.s₀.heap.get? b=some o->b∉X.ex->b∉ch:=λb o e hx hb=>by
  rcases(hch b hb).1 with z|z
  .exact hx z
  .exact J9 (Qe (Qg e) z) (QZ _)
 have cellK:∀x c,X.env.cells.lookup x=some c->∀v,s.heap.IsCell c v->h'.IsCell c v:=λx c e v ⟨o,ho,hd⟩=>by
  have nch:c∉ch:=λz=>(hch c z).2.2.1 x c e rfl;by_cases hc:c∈X.fs
  .obtain ⟨sl,q⟩:=slot c o (I.cne x c e) hc nch ho (I.freeC x c e);exact⟨_,q,hd⟩
  .exact ⟨o,keep c o (I.cne x c e) hc nch ho (I.freeC x c e),hd⟩
 refine⟨I.ok,I.os,hg,⟨λb o e n hb hx=>?_,λb o e n hb hx=>?_,λb o e n hx=>?_,λb o e hx=>?_,λb xs e=>tups b xs (I.base.tups b xs e),λb o xs e=>frzs b o xs (I.base.frzs b o xs e),λb ps e=>?_⟩,?_,λx c e=>?_,?_,λx c e=>?_,λp hp=>?_,hok,I.len⟩
 .exact keep b o (neL b o e) hb (neC b o e hx) (I.base.keep b o e n hb hx) (I.base.free b o e n hx)
 .obtain ⟨sl,e1⟩:=I.base.slot b o e n hb hx;obtain⟨sl',e2⟩:=slot b _ (neL b o e) hb (neC b o e hx) e1 (I.base.free b o e n hx);exact⟨sl',e2⟩
 .obtain ⟨o',e1⟩:=I.base.there b o e hx;exact free b o' (neC b o e hx) e1 (I.base.free b o e n hx)
 .obtain ⟨o',e1⟩:=I.base.there b o e hx;exact there b o' (neC b o e hx) e1
 .obtain ⟨m1,e1⟩:=I.base.tbls b ps e;obtain⟨m2,e2⟩:=tbls b _ e1;exact⟨m1++m2,by rw[e2,Array.append_assoc]⟩
 .obtain ⟨m,hn,hl⟩:=I.loc;refine⟨m,ns m hn,λi x v e1 e2 e3=>?_⟩;obtain⟨u,r,l⟩:=hl i x v e1 e2 e3;refine⟨u,r,?_⟩;rcases l with l|⟨k,c,e,z⟩
  .exact .inl l
  .exact .inr ⟨k,c,e,cellK x c e _ z⟩
 .obtain ⟨v,z⟩:=I.cell x c e;exact⟨v,cellK x c e v z⟩
 .obtain ⟨m,⟨o,_,_,ho,_⟩,_⟩:=I.loc;exact free _ o (λz=>(hch _ z).2.1 rfl) ho I.free
 .obtain ⟨v,o,ho,hd⟩:=I.cell x c e;exact free c o (λz=>(hch c z).2.2.1 x c e rfl) ho (I.freeC x c e)
 .obtain ⟨e,n,ne,nf,d⟩:=I.pin p hp;have nch:p.1∉ch:=λz=>(hch p.1 z).2.2.2 p hp rfl;exact⟨keep p.1 p.2 ne nf nch e n,free p.1 p.2 nch e n,ne,nf,d⟩
def Inv.un{t':Nat}(I:Inv X pins σ H s)(u:Un X.fs [] H H' s.heap h')(hok:b7 X.prog X.w H' h'):Inv X pins σ H' {s with heap:=h',toks:=t' }:=by
 obtain⟨m,⟨o,es,ep,ho,r⟩,_⟩:=id I.loc;obtain⟨sl,hL⟩:=u.any ho I.free (by simp);exact I.step (g':=s.gens) (d':=s.drawn) (ch:=[]) (λ_ z=>nomatch z) (λb o _ hb _ e n=>u.keep b o e n hb (by simp)) (λb o _ hb _ e n=>u.slot b o e n hb (by simp)) (λb o _ e n=>u.free b o e n (by simp)) (λb o _ e=>u.there b o e (by simp)) u.tups u.frzs u.tbls (λm' hm=>by
  obtain⟨o',es',ep',ho',r'⟩:=hm;rw[ho]at ho';cases ho';exact⟨_,es',ep',hL,r'⟩) hok I.bare
def Inv.call{g':Array Ia}{t':Nat}{d':Drawn}{ch:List Addr}(I:Inv X pins σ H s)(u:Un (bG X.stack) ch H H' s.heap h')(hok:b7 X.prog X.w H' h')(hg:HZ g')
  (hch:∀b∈ch,(b∈X.ex\/X.s₀.heap.objs.size<=b)/\b≠X.env.locals/\(∀x c,X.env.cells.lookup x=some c->c≠b)/\∀p∈X.pn++pins,p.1≠b) :
  Inv X pins σ H' {s with heap:=h',gens:=g',drawn:=d',toks:=t' }:=by
 obtain⟨m,⟨o,es,ep,ho,r⟩,_⟩:=id I.loc;obtain⟨sl,hL⟩:=u.any ho I.free λz=>(hch _ z).2.1 rfl;exact I.step (ch:=ch) hch (λb o hL hb hc e n=>u.keep b o e n (λz=>(Qj.mp (I.stkSub b z)).elim hL hb) hc) (λb o _ _ hc e n=>u.any e n hc) (λb o hc e n=>u.free b o e n hc) (λb o hc e=>u.there b o e hc) u.tups u.frzs u.tbls (λm' hm=>by
  obtain⟨o',es',ep',ho',r'⟩:=hm;rw[ho]at ho';cases ho';exact⟨_,es',ep',hL,r'⟩) hok hg
def Inv.turned{t':Nat}{it:Addr}(I:Inv X pins σ H s)(k:∀b o,b≠it->s.heap.get? b=some o->h'.get? b=some o)(hn:H it=none)(hL:it≠X.env.locals)
  (h1:it∈X.ex\/X.s₀.heap.objs.size<=it) (h2:∀x c,X.env.cells.lookup x=some c->c≠it) (h3:∀p∈X.pn++pins,p.1≠it):Inv X pins σ H {s with heap:=h',toks:=t' }:=by
 have nit:∀b u,H b=some u->b≠it:=λb u e z=>by rw[z,hn]at e;cases e
 refine I.step (g':=s.gens) (d':=s.drawn) (ch:=[it]) (λb hb=>?_) (λb o _ _ hc e _=>k b o (λz=>hc (by simp[z])) e) (λb o _ _ hc e _=>⟨o.slots,k b o (λz=>hc (by simp[z])) e⟩) (λ_ _ _ _ n=>n)
  (λb o hc e=>⟨o,k b o (λz=>hc (by simp[z])) e⟩) (λ_ _ e=>e) (λ_ _ _ e=>e) (λb ps e=>⟨#[],by rw[e];simp⟩) (λm hm=>?_) (λb u e=>?_) I.bare
 .have e:b=it:=by simpa using hb
  subst e;exact⟨h1,hL,h2,h3⟩
 .obtain ⟨o,es,ep,ho,r⟩:=hm;exact⟨o,es,ep,k _ o (Ne.symm hL) ho,r⟩
 .refine (I.hok b u e).stay (λc v hc q=>k c v ?_ q) (λ_ q=>q) λ_ _ q=>q;rcases hc with z|z
  .rw[z];exact nit b u e
  .exact nit c _ z
def Inv.tok(I:Inv X pins σ H s)(t:Nat):Inv X pins σ H {s with toks:=t}:=I.un (h':=s.heap) (t':=t) Un.refl I.hok
theorem Inv.kept{t':Nat}(I:Inv X pins σ H s)(k:∀b u,s.heap.get? b=some u->h'.get? b=some u):Inv X pins σ H {s with heap:=h',toks:=t' }:=I.un (Un.kept k) (I.hok.kept k)
theorem Inv.laid{a:Addr}{o:HO}{t':Nat}(I:Inv X pins σ H s)(k:∀b u,s.heap.get? b=some u->h'.get? b=some u)(hp:s.heap.objs.size<=a)(new:aR X.prog X.w (aG H a o) h' a o):
  Inv X pins σ (aG H a o) {s with heap:=h',toks:=t' }:=I.un (Un.laid k hp (I.hok.fresh hp)) (I.hok.laid k hp new)
theorem Inv.write{x e:Addr}{o:HO}{t':Nat}(I:Inv X pins σ H s)(mu:fW (H x))(he:e=x\/H e=some (.own x))(k:∀b u,b≠e->s.heap.get? b=some u->h'.get? b=some u)(heo:∃u,h'.get? e=some u)
  (new:aR X.prog X.w (aG H x o) h' x o):Inv X pins σ (aG H x o) {s with heap:=h',toks:=t' }:=I.un (Un.write mu he k heo) (I.hok.write mu he k heo new)
def Inv.pins_of{pins':List (Addr×Obj)}(I:Inv X pins σ H s)(h:∀p∈pins',s.heap.get? p.1=some p.2/\H p.1=none/\p.1≠X.env.locals/\p.1∉X.fs/\∀v,p.2.data≠.cell v):Inv X pins' σ H s:=
 ⟨I.ok,I.os,I.bare,I.base,I.loc,I.cell,I.free,I.freeC,λp hp=>(QN.mp hp).elim (λz=>I.pin p (QL _ z)) (h p),I.hok,I.len⟩
def j6 {N:List Str}(hN:N.Nodup){j:Nat}(a:N[i]?=some x)(b:N[j]?=some x):i=j:=by
 obtain⟨h1,e1⟩:=Qb.mp a;obtain⟨h2,e2⟩:=Qb.mp b;exact(Wo hN).mp (e1.trans e2.symm)
def kN (I:Inv X pins σ H s)(hN:X.N.Nodup)(hi:X.N[i]?=some x)(hx:Loc X.env.scope x)(r:RelV v u)(h:∀s',Inv X pins (σ.set i (some v)) H s'->(∃a,QT a s.heap s'.heap/\(a=X.env.locals\/X.env.cells.lookup x=some a))->Q () s')(hf:X.fn x=true\/X.env.scope.names.lookup x=some .local:=by first|exact .inl rfl|exact .inr rfl|assumption):Ic M A (storeName X.env x u) Q E s:=by
 obtain⟨m,hn,hl⟩:=id I.loc;have hcls:(X.env.scope.kind == .class || (X.env.scope.kind == .module&&X.env.locals != X.env.globals))=false:=by rw[I.ok.kind];rfl
 have hiσ:i<σ.length:=by rw[I.len];exact(Qb.mp hi).1
 have cne:=I.cne;have tracked:∀{a:Addr}{h':HQ},(∃o,s.heap.get? a=some o/\H a=none)->QT a s.heap h'->b7 X.prog X.w H h':=λ{a h'} ha hs b ob e=>by
  obtain⟨_,_,hfree⟩:=ha;refine(I.hok b ob e).stay (λc w' hc q=>(hs.2 c ?_).trans q) (λ_ q=>q) λ_ _ q=>q;rintro rfl;rcases hc with rfl|hc
  .rw[hfree]at e;cases e
  .rw[hfree]at hc;cases hc
 rcases hx with hk|hk
 .refine wpAny_storeName_local hk hn (λh' hn' hs=>?_) hcls;obtain⟨oL,_,_,hoL,_⟩:=id hn;refine h _ ⟨I.ok,I.os,I.bare,⟨λb o e n hb hx=>?_,λb o e n hb hx=>?_,I.base.free,λb o e hx=>?_,I.base.tups,I.base.frzs,I.base.tbls⟩,⟨_,hn',λj y v' e1 e2 e3=>?_⟩,λy c e=>?_,I.free,I.freeC,λp hp=>?_,tracked ⟨oL,hoL,I.free⟩ hs,by simpa using I.len⟩ ⟨_,hs,.inl rfl⟩
  .exact (hs.2 b (Qx (Qe (Qg e) I.ok.above))).trans (I.base.keep b o e n hb hx)
  .obtain ⟨sl,e1⟩:=I.base.slot b o e n hb hx;exact⟨sl,(hs.2 b (Qx (Qe (Qg e) I.ok.above))).trans e1⟩
  .obtain ⟨o',e1⟩:=I.base.there b o e hx;exact⟨o',(hs.2 b (Qx (Qe (Qg e) I.ok.above))).trans e1⟩
  .by_cases hj:j=i
   .subst hj;rw[hi]at e1;cases e1;rw[QW hiσ]at e2;cases e2;exact⟨u,r,.inl ⟨hk,by simp⟩⟩
   .rw[Qo (Ne.symm hj)]at e2;obtain⟨u',r',q⟩:=hl j y v' e1 e2 e3;refine⟨u',r',?_⟩;rcases q with⟨k,e⟩|⟨k,c,e,z⟩
    .refine .inl ⟨k,?_⟩;have:y≠x:=λe=>hj (j6 hN e1 (e▸hi));simp[this,e]
    .exact .inr ⟨k,c,e,z.sameBut hs (cne y c e)⟩
  .obtain ⟨w',z⟩:=I.cell y c e;exact⟨w',z.sameBut hs (cne y c e)⟩
  .obtain ⟨e,n,ne,nf,d⟩:=I.pin p hp;exact⟨(hs.2 p.1 ne).trans e,n,ne,nf,d⟩
 .have hfn:X.fn x=true:=by
   rcases hf with z|z
   .exact z
   .rw[z]at hk;cases hk
  obtain⟨c,hc⟩:=I.ok.has x (.inl hk);obtain⟨w',z⟩:=I.cell x c hc;refine wpAny_storeName_cell I.ok.kind hk hc z (λh' hc' hs=>?_);obtain⟨oc,hoc,hocd⟩:=id z;refine h {s with heap:=h' } ⟨I.ok,I.os,I.bare,⟨λb o e n hb hx=>?_,λb o e n hb hx=>?_,I.base.free,λb o e hx=>?_,I.base.tups,I.base.frzs,I.base.tbls⟩,⟨m,hn.sameBut hs (Ne.symm (cne x c hc)),λj y v' e1 e2 e3=>?_⟩,λy c' e=>?_,I.free,I.freeC,λp hp=>?_,tracked ⟨oc,hoc,I.freeC x c hc⟩ hs,by simpa using I.len⟩ ⟨c,hs,.inr hc⟩
  .exact (hs.2 b (Qx (Qe (Qg e) (I.ok.cab x c hfn hc)))).trans (I.base.keep b o e n hb hx)
  .obtain ⟨sl,e1⟩:=I.base.slot b o e n hb hx;exact⟨sl,(hs.2 b (Qx (Qe (Qg e) (I.ok.cab x c hfn hc)))).trans e1⟩
  .obtain ⟨o',e1⟩:=I.base.there b o e hx;exact⟨o',(hs.2 b (Qx (Qe (Qg e) (I.ok.cab x c hfn hc)))).trans e1⟩
  .by_cases hj:j=i
   .subst hj;rw[hi]at e1;cases e1;rw[QW hiσ]at e2;cases e2;exact⟨u,r,.inr ⟨.inl hk,c,hc,hc'⟩⟩
   .rw[Qo (Ne.symm hj)]at e2;obtain⟨u',r',q⟩:=hl j y v' e1 e2 e3;refine⟨u',r',?_⟩;rcases q with q|⟨k,c',e,z'⟩
    .exact .inl q
    .refine .inr ⟨k,c',e,z'.sameBut hs ?_⟩;rintro rfl;exact hj (j6 hN e1 (I.ok.inj _ _ _ e hc▸hi))
  .by_cases hcc:c'=c
   .subst hcc;exact⟨_,hc'⟩
   .obtain ⟨w2,z2⟩:=I.cell y c' e;exact⟨w2,z2.sameBut hs hcc⟩
  .obtain ⟨e,n,ne,nf,d⟩:=I.pin p hp;refine⟨(hs.2 p.1 ?_).trans e,n,ne,nf,d⟩;intro q;rw[q,hoc]at e;have q':oc=p.2:=Option.some.inj e;exact d w' (by rw[<-q'];exact hocd)
def wq (I:Inv X pins σ H s)(hN:X.N.Nodup)(hi:X.N[i]?=some x)(hx:Loc X.env.scope x)(r:RelV v u)(h:∀s',Inv X pins (σ.set i (some v)) H s'->Q () s')(hf:X.fn x=true\/X.env.scope.names.lookup x=some .local:=by first|exact .inl rfl|exact .inr rfl|assumption):Ic M A (storeName X.env x u) Q E s:=
 kN I hN hi hx r (λs' I' _=>h s' I') hf
def Inv.call'{s':HK}{ch:List Addr}(I:Inv X pins σ H s)(ho:s'.os=s.os)(u:Un (bG X.stack) ch H H' s.heap s'.heap)(hok:b7 X.prog X.w H' s'.heap)(hg:HZ s'.gens)
  (hch:∀b∈ch,(b∈X.ex\/X.s₀.heap.objs.size<=b)/\b≠X.env.locals/\(∀x c,X.env.cells.lookup x=some c->c≠b)/\∀p∈X.pn++pins,p.1≠b):Inv X pins σ H' s':=by
 obtain⟨h',g',d',t',o'⟩:=s';have e:o'=s.os:=ho;subst e;exact I.call (g':=g') (t':=t') (d':=d') u hok hg hch
end
abbrev XK:=Value->Option Addr->Hp->Prop
abbrev St:=List (Option V)
abbrev VK:=V->Hp->Prop
abbrev TE:=St->Hp->VK->Prop
abbrev TT:=St->Hp->(Bool->Hp->Prop)->Prop
abbrev TA:=St->Hp->(List V->Hp->Prop)->Prop
set_option genInjectivity false in
structure bQ where
 nx:St->Hp->Prop
 rt:VK
 bk:St->Hp->Prop:=λ_ _=>False
 ct:St->Hp->Prop:=λ_ _=>False
abbrev TS:=bQ->St->Hp->Prop
noncomputable def EP(X:Cx)(pins:List (Addr×Obj))(σ:St)(Q:VK)(u:Value)(s':HK):Prop:=∃v H',Inv X pins σ H' s'/\RelV v u/\Q v H'
noncomputable def TP(X:Cx)(pins:List (Addr×Obj))(σ:St)(Q:Bool->Hp->Prop)(b:Bool)(s':HK):Prop:=∃H',Inv X pins σ H' s'/\Q b H'
noncomputable def AP(X:Cx)(pins:List (Addr×Obj))(σ:St)(Q:List V->Hp->Prop)(us:List Value)(s':HK):Prop:=∃vs H',Inv X pins σ H' s'/\av vs us/\Q vs H'
noncomputable def SP(X:Cx)(pins:List (Addr×Obj))(D:bQ)(f:Flow)(s':HK):Prop:=
 match f with
 |.next=>∃σ' H',Inv X pins σ' H' s'/\D.nx σ' H'
 |.brk=>∃σ' H',Inv X pins σ' H' s'/\D.bk σ' H'
 |.cont=>∃σ' H',Inv X pins σ' H' s'/\D.ct σ' H'
 |.ret u=>∃v σ' H',Inv X pins σ' H' s'/\RelV v u/\D.rt v H'
noncomputable def PE(X:Cx)(e:Expr)(t:TE):Prop:=
 ∀(pins:List (Addr×Obj)) (s:HK) (σ:St) (H:Hp) (Q:VK),Inv X pins σ H s->t σ H Q->Ic (Ie X.prog X.w) X.A (eval e X.env) (EP X pins σ Q) X.xe s
noncomputable def PT(X:Cx)(e:Expr)(t:TT):Prop:=
 ∀(pins:List (Addr×Obj)) (s:HK) (σ:St) (H:Hp) (Q:Bool->Hp->Prop),Inv X pins σ H s->t σ H Q->Ic (Ie X.prog X.w) X.A (isTrue e X.env (eval e X.env)) (TP X pins σ Q) X.xe s
noncomputable def PW(X:Cx)(e:Expr)(t:TT):Prop:=
 ∀(whole:Sem Value) (pins:List (Addr×Obj)) (s:HK) (σ:St) (H:Hp) (Q:Bool->Hp->Prop),Inv X pins σ H s->t σ H Q->Ic (Ie X.prog X.w) X.A (isTrue e X.env whole) (TP X pins σ Q) X.xe s
def PW.pt (h:PW X e t):PT X e t:=h _
noncomputable def PA(X:Cx)(es:List Expr)(t:TA):Prop:=
 ∀(pos:Pos) (pins:List (Addr×Obj)) (s:HK) (σ:St) (H:Hp) (Q:List V->Hp->Prop),Inv X pins σ H s->t σ H Q->Ic (Ie X.prog X.w) X.A (spliced (Ig pos (Ih es X.env))) (AP X pins σ Q) X.xe s
noncomputable def PS(X:Cx)(st:Stmt)(t:TS):Prop:=
 ∀(pins:List (Addr×Obj)) (s:HK) (σ:St) (H:Hp) (D:bQ),Inv X pins σ H s->t D σ H->Ic (Ie X.prog X.w) X.A (exec st X.env) (SP X pins D) X.xe s
noncomputable def cb(X:Cx)(st:List Stmt)(t:TS):Prop:=
 ∀(pins:List (Addr×Obj)) (s:HK) (σ:St) (H:Hp) (D:bQ),Inv X pins σ H s->t D σ H->Ic (Ie X.prog X.w) X.A (execs st X.env) (SP X pins D) X.xe s
def aP (h:Ic M A t Q E s)(hQ:∀a s,Q a s->Q' a s):Ic M A t Q' E s:=Ii h hQ λ_ _ x=>x
section
variable{X:Cx}
noncomputable def vH(i:Nat):TE:=λσ H Q=>∃v,σ[i]?=some (some v)/\Q v H
noncomputable def tC(v:V):TE:=λ_ H Q=>Q v H
def xT (hN:X.N[i]?=some x)(hv:eK X.env.scope x)(hd:(x==("__debug__":Str))=false:=by decide)(hcd:(x==("__classdict__":Str))=false:=by decide):PE X (.Name x pos) (vH i):=by
 intro pins s σ H Q I h;obtain⟨v,e,h⟩:=h;obtain⟨m,hn,hl⟩:=I.loc;obtain⟨u,r,l⟩:=hl i x v hN e hv;have fin:EP X pins σ Q u s:=⟨v,H,I,r,h⟩;rcases l with⟨hk,hm⟩|⟨hk,c,hc,hcell⟩
 .exact wpAny_Name (Ij I.ok.kind hk hn hm fin) hd
 .rcases hk with hk|hk
  .exact wpAny_Name (Ik I.ok.kind hk hc hcell fin) hd
  .exact wpAny_Name (wpAny_loadName_free I.ok.kind hk hc hcell fin hcd) hd
def Ct{i j pos}:PE X (.Constant (.int i) j pos) (tC (.int i)):=λ_ _ _ H _ I h=>wpAny_Constant_int ⟨.int i,H,I.tok _,⟨_,rfl⟩,h⟩
def pS{b j pos}:PE X (.Constant (.bool b) j pos) (tC (.bl b)):=λ_ _ _ H _ I h=>Constant_bool ⟨.bl b,H,I,rfl,h⟩
def Cs{j pos}:PE X (.Constant .none j pos) (tC .non):=λ_ _ _ H _ I h=>Constant_none ⟨.non,H,I,rfl,h⟩
def wJ{x j pos}:PE X (.Constant (.str x) j pos) (tC (.str x)):=λ_ _ _ H _ I h=>Calls.Constant_str ⟨.str x,H,I.tok _,⟨_,rfl⟩,h⟩
noncomputable def Gl(X:Cx)(x:Str):Prop:=X.env.kindOf x=some .globalImplicit
def vw (I:Inv X pins σ H s)(hg:Gl X x)(hm:X.mg x=some u)(h:Q u s)(hd:(x==("__debug__":Str))=false:=by decide):Ic (Ie X.prog X.w) X.A (eval (.Name x pos) X.env) Q E s:=
 Calls.Name_function_global I.ok.kind hg (Calls.loadGlobal_global (by rw[I.ok.glob];exact I.mod.glob.keeps I.bk) hm h) hd
def yZ (I:Inv X pins σ H s)(hg:Gl X x)(hm:X.mg x=none)(hv:HX x=some u)(h:Q u s)(hn:x ≠ "__name__":=by decide)(hd:(x==("__debug__":Str))=false:=by decide):Ic (Ie X.prog X.w) X.A (eval (.Name x pos) X.env) Q E s:=by
 obtain⟨mb,h1,h2⟩:=I.mod.blt;exact Calls.Name_function_global I.ok.kind hg (Calls.loadGlobal_builtin (by rw[I.ok.glob];exact I.mod.glob.keeps I.bk) hm (by rw[I.ok.blt];exact h1.keeps I.bk) ((h2 x hn).trans hv) h) hd
def vA (hg:Gl X x)(hm:X.mg x=some u)(r:RelV v u)(hd:(x==("__debug__":Str))=false:=by decide):PE X (.Name x pos) (tC v):=
 λ_ _ _ H _ I h=>vw I hg hm ⟨v,H,I,r,h⟩ hd
def qK (hg:Gl X x)(hm:X.mg x=none)(hv:HX x=some u)(r:RelV v u)(hn:x ≠ "__name__":=by decide)(hd:(x==("__debug__":Str))=false:=by decide):PE X (.Name x pos) (tC v):=
 λ_ _ _ H _ I h=>yZ I hg hm hv ⟨v,H,I,r,h⟩ hn hd
variable{a b:Expr}{ta tb:TE}{pos:Pos}
noncomputable def tB(t:TE):TT:=λσ H Q=>t σ H λx H1=>∃c,x=.bl c/\Q c H1
def rN (h:PE X e t)(he:∀whole,isTrue e X.env whole=(do let v <-whole;standAt e.pos;holding [v] (truthy v)):=by intro _;rfl):PT X e (tB t):=by
 intro pins s σ H Q I hw;refine isTrue_plain (aP (h pins s σ H _ I hw) λv s1 ⟨x,H1,I1,r1,q1⟩=>?_) (he _);obtain⟨d,rfl,q⟩:=q1;cases r1;exact Il ⟨H1,I1,q⟩
variable{tA tB':TT}{rest:List Expr}
noncomputable def lQ(t u:TT):TT:=λσ H Q=>t σ H λc H1=>if c=true then u σ H1 Q else Q false H1
noncomputable def Fp(t u:TT):TT:=λσ H Q=>t σ H λc H1=>if c=true then Q true H1 else u σ H1 Q
noncomputable def lK(t:TT):TT:=λσ H Q=>t σ H λc H1=>Q (! c) H1
def CO(ha:PT X a tA):PW X (.BoolOp .And [a] pos) tA:=by
 intro wh pins s σ H Q I h;refine isTrue_and (aP (ha pins s σ H Q I h) λc s1 e=>?_);cases c with
 |true=>exact isTrue_and_nil e
 |false=>exact e
def Cr(ha:PT X a tA):PW X (.BoolOp .Or [a] pos) tA:=by
 intro wh pins s σ H Q I h;refine isTrue_or (aP (ha pins s σ H Q I h) λc s1 e=>?_);cases c with
 |false=>exact isTrue_or_nil e
 |true=>exact e
def Cq(ha:PT X a tA)(hb:PW X (.BoolOp .And (b::rest) pos) tB'):PW X (.BoolOp .And (a::b::rest) pos) (lQ tA tB'):=by
 intro wh pins s σ H Q I h;refine isTrue_and (aP (ha pins s σ H _ I h) λc s1 ⟨H1,I1,q1⟩=>?_);cases c with
 |true=>exact hb wh pins s1 σ H1 Q I1 q1
 |false=>exact⟨H1,I1,q1⟩
def As(ha:PT X a tA)(hb:PW X (.BoolOp .Or (b::rest) pos) tB'):PW X (.BoolOp .Or (a::b::rest) pos) (Fp tA tB'):=by
 intro wh pins s σ H Q I h;refine isTrue_or (aP (ha pins s σ H _ I h) λc s1 ⟨H1,I1,q1⟩=>?_);cases c with
 |true=>exact⟨H1,I1,q1⟩
 |false=>exact hb wh pins s1 σ H1 Q I1 q1
def Cp(ha:PT X a tA):PT X (.UnaryOp .Not a pos) (lK tA):=by
 intro pins s σ H Q I h;exact isTrue_not (ha pins s σ H (λc H1=>Q (! c) H1) I h)
noncomputable def Ar(ta tb:TE):TE:=λσ H Q=>ta σ H λx H1=>∃c,x=.bl c/\if c=true then tb σ H1 Q else Q (.bl false) H1
noncomputable def lJ(ta tb:TE):TE:=λσ H Q=>ta σ H λx H1=>∃c,x=.bl c/\if c=true then Q (.bl true) H1 else tb σ H1 Q
noncomputable def Aq(ta:TE):TE:=λσ H Q=>ta σ H λx H1=>∃c,x=.bl c/\Q (.bl (! c)) H1
def gY {op}(h:PE X a t):PE X (.BoolOp op [a] pos) t:=λpins s σ H Q I hw=>BoolOp_one (h pins s σ H Q I hw)
def rM(ha:PE X a ta)(hb:PE X (.BoolOp .And (b::rest) pos) tb):PE X (.BoolOp .And (a::b::rest) pos) (Ar ta tb):=by
 intro pins s σ H Q I h;refine BoolOp_and (aP (ha pins s σ H _ I h) λv s1 ⟨x,H1,I1,r1,q1⟩=>?_);obtain⟨c,rfl,q1⟩:=q1;cases r1;refine Il ?_;cases c with
 |true=>exact hb pins s1 σ H1 Q I1 q1
 |false=>exact⟨.bl false,H1,I1,rfl,q1⟩
def Ap(ha:PE X a ta)(hb:PE X (.BoolOp .Or (b::rest) pos) tb):PE X (.BoolOp .Or (a::b::rest) pos) (lJ ta tb):=by
 intro pins s σ H Q I h;refine BoolOp_or (aP (ha pins s σ H _ I h) λv s1 ⟨x,H1,I1,r1,q1⟩=>?_);obtain⟨c,rfl,q1⟩:=q1;cases r1;refine Il ?_;cases c with
 |false=>exact hb pins s1 σ H1 Q I1 q1
 |true=>exact⟨.bl true,H1,I1,rfl,q1⟩
def A4(ha:PE X a ta):PE X (.UnaryOp .Not a pos) (Aq ta):=by
 intro pins s σ H Q I h;refine UnaryOp_ (aP (ha pins s σ H _ I h) λv s1 ⟨x,H1,I1,r1,q1⟩=>?_);obtain⟨c,rfl,q1⟩:=q1;cases r1;exact not_of (Il ⟨.bl (! c),H1,I1,rfl,q1⟩)
noncomputable def sH(t:TT)(ta tb:TE):TE:=λσ H Q=>t σ H λc H1=>if c=true then ta σ H1 Q else tb σ H1 Q
def Ef (hc:PT X c tA)(ha:PE X a ta)(hb:PE X b tb):PE X (.IfExp c a b pos) (sH tA ta tb):=by
 intro pins s σ H Q I h;refine wpAny_IfExp (aP (hc pins s σ H _ I h) λd s1 ⟨H1,I1,q1⟩=>?_);cases d with
 |true=>exact ha pins s1 σ H1 Q I1 q1
 |false=>exact hb pins s1 σ H1 Q I1 q1
end
noncomputable def bt(K:Qa)(H:Hp)(a:Addr)(xs:List V):Prop:=
 Rd H a (.lst xs) \/
  ∃(o:Obj) (its:Array Value) (n:Nat),K.lookup a=some o/\o.cls=.type "list" /\ o.dict=none/\o.data=.seq its n/\its.size<=sizeLine/\av xs its.toList
noncomputable def bJ(K:Qa)(H:Hp)(a:Addr)(xs:List V):Prop:=
 Rd H a (.tup xs) \/
  ∃(o:Obj) (its:Array Value) (n:Nat),K.lookup a=some o/\o.cls=.type "tuple" /\ o.data=.seq its n/\its.size<=sizeLine/\av xs its.toList
noncomputable def oH:Value->Option V
 |.none=>some .non
 |.bool b=>some (.bl b)
 |.int i _=>some (.int i)
 |.str x _=>some (.str x)
 |.bytes b _=>some (.byt b)
 |.float b _=>some (.flt b)
 |.ref a=>some (.ref a)
 |.type n=>some (.ty n)
 |_=>none
def RelV.abs (r:RelV x u):oH u=some x:=by
 cases x with
 |non=>cases r;rfl
 |bl _=>cases r;rfl
 |int _=>obtain⟨t,rfl⟩:=r;rfl
 |str _=>obtain⟨t,rfl⟩:=r;rfl
 |byt _=>obtain⟨t,rfl⟩:=r;rfl
 |flt _=>obtain⟨t,rfl⟩:=r;rfl
 |ref _=>cases r;rfl
 |ty _=>cases r;rfl
theorem RelV.inj (r:RelV x u)(q:RelV y u):x=y:=Option.some.inj (r.abs.symm.trans q.abs)
theorem av.inj:∀{xs ys:List V}{us:List Value},av xs us->av ys us->xs=ys
 |_,_,_,.nil,.nil=>rfl
 |_,_,_,.cons r t,.cons r' t'=>by rw[r.inj r',av.inj t t']
section
variable{X:Cx}{pins:List (Addr×Obj)}{σ:St}{H:Hp}{s:HK}{a:Addr}{xs ys:List V}
def bt.of{K:Qa}(h:H a=some (.lst xs)):bt K H a xs:=.inl (.inl h)
def bJ.of{K:Qa}(h:H a=some (.tup xs)):bJ K H a xs:=.inl (.inl h)
def Inv.list(I:Inv X pins σ H s)(h:bt X.K H a xs):∃its:List Value,av xs its/\PlainL s.heap a its.toArray/\xs.length<=sizeLine:=by
 rcases h with h|⟨o,its,n,hk,hc,hd,hs,hz,r⟩
 .obtain ⟨z,its,n,r,e⟩:=h.ok I.hok;exact⟨its,r,⟨_,n,e,rfl,rfl,rfl⟩,z⟩
 .refine ⟨its.toList,r,⟨o,n,I.kIn a o hk,hc,hd,by simpa using hs⟩,?_⟩;have e:=r.length;simp only[Wi]at e;lia
def Inv.tuple(I:Inv X pins σ H s)(h:bJ X.K H a xs):∃its:List Value,av xs its/\IsTup s.heap a its.toArray/\xs.length<=sizeLine:=by
 rcases h with h|⟨o,its,n,hk,hc,hs,hz,r⟩
 .obtain ⟨z,its,r,p⟩:=h.ok I.hok;exact⟨its,r,p,z⟩
 .refine ⟨its.toList,r,⟨o,I.kIn a o hk,hc,n,by simpa using hs⟩,?_⟩;have e:=r.length;simp only[Wi]at e;lia
def Inv.list_inj(I:Inv X pins σ H s)(h:bt X.K H a xs)(h':bt X.K H a ys):xs=ys:=by
 obtain⟨its,r,⟨o,n,e,_,_,d⟩,_⟩:=I.list h;obtain⟨its',r',⟨o',n',e',_,_,d'⟩,_⟩:=I.list h';rw[e]at e';cases e';rw[d]at d';injection d' with d1 _
 have:its=its':=by simpa using J5 Wm d1
 subst this;exact r.inj r'
def Inv.tuple_inj(I:Inv X pins σ H s)(h:bJ X.K H a xs)(h':bJ X.K H a ys):xs=ys:=by
 obtain⟨its,r,⟨o,e,_,n,d⟩,_⟩:=I.tuple h;obtain⟨its',r',⟨o',e',_,n',d'⟩,_⟩:=I.tuple h';rw[e]at e';cases e';rw[d]at d';injection d' with d1 _
 have:its=its':=by simpa using J5 Wm d1
 subst this;exact r.inj r'
end
abbrev Cx.wish(X:Cx)(E:Value->HK->Prop):Cx:={X with xe:=E}
abbrev Cx.nox(X:Cx):Cx:=X.wish λ_ _=>False
theorem Cx.Ok.wish{X:Cx}(ok:X.Ok)(E:Value->HK->Prop):(X.wish E).Ok:=
 ⟨ok.mod,ok.kind,ok.glob,ok.blt,ok.above,ok.inj,ok.has,ok.cab,ok.hd,ok.frames,ok.stk,ok.exf,ok.bs,ok.bsz,ok.noex,ok.exfs,ok.funs,ok.frf⟩
def Cx.Ok.unwish {X:Cx}(ok:(X.wish E).Ok):X.Ok:=
 ⟨ok.mod,ok.kind,ok.glob,ok.blt,ok.above,ok.inj,ok.has,ok.cab,ok.hd,ok.frames,ok.stk,ok.exf,ok.bs,ok.bsz,ok.noex,ok.exfs,ok.funs,ok.frf⟩
section
variable{X:Cx}{pins:List (Addr×Obj)}{σ:St}{H:Hp}{s:HK}{E:Value->HK->Prop}
theorem Inv.wish(I:Inv X pins σ H s)(E:Value->HK->Prop):Inv (X.wish E) pins σ H s:=⟨I.ok.wish E,I.os,I.bare,I.base,I.loc,I.cell,I.free,I.freeC,I.pin,I.hok,I.len⟩
theorem Inv.unwish(I:Inv (X.wish E) pins σ H s):Inv X pins σ H s:=⟨I.ok.unwish,I.os,I.bare,I.base,I.loc,I.cell,I.free,I.freeC,I.pin,I.hok,I.len⟩
theorem SP.unwish{D:bQ}{f:Flow}{s':HK}(h:SP (X.wish E) pins D f s'):SP X pins D f s':=by
 cases f with
 |next=>obtain⟨σ',H',I,q⟩:=h;exact⟨σ',H',I.unwish,q⟩
 |brk=>obtain⟨σ',H',I,q⟩:=h;exact⟨σ',H',I.unwish,q⟩
 |cont=>obtain⟨σ',H',I,q⟩:=h;exact⟨σ',H',I.unwish,q⟩
 |ret u=>obtain⟨v,σ',H',I,r,q⟩:=h;exact⟨v,σ',H',I.unwish,r,q⟩
theorem cb.nox{st:List Stmt}{t:TS}(h:cb X.nox st t):cb X st t:=λpins s σ H D I hw=>
 Ii (h pins s σ H D (I.wish _) hw) (λ_ _ q=>q.unwish) λ_ _ z=>False.elim z
end
section
variable{X:Cx}{st:Stmt}{rest:List Stmt}{t u:TS}{e:Expr}{te:TE}{pos:Pos}
noncomputable def Ao:TS:=λD σ H=>D.nx σ H
noncomputable def lH(t u:TS):TS:=λD σ H=>t {D with nx:=u D} σ H
def jm:cb X [] Ao:=λ_ _ σ H _ I h=>Im ⟨σ,H,I,h⟩
set_option tactic.hygienic true in
def ya(h1:PS X st t)(h2:cb X rest u):cb X (st::rest) (lH t u):=by
 intro pins s σ H D I h;refine Io (aP (h1 pins s σ H {D with nx:=u D} I h) λf s1 q=>?_);cases f with
 |next=>
  obtain⟨σ',H',I',q⟩:=q;exact h2 pins s1 σ' H' D I' q
 |ret v=>exact q
 |brk=>exact q
 |cont=>exact q
def wr(h1:PS X st t):cb X [st] t:=by
 intro pins s σ H D I h;refine Io (aP (h1 pins s σ H D I h) λf s1 q=>?_);cases f with
 |next=>exact Im q
 |ret v=>exact q
 |brk=>exact q
 |cont=>exact q
def Inv.quiet (I:Inv X pins σ H s):interactive X.env=false:=by simp[interactive,I.ok.kind]
noncomputable def An(te:TE):TS:=λD σ H=>te σ H λ_ H1=>D.nx σ H1
def CN(he:PE X e te)(hs:Ip e none pos.line X.env=pure false:=by rfl):PS X (.Expr e pos) (An te):=by
 intro pins s σ H D I h;exact Iq (aP (he pins s σ H _ I h) λv s1 ⟨x,H1,I1,r1,q1⟩=>⟨σ,H1,I1,q1⟩) I.quiet hs
noncomputable def lI(te:TE):TS:=λD σ H=>te σ H D.rt
def vI(he:PE X e te):PS X (.Return (some e) pos) (lI te):=by
 intro pins s σ H D I h;exact wpAny_Return_some (aP (he pins s σ H _ I h) λv s1 ⟨x,H1,I1,r1,q1⟩=>⟨x,σ,H1,I1,r1,q1⟩)
noncomputable def lN(c:TT)(t u:TS):TS:=λD σ H=>c σ H λb H1=>if b=true then t D σ H1 else u D σ H1
def qL (hc:PT X c tc)(ha:cb X a t)(hb:cb X b u):PS X (.If c a b pos) (lN tc t u):=by
 intro pins s σ H D I h;refine wpAny_If (aP (hc pins s σ H _ I h) λd s1 ⟨H1,I1,q1⟩=>?_);cases d with
 |true=>exact ha pins s1 σ H1 D I1 q1
 |false=>exact hb pins s1 σ H1 D I1 q1
noncomputable def rL:TS:=λ_ _ _=>False
def Ee:PS X st rL:=λ_ _ _ _ _ _ h=>h.elim
def yI:cb X sts rL:=λ_ _ _ _ _ _ h=>h.elim
end
abbrev TG:=V->St->Hp->(St->Hp->Prop)->Prop
abbrev e7:=List V->St->Hp->(St->Hp->Prop)->Prop
noncomputable def PG(X:Cx)(target:Expr)(t:TG):Prop:=
 ∀(pins:List (Addr×Obj)) (s:HK) (σ:St) (H:Hp) (v:V) (u:Value) (Q:St->Hp->Prop),Inv X pins σ H s->RelV v u->t v σ H Q ->
  Ic (Ie X.prog X.w) X.A (assign target X.env u) (λ_ s'=>∃σ' H',Inv X pins σ' H' s'/\Q σ' H') X.xe s
noncomputable def iV(X:Cx)(ts:List Expr)(t:e7):Prop:=
 ∀(pins:List (Addr×Obj)) (s:HK) (σ:St) (H:Hp) (vs:List V) (us:List Value) (Q:St->Hp->Prop),Inv X pins σ H s->av vs us->t vs σ H Q ->
  Ic (Ie X.prog X.w) X.A (assignInOrder ((Ir ts X.env).map (·.2)) us) (λ_ s'=>∃σ' H',Inv X pins σ' H' s'/\Q σ' H') X.xe s
abbrev i9:=V->V->V->Hp->(Hp->Prop)->Prop
noncomputable def pB(X:Cx)(t:i9):Prop:=
 ∀(pins:List (Addr×Obj)) (s:HK) (σ:St) (H:Hp) (o i v:V) (ov iv u:Value) (Q:Hp->Prop),Inv X pins σ H s->RelV o ov->RelV i iv->RelV v u->t o i v H Q ->
  Ic (Ie X.prog X.w) X.A (Is ov iv u) (λ_ s'=>∃H',Inv X pins σ H' s'/\Q H') X.xe s
abbrev fV:=V->V->Hp->VK->Prop
noncomputable def iU(X:Cx)(op:Iu)(t:fV):Prop:=
 ∀(pins:List (Addr×Obj)) (s:HK) (σ:St) (H:Hp) (x y:V) (v u:Value) (Q:VK),Inv X pins σ H s->RelV x v->RelV y u->t x y H Q ->
  Ic (Ie X.prog X.w) X.A (inplaceOp op v u) (EP X pins σ Q) X.xe s
section
variable{X:Cx}{pos:Pos}
noncomputable def yV(i:Nat):TG:=λv σ H Q=>Q (σ.set i (some v)) H
def y0 (hN:X.N.Nodup)(hi:X.N[i]?=some x)(hx:Loc X.env.scope x)(hf:X.fn x=true\/X.env.scope.names.lookup x=some .local:=by first|exact .inl rfl|exact .inr rfl|assumption):PG X (.Name x pos) (yV i):=by
 intro pins s σ H v u Q I r h;exact wpAny_assign_Name (wq I hN hi hx r (λs' I'=>⟨_,H,I',h⟩) hf)
noncomputable def ik:e7:=λvs σ H Q=>vs=[]/\Q σ H
noncomputable def vJ(t:TG)(u:e7):e7:=λvs σ H Q=>∃v r,vs=v::r/\t v σ H λσ' H'=>u r σ' H' Q
def qM:iV X [] ik:=by
 intro pins s σ H vs us Q I r h;obtain⟨e,h⟩:=h;subst e;cases r;exact assignInOrder_nil ⟨σ,H,I,h⟩
def wt (h1:PG X e t)(h2:iV X es u)(hs:(Ir (e::es) X.env).map (·.2)=assign e X.env::(Ir es X.env).map (·.2):=by rfl):iV X (e::es) (vJ t u):=by
 intro pins s σ H vs us Q I r h;obtain⟨v,vr,e1,h⟩:=h;subst e1;cases r with
 |cons r rr=>
  rw[hs];refine assignInOrder_cons (aP (h1 pins s σ H _ _ _ I r h) λ_ s1 ⟨σ1,H1,I1,q1⟩=>?_);exact h2 pins s1 σ1 H1 _ _ Q I1 rr q1
noncomputable def ij(K:Qa)(n:Nat)(t:e7):TG:=λv σ H Q=>∃a xs,v=.ref a/\bJ K H a xs/\xs.length=n/\t xs σ H Q
def rK (hc:X.calm=true)(h:iV X es t)(hn:(Ir es X.env).length=n:=by rfl)(hst:(Ir es X.env).findIdx? (·.1)=none:=by rfl):PG X (.Tuple es k pos) (ij X.K n t):=by
 intro pins s σ H v u Q I r hw;obtain⟨a,xs,e1,hq,hl,hw⟩:=hw;subst e1;cases r;obtain⟨its,rv,ht,hz⟩:=I.tuple hq;refine assign_Tuple_tuple (I.ok.hd hc) ht (by simp[hn,<-hl,rv.length]) hst λh' hx=>?_;have I1:Inv X pins σ H {s with heap:=h' }:=I.kept (t':=s.toks) λb o e=>hx b o (Qx (Qg e)) e;exact h pins _ σ H xs _ Q I1 (by simpa using rv) hw
noncomputable def nz(to ti:TE)(t:i9):TG:=λv σ H Q=>to σ H λo H1=>ti σ H1 λi H2=>t o i v H2 λH3=>Q σ H3
def A0 (ho:PE X o to)(hi:PE X i ti)(hs:pB X t)(ha:∀v,assign (.Subscript o i pos) X.env v=(do
   let ov <-holding [v] (eval o X.env)
   let iv <-holding [v,ov] (eval i X.env)
   standAt pos
   holding [v,ov,iv] (Is ov iv v)
   release [v,ov,iv] []):=by intro _;rfl):PG X (.Subscript o i pos) (nz to ti t):=by
 intro pins s σ H v u Q I r h;rw[ha];refine Iv (Iw (aP (ho pins s σ H _ I h) λov s1 ⟨x,H1,I1,r1,q1⟩=>?_));refine Iv (Iw (aP (hi pins s1 σ H1 _ I1 q1) λiv s2 ⟨y,H2,I2,r2,q2⟩=>?_));refine Iv (Ix (Iv (Iw (aP (hs pins s2 σ H2 x y v ov iv u _ I2 r1 r2 r q2) λ_ s3 ⟨H3,I3,q3⟩=>?_))));exact wpAny_release ⟨σ,H3,I3,q3⟩
noncomputable def ii(te:TE)(g:TG):TS:=λD σ H=>te σ H λx H1=>g x σ H1 D.nx
def AZ (he:PE X e te)(hg:PG X tg g)(hs:swapsWithSole [tg] e pos.line X.env=pure false:=by rfl)(hw:swappedStores [tg] e X.env=pure none:=by rfl)(h1:(Ir [tg] X.env).map (·.2)=[assign tg X.env]:=by rfl):PS X (.Assign [tg] e pos) (ii te g):=by
 intro pins s σ H D I h;refine wpAny_Assign_stores (aP (he pins s σ H _ I h) λv s1 ⟨x,H1,I1,r1,q1⟩=>?_) hs hw;rw[h1];exact aP (hg pins s1 σ H1 x v _ I1 r1 q1) λ_ s2 q=>q
def jn (hN:X.N.Nodup)(hi:X.N[i]?=some x)(hx:Loc X.env.scope x)(he:PE X e te)(hs:Ip e (some (.Name x pos')) pos.line X.env=pure false:=by rfl)(hf:X.fn x=true\/X.env.scope.names.lookup x=some .local:=by first|exact .inl rfl|exact .inr rfl|assumption):
  PS X (.Assign [.Name x pos'] e pos) (ii te (yV i)):=by
 intro pins s σ H D I h;refine wpAny_Assign_Name (aP (he pins s σ H _ I h) λv s1 ⟨y,H1,I1,r1,q1⟩=>?_) hs;exact wq I1 hN hi hx r1 (λs2 I2=>⟨_,H1,I2,q1⟩) hf
noncomputable def lP(i:Nat)(te:TE)(ti:fV):TS:=λD σ H=>∃x,σ[i]?=some (some x)/\te σ H λy H1=>ti x y H1 λz H2=>D.nx (σ.set i (some z)) H2
def AY (hN:X.N.Nodup)(hi:X.N[i]?=some x)(hx:Loc X.env.scope x)(he:PE X e te)(ho:iU X op ti)(hf:X.fn x=true\/X.env.scope.names.lookup x=some .local:=by first|exact .inl rfl|exact .inr rfl|assumption):
  PS X (.AugAssign (.Name x pos') op e pos) (lP i te ti):=by
 intro pins s σ H D I h;obtain⟨v,e1,h⟩:=h;obtain⟨m,hn,hl⟩:=I.loc;have vis:eK X.env.scope x:=by rcases hx with k|k;exact .inl k;exact .inr (.inl k)
 obtain⟨u,r,l⟩:=hl i x v hi e1 vis;refine wpAny_AugAssign_Name ?_;have go:Ic (Ie X.prog X.w) X.A (eval e X.env) (λw s₂=>Ic (Ie X.prog X.w) X.A (inplaceOp op u w) (λr s₃=>Ic (Ie X.prog X.w) X.A (storeName X.env x r) (λ_=>SP X pins D .next) X.xe s₃) X.xe s₂) X.xe s:=by
  refine aP (he pins s σ H _ I h) λw s1 ⟨y,H1,I1,r1,q1⟩=>?_;refine aP (ho pins s1 σ H1 v y u w _ I1 r r1 q1) λz s2 ⟨zv,H2,I2,r2,q2⟩=>?_;exact wq I2 hN hi hx r2 (λs3 I3=>⟨_,H2,I3,q2⟩) hf
 rcases l with⟨hk,hm⟩|⟨hk,c,hc,hcell⟩
 .exact Ij I.ok.kind hk hn hm go
 .rcases hk with hk|hk
  .exact Ik I.ok.kind hk hc hcell go
  .rcases hx with k|k
   .have:X.env.scope.names.lookup x=some .free:=hk;rw[k]at this;cases this
   .have:X.env.scope.names.lookup x=some .free:=hk;rw[k]at this;cases this
noncomputable def sN(f:Int->Int->Int):fV:=λx y H Q=>∃i j,x=.int i/\y=.int j/\Q (.int (f i j)) H
def AX:iU X .Add (sN λi j=>i+j):=by
 intro pins s σ H x y v u Q I r1 r2 h;obtain⟨i,j,e1,e2,q⟩:=h;subst e1;subst e2;obtain⟨t,rfl⟩:=r1;obtain⟨t',rfl⟩:=r2;exact iadd_int ⟨.int _,H,I.tok _,⟨_,rfl⟩,q⟩
def AW:iU X .Sub (sN λi j=>i-j):=by
 intro pins s σ H x y v u Q I r1 r2 h;obtain⟨i,j,e1,e2,q⟩:=h;subst e1;subst e2;obtain⟨t,rfl⟩:=r1;obtain⟨t',rfl⟩:=r2;exact isub_int ⟨.int _,H,I.tok _,⟨_,rfl⟩,q⟩
end
section
variable{X:Cx}{pos:Pos}
noncomputable def rJ(c:TT)(tb:TS):TS:=λD σ H=>∃W:Nat->St->Hp->Prop,(∃m,W m σ H)/\∀m σ H,W m σ H ->
 c σ H λb H1=>if b=true then ∃N:St->Hp->Prop,(∀σ' H',N σ' H'->∃m',m'<m/\W m' σ' H')/\tb {D with nx:=N,ct:=N,bk:=D.nx} σ H1 else D.nx σ H1
set_option tactic.hygienic true in
def Ed (hp:PassesOwn (Ie X.prog X.w) X.A X.env X.xe)(hc:PT X c tc)(hb:cb X body tb):PS X (.While c body [] pos) (rJ tc tb):=by
 intro pins s σ H D I h;obtain⟨W,⟨m0,w0⟩,turn⟩:=h;refine wpAny_While (codeAny_whileLoop (λn s'=>∃σ' H',Inv X pins σ' H' s'/\W n σ' H') ?_ m0 ⟨σ,H,I,w0⟩);rintro n s1 ⟨σ1,H1,I1,w1⟩;refine Iy hp (aP (hc pins s1 σ1 H1 _ I1 (turn n σ1 H1 w1)) λb s2 ⟨H2,I2,q2⟩=>?_);cases b with
 |true=>
  obtain⟨N,hN,q2⟩:=q2;rw[J7 rfl];refine Iy hp (aP (hb pins s2 σ1 H2 _ I2 q2) λf s3 q3=>?_);cases f with
  |next=>
   obtain⟨σ3,H3,I3,n3⟩:=q3;obtain⟨m',hm,w3⟩:=hN σ3 H3 n3;exact⟨m',hm,σ3,H3,I3,w3⟩
  |cont=>
   obtain⟨σ3,H3,I3,n3⟩:=q3;obtain⟨m',hm,w3⟩:=hN σ3 H3 n3;exact⟨m',hm,σ3,H3,I3,w3⟩
  |brk=>exact q3
  |ret v=>exact q3
 |false=>
  rw[J8 QJ];exact Im ⟨σ1,H2,I2,q2⟩
end
set_option genInjectivity false in
structure It where
 go:Nat->Hp->Prop
 yld:Nat->Hp->V->Hp->Prop
 stop:Nat->Hp->Prop
noncomputable def vp(X:Cx)(pins:List (Addr×Obj))(H:Hp)(b:Addr):Prop:=
 H b=none/\b≠X.env.locals/\b∉X.fs/\(b∈X.ex\/X.s₀.heap.objs.size<=b)/\(∀x c,X.env.cells.lookup x=some c->c≠b)/\∀p∈X.pn++pins,p.1≠b
def Inv.fpOk (I:Inv X pins σ H s)(hb:s.heap.objs.size<=b)(hn:H' b=none):vp X pins H' b:=by
 refine⟨hn,Wh (Qe I.lt hb),I.nofs hb,.inr (Qm I.sz hb),λx c e z=>?_,λp hp z=>?_⟩
 .obtain ⟨v,q⟩:=I.cell x c e;exact J9 (Qe q.lt (by rw[z];exact hb)) (QZ _)
 .exact J9 (Qe (Qg (I.pin p hp).1) (by rw[z];exact hb)) (QZ _)
structure cP(P:HJ)(w:HL)(K:Qa)(tg:Expr)(J:It)(fp:List Addr)(it:Addr)(tn:Nat->HQ->Prop):Prop where
 mem:it∈fp
 obj:∀i h,tn i h->∀b∈fp,∃o,h.get? b=some o/\∀v,o.data≠.cell v
 keep:∀i h h',tn i h->(∀b∈fp,∀o,h.get? b=some o->h'.get? b=some o)->tn i h'
 item:∀(X:Cx),X.prog=P->X.w=w->X.K=K->X.calm=true->∀(i:Nat) (pins:List (Addr×Obj)) (s:HK) (σ:St) (H:Hp) (E:Value->HK->Prop),Inv X pins σ H s->(∀b∈fp,vp X pins H b)->tn i s.heap->J.go i H ->
  Ic (Ie P w) X.A (Iz (.ref it)) (λr s1=>∃u,r=some u /\
   Ic (Ie P w) X.A (IA tg (.ref it) u) (λ_ s2=>∃x H',Inv X pins σ H' s2/\RelV x u/\J.yld i H x H'/\tn (i+1) s2.heap/\∀b∈fp,H' b=none) E s1) E s
 done:∀(X:Cx),X.prog=P->X.w=w->X.K=K->X.calm=true->∀(i:Nat) (pins:List (Addr×Obj)) (s:HK) (σ:St) (H:Hp) (E:Value->HK->Prop),Inv X pins σ H s->(∀b∈fp,vp X pins H b)->tn i s.heap->J.stop i H ->
  Ic (Ie P w) X.A (Iz (.ref it)) (λr s1=>r=none/\Inv X pins σ H s1) E s
 self:∀(A:HY) (i:Nat) (s:HK) (Q:Value->HK->Prop) (E:Value->HK->Prop),tn i s.heap->Q (.ref it) s->Ic (Ie P w) A (pyIter (.ref it)) Q E s
abbrev TI:=St->Hp->(It->Hp->Prop)->Prop
noncomputable def t6(X:Cx)(pins:List (Addr×Obj))(σ:St)(tg:Expr)(R:It->Hp->Prop)(itv:Value)(s2:HK):Prop:=
 ∃(it:Addr) (fp:List Addr) (tn:Nat->HQ->Prop) (J:It) (H':Hp),itv=.ref it/\Inv X pins σ H' s2/\cP X.prog X.w X.K tg J fp it tn/\tn 0 s2.heap/\(∀b∈fp,vp X pins H' b)/\R J H'
noncomputable def PI(X:Cx)(tg iter:Expr)(wi:TI):Prop:=
 ∀(pins:List (Addr×Obj)) (s:HK) (σ:St) (H:Hp) (R:It->Hp->Prop),Inv X pins σ H s->wi σ H R ->
  Ic (Ie X.prog X.w) X.A (eval iter X.env) (λv s1=>Ic (Ie X.prog X.w) X.A (pyIter v) (t6 X pins σ tg R) X.xe s1) X.xe s
def j7 (ho:s.heap.get? it=some o)(hc:o.cls=.type n)(hd:o.data=.fields vs)(hn:["enumerate","zip","dict_itemiterator","dict_reverseitemiterator","odict_iterator","itertools.zip_longest","itertools.pairwise"].contains n=false)(hQ:Q () s):Ic M A (IA tg (.ref it) u) Q E s:=by
 unfold IA;cases tg<;>first
  |exact IB hQ
  | (cases u <;> first
    |exact IB hQ
    | (refine Iv (wpAny_load ho ?_)
       rw[hc,hd];show Ic M A (if(["enumerate","zip","dict_itemiterator","dict_reverseitemiterator","odict_iterator","itertools.zip_longest","itertools.pairwise"].contains n&&vs[0]?==some (IC _))=true then _ else _) Q E s;rw[J8 (by intro h;rw[hn,Bool.false_and]at h;cases h)];exact IB hQ))
noncomputable def oK(K:Qa)(a:Addr):It:=
 ⟨λi H=>∃xs x,bt K H a xs/\xs[i]?=some x,λi H x H'=>H'=H/\∀xs,bt K H a xs->xs[i]?=some x,λi H=>∃xs,bt K H a xs/\xs.length<=i⟩
noncomputable def t7(K:Qa)(a:Addr):It:=
 ⟨λi H=>∃xs x,bJ K H a xs/\xs[i]?=some x,λi H x H'=>H'=H/\∀xs,bJ K H a xs->xs[i]?=some x,λi H=>∃xs,bJ K H a xs/\xs.length<=i⟩
noncomputable def fD(lo:Int)(n:Nat):It:=⟨λi _=>i<n,λi H x H'=>H'=H/\x=.int (lo+i),λi _=>n<=i⟩
def Fb {K:Qa}(a it:Addr):cP P w K tg (oK K a) [it] it (λi h=>h.IsListIter it a i) where
 mem:=by simp
 obj:=λi h st b hb=>by
  have e:b=it:=by simpa using hb
  subst e;obtain⟨o,e,c,d⟩:=st;exact⟨o,e,λv z=>by rw[d]at z;cases z⟩
 keep:=λi h h' st k=>st.at λo e=>k it (by simp) o e
 item:=by
  intro X hP hw hK hc i pins s σ H E I hf st hg;subst hP hw hK;obtain⟨xs,x,hq,hx⟩:=hg;obtain⟨its,rv,p,hz⟩:=I.list hq;obtain⟨u,hu,ru⟩:=rv.get hx;obtain⟨f0,f1,f2,f3,f4,f5⟩:=hf it (by simp);refine wpAny_pyNext_list_item st p.isList (x:=u) (by simpa using hu) λh' st' sb=>?_;have I1:Inv X pins σ H {s with heap:=h' }:=I.turned (t':=s.toks) (λb o hb e=>(sb.2 b hb).trans e) f0 f1 f3 f4 f5;obtain⟨o,e,c,d⟩:=id st';exact⟨u,rfl,j7 (s:={s with heap:=h' }) e c d (by decide) ⟨x,H,I1,ru,⟨rfl,λys hy=>by rw[I.list_inj hy hq];exact hx⟩,st',λb hb=>(hf b hb).1⟩⟩
 done:=by
  intro X hP hw hK hc i pins s σ H E I hf st hg;subst hP hw hK;obtain⟨xs,hq,hx⟩:=hg;obtain⟨its,rv,p,hz⟩:=I.list hq;obtain⟨f0,f1,f2,f3,f4,f5⟩:=hf it (by simp);have hl:=rv.length;exact wpAny_pyNext_list_end (I.ok.hd hc) st p.isList (by simp;lia) λh' eb=>⟨rfl,I.turned (t':=s.toks) (λb o hb e=>eb b o hb e) f0 f1 f3 f4 f5⟩
 self:=λ_ _ _ _ _ st h=>wpAny_pyIter_listiter st h
def gZ {K:Qa}(a it:Addr):cP P w K tg (t7 K a) [it] it (λi h=>h.IsTupleIter it a i) where
 mem:=by simp
 obj:=λi h st b hb=>by
  have e:b=it:=by simpa using hb
  subst e;obtain⟨o,e,c,d⟩:=st;exact⟨o,e,λv z=>by rw[d]at z;cases z⟩
 keep:=λi h h' st k=>st.at λo e=>k it (by simp) o e
 item:=by
  intro X hP hw hK hc i pins s σ H E I hf st hg;subst hP hw hK;obtain⟨xs,x,hq,hx⟩:=hg;obtain⟨its,rv,p,hz⟩:=I.tuple hq;obtain⟨u,hu,ru⟩:=rv.get hx;obtain⟨f0,f1,f2,f3,f4,f5⟩:=hf it (by simp);refine wpAny_pyNext_tuple_item st (show s.heap.IsTuple a its.toArray from p) (x:=u) (by simpa using hu) λh' st' sb=>?_;have I1:Inv X pins σ H {s with heap:=h' }:=I.turned (t':=s.toks) (λb o hb e=>(sb.2 b hb).trans e) f0 f1 f3 f4 f5;obtain⟨o,e,c,d⟩:=id st';exact⟨u,rfl,j7 (s:={s with heap:=h' }) e c d (by decide) ⟨x,H,I1,ru,⟨rfl,λys hy=>by rw[I.tuple_inj hy hq];exact hx⟩,st',λb hb=>(hf b hb).1⟩⟩
 done:=by
  intro X hP hw hK hc i pins s σ H E I hf st hg;subst hP hw hK;obtain⟨xs,hq,hx⟩:=hg;obtain⟨its,rv,p,hz⟩:=I.tuple hq;obtain⟨f0,f1,f2,f3,f4,f5⟩:=hf it (by simp);have hl:=rv.length;exact wpAny_pyNext_tuple_end (I.ok.hd hc) st (show s.heap.IsTuple a its.toArray from p) (by simp;lia) λh' eb=>⟨rfl,I.turned (t':=s.toks) (λb o hb e=>eb b o hb e) f0 f1 f3 f4 f5⟩
 self:=λ_ _ _ _ _ st h=>wpAny_pyIter_tupleiter st h
def g0 {K:Qa}(it:Addr)(lo:Int)(n:Nat):cP P w K tg (fD lo n) [it] it (λi h=>IsRangeIter h it (lo+(i:Nat)*1) ((n:Int)-(i:Nat)) 1) where
 mem:=by simp
 obj:=λi h st b hb=>by
  have e:b=it:=by simpa using hb
  subst e;exact⟨_,st,λv z=>by
   have z':Data.fields _=Data.cell v:=z;cases z'⟩
 keep:=λi h h' st k=>k it (by simp) _ st
 item:=by
  intro X hP hw hK hc i pins s σ H E I hf st hg;subst hP hw hK;obtain⟨f0,f1,f2,f3,f4,f5⟩:=hf it (by simp);have W:=Walks.range (prog:=X.prog) (w:=X.w) (I.ok.hd hc) it lo 1 n;refine W.item i s _ _ hg st λv h' tk hv st' kk=>?_;obtain⟨t,rfl⟩:=hv;have I1:Inv X pins σ H {s with heap:=h',toks:=tk}:=I.turned (λb o hb e=>kk b o (by simpa using hb) e) f0 f1 f3 f4 f5;refine⟨_,rfl,j7 (s:={s with heap:=h',toks:=tk}) (n:="range_iterator") st' rfl rfl (by decide) ⟨.int (lo+i),H,I1,⟨t,?_⟩,⟨rfl,rfl⟩,st',λb hb=>(hf b hb).1⟩⟩;rw[Int.mul_one]
 done:=by
  intro X hP hw hK hc i pins s σ H E I hf st hg;subst hP hw hK;obtain⟨f0,f1,f2,f3,f4,f5⟩:=hf it (by simp);exact wpAny_pyNext_range_end (I.ok.hd hc) st (by have:n<=i:=hg;lia) λh' eb=>⟨rfl,I.turned (t':=s.toks) (λb o hb e=>eb b o hb e) f0 f1 f3 f4 f5⟩
 self:=λ_ _ _ _ _ st h=>wpAny_pyIter_rangeiter st h
section
variable{X:Cx}{tg:Expr}
noncomputable def Am(K:Qa)(tl:TE):TI:=λσ H R=>tl σ H λx H1=>∃a,x=.ref a/\(∃xs,bt K H1 a xs)/\R (oK K a) H1
noncomputable def nw(K:Qa)(tl:TE):TI:=λσ H R=>tl σ H λx H1=>∃a,x=.ref a/\(∃xs,bJ K H1 a xs)/\R (t7 K a) H1
def CM (hl:PE X l tl):PI X tg l (Am X.K tl):=by
 intro pins s σ H R I h;refine aP (hl pins s σ H _ I h) λv s1 ⟨x,H1,I1,r1,q1⟩=>?_;obtain⟨a,e,⟨xs,hq⟩,q⟩:=q1;subst e;cases r1;obtain⟨its,rv,p,hz⟩:=I1.list hq;refine ID p.isList ?_;refine⟨s1.heap.objs.size,[s1.heap.objs.size],_,_,H1,rfl,I1.kept (t':=s1.toks) λb o e=>Qc _ e,Fb a _,⟨_,Qk _ rfl,rfl,rfl⟩,λb hb=>?_,q⟩;have e:b=s1.heap.objs.size:=by simpa using hb
 subst e;exact I1.fpOk (Qf _) (I1.hok.fresh (Qf _))
def AV (hl:PE X l tl):PI X tg l (nw X.K tl):=by
 intro pins s σ H R I h;refine aP (hl pins s σ H _ I h) λv s1 ⟨x,H1,I1,r1,q1⟩=>?_;obtain⟨a,e,⟨xs,hq⟩,q⟩:=q1;subst e;cases r1;obtain⟨its,rv,p,hz⟩:=I1.tuple hq;refine wpAny_pyIter_tuple (show s1.heap.IsTuple a its.toArray from p) ?_;refine⟨s1.heap.objs.size,[s1.heap.objs.size],_,_,H1,rfl,I1.kept (t':=s1.toks) λb o e=>Qc _ e,gZ a _,⟨_,Qk _ rfl,rfl,rfl⟩,λb hb=>?_,q⟩;have e:b=s1.heap.objs.size:=by simpa using hb
 subst e;exact I1.fpOk (Qf _) (I1.hok.fresh (Qf _))
def j8 {lo:Int}(I:Inv X pins σ H s)(h1:-(2^62)<=lo)(h2:lo<2^62)(h3:-(2^62)<=hi)(h4:hi<2^62)(q:R (fD lo (hi-lo).toNat) H):Ic (Ie X.prog X.w) X.A (pyIter (.ref s.heap.objs.size)) (t6 X pins σ tg R) E {s with heap:=s.heap.push {cls:=.type "range",data:=.fields #[.int lo t,.int hi u,.int 1 v]},toks:=tk}:=by
 refine wpAny_pyIter_range (IsRange.new ..) (small_one h1 h2 h3 h4) ?_;have I1:Inv X pins σ H {s with heap:=s.heap.push {cls:=.type "range",data:=.fields #[.int lo t,.int hi u,.int 1 v]},toks:=tk}:=I.kept λb o e=>Qc _ e;refine⟨(s.heap.push {cls:=.type "range",data:=.fields #[.int lo t,.int hi u,.int 1 v]}).objs.size,[(s.heap.push {cls:=.type "range",data:=.fields #[.int lo t,.int hi u,.int 1 v]}).objs.size],_,_,H,rfl,
  I1.kept (t':=tk) λb o e=>Qc _ e,g0 _ lo (hi-lo).toNat,?_,λb hb=>?_,q⟩
 .have e1:lo+((0:Nat):Int)*1=lo:=by simp
  have e2:(((hi-lo).toNat:Nat):Int)-((0:Nat):Int)=Builtin.Range.rangeSize lo hi 1:=by rw[rangeSize_one];split<;>lia
  show IsRangeIter _ _ (lo+((0:Nat):Int)*1) ((((hi-lo).toNat:Nat):Int)-((0:Nat):Int)) 1;rw[e1,e2];exact Qk _ rfl
 .have e:b=(s.heap.push {cls:=.type "range",data:=.fields #[.int lo t,.int hi u,.int 1 v]}).objs.size:=by simpa using hb
  subst e;exact I1.fpOk (Qf _) (I1.hok.fresh (Qf _))
noncomputable def AF(ta:TA):TI:=λσ H R=>ta σ H λvs H1=>∃j:Int,vs=[.int j]/\-(2^62)<=j/\j<2^62/\R (fD 0 j.toNat) H1
noncomputable def AE(ta:TA):TI:=λσ H R=>ta σ H λvs H1=>∃i j:Int,vs=[.int i,.int j]/\(-(2^62)<=i/\i<2^62/\-(2^62)<=j/\j<2^62)/\R (fD i (j-i).toNat) H1
def Fa (hg:Gl X "range")(hm:X.mg "range"=none)(ha:PA X [a] ta)(hs:Ih [a] X.env=[(false,eval a X.env)]:=by rfl):PI X tg (.Call (.Name "range" p) [a] [] pos) (AF ta):=by
 intro pins s σ H R I h;refine Call_ (yZ I hg hm boot_range (PyProof.Rows.callWith_type1 (aP (ha pos pins s σ H _ I h) λus s1 ⟨vs,H1,I1,r1,q1⟩=>?_) hs rfl));obtain⟨j,e,q1,q2,q⟩:=q1;subst e;cases r1 with
 |cons r rr=>
  cases rr;obtain⟨t,rfl⟩:=r;exact call_range_1 (j8 I1 (by lia) (by lia) q1 q2 (by simpa using q))
def E9 (hg:Gl X "range")(hm:X.mg "range"=none)(ha:PA X [a,b] ta)(hs:Ih [a,b] X.env=[(false,eval a X.env),(false,eval b X.env)]:=by rfl)(hs2:Ih [b] X.env=[(false,eval b X.env)]:=by rfl):
  PI X tg (.Call (.Name "range" p) [a,b] [] pos) (AE ta):=by
 intro pins s σ H R I h;refine Call_ (yZ I hg hm boot_range (PyProof.Rows.callWith_type1 (aP (ha pos pins s σ H _ I h) λus s1 ⟨vs,H1,I1,r1,q1⟩=>?_) (by rw[hs,hs2]) (by rw[hs2];rfl)));obtain⟨i,j,e,⟨q1,q2,q3,q4⟩,q⟩:=q1;subst e;cases r1 with
 |cons r rr=>
  cases rr with
  |cons r' rr=>
   cases rr;obtain⟨t,rfl⟩:=r;obtain⟨t',rfl⟩:=r';exact call_range_2 (j8 I1 q1 q2 q3 q4 q)
noncomputable def ig(wi:TI)(g:TG)(tb:TS):TS:=λD σ H=>wi σ H λJ H1=>∃W:Nat->Nat->St->Hp->Prop,(∃m,W 0 m σ H1)/\∀i m σ H,W i m σ H ->
 (J.stop i H/\D.nx σ H)\/(J.go i H/\∃N:St->Hp->Prop,(∀σ' H',N σ' H'->∃m',m'<m/\W (i+1) m' σ' H')/\∀x H',J.yld i H x H'->g x σ H' λσ2 H2=>tb {D with nx:=N,ct:=N,bk:=D.nx} σ2 H2)
noncomputable def vK(fp:List Addr)(h:HQ):List (Addr×Obj):=fp.filterMap λb=>(h.get? b).map λo=>(b,o)
def y6 (hb:b∈fp)(e:h.get? b=some o):(b,o)∈vK fp h:=Ww.mpr ⟨b,hb,by rw[e];rfl⟩
def E8 (hp:p∈vK fp h):p.1∈fp/\h.get? p.1=some p.2:=by
 obtain⟨b,hb,e⟩:=Ww.mp hp;cases q:h.get? b with
 |none=>rw[q]at e;cases e
 |some o=>
  rw[q]at e;have e':(b,o)=p:=Option.some.inj e;subst e';exact⟨hb,q⟩
def Inv.pinned{pins:List (Addr×Obj)}{σ:St}{H:Hp}{s:HK}{fp:List Addr}(I:Inv X pins σ H s)(hf:∀b∈fp,vp X pins H b)(ho:∀b∈fp,∃o,s.heap.get? b=some o/\∀v,o.data≠.cell v):Inv X (pins++vK fp s.heap) σ H s:=
 I.pins_of λp hp=>(QN.mp hp).elim (λz=>I.pin p (Qn _ z)) λz=>by
  obtain⟨hb,e⟩:=E8 z;obtain⟨f0,f1,f2,_⟩:=hf p.1 hb;obtain⟨o,e',d⟩:=ho p.1 hb;rw[e]at e';cases e';exact⟨e,f0,f1,f2,d⟩
def Inv.unpinned{pins pl:List (Addr×Obj)}{σ:St}{H:Hp}{s:HK}(I:Inv X (pins++pl) σ H s):Inv X pins σ H s:=I.pins_of λp hp=>I.pin p (Qn _ (QL _ hp))
def g6 (hp:PassesOwn (Ie X.prog X.w) X.A X.env X.xe)(hc:X.calm=true)(hi:PI X tg iter wi)(hg:PG X tg g)(hb:cb X body tb)(hs:∀x,IE iter X.env x=pure x:=by intro _;rfl):PS X (.For tg iter body [] pos) (ig wi g tb):=by
 intro pins s σ H D I h;refine wpAny_For (aP (hi pins s σ H _ I h) λv s1 h1=>aP h1 λitv s2 h2=>?_) hs;obtain⟨it,fp,tn,J,H2,e,I2,T,st2,f2,W,⟨m0,w0⟩,turn⟩:=h2;subst e
 -- what stays true of the iterator's objects through the loop
 have stat:∀{H':Hp},(∀b∈fp,H' b=none)->∀b∈fp,vp X pins H' b:=λhn b hb=>⟨hn b hb,(f2 b hb).2⟩;refine codeAny_forLoop_any (λn s'=>∃i σ' H',Inv X pins σ' H' s'/\tn i s'.heap/\(∀b∈fp,H' b=none)/\W i n σ' H') ?_ m0 ⟨0,σ,H2,I2,st2,λb hb=>(f2 b hb).1,w0⟩;rintro n s3 ⟨i,σ3,H3,I3,st3,fr3,w3⟩;rcases turn i n σ3 H3 w3 with⟨stop,qn⟩|⟨go,N,hN,step⟩
 .refine Iy hp (aP (T.done X rfl rfl rfl hc i pins s3 σ3 H3 X.xe I3 (stat fr3) st3 stop) λr s4 ⟨hr,I4⟩=>?_);subst hr;exact Im ⟨σ3,H3,I4,qn⟩
 .refine Iy hp (aP (T.item X rfl rfl rfl hc i pins s3 σ3 H3 X.xe I3 (stat fr3) st3 go) λr s4 ⟨u,hr,h4⟩=>?_);subst hr;refine Iy hp (aP h4 λ_ s5 ⟨x,H5,I5,r5,y5,st5,fr5⟩=>?_);have I5':=I5.pinned (stat fr5) (T.obj _ _ st5);refine Iy hp (aP (hg _ s5 σ3 H5 x u _ I5' r5 (step x H5 y5)) λ_ s6 ⟨σ6,H6,I6,q6⟩=>?_);refine Iy hp (aP (hb _ s6 σ6 H6 _ I6 q6) λf s7 q7=>?_);have again:∀{σ7:St}{H7:Hp},Inv X (pins++vK fp s5.heap) σ7 H7 s7->N σ7 H7->∃m,m<n/\∃i σ' H',Inv X pins σ' H' s7/\tn i s7.heap/\(∀b∈fp,H' b=none)/\W i m σ' H':=λ{σ7 H7} I7 n7=>by
   obtain⟨m',hm,w7⟩:=hN σ7 H7 n7;refine⟨m',hm,i+1,σ7,H7,I7.unpinned,T.keep _ _ _ st5 λb hb o e=>(I7.pin (b,o) (Qn _ (Qn _ (y6 hb e)))).1,λb hb=>?_,w7⟩;obtain⟨o,e,d⟩:=T.obj _ _ st5 b hb;exact(I7.pin (b,o) (Qn _ (Qn _ (y6 hb e)))).2.1
  cases f with
  |next=>obtain⟨σ7,H7,I7,n7⟩:=q7;exact again I7 n7
  |cont=>obtain⟨σ7,H7,I7,n7⟩:=q7;exact again I7 n7
  |brk=>obtain⟨σ7,H7,I7,q7⟩:=q7;exact⟨σ7,H7,I7.unpinned,q7⟩
  |ret v=>obtain⟨x7,σ7,H7,I7,r7,q7⟩:=q7;exact⟨x7,σ7,H7,I7.unpinned,r7,q7⟩
end
abbrev R2:=V->V->Hp->VK->Prop
noncomputable def bY(X:Cx)(f:Value->Value->Sem Value)(r:R2):Prop:=
 ∀(pins:List (Addr×Obj)) (s:HK) (σ:St) (H:Hp) (x y:V) (v u:Value) (Q:VK),Inv X pins σ H s->RelV x v->RelV y u->r x y H Q ->
  Ic (Ie X.prog X.w) X.A (f v u) (EP X pins σ Q) X.xe s
noncomputable def oI(X:Cx)(f:Value->Sem Value)(r:V->Hp->VK->Prop):Prop:=
 ∀(pins:List (Addr×Obj)) (s:HK) (σ:St) (H:Hp) (x:V) (v:Value) (Q:VK),Inv X pins σ H s->RelV x v->r x H Q ->
  Ic (Ie X.prog X.w) X.A (f v) (EP X pins σ Q) X.xe s
noncomputable def bv(X:Cx)(f:Value)(r:List V->Hp->VK->Prop):Prop:=
 ∀(pins:List (Addr×Obj)) (s:HK) (σ:St) (H:Hp) (xs:List V) (us:List Value) (Q:VK),Inv X pins σ H s->av xs us->r xs H Q ->
  Ic (Ie X.prog X.w) X.A (call f us) (EP X pins σ Q) X.xe s
noncomputable def dQ(r:R2)(ta tb:TE):TE:=λσ H Q=>ta σ H λx H1=>tb σ H1 λy H2=>r x y H2 Q
noncomputable def Fm(r:V->Hp->VK->Prop)(ta:TE):TE:=λσ H Q=>ta σ H λx H1=>r x H1 Q
noncomputable def rI(C:Int->Int->Prop)(g:Int->Int->V):R2:=λx y H Q=>∃i j,x=.int i/\y=.int j/\C i j/\Q (g i j) H
noncomputable def dG(g:Int->Int->V):R2:=λx y H Q=>∃i j,x=.int i/\y=.int j/\Q (g i j) H
noncomputable def rU(g:Int->V):V->Hp->VK->Prop:=λx H Q=>∃i,x=.int i/\Q (g i) H
section
variable{X:Cx}{a b:Expr}{ta tb:TE}{pos:Pos}
def i8 (ha:PE X a ta)(hb:PE X b tb){R:V->V->Hp->Prop}(I:Inv X pins σ H s)(h:ta σ H λx H1=>tb σ H1 λy H2=>R x y H2){f:Value->Value->Sem Value}(hf:∀v u s2 x y H2,Inv X pins σ H2 s2->RelV x v->RelV y u->R x y H2->Ic (Ie X.prog X.w) X.A (f v u) Q X.xe s2):
  Ic (Ie X.prog X.w) X.A (eval a X.env) (λv s₁=>Ic (Ie X.prog X.w) X.A (eval b X.env) (λu s₂=>Ic (Ie X.prog X.w) X.A (f v u) Q X.xe s₂) X.xe s₁) X.xe s:=by
 refine aP (ha pins s σ H _ I h) λv s1 ⟨x,H1,I1,r1,q1⟩=>?_;refine aP (hb pins s1 σ H1 _ I1 q1) λu s2 ⟨y,H2,I2,r2,q2⟩=>?_;exact hf v u s2 x y H2 I2 r1 r2 q2
def AD (ho:bY X (IF op) r)(ha:PE X a ta)(hb:PE X b tb):PE X (.BinOp a op b pos) (dQ r ta tb):=by
 intro pins s σ H Q I h;exact wpAny_BinOp (i8 ha hb I h λv u s2 x y H2 I2 rx ry q=>ho pins s2 σ H2 x y v u Q I2 rx ry q)
def AC (ho:oI X (unaryOp op) r)(ha:PE X a ta):PE X (.UnaryOp op a pos) (Fm r ta):=by
 intro pins s σ H Q I h;exact UnaryOp_ (aP (ha pins s σ H _ I h) λv s1 ⟨x,H1,I1,r1,q1⟩=>ho pins s1 σ H1 x v Q I1 r1 q1)
def eG {g:Int->Int->Int}(rule:∀(i j:Int) (t u:Tok) (s:HK) (Q:Value->HK->Prop) (E:Value->HK->Prop),C i j->Q (.int (g i j) s.toks) {s with toks:=s.toks+1}->Ic (Ie X.prog X.w) X.A (f (.int i t) (.int j u)) Q E s):
  bY X f (rI C λi j=>.int (g i j)):=by
 intro pins s σ H x y v u Q I rx ry h;obtain⟨i,j,rfl,rfl,hc,q⟩:=h;obtain⟨t,rfl⟩:=rx;obtain⟨t',rfl⟩:=ry;exact rule i j t t' s _ _ hc ⟨.int (g i j),H,I.tok _,⟨_,rfl⟩,q⟩
def i7 {g:Int->Int->Int}(rule:∀(i j:Int) (t u:Tok) (s:HK) (Q:Value->HK->Prop) (E:Value->HK->Prop),Q (.int (g i j) s.toks) {s with toks:=s.toks+1}->Ic (Ie X.prog X.w) X.A (f (.int i t) (.int j u)) Q E s):
  bY X f (dG λi j=>.int (g i j)):=by
 intro pins s σ H x y v u Q I rx ry h;obtain⟨i,j,rfl,rfl,q⟩:=h;obtain⟨t,rfl⟩:=rx;obtain⟨t',rfl⟩:=ry;exact rule i j t t' s _ _ ⟨.int (g i j),H,I.tok _,⟨_,rfl⟩,q⟩
def i6 {g:Int->Int->Bool}(rule:∀(i j:Int) (t u:Tok) (s:HK) (Q:Value->HK->Prop) (E:Value->HK->Prop),Q (.bool (g i j)) s->Ic (Ie X.prog X.w) X.A (f (.int i t) (.int j u)) Q E s):
  bY X f (dG λi j=>.bl (g i j)):=by
 intro pins s σ H x y v u Q I rx ry h;obtain⟨i,j,rfl,rfl,q⟩:=h;obtain⟨t,rfl⟩:=rx;obtain⟨t',rfl⟩:=ry;exact rule i j t t' s _ _ ⟨.bl (g i j),H,I,rfl,q⟩
noncomputable def pD(i j:Int):Prop:=0<j/\j<1073741824
noncomputable def pC(i j:Int):Prop:=0<=j/\j<=1000000/\i.natAbs<2^64
noncomputable def eA(i j:Int):Prop:=(-(2^64)<i/\i<2^64)\/(-(2^64)<j/\j<2^64)
def eA.ok (h:eA i j):IntMulOk i j:=by
 rcases h with⟨h1,h2⟩|⟨h1,h2⟩
 .exact .of_left (intBits_le_64 h1 h2)
 .exact .of_right (intBits_le_64 h1 h2)
def g7(k:Nat):(0:Int)<=2^k:=by
 rw[two_pow_cast];exact Int.natCast_nonneg _
def eW:bY X (IF .Add) (dG λi j=>.int (i+j)):=i7 λ_ _ _ _ _ _ _ q=>add_int q
def AU:bY X (IF .Sub) (dG λi j=>.int (i-j)):=i7 λ_ _ _ _ _ _ _ q=>sub_int q
def eU:bY X (IF .Mult) (rI eA λi j=>.int (i*j)):=eG λ_ _ _ _ _ _ _ hc q=>mul_int q hc.ok
def CL:bY X (IF .FloorDiv) (rI pD λi j=>.int (i/j)):=eG λi j _ _ _ _ _ hc q=>by
 have h1:(0:Int)<j:=hc.1;have h2:j<1073741824:=hc.2;exact floordiv_int (by lia) (by rw[Wx i (by lia)];exact q) (.inl (PyProof.noPylong_small (by lia)))
def AT:bY X (IF .Mod) (rI (λ_ j=>0<j) λi j=>.int (i%j)):=eG λi j _ _ _ _ _ hc q=>by
 have h1:(0:Int)<j:=hc;exact mod_int' (by lia) (by rw[Int.fmod_eq_emod_of_nonneg i (by lia)];exact q)
def AS:bY X (IF .Pow) (rI pC λi j=>.int (i^j.toNat)):=eG λ_ _ _ _ _ _ _ hc q=>pow_int_small hc.1 hc.2.1 hc.2.2 q
def AR:bY X (IF .RShift) (rI (λ_ j=>0<=j) λi j=>.int (i/2^j.toNat)):=eG λi j _ _ _ _ _ hc q=>
 rshift_int hc (by rw[Wx i (g7 _)];exact q)
def AQ:bY X (IF .BitAnd) (dG λi j=>.int (Builtin.bitAnd i j)):=i7 λ_ _ _ _ _ _ _ q=>and_int q
def Fl {g:Int->Int}(rule:∀(i:Int) (t:Tok) (s:HK) (Q:Value->HK->Prop) (E:Value->HK->Prop),Q (.int (g i) s.toks) {s with toks:=s.toks+1}->Ic (Ie X.prog X.w) X.A (f (.int i t)) Q E s):
  oI X f (rU λi=>.int (g i)):=by
 intro pins s σ H x v Q I rx h;obtain⟨i,rfl,q⟩:=h;obtain⟨t,rfl⟩:=rx;exact rule i t s _ _ ⟨.int (g i),H,I.tok _,⟨_,rfl⟩,q⟩
def AO:oI X (unaryOp .USub) (rU λi=>.int (-i)):=Fl λ_ _ _ _ _ q=>neg_int q
end
section
variable{X:Cx}{a b c:Expr}{ta tb tc:TE}{pos:Pos}
def AN (I:Inv X pins σ H s)(q:Q (.bl k) H)(e:k=k'):EP X pins σ Q (.bool k') s:=by
 subst e;exact⟨.bl k,H,I,rfl,q⟩
def AB:bY X (IG .Lt) (dG λi j=>.bl (decide (i<j))):=i6 λ_ _ _ _ _ _ _ q=>lt_int q
def AA:bY X (IG .LtE) (dG λi j=>.bl (decide (i<=j))):=i6 λ_ _ _ _ _ _ _ q=>le_int q
def Az:bY X (IG .Gt) (dG λi j=>.bl (decide (j<i))):=i6 λ_ _ _ _ _ _ _ q=>gt_int q
def CK:bY X (IG .IsNot) (λx y H Q=>y=.non/\Q (.bl (! decide (x=.non))) H):=by
 intro pins s σ H x y v u Q I rx ry h;obtain⟨rfl,q⟩:=h;cases ry;refine isnot_none_gen (AN I q ?_);cases x<;>first
  |(cases rx;rfl)
  |(obtain⟨t,rfl⟩:=rx;rfl)
def bY.or{f:Value->Value->Sem Value}{r r':R2}(h:bY X f r)(h':bY X f r'):bY X f (λx y H Q=>r x y H Q\/r' x y H Q):=by
 intro pins s σ H x y v u Q I rx ry q;rcases q with q|q
 .exact h pins s σ H x y v u Q I rx ry q
 .exact h' pins s σ H x y v u Q I rx ry q
def CJ (ho:bY X (IG op) r)(ha:PE X a ta)(hb:PE X b tb)(hm:II op b=false):PE X (.Compare a [op] [b] pos) (dQ r ta tb):=by
 intro pins s σ H Q I h;exact wpAny_Compare1 (i8 ha hb I h λv u s2 x y H2 I2 rx ry q=>ho pins s2 σ H2 x y v u Q I2 rx ry q) hm
noncomputable def qN(t:TE):TT:=λσ H Q=>t σ H λx H'=>∃k,x=.bl k/\Q k H'
def qO (ho:bY X (IG op) r)(ha:PE X a ta)(hb:PE X b tb)(hm:II op b=false):PT X (.Compare a [op] [b] pos) (qN (dQ r ta tb)):=by
 intro pins s σ H Q I h;refine wpAny_isTrue_Compare1 (aP (ha pins s σ H _ I h) λv s1 ⟨x,H1,I1,r1,q1⟩=>aP (hb pins s1 σ H1 _ I1 q1) λu s2 ⟨y,H2,I2,r2,q2⟩=>
  aP (ho pins s2 σ H2 x y v u _ I2 r1 r2 q2) λc s3 ⟨z,H3,I3,r3,k,e,q3⟩=>?_) hm
 subst e;cases r3;exact Il ⟨H3,I3,q3⟩
noncomputable def g8(r r':R2)(ta tb tc:TE):TE:=λσ H Q=>ta σ H λx H1=>tb σ H1 λy H2=>r x y H2 λz H3=>∃k,z=.bl k /\
 (if k=true then tc σ H3 λw' H4=>r' y w' H4 Q else Q (.bl false) H3)
def Ec (ho:bY X (IG op) r)(ho':bY X (IG op') r')(ha:PE X a ta)(hb:PE X b tb)(hc:PE X c tc)(hm:lastMarks [op,op'] [b,c]=false:=by with_unfolding_all rfl):PE X (.Compare a [op,op'] [b,c] pos) (g8 r r' ta tb tc):=by
 intro pins s σ H Q I h;refine Compare_chain (aP (ha pins s σ H _ I h) λv s1 ⟨x,H1,I1,r1,q1⟩=>chain_link (aP (hb pins s1 σ H1 _ I1 q1) λu s2 ⟨y,H2,I2,r2,q2⟩=>
  aP (ho pins s2 σ H2 x y v u _ I2 r1 r2 q2) λd s3 ⟨z,H3,I3,r3,k,e,q3⟩=>?_)) hm
 subst e;cases r3;refine Il ?_;cases k with
 |false=>exact ite_ff ⟨.bl false,H3,I3,rfl,q3⟩
 |true=>exact ite_tt (chain_last (aP (hc pins s3 σ H3 _ I3 q3) λw' s4 ⟨z',H4,I4,r4,q4⟩=>ho' pins s4 σ H4 y z' u w' Q I4 r2 r4 q4))
def Eb (ho:bY X (IG op) r)(ho':bY X (IG op') r')(ha:PE X a ta)(hb:PE X b tb)(hc:PE X c tc)(hm:lastMarks [op,op'] [b,c]=false:=by with_unfolding_all rfl):PT X (.Compare a [op,op'] [b,c] pos) (qN (g8 r r' ta tb tc)):=by
 intro pins s σ H Q I h;refine isTrue_chain (aP (ha pins s σ H _ I h) λv s1 ⟨x,H1,I1,r1,q1⟩=>test_link (aP (hb pins s1 σ H1 _ I1 q1) λu s2 ⟨y,H2,I2,r2,q2⟩=>
  aP (ho pins s2 σ H2 x y v u _ I2 r1 r2 q2) λd s3 ⟨z,H3,I3,r3,k,e,q3⟩=>?_)) hm
 subst e;cases r3;refine Il ?_;cases k with
 |false=>
  obtain⟨k',e',q'⟩:=q3;cases e';exact ite_ff ⟨H3,I3,q'⟩
 |true=>
  refine ite_tt (test_last (aP (hc pins s3 σ H3 _ I3 q3) λw' s4 ⟨z',H4,I4,r4,q4⟩=>aP (ho' pins s4 σ H4 y z' u w' _ I4 r2 r4 q4) λd' s5 ⟨z2,H5,I5,r5,k2,e2,q5⟩=>?_));subst e2;cases r5;exact Il ⟨H5,I5,q5⟩
def jo:(sizeLine:Nat)<2^63:=by rw[sizeLine_eq];decide
def vh (r:av [x] us):∃u,us=[u]/\RelV x u:=by
 cases r with
 |cons r1 r2=>cases r2;exact⟨_,rfl,r1⟩
def Ay (r:av [x,y] us):∃u w',us=[u,w']/\RelV x u/\RelV y w':=by
 cases r with
 |cons r1 r2=>
  cases r2 with
  |cons r3 r4=>cases r4;exact⟨_,_,rfl,r1,r3⟩
def E7:bv X (.type "int") (λxs H Q=>(∃i,xs=[.int i]/\Q (.int i) H)\/∃k,xs=[.bl k]/\Q (.int (if k then 1 else 0)) H):=by
 intro pins s σ H xs us Q I r h;rcases h with⟨i,rfl,q⟩|⟨k,rfl,q⟩
 .obtain ⟨u,rfl,t,rfl⟩:=vh r;exact call_int_int ⟨.int i,H,I,⟨_,rfl⟩,q⟩
 .obtain ⟨u,rfl,r1⟩:=vh r;cases r1;exact call_int_bool ⟨.int (if k then 1 else 0),H,I.tok _,⟨_,rfl⟩,q⟩
end
structure fe(h:HQ)(x dx C:Addr)(mA:Str->Option Value):Prop where
 obj:h.get? x=some (WV C dx)
 ns:h.Ns1 dx mA
 ne:dx≠x
set_option tactic.hygienic true in
def E6 {h:HQ}(n:h.Ns1 dx mA):∃od,h.get? dx=some od/\∀name,WZ name od=some (mA name):=by
 obtain⟨o,es,ep,ho,hd,hk,_,hm⟩:=n;refine⟨o,ho,λname=>?_⟩;have e:=hm name;unfold nsFind findBy at e;rw[<-Array.find?_toList]at e;unfold WZ;rw[hd];dsimp only;split
 .rename_i y q;rw[q]at e;exact J5 some e
 .rename_i q;rw[q]at e;have a:es.toList.any (·.refKey)=false:=by
   rw[WU];intro y hy;obtain⟨z,t,hkey⟩:=hk y (WM.mp hy);simp[DictEntry.refKey,hkey]
  have a':¬es.toList.any (·.refKey)=true:=by rw[a];exact QJ
  rw[J8 a'];exact J5 some e
def fe.look (I:fe h x dx C mA):∃od,PySem.W.InstAt h x (WV C dx) C (some od)/\∀name,WZ name od=some (mA name):=
 let⟨od,ho,hl⟩:=E6 I.ns
 ⟨od,⟨I.obj,rfl,rfl,ho⟩,hl⟩
def oU (r:dJ (some v) o):∃u,o=some u/\RelV v u:=by
 cases o with
 |none=>exact(show False from r).elim
 |some u=>exact⟨u,rfl,r⟩
section
variable{P:HJ}{w:HL}{H:Hp}{h:HQ}{a C dx:Addr}{fs:List (Str×V)}
def CI(hok:b7 P w H h)(e:H a=some (.ins C dx fs)):∃mA,fe h a dx C mA/\(∀f,dJ (fs.lookup f) (mA f))/\PySem.Within mA (fs.map (·.1))/\fs.length<=1000/\H dx=some (.own a):=by
 obtain⟨d,z,ne,ob,mA,n,r,q⟩:=(show aR P w H h a (.ins C dx fs)from hok a _ e);exact⟨mA,⟨ob,n,ne⟩,r,q,z,d⟩
end
structure oP(K:Qa)(C:Addr):Prop where
 pg:PySem.W.plainGet K C Str.empty=true
 hd:PySem.W.hasDictIn K C=true
 po:PySem.W.plainOver K C=true
 sa:Wt K (.ref C) "__setattr__"=some (some (.builtin "object.__setattr__"))
def oP.get {K:Qa}(c:oP K C)(f:Str):PySem.W.plainGet K C f=true:=c.pg
section
variable{X:Cx}{pins:List (Addr×Obj)}{σ:St}{H:Hp}{s:HK}{A:HY}{E:Value->HK->Prop}{Q:Value->HK->Prop}{c:Value}{b:Bool}
inductive cn(K:Qa)(H:Hp):V->Value->Prop where
 |non:cn K H .non (.type "NoneType")
 |bl (x:Bool):cn K H (.bl x) (.type "bool")
 |int (i:Int):cn K H (.int i) (.type "int")
 |str (x:Str):cn K H (.str x) (.type "str")
 |flt (x:UInt64):cn K H (.flt x) (.type "float")
 |lst {a:Addr}{xs:List V}(e:H a=some (.lst xs)):cn K H (.ref a) (.type "list")
 |frz {a:Addr}{o:Obj}{xs:List V}(e:H a=some (.frz o (.lst xs))):cn K H (.ref a) (.type "list")
 |tup {a:Addr}{xs:List V}(e:H a=some (.tup xs)):cn K H (.ref a) (.type "tuple")
 |dK {a:Addr}{kvs:List (bB×V)}(e:H a=some (.dK kvs)):cn K H (.ref a) (.type "dict")
 |dT {a:Addr}{kvs:List (List bB×V)}(e:H a=some (.dT kvs)):cn K H (.ref a) (.type "dict")
 |ins {a C dx:Addr}{fs:List (Str×V)}(e:H a=some (.ins C dx fs)) (cl:oP K C) (ha:Wt K (.ref C) "__class__"=some (some (.builtin "object.__class__")))
   (hn:PySem.W.specialIn K (.builtin "object.__class__") "__get__"=some (some (.builtin "getset_descriptor.__get__"))) (htk:PySem.W.takesIn K (.builtin "object.__class__")=some true)
   (hm:Q0 K C (.type "object")=some true):cn K H (.ref a) (.ref C)
def yW (I:Inv X pins σ H s)(rx:RelV x u)(ty:cn X.K H x t)(e:QG X.K t c=some b)(h:∀tk,Q (.bool b) {s with toks:=tk}):
  Ic (Ie X.prog X.w) A (call (.builtin "isinstance") [u,c]) Q E s:=by
 cases ty with
 |non=>cases(show u=Value.none from rx);exact QP PySem.W.kitx_none I.kIn True.intro e (λz=>nomatch z) h
 |bl y=>cases(show u=Value.bool y from rx);exact QP PySem.W.kitx_bool I.kIn True.intro e (λz=>nomatch z) h
 |int i=>obtain⟨t,q⟩:=(show ∃t,u=Value.int i t from rx);cases q;exact QP PySem.W.kitx_int I.kIn True.intro e (λz=>nomatch z) h
 |str y=>obtain⟨t,q⟩:=(show ∃t,u=Value.str y t from rx);cases q;exact QP PySem.W.kitx_str I.kIn True.intro e (λz=>nomatch z) h
 |flt y=>obtain⟨t,q⟩:=(show ∃t,u=Value.float y t from rx);cases q;exact QP PySem.W.kitx_float I.kIn True.intro e (λz=>nomatch z) h
 |@lst a xs ea=>
  cases(show u=Value.ref a from rx);obtain⟨_,_,n,_,h1⟩:=(show aR X.prog X.w H s.heap a (.lst xs)from I.hok a _ ea);exact QP WR I.kIn ⟨_,h1,rfl⟩ e (λz=>nomatch z) h
 |@frz a ob xs ea=>
  cases(show u=Value.ref a from rx);obtain⟨_,_,_,n,_,h1⟩:=(show aR X.prog X.w H s.heap a (.frz ob (.lst xs))from I.hok a _ ea);exact QP WR I.kIn ⟨_,h1,rfl⟩ e (λz=>nomatch z) h
 |@tup a xs ea=>
  cases(show u=Value.ref a from rx);obtain⟨_,_,_,p⟩:=(show aR X.prog X.w H s.heap a (.tup xs)from I.hok a _ ea);obtain⟨o,h1,h2,_⟩:=p;exact QP PySem.W.kitx_tuple I.kIn ⟨o,h1,h2⟩ e (λz=>nomatch z) h
 |@dK a kvs ea=>
  cases(show u=Value.ref a from rx);obtain⟨_,_,vs,_,p⟩:=(show aR X.prog X.w H s.heap a (.dK kvs)from I.hok a _ ea);obtain⟨o,es,ep,h1,h2,_⟩:=p;exact QP WS I.kIn ⟨o,h1,h2.1⟩ e (λz=>nomatch z) h
 |@dT a kvs ea=>
  cases(show u=Value.ref a from rx);obtain⟨_,_,xs,_,o,es,ep,h1,h2,_⟩:=(show aR X.prog X.w H s.heap a (.dT kvs)from I.hok a _ ea);exact QP WS I.kIn ⟨o,h1,h2.1⟩ e (λz=>nomatch z) h
 |@ins a C dx fs ea cl ha hn htk hm=>
  cases(show u=Value.ref a from rx);obtain⟨mA,O,_⟩:=CI I.hok ea;obtain⟨od,J,_⟩:=O.look;exact QP (PySem.W.kitx_own (cl.get _) cl.hd ha hn htk hm) I.kIn J e (λz=>nomatch z) h
end
structure bU(k:Nat)(A:HY):Prop where
 hd:A.handled=none
 dp:A.depth+3*k+5<recursionLimit
 un:A.units+16*k+200<IJ
theorem bU.deeper{k:Nat}{A:HY}(r:bU (k+1) A)(env:Env):bU k (A.deeper env):=
 ⟨r.hd,by have:=r.dp;show A.depth+1+3*k+5<_;lia,by have:=r.un;show A.units+3+16*k+200<_;lia⟩
theorem bU.depth (r:bU k A):A.depth<recursionLimit:=by have:=r.dp;lia
theorem bU.units (r:bU k A):A.units+64<IJ:=by have:=r.un;lia
noncomputable def fI:TA:=λ_ H Q=>Q [] H
noncomputable def vL(ta:TE)(tr:TA):TA:=λσ H Q=>ta σ H λx H1=>tr σ H1 λxs H2=>Q (x::xs) H2
section
variable{X:Cx}{e:Expr}{es:List Expr}{te:TE}{t:TA}{pos:Pos}
def zP:PA X [] fI:=λ_ _ _ _ H Q I h=>Calls.spliced_nil ⟨[],H,I,.nil,h⟩
def zq(ha:PE X e te)(hr:PA X es t)(hs:Ih (e::es) X.env=(false,eval e X.env)::Ih es X.env:=by rfl):PA X (e::es) (vL te t):=by
 intro pos pins s σ H Q I h;rw[hs];show Ic _ _ (spliced ((false,eval e X.env)::Ig pos (Ih es X.env))) _ _ s;refine Calls.spliced_cons (aP (ha pins s σ H _ I h) λu s1 ⟨x,H1,I1,r1,q1⟩=>?_);exact aP (hr pos pins s1 σ H1 _ I1 q1) λus s2 ⟨xs,H2,I2,r2,q2⟩=>⟨x::xs,H2,I2,.cons r1 r2,q2⟩
noncomputable def lG(t:TA):TE:=λσ H Q=>t σ H λxs H1=>xs.length<=sizeLine/\∀p,H1 p=none->Q (.ref p) (aG H1 p (.tup xs))
noncomputable def lM(t:TA):TE:=λσ H Q=>t σ H λxs H1=>xs.length<=sizeLine/\∀p,H1 p=none->Q (.ref p) (aG H1 p (.lst xs))
def rH{x1}(h:PA X es t):PE X (.Tuple es x1 pos) (lG t):=by
 intro pins s σ H Q I hq;refine wpAny_Tuple_spliced (aP (h pos pins s σ H _ I hq) λus s1 ⟨xs,H1,I1,r,z,q⟩=>⟨by rw[<-r.length];exact z,?_⟩);have hf:H1 s1.heap.objs.size=none:=I1.hok.fresh (Qf _);refine⟨.ref s1.heap.objs.size,aG H1 s1.heap.objs.size (.tup xs),I1.laid (t':=s1.toks) (λb u e=>Qc _ e) (Qf _) ?_,rfl,q _ hf⟩;exact⟨z,us,r,⟨_,Qk _ rfl,rfl,_,rfl⟩⟩
def AM(h:PA X es t):PE X (.List es pos) (lM t):=by
 intro pins s σ H Q I hq;refine wpAny_List_spliced (aP (h pos pins s σ H _ I hq) λus s1 ⟨xs,H1,I1,r,z,q⟩=>⟨by rw[<-r.length];exact z,?_⟩);have hf:H1 s1.heap.objs.size=none:=I1.hok.fresh (Qf _);refine⟨.ref s1.heap.objs.size,aG H1 s1.heap.objs.size (.lst xs),I1.laid (t':=s1.toks) (λb u e=>Qc _ e) (Qf _) ?_,rfl,q _ hf⟩;exact⟨z,us,0,r,Qk _ rfl⟩
end
abbrev Sp:=List V->Hp->VK->XK->Prop
abbrev dL:=List Env->Hp->HK->XK->Value->HK->Prop
structure et(P:HJ)(w:HL)(K:Qa)(mg:Str->Option Value)(base:HQ)(A:HY)(outer:List Env)(s:HK)(H:Hp):Prop where
 frames:A.frames=some outer
 mod:Mod K mg base
 bs:∀b o,base.get? b=some o->s.heap.get? b=some o/\H b=none
 bsz:base.objs.size<=s.heap.objs.size
 funs:s.heap.FunFrames base outer
 frf:∀b∈bG outer,H b=none
 hok:b7 P w H s.heap
 bare:HZ s.gens
noncomputable def CE(outer:List Env)(P:HJ)(w:HL)(H:Hp)(s:HK)(Q:VK)(u:Value)(s':HK):Prop:=
 ∃v H',s'.os=s.os/\HZ s'.gens/\Un (bG outer) [] H H' s.heap s'.heap/\b7 P w H' s'.heap/\RelV v u/\Q v H'
noncomputable def CR(CX:dL)(outer:List Env)(P:HJ)(w:HL)(H:Hp)(s:HK)(Q:VK)(E:XK)(r:Result)(s':HK):Prop:=
 match r with
 |.ok (.ret u)=>CE outer P w H s Q u s'
 |.ok _=>False
 |.error e=>CX outer H s E e s'
structure bX(P:HJ)(w:HL)(K:Qa)(mg:Str->Option Value)(base:HQ)(CX:dL)(k:Nat)(f:Addr)(fd:IK)(ps:List Str)(sp:Sp):Prop where
 len:∀vs H Q E,sp vs H Q E->vs.length=ps.length
 run:∀(A:HY) (outer:List Env) (s:HK) (H:Hp) (args:Args) (us:List Value) (vs:List V) (Q:VK) (E:XK),bU k A->et P w K mg base A outer s H->IL s fd args (ps.zip us)->av vs us->sp vs H Q E ->
  IM (Ie P w) A (.call (.ref f) args) (CR CX outer P w H s Q E) s
section
variable{X:Cx}{pins:List (Addr×Obj)}{σ:St}{H:Hp}{s s':HK}
def Inv.env0(I:Inv X pins σ H s):et X.prog X.w X.K X.mg X.base X.A X.stack s H:=
 ⟨I.ok.frames,I.ok.mod,I.bs,Qm I.ok.bsz I.sz,I.stack,I.stkFree,I.hok,I.bare⟩
def Inv.after (I:Inv X pins σ H s)(h:CE X.stack X.prog X.w H s Q u s'):EP X pins σ Q u s':=by
 obtain⟨v,H',os,bare,un,hok,r,q⟩:=h;obtain⟨hh,g,d,t,os'⟩:=s';obtain rfl:os'=s.os:=os;exact⟨v,H',I.call (h':=hh) (g':=g) (d':=d) (t':=t) (ch:=[]) un hok bare (λb z=>J9 z (by simp)),r,q⟩
end
noncomputable def uF(sp:Sp)(dvs:List V)(E:XK)(t:TA):TE:=λσ H Q=>t σ H λvs H1=>sp (vs++dvs) H1 Q E
noncomputable def Binds(K:Qa)(fd:IK)(ps:List Str)(ds:List Value):Prop:=
 ∀(s:HK) (us:List Value),K.In s.heap->(us++ds).length=ps.length->IL s fd ⟨us,[]⟩ (ps.zip (us++ds))
def Binds.all{K:Qa}{fd:IK}{ps:List Str}(h:∀us:List Value,us.length=ps.length->bindArgs fd ⟨us,[]⟩=pure (ps.zip us)):Binds K fd ps []:=λs us _ hl=>by
 rw[QS]at hl ⊢;exact .of_eq (h us hl)
noncomputable def xU(CX:dL)(X:Cx)(E:XK):Prop:=∀(pins:List (Addr×Obj)) (σ:St) (H:Hp) (s:HK) (e:Value) (s':HK),Inv X pins σ H s->CX X.stack H s E e s'->X.xe e s'
section
variable{X:Cx}{CX:dL}{k:Nat}{f:Addr}{fd:IK}{ps:List Str}{sp:Sp}{dvs:List V}{ds:List Value}{E:XK}{x:Str}{p pos:Pos}{e:Expr}{es:List Expr}{t:TA}
def AL (F:bX X.prog X.w X.K X.mg X.base CX k f fd ps sp)(hr:bU k X.A)(hb:Binds X.K fd ps ds)(hd:av dvs ds)(hx:xU CX X E)(I:Inv X pins σ H s)(r:av vs us)(h:sp (vs++dvs) H Q E):Ic (Ie X.prog X.w) X.A (call (.ref f) us) (EP X pins σ Q) X.xe s:=by
 have r2:av (vs++dvs) (us++ds):=r.append hd;have hl:(us++ds).length=ps.length:=by rw[<-r2.length];exact F.len _ _ _ _ h
 refine wpAny_call (IN (F.run X.A X.stack s H ⟨us,[]⟩ (us++ds) (vs++dvs) Q E hr I.env0 (hb s us I.kIn hl) r2 h) λr s' hq=>?_);cases r with
 |error e=>exact hx pins σ H s e s' I hq
 |ok fl=>
  cases fl with
  |ret u=>exact I.after hq
  |next=>exact False.elim hq
  |brk=>exact False.elim hq
  |cont=>exact False.elim hq
def CH(F:bX X.prog X.w X.K X.mg X.base CX k f fd ps sp)(hr:bU k X.A)(hg:Gl X x)(hm:X.mg x=some (.ref f))(hk:QY X.K (.ref f)=true)(hb:Binds X.K fd ps ds)(hd:av dvs ds)(hx:xU CX X E)
  (ha:PA X (e::es) t) (hdb:(x==("__debug__":Str))=false:=by decide) (he:Ih (e::es) X.env=(false,eval e X.env)::Ih es X.env:=by rfl) (hpl:(Ig pos (Ih es X.env)).any (·.1)=false:=by rfl) :
  PE X (.Call (.Name x p) (e::es) [] pos) (uF sp dvs E t):=by
 intro pins s σ H Q I h;refine IP (vw I hg hm ?_ hdb);refine PySem.W.callWith_K (h₀:=X.base) I.ok.mod.kin hk (aP (ha pos pins s σ H _ I h) λus s1 ⟨vs,H1,I1,r,q⟩=>⟨I1.kIn,?_⟩) he hpl;exact AL F hr hb hd hx I1 r q
end
structure cq(N P:List Str)(sc:HH):Prop where
 kind:sc.kind=.function
 co:sc.isCoroutine=false
 gen:sc.isGenerator=false
 nd:N.Nodup
 pre:N.take P.length=P
 par:∀x∈P,sc.names.lookup x=some .local\/sc.names.lookup x=some .cell
 nofree:∀y∈sc.names,y.2≠.free
theorem kO {kindOf:Str->Option IQ}:∀{binds:List (Str×Value)}{m:Str->Option Value},(∀v,(x,v)∉binds)->IR kindOf binds m x=m x
 |[],_,_=>rfl
 |(n,v)::r,m,h=>by
  unfold IR;rw[kO λw hw=>h w (Qd _ hw)];split
  .have:x≠n:=by rintro rfl;exact h v QA
   simp[this]
  .rfl
theorem kP {kindOf:Str->Option IQ}:∀{binds:List (Str×Value)}{m:Str->Option Value},(∀v,(x,v)∉binds)->IS kindOf binds m x=m x
 |[],_,_=>rfl
 |(n,v)::r,m,h=>by
  unfold IS;rw[kP λw hw=>h w (Qd _ hw)];split
  .rfl
  .have:x≠n:=by rintro rfl;exact h v QA
   simp[this]
theorem kQ {kindOf:Str->Option IQ}:∀{P:List Str}{vs:List Value}{i:Nat}{m:Str->Option Value},P.Nodup->P[i]?=some x->vs[i]?=some v->kindOf x=some .local ->
  IR kindOf (P.zip vs) m x=some v
 |[],_,_,_,_,h,_,_=>by simp at h
 |_::_,[],_,_,_,_,h,_=>by simp at h
 |p::P,w::vs,0,m,nd,h1,h2,hk=>by
  simp at h1 h2;subst h1;subst h2;show IR kindOf ((p,w)::P.zip vs) m p=_;unfold IR;rw[kO λv hv=>(Qw.mp nd).1 (W1 hv).1,J7 hk];simp
 |p::P,w::vs,i+1,m,nd,h1,h2,hk=>by
  show IR kindOf ((p,w)::P.zip vs) m x=_;unfold IR;exact kQ (i:=i) (Qw.mp nd).2 (by simpa using h1) (by simpa using h2) hk
theorem kR {kindOf:Str->Option IQ}:∀{P:List Str}{vs:List Value}{i:Nat}{m:Str->Option Value},P.Nodup->P[i]?=some x->vs[i]?=some v->kindOf x≠some .local ->
  IS kindOf (P.zip vs) m x=some v
 |[],_,_,_,_,h,_,_=>by simp at h
 |_::_,[],_,_,_,_,h,_=>by simp at h
 |p::P,w::vs,0,m,nd,h1,h2,hk=>by
  simp at h1 h2;subst h1;subst h2;show IS kindOf ((p,w)::P.zip vs) m p=_;unfold IS;rw[kP λv hv=>(Qw.mp nd).1 (W1 hv).1,J8 hk];simp
 |p::P,w::vs,i+1,m,nd,h1,h2,hk=>by
  show IS kindOf ((p,w)::P.zip vs) m x=_;unfold IS;exact kR (i:=i) (Qw.mp nd).2 (by simpa using h1) (by simpa using h2) hk
noncomputable def start(N:List Str)(vs:List V):St:=vs.map some++Qt (N.length-vs.length) none
noncomputable def vq(CX:dL)(P:HJ)(w:HL)(K:Qa)(mg:Str->Option Value)(base:HQ)(N:List Str)(qual:Str)(scope:HH)(f:Addr)(cd:Value)(A:HY)(outer:List Env)(s:HK)(H:Hp)(E:XK):Cx where
 prog:=P
 w:=w
 K:=K
 mg:=mg
 base:=base
 A:=A.deeper (envOfC qual scope s.heap.objs.size f cd)
 N:=N
 s₀:=s
 H₀:=H
 env:=envOfC qual scope s.heap.objs.size f cd
 outer:=outer
 stack:=envOfC qual scope s.heap.objs.size f cd::outer
 ex:=[]
 calm:=true
 fn:=λ_=>true
 pn:=[]
 xe:=λe s'=>Ic (Ie P w) (A.deeper (envOfC qual scope s.heap.objs.size f cd)) (leaving (envOfC qual scope s.heap.objs.size f cd) e) (λ_ s''=>CX outer H s E e s'') (λe' s''=>CX outer H s E e' s'') s'
def j9 {sc:HH}(h:sc.names.lookup x=some .cell):∃c,(IT n sc.names []).lookup x=some c:=by
 have q:=WC sc.names n [] (.inl h);exact Wj.mp q
def E5 {K:Qa}(S:cq N ps scope)(hd:A.handled=none)(e0:et P w K mg base A outer s H)(hl:vs.length=ps.length)(r:av vs us)(x:InCallC s s.heap.objs.size (IR (envOfC qual scope s.heap.objs.size f cd).kindOf (ps.zip us) λ_=>none) (IT (s.heap.objs.size+1) scope.names []) (IS (envOfC qual scope s.heap.objs.size f cd).kindOf (ps.zip us) λ_=>none) s1):
  Inv (vq CX P w K mg base N qual scope f cd A outer s H E) [] (start N vs) H s1:=by
 have hpl:ps.length<=N.length:=by have:=J5 List.length S.pre;rw[WX]at this;lia
 obtain⟨h1,tk,rfl,hk⟩:=x.done;have noA:∀b:Addr,b∉(vq CX P w K mg base N qual scope f cd A outer s H E).ex:=λb z=>J9 (show b∈([]:List Addr)from z) (by simp);refine⟨⟨e0.mod,S.kind,rfl,rfl,Qf _,λy z c h1 h2=>?_,λy hy=>?_,λy c _ h=>?_,λ_=>hd,Around.frames_deeper e0.frames,.inr ⟨rfl,rfl⟩,λb z=>J9 z (noA b),e0.bs,e0.bsz,λb _ _=>noA b,λb z=>J9 z (noA b),e0.funs,e0.frf⟩,
  rfl,e0.bare,Un.kept hk,⟨_,x.toInCall.ns,λi y v h1 h2 h3=>?_⟩,λy c h=>⟨_,x.cell y c h⟩,e0.hok.fresh (Qf _),λy c h=>?_,λp hp=>J9 (show p∈([]:List (Addr×Obj))from hp) (by simp),e0.hok.kept hk,?_⟩
 .exact name_of_addr x.apart (PySem.mem_of_lookup h1) (PySem.mem_of_lookup h2)
 .have hy:scope.names.lookup y=some .cell\/scope.names.lookup y=some .free:=hy;rcases hy with hy|hy
  .exact j9 hy
  .exact J9 rfl (S.nofree _ (PySem.mem_of_lookup hy))
 .exact Wv (x.above y c (PySem.mem_of_lookup h))
 .have hi:i<vs.length:=by
   unfold start at h2;by_cases hi:i<vs.length
   .exact hi
   .rw[Qi (by simpa using hi)]at h2;rw[Wl]at h2;split at h2<;>cases h2
  have ha:vs[i]?=some v:=by
   unfold start at h2;rw[Qh (by simpa using hi),QD]at h2;cases e:vs[i]? with
   |none=>rw[e]at h2;cases h2
   |some a=>rw[e]at h2;cases h2;rfl
  obtain⟨u,hu,rv⟩:=r.get ha;have hp:ps[i]?=some y:=by
   rw[<-S.pre,List.getElem?_take_of_lt (by lia)];exact h1
  have ndP:ps.Nodup:=by rw[<-S.pre];exact S.nd.sublist (List.take_sublist _ _)
  refine⟨u,rv,?_⟩;rcases S.par y (Ql hp)with k|k
  .exact .inl ⟨k,kQ ndP hp hu k⟩
  .obtain ⟨c,e⟩:=j9 (n:=s.heap.objs.size+1) k;refine .inr ⟨.inl k,c,e,?_⟩;have q:=x.cell y c e;rw[kR ndP hp hu (by show scope.names.lookup y≠_;rw[k];decide)]at q;exact q
 .exact e0.hok.fresh (Wv (x.above y c (PySem.mem_of_lookup h)))
 .unfold start;show _=N.length;rw[Q3,QF,List.length_replicate];lia
set_option tactic.hygienic true in
def pQ {K:Qa}{kV:Value}(lk:K.lookup f=some ⟨oc,od,.func (Wb name qual params body scope dV kV doc pm an cdv ct),osl⟩)(hcd:WH K cdv qual=true)(S:cq N ps scope)(len:∀vs H Q E,sp vs H Q E->vs.length=ps.length)(hbody:∀(A:HY) (outer:List Env) (s:HK) (H:Hp) (vs:List V) (Q:VK) (E:XK),bU k (A.deeper (envOfC qual scope s.heap.objs.size f cdv))->sp vs H Q E ->
   ∃t,cb (vq CX P w K mg base N qual scope f cdv A outer s H E) body t/\t {nx:=λ_ H'=>Q .non H',rt:=Q} (start N vs) H):
  bX P w K mg base CX (k+1) f (Wb name qual params body scope dV kV doc pm an cdv ct) ps sp:=by
 refine⟨len,λA outer s H args us vs Q E hr e0 hb r hsp=>?_⟩;have hl:=len _ _ _ _ hsp;have KX:K.In s.heap:=e0.mod.kin.keeps λb o e=>(e0.bs b o e).1;have aF:s.heap.NoLimit:=e0.mod.nolimit.keeps λb o e=>(e0.bs b o e).1;have hkind:∀y∈ps.zip us,scope.names.lookup y.1=some .local\/(scope.names.lookup y.1=some .cell/\((IT (s.heap.objs.size+1) scope.names []).lookup y.1).isSome=true):=λ⟨n,v⟩ hy=>by
  rcases S.par n (W1 hy).1 with q|q
  .exact .inl q
  .exact .inr ⟨q,WC _ _ _ (.inl q)⟩
 refine codeAny_call_function hr.depth (KX _ _ lk) rfl S.co S.gen rfl (PySem.W.codeRec_of KX hcd) (hb _ _ _ _ ?_);refine wpAny_newFunctionEnv_cells S.kind hkind λenv he s1 x=>?_;subst he;refine⟨aF.keeps x.toInCall.keep,codeAny_func ?_⟩;obtain⟨t,ht,hq⟩:=hbody A outer s H vs Q E (hr.deeper _) hsp;have I:Inv (vq CX P w K mg base N qual scope f cdv A outer s H E) [] (start N vs) H s1:=E5 S hr.hd e0 hl r x;refine Ii (ht [] s1 (start N vs) H _ I hq) (λfl s' hs=>?_) λe s' hs=>hs;have fin:∀{σ':St}{H':Hp}{v:V}{u:Value},Inv (vq CX P w K mg base N qual scope f cdv A outer s H E) [] σ' H' s'->RelV v u->Q v H'->CE outer P w H s Q u s':=
  λ{σ' H' v u} J rv q=>⟨v,H',J.os,J.bare,J.base,J.hok,rv,q⟩
 cases fl with
 |ret u=>
  obtain⟨v,σ',H',J,rv,q⟩:=hs;exact fin J rv q
 |next=>
  obtain⟨σ',H',J,q⟩:=hs;exact fin (v:=V.non) (u:=Value.none) J rfl q
 |brk=>
  obtain⟨_,_,_,q⟩:=hs;exact False.elim q
 |cont=>
  obtain⟨_,_,_,q⟩:=hs;exact False.elim q
section
variable{X:Cx}{x:Str}{p pos:Pos}{e:Expr}{es:List Expr}{t:TA}{id T:String}{r:List V->Hp->VK->Prop}
noncomputable def lO(r:List V->Hp->VK->Prop)(t:TA):TE:=λσ H Q=>t σ H λvs H1=>r vs H1 Q
def yo(hc:bv X (.builtin id) r)(hg:Gl X x)(hm:X.mg x=none)(hv:HX x=some (.builtin id))(ha:PA X (e::es) t)(hn:x ≠ "__name__":=by decide)(hdb:(x==("__debug__":Str))=false:=by decide)
  (he:Ih (e::es) X.env=(false,eval e X.env)::Ih es X.env:=by rfl) (hpl:(Ig pos (Ih es X.env)).any (·.1)=false:=by rfl):PE X (.Call (.Name x p) (e::es) [] pos) (lO r t):=by
 intro pins s σ H Q I h;refine IP (yZ I hg hm hv ?_ hn hdb);exact PyProof.Rows.callWith_builtin1 (aP (ha pos pins s σ H _ I h) λus s1 ⟨vs,H1,I1,r1,q1⟩=>hc pins s1 σ H1 vs us Q I1 r1 q1) he hpl
def wK(hc:bv X (.type T) r)(hg:Gl X x)(hm:X.mg x=none)(hv:HX x=some (.type T))(ha:PA X (e::es) t)(hn:x ≠ "__name__":=by decide)(hdb:(x==("__debug__":Str))=false:=by decide)
  (he:Ih (e::es) X.env=(false,eval e X.env)::Ih es X.env:=by rfl) (hpl:(Ig pos (Ih es X.env)).any (·.1)=false:=by rfl):PE X (.Call (.Name x p) (e::es) [] pos) (lO r t):=by
 intro pins s σ H Q I h;refine IP (yZ I hg hm hv ?_ hn hdb);exact PyProof.Rows.callWith_type1 (aP (ha pos pins s σ H _ I h) λus s1 ⟨vs,H1,I1,r1,q1⟩=>hc pins s1 σ H1 vs us Q I1 r1 q1) he hpl
end
end L2
namespace HT
open PySem PyProof.Rows
section
variable{prog:HJ}{w:HL}{A:HY}{E:Value->HK->Prop}{s:HK}
def eg (ht:IsTup s.heap t vs.toArray)(hb:IsTup s.heap b ws.toArray)(hv:vs≠[])(h1:ws=[]->Q (.ref t) s)(h2:ws≠[]->Q (.ref s.heap.objs.size) {s with heap:=s.heap.push {cls:=.type "tuple",data:=.seq (vs++ws).toArray} })(hsz:vs.length+ws.length<=sizeLine):Ic (Ie prog w) A (IF .Add (.ref t) (.ref b)) Q E s:=by
 obtain⟨⟨cls,dd,data,sl⟩,ho,hc,n,hd⟩:=id ht;obtain⟨⟨cls2,dd2,data2,sl2⟩,ho2,hc2,n2,hd2⟩:=id hb;simp only at hc hd hc2 hd2;subst hc hd hc2 hd2;have e:vs.toArray++ws.toArray=(vs++ws).toArray:=by simp
 by_cases hw:ws=[]
 .exact IU ⟨_,ho,rfl⟩ ⟨_,ho2,rfl⟩ IV IW PySem.F.slot_tuple_add PySem.F.entry_tuple_add (PySem.F.args_tuple_add_2 _ _)
   (tuple_addW1 t b vs.toArray ws.toArray n n2 dd dd2 sl sl2 (by simpa using hv) (by simp[hw])) ⟨ho,ho2,h1 hw⟩
 .refine IU ⟨_,ho,rfl⟩ ⟨_,ho2,rfl⟩ IV IW PySem.F.slot_tuple_add PySem.F.entry_tuple_add (PySem.F.args_tuple_add_2 _ _)
   (tuple_addW2 t b vs.toArray ws.toArray n n2 dd dd2 sl sl2 (by simpa using hv) (by simpa using hw) (by rw[Qr,Qr];exact hsz)) ⟨ho,ho2,?_⟩
  rw[e];exact h2 hw
noncomputable def aL(n d:Nat):Option Int->Nat
 |none=>d
 |some v=>if v<0 then(v+(n:Int)).toNat else min v.toNat n
def AK(n d:Nat)(hd:d<=n)(o:Option Int):aL n d o<=n:=by
 cases o with
 |none=>exact hd
 |some v=>
  show(if v<0 then(v+(n:Int)).toNat else min v.toNat n)<=n;by_cases hv:v<0
  .rw[J7 hv];lia
  .rw[J8 hv];exact Nat.min_le_right _ _
def qP(v:Int)(n d:Nat):(if v<0 then max (v+(n:Int)) 0 else min v (n:Int))=((aL n d (some v):Nat):Int):=by
 show(if v<0 then max (v+(n:Int)) 0 else min v (n:Int))=(((if v<0 then(v+(n:Int)).toNat else min v.toNat n):Nat):Int);by_cases hv:v<0
 .simp only[J7 hv];lia
 .simp only[J8 hv];lia
def g9(lo hi:Option Int)(n:Nat):Builtin.Slice.sliceAdjust lo hi 1 (n:Int)=(((aL n 0 lo:Nat):Int),((aL n n hi:Nat):Int)):=by
 have h1:¬((1:Int)<0):=by lia
 unfold Builtin.Slice.sliceAdjust;simp only[h1,if_false];refine Prod.ext ?_ ?_
 .cases lo with
  |none=>rfl
  |some v=>exact qP v n 0
 .cases hi with
  |none=>rfl
  |some v=>exact qP v n n
def qc(i j:Nat):Builtin.Slice.slicePlaces (i:Int) (j:Int) 1=j-i:=by
 unfold Builtin.Slice.slicePlaces;have h1:(1:Int) > 0:=by lia
 simp only[h1,if_true,Int.ediv_one];split<;>lia
def vM (p:IX v o)(h:Q o s):Ic (Ie prog w) A (Builtin.Slice.slicePartIndex v) Q E s:=by
 cases p with
 |none=>exact slicePart_none h
 |int i t=>exact slicePart_int h
def wL {lo:Option Int}{Q:Int×Int×Nat->HK->Prop}(hs:s.heap.IsSliceOf sl vl vu .none)(pl:IX vl lo)(pu:IX vu hi)(h:Q (((aL n 0 lo:Nat):Int),1,aL n n hi-aL n 0 lo) s):Ic (Ie prog w) A (Builtin.Slice.sliceApplied (.ref sl) (pure (n:Int))) Q E s:=by
 obtain⟨os,hos,hcs,hds⟩:=id hs;unfold Builtin.Slice.sliceApplied Builtin.Slice.sliceFields;refine Iv (Iv (IY hos hds (x:=vl) rfl (Iv (IY hos hds (x:=vu) rfl (Iv (IY hos hds (x:=.none) rfl (IB ?_)))))));refine Iv (slicePart_none ?_);show Ic _ _ (if((1:Int)==0)=true then _ else _) _ _ s;rw[J8 (by decide)];refine Iv (vM pl (Iv (vM pu (Iv (IB ?_)))));show Ic _ _ (match Builtin.Slice.sliceAdjust lo hi 1 (n:Int)with|(lo,hi)=>pure (lo,(1:Int),Builtin.Slice.slicePlaces lo hi 1)) _ _ s;rw[g9 lo hi n];show Ic _ _ (pure (((aL n 0 lo:Nat):Int),(1:Int),Builtin.Slice.slicePlaces ((aL n 0 lo:Nat):Int) ((aL n n hi:Nat):Int) 1)) _ _ s;rw[qc];exact IB h
def Ea(xs:Array Value)(i k:Nat):((Q2 k).filterMap λ(m:Nat)=>xs[((i:Int)+(m:Int)*1).toNat]?).toArray=((xs.toList.drop i).take k).toArray:=by
 have e:(λ(m:Nat)=>xs[((i:Int)+(m:Int)*1).toNat]?)=λm=>xs[i+m]?:=by
  funext m;have:((i:Int)+(m:Int)*1).toNat=i+m:=by lia
  rw[this]
 rw[e];have:=pick_run xs i k;rw[List.filterMap_map]at this;have e2:((λx=>xs[x]?) ∘ λx=>i+x)=λm=>xs[i+m]?:=rfl;rw[e2]at this;rw[this]
def cj {lo:Option Int}(ht:IsTup s.heap t items)(hs:s.heap.IsSliceOf sl vl vu .none)(pl:IX vl lo)(pu:IX vu hi)(hw:¬(aL items.size 0 lo=0/\aL items.size items.size hi=items.size))(h:Q (.ref s.heap.objs.size) {s with heap:=s.heap.push {cls:=.type "tuple",data:=.seq ((items.toList.drop (aL items.size 0 lo)).take (aL items.size items.size hi-aL items.size 0 lo)).toArray} })(hsz:items.size<=sizeLine):Ic (Ie prog w) A (IZ (.ref t) (.ref sl)) Q E s:=by
 have htake:sizeOk (.seq ((items.toList.drop (aL items.size 0 lo)).take (aL items.size items.size hi-aL items.size 0 lo)).toArray):=by
  show((items.toList.drop (aL items.size 0 lo)).take (aL items.size items.size hi-aL items.size 0 lo)).toArray.size<=sizeLine;rw[Qr,WX,List.length_drop,Wi];lia
 have hj:aL items.size items.size hi<=items.size:=AK _ _ (Qf _) hi;obtain⟨os,hos,hcs,hds⟩:=id hs;have hTs:s.TypeIs (.ref sl) "slice":=⟨os,hos,hcs⟩;unfold IZ
 try with_reducible refine Iw ?_
 first|refine Iv (IB ?_)|skip
 refine Iv (wpAny_sequenceKey ht.typeIs (by decide) ?_);refine Iv (I0 (name:=Str.ofString "__getitem__") ht.typeIs PyProof.Rows.slot_tuple_getitem
  (Ja PyProof.Rows.slot_tuple_getitem ht.typeIs entry_tuple_getitem ?_ (args_tuple_getitem _ _)))
 show Ic _ _ (Builtin.Tuple.tupleItemsOf (.ref t) >>= _) _ _ s;refine Iv (tupleItemsOf_ ht ?_);refine Iv (wpAny_typeOf hTs ?_);rw[J7 (by decide)];refine Iv (wL hs pl pu ?_);have hno:¬((((aL items.size 0 lo:Nat):Int)==0&&(1:Int)==1&&(aL items.size items.size hi-aL items.size 0 lo)==items.size)=true):=by
  intro q;rw[Qp,Qp]at q;have q1:((aL items.size 0 lo:Nat):Int)=0:=eq_of_beq q.1.1;have q2:aL items.size items.size hi-aL items.size 0 lo=items.size:=eq_of_beq q.2;exact hw ⟨by lia,by lia⟩
 show Ic _ _ (if(((aL items.size 0 lo:Nat):Int)==0&&(1:Int)==1&&(aL items.size items.size hi-aL items.size 0 lo)==items.size)=true then _ else _) _ _ s;rw[J8 hno,Ea]
 first
  |exact Iv (m:=Builtin.Tuple.tupleExact _) (Jb (IB ⟨_,rfl,IB h⟩) htake)
  |exact Iv (m:=Builtin.Tuple.tupleExact _) (Jb (Iv (IB (IB ⟨_,rfl,IB h⟩))) htake)
  |exact Iv (Iv (m:=Builtin.Tuple.tupleExact _) (Jb (IB (IB ⟨_,rfl,IB h⟩)) htake))
  |exact Iv (Iv (m:=Builtin.Tuple.tupleExact _) (Jb (IB ⟨_,rfl,IB h⟩) htake))
end
end HT
namespace L2
open PySem PySem.Spec PyProof.Rows
abbrev TO:=St->Hp->(Option Int->Hp->Prop)->Prop
noncomputable def PO(X:Cx)(e:Option Expr)(t:TO):Prop:=
 ∀(pins:List (Addr×Obj)) (s:HK) (σ:St) (H:Hp) (Q:Option Int->Hp->Prop),Inv X pins σ H s->t σ H Q ->
  Ic (Ie X.prog X.w) X.A (evalPart e X.env) (λu s'=>∃o H',Inv X pins σ H' s'/\IX u o/\Q o H') X.xe s
noncomputable def CG:TO:=λ_ H Q=>Q none H
noncomputable def uE(t:TE):TO:=λσ H Q=>t σ H λx H1=>∃i,x=.int i/\Q (some i) H1
section
variable{X:Cx}{e:Expr}{te:TE}{lo hi:Option Expr}{tl th:TO}{pos p2:Pos}
def CF:PO X none CG:=by
 intro pins s σ H Q I h;rw[evalPart_none];exact IB ⟨none,H,I,.none,h⟩
def CC(h:PE X e te):PO X (some e) (uE te):=by
 intro pins s σ H Q I hw;rw[evalPart_some];refine aP (h pins s σ H _ I hw) λu s1 ⟨x,H1,I1,r1,q1⟩=>?_;obtain⟨i,rfl,q⟩:=q1;obtain⟨t,rfl⟩:=r1;exact⟨some i,H1,I1,.int i t,q⟩
noncomputable def e8(X:Cx)(r:V->Option Int->Option Int->Hp->VK->Prop):Prop:=
 ∀(pins:List (Addr×Obj)) (s:HK) (σ:St) (H:Hp) (x:V) (v vl vu:Value) (lo hi:Option Int) (sl:Addr) (Q:VK),Inv X pins σ H s->RelV x v->s.heap.IsSliceOf sl vl vu .none->IX vl lo->IX vu hi->r x lo hi H Q ->
  ∃T id,typeLookup (.type T) "__getitem__"=pure (some (.builtin id))/\s.TypeIs v T/\Ic (Ie X.prog X.w) X.A (IZ v (.ref sl)) (EP X pins σ Q) X.xe s
def e8.or{r r':V->Option Int->Option Int->Hp->VK->Prop}(h:e8 X r)(h':e8 X r'):e8 X (λx lo hi H Q=>r x lo hi H Q\/r' x lo hi H Q):=by
 intro pins s σ H x v vl vu lo hi sl Q I rx hs pl pu q;rcases q with q|q
 .exact h pins s σ H x v vl vu lo hi sl Q I rx hs pl pu q
 .exact h' pins s σ H x v vl vu lo hi sl Q I rx hs pl pu q
noncomputable def Fo(r:V->Option Int->Option Int->Hp->VK->Prop)(te:TE)(tl th:TO):TE:=λσ H Q=>te σ H λx H1=>tl σ H1 λl H2=>th σ H2 λu H3=>r x l u H3 Q
def D9 (hr:e8 X r)(he:PE X e te)(hl:PO X lo tl)(hu:PO X hi th):PE X (.Subscript e (.Slice lo hi none p2) pos) (Fo r te tl th):=by
 intro pins s σ H Q I h;refine Subscript_ (aP (he pins s σ H _ I h) λv s1 ⟨x,H1,I1,r1,q1⟩=>?_);refine wpAny_Slice (aP (hl pins s1 σ H1 _ I1 q1) λvl s2 ⟨l,H2,I2,pl,q2⟩=>aP (hu pins s2 σ H2 _ I2 q2) λvu s3 ⟨u,H3,I3,pu,q3⟩=>?_);rw[evalPart_none];refine IB ?_;have I4:Inv X pins σ H3 {s3 with heap:=s3.heap.push {cls:=.type "slice",data:=.fields #[vl,vu,.none]} }:=I3.kept (t':=s3.toks) λb ob q=>Qc _ q;obtain⟨T,id,hT,ht,hg⟩:=hr pins {s3 with heap:=s3.heap.push {cls:=.type "slice",data:=.fields #[vl,vu,.none]} } σ H3 x v vl vu l u s3.heap.objs.size Q I4 r1 (Heap.IsSliceOf.new ..) pl pu q3;show Ic (Ie X.prog X.w) X.A (subscriptTail e (.Slice lo hi none p2) v (.ref s3.heap.objs.size)) (EP X pins σ Q) X.xe {s3 with heap:=s3.heap.push {cls:=.type "slice",data:=.fields #[vl,vu,.none]} };exact tail_any (ops:=[.ref s3.heap.objs.size,v]) ht hT hg (by with_unfolding_all rfl)
noncomputable def kE(xs:List V)(lo hi:Option Int):List V:=(xs.drop (HT.aL xs.length 0 lo)).take (HT.aL xs.length xs.length hi-HT.aL xs.length 0 lo)
def vj(xs:List V)(lo hi:Option Int):(kE xs lo hi).length<=xs.length:=by
 unfold kE;rw[WX,List.length_drop];lia
noncomputable def pj(K:Qa):V->Option Int->Option Int->Hp->VK->Prop:=λx lo hi H Q=>∃a xs,x=.ref a/\bJ K H a xs /\
 ¬(HT.aL xs.length 0 lo=0/\HT.aL xs.length xs.length hi=xs.length)/\∀p,H p=none->Q (.ref p) (aG H p (.tup (kE xs lo hi)))
def AJ:e8 X (pj X.K):=by
 intro pins s σ H x v vl vu lo hi sl Q I rx hs pl pu h;obtain⟨a,xs,rfl,hx,hw,q⟩:=h;cases rx;obtain⟨its,r,ht,hz⟩:=I.tuple hx;have hlen:its.toArray.size=xs.length:=by rw[Qr];exact r.length.symm
 refine⟨"tuple",_,PyProof.Rows.slot_tuple_getitem.lookup,ht.typeIs,?_⟩;refine HT.cj ht hs pl pu (by rw[hlen];exact hw) ?_ (by rw[hlen];exact hz);rw[hlen];refine⟨.ref s.heap.objs.size,_,I.laid (t':=s.toks) (o:=.tup (kE xs lo hi)) (λb ob q=>Qc _ q) (Qf _) ?_,rfl,q _ (I.hok.fresh (Qf _))⟩;exact⟨Qm (vj xs lo hi) hz,_,(r.drop (HT.aL xs.length 0 lo)).take (HT.aL xs.length xs.length hi-HT.aL xs.length 0 lo),IsTup.new _ _⟩
noncomputable def pP(K:Qa):R2:=λx y H Q=>∃a b xs ys,x=.ref a/\y=.ref b/\bJ K H a xs/\bJ K H b ys/\xs≠[]/\xs.length+ys.length<=sizeLine /\
 (ys=[]->Q (.ref a) H)/\(ys≠[]->∀p,H p=none->Q (.ref p) (aG H p (.tup (xs++ys))))
def av.nil_iff (r:av xs us):us=[]↔xs=[]:=by
 cases r with
 |nil=>simp
 |cons _ _=>simp
def dS:bY X (IF .Add) (pP X.K):=by
 intro pins s σ H x y v u Q I rx ry h;obtain⟨a,b,xs,ys,rfl,rfl,ha,hb,hx,hz,q1,q2⟩:=h;cases rx;cases ry;obtain⟨its,r1,p1,_⟩:=I.tuple ha;obtain⟨its2,r2,p2,_⟩:=I.tuple hb;refine HT.eg p1 p2 (λz=>hx (r1.nil_iff.mp z)) (λz=>⟨.ref a,H,I,rfl,q1 (r2.nil_iff.mp z)⟩) (λz=>?_) (by rw[<-r1.length,<-r2.length];exact hz);refine⟨.ref s.heap.objs.size,_,I.laid (t':=s.toks) (o:=.tup (xs++ys)) (λb ob q=>Qc _ q) (Qf _) ?_,rfl,q2 (λw=>z (r2.nil_iff.mpr w)) _ (I.hok.fresh (Qf _))⟩;exact⟨by rw[Q3];exact hz,_,r1.append r2,IsTup.new _ _⟩
end
noncomputable def fR(n:Nat)(i:Int):Option Nat:=if 0<=i then(if i<n then some i.toNat else none)else if -(n:Int)<=i then some (i+n).toNat else none
noncomputable def eY{α:Type}(xs:List α)(i:Int):Option α:=(fR xs.length i).bind λj=>xs[j]?
def CB (h:fR n i=some j):seqIndex? i n=some j/\j<n/\-(n:Int)<=i/\i<n:=by
 unfold fR at h;by_cases h0:0<=i
 .rw[J7 h0]at h;by_cases h1:i<n
  .rw[J7 h1]at h;have e:i.toNat=j:=Option.some.inj h;exact⟨by rw[seqIndex_of h0 h1,e],by lia,by lia,h1⟩
  .rw[J8 h1]at h;cases h
 .rw[J8 h0]at h;by_cases h1:-(n:Int)<=i
  .rw[J7 h1]at h;have e:(i+n).toNat=j:=Option.some.inj h;exact⟨by rw[seqIndex_neg (by lia) h1,e],by lia,h1,by lia⟩
  .rw[J8 h1]at h;cases h
def jp (h:eY xs i=some v):∃j,seqIndex? i xs.length=some j/\xs[j]?=some v/\j<xs.length/\-(xs.length:Int)<=i/\i<xs.length:=by
 unfold eY at h;cases e:fR xs.length i with
 |none=>rw[e]at h;cases h
 |some j=>
  rw[e]at h;obtain⟨h1,h2,h3,h4⟩:=CB e;exact⟨j,h1,h,h2,h3,h4⟩
noncomputable def jq(b:Expr):Prop:=∀o i,subscripted b false o i=operate [o,i] (IZ o i)
noncomputable def dD(X:Cx)(r:R2):Prop:=
 ∀(value slice:Expr) (pins:List (Addr×Obj)) (s:HK) (σ:St) (H:Hp) (x y:V) (v u:Value) (Q:VK),Inv X pins σ H s->RelV x v->RelV y u->r x y H Q ->
  subscripted slice false v u=operate [v,u] (IZ v u)->Ic (Ie X.prog X.w) X.A (subscriptTail value slice v u) (EP X pins σ Q) X.xe s
noncomputable def iW(X:Cx)(id:String)(r:V->List V->Hp->VK->Prop):Prop:=
 ∀(pins:List (Addr×Obj)) (s:HK) (σ:St) (H:Hp) (x:V) (xs:List V) (v:Value) (us:List Value) (Q:VK),Inv X pins σ H s->RelV x v->av xs us->r x xs H Q ->
  Ic (Ie X.prog X.w) X.A (call (.builtin id) (v::us)) (EP X pins σ Q) X.xe s
section
variable{X:Cx}{a b:Expr}{ta tb:TE}{pos:Pos}
def dD.or{r r':R2}(h:dD X r)(h':dD X r'):dD X (λx y H Q=>r x y H Q\/r' x y H Q):=by
 intro value slice pins s σ H x y v u Q I rx ry q hs;rcases q with q|q
 .exact h value slice pins s σ H x y v u Q I rx ry q hs
 .exact h' value slice pins s σ H x y v u Q I rx ry q hs
def qQ (hr:dD X r)(ha:PE X a ta)(hb:PE X b tb)(hs:jq b):PE X (.Subscript a b pos) (dQ r ta tb):=by
 intro pins s σ H Q I h;exact Subscript_ (i8 ha hb I h λv u s2 x y H2 I2 rx ry q=>hr a b pins s2 σ H2 x y v u Q I2 rx ry q (hs _ _))
noncomputable def o9(K:Qa):R2:=λx y H Q=>∃p xs i v,x=.ref p/\y=.int i/\bt K H p xs/\eY xs i=some v/\Q v H
noncomputable def o8(K:Qa):R2:=λx y H Q=>∃p xs i v,x=.ref p/\y=.int i/\bJ K H p xs/\eY xs i=some v/\Q v H
noncomputable def o7:R2:=λx y H Q=>∃z i c,x=.str z/\y=.int i/\z.length<=sizeLine/\eY z.cps.toList i=some c/\Q (.str ⟨#[c]⟩) H
def dX:dD X (o9 X.K):=by
 intro value slice pins s σ H x y v u Q I rx ry h hs;obtain⟨p,xs,i,z,rfl,rfl,hq,he,q⟩:=h;cases rx;obtain⟨t,rfl⟩:=ry;obtain⟨its,r,pl,hz⟩:=I.list hq;obtain⟨j,h1,h2,h3,h4,h5⟩:=jp he;obtain⟨w,ew,rw'⟩:=r.get h2;have hl:=r.length;have hn:=jo;have fin:EP X pins σ Q w s:=⟨z,H,I,rw',q⟩;by_cases h0:0<=i
 .have hj:i.toNat=j:=by
   rw[seqIndex_of h0 h5]at h1;exact Option.some.inj h1
  exact item_listR pl.isList h0 (by lia) (by rw[hj];simpa using ew) fin hs
 .have hj:(i+(its.toArray.size:Int)).toNat=j:=by
   rw[seqIndex_neg (by lia) h4]at h1;rw[Qr,<-hl];exact Option.some.inj h1
  exact Jc (x:=w) pl.isList.typeIs slot_list_getitem.lookup
   (wpAny_getItem_list_neg (Q:=λr s'=>r=w/\EP X pins σ Q r s') pl.isList (by lia) (by rw[Qr]<;>lia) (by lia) (by rw[hj];simpa using ew) ⟨rfl,fin⟩) hs
def eX:dD X (o8 X.K):=by
 intro value slice pins s σ H x y v u Q I rx ry h hs;obtain⟨p,xs,i,z,rfl,rfl,hq,he,q⟩:=h;cases rx;obtain⟨t,rfl⟩:=ry;obtain⟨its,r,pl,hz⟩:=I.tuple hq;obtain⟨j,h1,h2,h3,h4,h5⟩:=jp he;obtain⟨w,ew,rw'⟩:=r.get h2;have hl:=r.length;have hn:=jo;have fin:EP X pins σ Q w s:=⟨z,H,I,rw',q⟩;exact Jc (x:=w) pl.typeIs slot_tuple_getitem.lookup
  (getItem_tuple (j:=j) (Q:=λr s'=>r=w/\EP X pins σ Q r s') pl (by lia) (by lia) (by rw[Qr,<-hl];exact h1) (by simpa using ew) ⟨rfl,fin⟩) hs
def AI:dD X o7:=by
 intro value slice pins s σ H x y v u Q I rx ry h hs;obtain⟨z,i,c,rfl,rfl,hz,he,q⟩:=h;obtain⟨t,rfl⟩:=rx;obtain⟨t',rfl⟩:=ry;obtain⟨j,h1,h2,h3,h4,h5⟩:=jp he;have hl:z.cps.toList.length=z.length:=by simp[Str.length]
 rw[hl]at h1 h4 h5;have hn:=jo;exact tail_any (typeIs_str s z t) slot_str_getitem.lookup (getItem_str (c:=c) (by
  have e1:decide (i < -(2^63:Int))=false:=J6 (by lia);have e2:decide (i ≥ 2^63)=false:=J6 (by lia);rw[e1,e2,Bool.or_false]) (by rw[h1];simpa using h2) ⟨.str ⟨#[c]⟩,H,I.tok _,⟨_,rfl⟩,q⟩) hs
noncomputable def sK(K:Qa):R2:=λx y H Q=>o9 K x y H Q\/o8 K x y H Q\/o7 x y H Q
def AH:dD X (sK X.K):=dX.or (eX.or AI)
def jr(lo hi:Option Int)(n:Nat):(Jd lo hi none n).1=((HT.aL n 0 lo:Nat):Int)/\(Jd lo hi none n).2.1=((HT.aL n n hi:Nat):Int)/\(Jd lo hi none n).2.2=1:=by
 refine⟨?_,?_,rfl⟩
 .cases lo with
  |none=>simp[Jd,HT.aL]
  |some i=>
   simp only[Jd,HT.aL,Option.getD_none,show(1:Int) > 0 by decide,if_true];by_cases h:i<0
   .simp only[h,if_true]<;>lia
   .simp only[h,if_false]<;>lia
 .cases hi with
  |none=>simp[Jd,HT.aL]
  |some i=>
   simp only[Jd,HT.aL,Option.getD_none,show(1:Int) > 0 by decide,if_true];by_cases h:i<0
   .simp only[h,if_true]<;>lia
   .simp only[h,if_false]<;>lia
def kF(its:List Value)(lo hi:Option Int):slicePick its.toArray lo hi none=((its.drop (HT.aL its.length 0 lo)).take (HT.aL its.length its.length hi-HT.aL its.length 0 lo)).toArray:=by
 obtain⟨h1,h2,h3⟩:=jr lo hi its.toArray.size;unfold slicePick;rw[h1,h2,h3];simp only[sliceRange_one,pick_run,Qr]<;>rfl
noncomputable def i5(K:Qa):V->Option Int->Option Int->Hp->VK->Prop:=λx lo hi H Q=>∃a xs,x=.ref a/\bt K H a xs/\∀p,H p=none->Q (.ref p) (aG H p (.lst (kE xs lo hi)))
def dR:e8 X (i5 X.K):=by
 intro pins s σ H x v vl vu lo hi sl Q I rx hs pl pu h;obtain⟨a,xs,rfl,hx,q⟩:=h;cases rx;obtain⟨its,r,ht,hz⟩:=I.list hx;have hlen:=r.length;refine⟨"list",_,slot_list_getitem.lookup,ht.isList.typeIs,?_⟩;refine wpAny_getItem_list_slice ht.isList hs pl pu .none (by simp) ?_ (by rw[Qr]<;>lia);rw[kF,<-hlen];refine⟨.ref s.heap.objs.size,_,I.laid (t':=s.toks) (o:=.lst (kE xs lo hi)) (λb ob q=>Qc _ q) (Qf _) ?_,rfl,q _ (I.hok.fresh (Qf _))⟩;exact⟨Qm (vj xs lo hi) hz,_,0,(r.drop (HT.aL xs.length 0 lo)).take (HT.aL xs.length xs.length hi-HT.aL xs.length 0 lo),Qk _ rfl⟩
def js:bv X (.builtin "len") (λxs H Q=>∃p ys,xs=[.ref p]/\(bt X.K H p ys\/bJ X.K H p ys)/\Q (.int ys.length) H):=by
 intro pins s σ H xs us Q I r h;obtain⟨p,ys,rfl,hq,q⟩:=h;obtain⟨u,rfl,rx⟩:=vh r;cases rx;have hn:=jo;rcases hq with hq|hq
 .obtain ⟨its,r',pl,hz⟩:=I.list hq;have hlen:=r'.length;exact Calls.call_len_list pl.isList (by simp only[Qr]<;>lia) ⟨.int ys.length,H,I.tok _,⟨s.toks+1,by rw[Qr,hlen]⟩,q⟩
 .obtain ⟨its,r',pl,hz⟩:=I.tuple hq;have hlen:=r'.length;exact len_tuple pl (by simp only[Qr]<;>lia) ⟨.int ys.length,H,I.tok _,⟨s.toks+1,by rw[Qr,hlen]⟩,q⟩
def jt:bv X (.type "list") (λxs H Q=>∃p ys,xs=[.ref p]/\(bt X.K H p ys\/bJ X.K H p ys)/\∀l,H l=none->Q (.ref l) (aG H l (.lst ys))):=by
 intro pins s σ H xs us Q I r h;obtain⟨p,ys,rfl,hq,q⟩:=h;obtain⟨u,rfl,rx⟩:=vh r;cases rx;have fin:∀(its:List Value),av ys its->ys.length<=sizeLine->∀(h':HQ) (c':Nat),(∀b o',s.heap.get? b=some o'->h'.get? b=some o') ->
   h'.get? s.heap.objs.size=some {cls:=.type "list",dict:=none,data:=.seq its.toArray c',slots:=#[]}->EP X pins σ Q (.ref s.heap.objs.size) {s with heap:=h' }:=λits r' hz h' c' kp e=>
  ⟨.ref s.heap.objs.size,_,I.laid (t':=s.toks) kp (Qf _) (show aR X.prog X.w _ h' _ (.lst ys)from⟨hz,its,c',r',e⟩),rfl,q _ (I.hok.fresh (Qf _))⟩
 rcases hq with hq|hq
 .obtain ⟨its,r',pl,hz⟩:=I.list hq;have hlen:=r'.length;obtain⟨o,ho,hc,n,hd⟩:=pl.isList;exact call_list_seq p (.inl rfl) ho hc hd (λh' c' kp e=>fin its r' hz h' c' kp e) (by simp only[Qr]<;>lia)
 .obtain ⟨its,r',pl,hz⟩:=I.tuple hq;have hlen:=r'.length;obtain⟨o,ho,hc,n,hd⟩:=pl;exact call_list_seq p (.inr rfl) ho hc hd (λh' c' kp e=>fin its r' hz h' c' kp e) (by simp only[Qr]<;>lia)
def kG:bv X (.type "tuple") (λxs H Q=>∃p ys,xs=[.ref p]/\((bt X.K H p ys/\∀l,H l=none->Q (.ref l) (aG H l (.tup ys)))\/(bJ X.K H p ys/\Q (.ref p) H))):=by
 intro pins s σ H xs us Q I r h;obtain⟨p,ys,rfl,h⟩:=h;obtain⟨u,rfl,rx⟩:=vh r;cases rx;rcases h with⟨hq,q⟩|⟨hq,q⟩
 .obtain ⟨its,r',pl,hz⟩:=I.list hq;have hlen:=r'.length;refine call_tuple_list pl.isList (λh' kp=>?_) (by simp only[Qr]<;>lia);have I1:Inv X pins σ H {s with heap:=h' }:=I.kept (t':=s.toks) kp;have I2:Inv X pins σ (aG H h'.objs.size (.tup ys)) {s with heap:=h'.push {cls:=.type "tuple",data:=.seq its.toArray} } :=
   I1.laid (t':=s.toks) (λb o e=>Qc _ e) (Qf _) (show aR X.prog X.w _ _ _ (.tup ys)from⟨hz,its,r',IsTup.new _ _⟩)
  exact⟨.ref h'.objs.size,_,I2,rfl,q _ (I1.hok.fresh (Qf _))⟩
 .obtain ⟨its,r',pl,hz⟩:=I.tuple hq;exact call_tuple_same pl ⟨.ref p,H,I,rfl,q⟩
noncomputable def lF(K:Qa)(T:String)(x:V)(H:Hp):Prop:=match x with
 |.str _=>T="str"
 |.int _=>T="int"
 |.ref p=>(T="list" /\ ∃xs,bt K H p xs)\/(T="tuple" /\ ∃o,K.lookup p=some o/\o.cls=.type "tuple" /\ o.dict=none) \/
   (T="dict" /\ ((∃kvs,H p=some (.dK kvs))\/∃kvs,H p=some (.dT kvs)))\/(T="set" /\ ∃S n,H p=some (.set S n))
 |_=>False
def AG (I:Inv X pins σ H s)(r:RelV x v)(ty:lF X.K T x H):
  s.TypeIs v T/\∀a,v=.ref a->∃ob,s.heap.get? a=some ob/\ob.dict=none:=by
 cases x with
 |str z=>
  obtain⟨t,rfl⟩:=r;cases(show T="str" from ty);exact⟨typeIs_str s z t,λ_ e=>nomatch e⟩
 |int i=>
  obtain⟨t,rfl⟩:=r;cases(show T="int" from ty);exact⟨typeIs_int s i t,λ_ e=>nomatch e⟩
 |ref p=>
  cases r;rcases ty with⟨rfl,xs,hq⟩|⟨rfl,o,hk,hc,hd⟩|⟨rfl,hk⟩|⟨rfl,S,n,hk⟩
  .obtain ⟨its,_,pl,_⟩:=I.list hq;refine⟨pl.isList.typeIs,λa e=>?_⟩;cases e;obtain⟨o,n,e,c,hd,_⟩:=pl;exact⟨o,e,hd⟩
  .refine ⟨⟨o,I.kIn p o hk,hc⟩,λa e=>?_⟩;cases e;exact⟨o,I.kIn _ o hk,hd⟩
  .have z:∃o,s.heap.get? p=some o/\o.ExactDict:=by
    rcases hk with⟨kvs,hk⟩|⟨kvs,hk⟩
    .obtain ⟨_,_,_,_,o,_,_,e,ex,_⟩:=I.hok p _ hk;exact⟨o,e,ex⟩
    .obtain ⟨_,_,_,_,o,_,_,e,ex,_⟩:=I.hok p _ hk;exact⟨o,e,ex⟩
   obtain⟨o,e,ex⟩:=z;refine⟨⟨o,e,ex.1⟩,λa e2=>?_⟩;cases e2;exact⟨o,e,ex.2.1⟩
  .obtain ⟨o,_,_,_,e,ex,_⟩:=I.hok p _ hk;refine⟨⟨o,e,ex.1⟩,λa e2=>?_⟩;cases e2;exact⟨o,e,ex.2.1⟩
 |_=>exact False.elim ty
noncomputable def Fs(K:Qa)(T:String)(r:V->List V->Hp->VK->Prop)(to:TE)(t:TA):TE:=λσ H Q=>to σ H λx H1=>lF K T x H1/\t σ H1 λxs H2=>r x xs H2 Q
variable{o e:Expr}{es:List Expr}{to:TE}{t:TA}{name:Str}{apos cpos:Pos}{T id:String}{r:V->List V->Hp->VK->Prop}
def lq(pa:PlainAttrs T)(slot:Slot T name id)(hty:typeOf (.builtin id)=pure (.type "method_descriptor"))(hm:iW X id r)(ho:PE X o to)(ha:PA X (e::es) t)
  (hbase:Je o name X.env (eval o X.env)=eval o X.env:=by rfl)
  (hfew:((Ig cpos (Ih (e::es) X.env)).all (λx=>! x.1)&&(Jf cpos (Jg [] X.env)).all (λx=>x.1.isSome)
   && decide ((e::es).length+([]:List Jh).length+(if([]:List Jh).isEmpty then 0 else 1)<30))=true:=by rfl)
  (hline:(apos.endLine==cpos.line)=true:=by rfl) (hs:Ih (e::es) X.env=(false,eval e X.env)::Ih es X.env:=by rfl) (hplain:(Ig cpos (Ih es X.env)).any (·.1)=false:=by rfl) :
  PE X (.Call (.Attribute o name apos) (e::es) [] cpos) (Fs X.K T r to t):=by
 intro pins s σ H Q I h;refine Ji hbase hfew hline rfl (aP (ho pins s σ H _ I h) λv s1 ⟨x,H1,I1,r1,ty,q1⟩=>?_);obtain⟨h1,h2⟩:=AG I1 r1 ty;refine⟨T,id,pa,slot,hty,h1,h2,?_⟩;have hA:=ha cpos pins s1 σ H1 _ I1 q1;rw[hs]at hA ⊢;refine Calls.callWith_builtin (by show(false || (Ig cpos (Ih es X.env)).any (·.1))=false;rw[hplain]<;>rfl) (Calls.evalArgs_plain ?_);exact aP hA λus s2 ⟨vs,H2,I2,r2,q2⟩=>hm pins s2 σ H2 x vs v us Q I2 r1 r2 q2
end
noncomputable def fX(X:Cx)(id:String)(r:V->List V->Hp->VK->Prop):Prop:=
 ∀(pins:List (Addr×Obj)) (s:HK) (σ:St) (H:Hp) (x:V) (xs:List V) (v:Value) (us:List Value) (Q:VK),Inv X pins σ H s->RelV x v->av xs us->r x xs H Q ->
  Ic (Ie X.prog X.w) X.A (call (.builtin id) (v::us)) (EP X pins σ Q) X.xe s
def av.one:∀{x:V}{us:List Value},av [x] us->∃u,us=[u]/\RelV x u
 |_,_,.cons r .nil=>⟨_,rfl,r⟩
def av.zero:∀{us:List Value},av [] us->us=[]
 |_,.nil=>rfl
theorem av.dropLast{xs:List V}{us:List Value}(h:av xs us):av xs.dropLast us.dropLast:=by
 induction h with
 |nil=>exact .nil
 |cons r t ih=>
  cases t with
  |nil=>exact .nil
  |cons q t'=>exact .cons r ih
theorem av.eraseIdx:∀{xs:List V}{us:List Value}(i:Nat),av xs us->av (xs.eraseIdx i) (us.eraseIdx i)
 |_,_,_,.nil=>.nil
 |_,_,0,.cons _ t=>t
 |_,_,i+1,.cons r t=>.cons r (av.eraseIdx i t)
theorem av.reverse{xs:List V}{us:List Value}(h:av xs us):av xs.reverse us.reverse:=by
 induction h with
 |nil=>exact .nil
 |cons r t ih=>rw[Q5,Q5];exact av.append ih (.cons r .nil)
theorem av.rep (h:av xs us):∀k:Nat,av (Qt k xs).flatten (Qt k us).flatten
 |0=>.nil
 |k+1=>by
  rw[QX,QX,Q6,Q6];exact av.append h (av.rep h k)
def qd{α:Type}(l:List α):l.eraseIdx (l.length-1)=l.dropLast:=by
 induction l with
 |nil=>rfl
 |cons a r ih=>
  cases r with
  |nil=>rfl
  |cons b r=>
   have e:(a::b::r).length-1=((b::r).length-1)+1:=by
    have h1:(a::b::r).length=r.length+2:=rfl;have h2:(b::r).length=r.length+1:=rfl;lia
   rw[e,List.eraseIdx_cons_succ,ih]
   all_goals rfl
theorem kS(its:List Value):∀(k:Nat) (acc:List Value),
  W7 (λx1 x2=>x1++x2) acc.toArray (Qt k its.toArray)=(acc++(Qt k its).flatten).toArray
 |0,acc=>by simp
 |k+1,acc=>by
  have e:acc.toArray++its.toArray=(acc++its).toArray:=by simp
  have e2:(acc++its)++(Qt k its).flatten=acc++(Qt (k+1) its).flatten:=by
   rw[QX,Q6,Wy]
  rw[<-e2,<-kS its k (acc++its),<-e,QX,List.foldl_cons]
section
variable{X:Cx}{pins:List (Addr×Obj)}{σ:St}{H:Hp}{s:HK}{l:Addr}{xs ys:List V}
def Inv.lset{its its':List Value}{n:Nat}{f:Array Value->Array Value}{t':Nat}(I:Inv X pins σ H s)(hH:H l=some (.lst xs))
  (e:s.heap.get? l=some {cls:=.type "list",data:=.seq its.toArray n}) (hf:f its.toArray=its'.toArray) (hv:av ys its') (hz:ys.length<=sizeLine) :
  Inv X pins σ (aG H l (.lst ys)) {s with heap:=s.heap.update l (Obj.mapSeq f),toks:=t' }:=by
 have q:=PySem.IsL.update e f;rw[hf]at q;refine I.write (x:=l) (e:=l) (by rw[hH];exact trivial) (.inl rfl) (λb' u hb hu=>(Heap.get?_update_other s.heap (Obj.mapSeq f) (Ne.symm hb)).trans hu) ⟨_,q⟩ ?_;exact⟨hz,its',_,hv,q⟩
def Inv.lnew{its:List Value}{t':Nat}(I:Inv X pins σ H s)(hv:av ys its)(hz:ys.length<=sizeLine):
  Inv X pins σ (aG H s.heap.objs.size (.lst ys)) {s with heap:=s.heap.push {cls:=.type "list",data:=.seq its.toArray},toks:=t' } :=
 I.laid (λ_ _ q=>Qc _ q) (Qf _) ⟨hz,its,0,hv,Qk _ rfl⟩
theorem Inv.fresh(I:Inv X pins σ H s):H s.heap.objs.size=none:=I.hok.fresh (Qf _)
def Inv.lstM(I:Inv X pins σ H s)(hH:H l=some (.lst xs)):xs.length<=sizeLine/\∃(its:List Value) (n:Nat),av xs its/\xs.length=its.length/\s.heap.get? l=some {cls:=.type "list",data:=.seq its.toArray n}:=by
 obtain⟨z,its,n,r,e⟩:=I.hok l _ hH;exact⟨z,its,n,r,r.length,e⟩
def D8 (h:n<=sizeLine):Builtin.List.listTooLong n=false:=by
 unfold Builtin.List.listTooLong;exact J6 (by lia)
end
section
variable{X:Cx}
noncomputable def CA:V->List V->Hp->VK->Prop:=λx vs H Q=>∃l xs y,x=.ref l/\vs=[y]/\H l=some (.lst xs)/\xs.length<sizeLine/\Q .non (aG H l (.lst (xs++[y])))
def kT:fX X "list.append" CA:=by
 intro pins s σ H x vs v us Q I rx rv h;obtain⟨l,xs,y,rfl,rfl,hH,hz,q⟩:=h;cases rx;obtain⟨u,rfl,ru⟩:=rv.one;obtain⟨z,its,n,r,hl,e⟩:=I.lstM hH;refine Jj F.slot_list_append ⟨_,e,rfl⟩ F.entry_list_append (F.args_list_append_2 _ _) (PySem.list_append l its.toArray n u (by rw[Qr];lia)) ⟨e,?_⟩;refine⟨.non,_,I.lset (its':=its++[u]) hH e (by simp) (r.append (.cons ru .nil)) ?_,rfl,q⟩;rw[Q3,List.length_singleton];lia
noncomputable def lT:V->List V->Hp->VK->Prop:=λx vs H Q=>∃l xs y,x=.ref l/\vs=[]/\H l=some (.lst xs)/\xs[xs.length-1]?=some y/\Q y (aG H l (.lst xs.dropLast))
def By:fX X "list.pop" lT:=by
 intro pins s σ H x vs v us Q I rx rv h;obtain⟨l,xs,y,rfl,rfl,hH,hy,q⟩:=h;cases rx;have hus:=rv.zero;subst hus;obtain⟨z,its,n,r,hl,e⟩:=I.lstM hH;obtain⟨u,hu,ru⟩:=r.get hy;have hy':its.toArray[its.toArray.size-1]?=some u:=by
  show its.toArray[its.length-1]?=some u;rw[<-Vd,<-hl];exact hu
 refine Jj F.slot_list_pop ⟨_,e,rfl⟩ F.entry_list_pop (F.args_list_pop_1 _) (MeetsSeq.list_pop_last l its.toArray n u hy' (by rw[Qr];lia)) ⟨e,?_⟩;refine⟨y,_,I.lset (its':=its.dropLast) hH e ?_ r.dropLast ?_,ru,q⟩
 .show its.toArray.eraseIdxIfInBounds (its.toArray.size-1)=its.dropLast.toArray;rw[Qr,List.eraseIdxIfInBounds_toArray,qd]
 .rw[List.length_dropLast];lia
noncomputable def EG:V->List V->Hp->VK->Prop:=λx vs H Q=>∃l xs,x=.ref l/\vs=[]/\H l=some (.lst xs)/\Q .non (aG H l (.lst xs.reverse))
def qe:fX X "list.reverse" EG:=by
 intro pins s σ H x vs v us Q I rx rv h;obtain⟨l,xs,rfl,rfl,hH,q⟩:=h;cases rx;have hus:=rv.zero;subst hus;obtain⟨z,its,n,r,hl,e⟩:=I.lstM hH;refine Jj F.slot_list_reverse ⟨_,e,rfl⟩ F.entry_list_reverse (F.args_list_reverse_1 _) (AutoSeq1.list_reverse_list_0 l its.toArray n (by rw[Qr];lia)) ⟨e,?_⟩;refine⟨.non,_,I.lset (its':=its.reverse) hH e (by simp) r.reverse ?_,rfl,q⟩;rw[List.length_reverse];lia
noncomputable def o0:R2:=λx y H Q=>∃l b xs zs,x=.ref l/\y=.ref b/\H l=some (.lst xs)/\H b=some (.lst zs)/\xs.length+zs.length<=sizeLine/\∀p,H p=none->Q (.ref p) (aG H p (.lst (xs++zs)))
def eV:bY X (IF .Add) o0:=by
 intro pins s σ H x y v u Q I rx ry h;obtain⟨l,b,xs,zs,rfl,rfl,hH,hB,hz,q⟩:=h;cases rx;cases ry;obtain⟨z,its,n,r,hl,e⟩:=I.lstM hH;obtain⟨z2,its2,n2,r2,hl2,e2⟩:=I.lstM hB;refine PySem.P.add_list e e2 ?_ (by rw[Qr,Qr];lia);have ea:its.toArray++its2.toArray=(its++its2).toArray:=by simp
 rw[ea];exact⟨.ref _,_,I.lnew (t':=s.toks) (r.append r2) (by rw[Q3];lia),rfl,q _ I.fresh⟩
noncomputable def oZ:R2:=λx y H Q=>∃l k xs,x=.ref l/\y=.int k/\H l=some (.lst xs)/\-(2^63)<=k/\k<2^63/\xs.length*k.toNat<=sizeLine /\
 ∀p,H p=none->Q (.ref p) (aG H p (.lst (Qt k.toNat xs).flatten))
def qR{α:Type}(xs:List α)(k:Nat):(Qt k xs).flatten.length=k*xs.length:=by
 induction k with
 |zero=>simp
 |succ k ih=>rw[QX,Q6,Q3,ih,Nat.succ_mul,Nat.add_comm]
def Bx:bY X (IF .Mult) oZ:=by
 intro pins s σ H x y v u Q I rx ry h;obtain⟨l,k,xs,rfl,rfl,hH,h1,h2,hz,q⟩:=h;cases rx;obtain⟨t,rfl⟩:=ry;obtain⟨z,its,n,r,hl,e⟩:=I.lstM hH;have hlen:its.toArray.size*k.toNat<=sizeLine:=by rw[Qr,<-hl];exact hz
 have hcap:¬its.toArray.size*k.toNat > (2^63-1)/8:=by
  have:(sizeLine:Nat)<=(2^63-1)/8:=by decide
  lia
 have hfit:¬(! Builtin.List.listFitsIndex k)=true:=by
  rw[fitsIndex_both h1 h2];exact QJ
 have hlong:¬Builtin.List.listTooLong (its.toArray.size*k.toNat)=true:=by
  rw[D8 hlen];exact QJ
 have hnew:W7 (λx1 x2=>x1++x2) #[] (Qt (if its.toArray.isEmpty=true then 0 else k.toNat) its.toArray)=(Qt k.toNat its).flatten.toArray:=by
  have f0:∀m:Nat,W7 (λx1 x2=>x1++x2) #[] (Qt m its.toArray)=(Qt m its).flatten.toArray:=λm=>by
   have:=kS its m [];rw[W2]at this;exact this
  rw[f0];cases its with
  |nil=>simp
  |cons a r'=>rw[J8 (by simp)]
 refine wpAny_binaryOp_repeat_ref (T:="list") (U:="int") (by decide) ⟨_,e,rfl⟩ (λs'=>typeIs_int s' k t) noFill_list_mul F.fills_int_mul F.slot_int_rmul repeat_list F.slot_int_index.lookup
  (Jj F.slot_int_rmul (typeIs_int s k t) F.entry_int_rmul (F.args_int_rmul_2 _ _) (int___rmul___int_list k t l its.toArray n)
   ⟨e,rfl,⟨_,e,rfl⟩,Jj F.slot_list_mul ⟨_,e,rfl⟩ F.entry_list_mul (F.args_list_mul_2 _ _) (AutoListH.list___mul___list_int_3 l its.toArray n k t hfit hcap hlong) ⟨e,?_⟩⟩)
 rw[hnew];exact⟨.ref _,_,I.lnew (t':=s.toks) (r.rep k.toNat) (by rw[qR,Nat.mul_comm];exact hz),rfl,q _ I.fresh⟩
end
end L2
namespace Att
open PySem PySem.W PySem.Calls PyProof.Rows
def vt:∀(ns:List Int) (vs:List Value),WellAll P h vs (ns.map WData.int)->Jk vs ns:=by
 intro ns
 induction ns with
 |nil=>
  intro vs w;rw[List.map_nil]at w;cases w;exact .nil
 |cons n ns ih=>
  intro vs w;rw[QO]at w;cases w with
  |cons a b=>
   cases a;exact .cons _ _ (ih _ b)
def E4 {l:OpenLaw}(hn:l.most=some n)(hpre:l.row.toRowW.claim.pre args=true)(hwl:WellAll P h vals args):
  ∃a vs ns,vals=[Value.ref a]/\args=[WData.list (ns.map WData.int)]/\h.get? a=some {cls:=.type "list",data:=.seq vs.toArray}/\Jk vs ns/\ns.length<=n:=by
 have hsh:WShape.hasAll [] args [.list .int]=true:=(pre_splitW hpre).1;have hc:l.pre.holds [] {args:=args}=true:=(pre_splitW hpre).2;obtain⟨d,r,rfl,h1,h2⟩:=hasAllW_cons hsh;obtain rfl:=hasAllW_nil h2;obtain⟨xs,rfl,h3⟩:=hasW_list h1;obtain⟨ns,rfl⟩:=items_int h3;have hlen:ns.length<=n:=by
  unfold OpenLaw.pre at hc;have h4:(WTm.not (.lt (.lit (.int (n:Int))) (.len (.arg 0)))).holds [] {args:=[.list (ns.map .int)]}=true:=by
   have h4:=(holds_andW hc).1;rw[hn]at h4;exact h4
  have h5:=condW_of h4 (w_not (w_lt w_lit (w_len_list (w_arg rfl))));rw[QF]at h5;refine Nat.le_of_not_lt λq=>?_;have q':(n:Int)<((ns.length:Nat):Int):=by lia
  first
   |(rw[Ka q']at h5;exact J9 h5 (by decide))
   |(simp at h5;lia)
 cases hwl with
 |cons w1 w2=>
  cases w2;cases w1 with
  |list ho hall=>exact⟨_,_,ns,rfl,rfl,ho,vt ns _ hall,hlen⟩
def E3(l:OpenLaw)(args:List WData):l.row.toRowW.claim.post args (.bool true) args=true:=
 postW_of (r:=l.row.toRowW) (X:=(true==true))
  (show WShape.has [] (.bool true) .bool=true by first|rfl|decide|simp[WShape.has,WShape.arms,WShape.armsAll])
  (show(WTm.eq .res (.lit (.bool true))).value [] {args:=args,res:=some (.bool true),after:=args}=some (.bool (true==true))from w_eq_bool (w_res rfl) w_lit) rfl
def cX {l:OpenLaw}(hn:l.most=some n)(hdf:d.params.defaults=[])(call:∀(w:HL) (s₀ s₁:HK) (mg mb:Str->Option Value) (fa:Addr) (o:Obj) (pm cd doc:Value) (a:Addr) (vs:List Value) (ns:List Int),
   Ground q loose [] XP w s₀ mg mb s₁.heap->YP w s₁.heap ->
   s₁.heap.get? fa=some o->o.data=.func (docDef d.name d.params d.body d.scope pm cd doc)->s₁.heap.CodeRec cd d.name->mg d.name=some (.ref fa) ->
   s₁.heap.get? a=some {cls:=.type "list",data:=.seq vs.toArray}->Jk vs ns->ns.length<=n->s₁.gens=#[] ->
   IM (Ie l.prog w) Jl (.call (.ref fa) ⟨[.ref a],[]⟩) (λr s'=>r=.ok (.ret (.bool true))/\OldK s₁.heap s'.heap/\s'.os=s₁.os/\HZ s'.gens) s₁):
  WalkO q loose XP YP l.row.toRowW d [] (λf vs=>PySem.call f vs):=by
 intro w s₀ s₁ mg mb G Y fa o pm cd doc dV kV ho hd hcd hD hmg hg args vals as hpre hlay hrd hwl hlo;obtain rfl:dV=.none:=Dflts.none hD hdf;obtain rfl:kV=.none:=Dflts.noKw hD;obtain⟨a,vs,ns,rfl,rfl,hobj,hints,hlen⟩:=E4 hn hpre hwl;refine enter_call (IN (call w s₀ s₁ mg mb fa o pm cd doc a vs ns G Y ho (fd_plain hd) hcd hmg hobj hints hlen hg) λr s' hq=>?_);obtain⟨rfl,h2,h3,h4⟩:=hq;exact⟨.inl ⟨.bool true,.bool true,[],rfl,λ_=>rfl,.bool true,E3 l _,λ_=>⟨List.Pairwise.nil,λ_ hm=>(nomatch hm)⟩⟩,h2,h3,h4⟩
end Att
namespace L2
open PySem PySem.Spec PyProof.Rows
theorem kU:∀{vs:List Value}{ns:List Int},Jk vs ns->av (ns.map V.int) vs
 |_,_,.nil=>.nil
 |_,_,.cons n t h=>.cons ⟨t,rfl⟩ (kU h)
noncomputable def fM(H:Hp):Prop:=∀b,H b=none\/∃o xs,H b=some (.frz o (.lst xs))
def EF {K:Qa}(KX:K.In s₁.heap)(hns:s₁.heap.Ns HW mg)(hb:s₁.heap.Ns builtinsNs mb)(hbb:∀x:Str,x ≠ "__name__" -> mb x=HX x)(hlim:s₁.heap.NoLimit)(hg:s₁.gens=#[])(ha:s₁.heap.get? a=some {cls:=.type "list",data:=.seq vs.toArray})(hi:Jk vs ns)(hl:ns.length<=sizeLine)(hr:bU k Jl)(F:∀base:HQ,K.In base->base.Ns HW mg->bX P w K mg base CX k fa fd [x] sp)(hbind:∀(s:HK) (u:Value),IL s fd ⟨[u],[]⟩ [(x,u)])(hsp:∀H:Hp,fM H->bt K H a (ns.map V.int)->sp [.ref a] H (λv _=>v=.bl true) λ_ _ _=>False)(hCX:∀H e s',CX [] H s₁ (λ_ _ _=>False) e s'->False):
  IM (Ie P w) Jl (.call (.ref fa) ⟨[.ref a],[]⟩) (λr s'=>r=.ok (.ret (.bool true))/\OldK s₁.heap s'.heap/\s'.os=s₁.os/\HZ s'.gens) s₁:=by
 have rv:=kU hi;have lenV:=hi.length
 -- from an abstract heap in which nothing but the script may be tracked
 have core:∀H:Hp,fM H->bt K H a (ns.map V.int)->b7 P w H s₁.heap->(∀b,H b≠none->b=a)->(H a≠none->K.lookup a=none) ->
   IM (Ie P w) Jl (.call (.ref fa) ⟨[.ref a],[]⟩) (λr s'=>r=.ok (.ret (.bool true))/\OldK s₁.heap s'.heap/\s'.os=s₁.os/\HZ s'.gens) s₁:=by
  intro H hO hS hok hA hK;have bR:∀{b:Addr}{o:Obj},s₁.heap.get? b=some o->H b=none->(jk s₁.heap H).get? b=some o:=λe n=>Eg e n;have noA:∀{b:Addr}{o:Obj}{es:Array DictEntry}{ep:Nat},s₁.heap.get? b=some o->o.data=.dict es ep->H b=none:=λ{b o es ep} e d=>by
   cases q:H b with
   |none=>rfl
   |some u=>
    have e':b=a:=hA b (by rw[q];simp);subst e';rw[ha]at e;cases e;have d':Data.seq vs.toArray _=Data.dict es ep:=d;cases d'
  have nsK:∀{b:Addr}{m:Str->Option Value},s₁.heap.Ns b m->(jk s₁.heap H).Ns b m:=λ{b m} ⟨o,es,ep,e,d,r⟩=>⟨o,es,ep,bR e (noA e d),d,r⟩;have hKb:K.In (jk s₁.heap H):=λb o e=>bR (KX b o e) (by
   cases q:H b with
   |none=>rfl
   |some u=>
    have e':b=a:=hA b (by rw[q];simp);subst e';rw[hK (by rw[q];simp)]at e;cases e)
  have hM:Mod K mg (jk s₁.heap H):=⟨hKb,nsK hns,⟨mb,nsK hb,hbb⟩,let⟨mc,h1,h2⟩:=hlim;⟨mc,nsK h1,h2⟩⟩;have e0:et P w K mg (jk s₁.heap H) Jl [] s₁ H:=⟨rfl,hM,λb o e=>CP e,WW (EM _ _),trivial,λb hb=>J9 (show b∈([]:List Addr)from hb) (by simp),hok,.of_eq hg⟩;refine IN ((F _ hKb (nsK hns)).run Jl [] s₁ H ⟨[.ref a],[]⟩ [.ref a] [.ref a] _ _ hr e0 (hbind s₁ (.ref a)) (.cons rfl .nil) (hsp H hO hS)) λr s' h=>?_;cases r with
  |error e=>exact(hCX H e s' h).elim
  |ok fl=>
   cases fl with
   |next=>exact False.elim h
   |brk=>exact False.elim h
   |cont=>exact False.elim h
   |ret u=>
    obtain⟨v,H',os,bare,un,hok',r',q⟩:=h;have q':v=.bl true:=q;subst q';obtain rfl:u=Value.bool true:=r';refine⟨rfl,OldK.of_keep λb o e=>?_,os,bare⟩;cases q:H b with
    |none=>exact un.keep b o e q (by intro z;exact J9 (show b∈([]:List Addr)from z) (by simp)) (by simp)
    |some u=>
     rcases hO b with z|⟨ob,xs,z⟩
     .rw[q]at z;cases z
     .have z2:=un.frzs b ob _ z;obtain⟨e1,_⟩:=hok b _ z;obtain⟨e2,_⟩:=hok' b _ z2;rw[e]at e1;cases e1;exact e2
 cases hk:K.lookup a with
 |some o=>
  -- the script is one of the module's own objects
  have e:=KX a o hk;rw[ha]at e;cases e;refine core (λ_=>none) (λ_=>.inl rfl) (.inr ⟨_,vs.toArray,_,hk,rfl,rfl,rfl,by rw[Qr,lenV];exact hl,by simpa using rv⟩) (λb u z=>by have z':(none:Option HO)=some u:=z;cases z') (λb z=>J9 rfl z) λz=>J9 rfl z
 |none=>
  refine core (λb=>if b=a then some (.frz {cls:=.type "list",data:=.seq vs.toArray} (.lst (ns.map V.int)))else none) (λb=>?_) (.inl (.inr ⟨{cls:=.type "list",data:=.seq vs.toArray},J7 rfl⟩)) (λb u z=>?_) (λb z=>?_) λ_=>hk
  .by_cases hb:b=a
   .exact .inr ⟨_,_,J7 hb⟩
   .exact .inl (J8 hb)
  .by_cases hb:b=a
   .have z':=(J7 hb).symm.trans z;cases z';subst hb;exact⟨ha,by rw[QF];exact hl,vs,_,rv,ha⟩
   .have z':=(J8 hb).symm.trans z;cases z'
  .by_cases hb:b=a
   .exact hb
   .exact J9 (J8 hb) z
def Cz {l:PySem.W.OpenLaw}{K:HI->Qa}{CX:HL->dL}{sp:HL->Sp}(hn:l.most=some n)(hn2:n<=sizeLine)(hdf:d.params.defaults=[])(hr:bU k Jl)(hY:∀(w:HL) (h:HQ),YP w h->(K w.params).In h)(F:∀(w:HL) (mg:Str->Option Value) (fa:Addr) (h:HQ),(K w.params).In h->h.Ns HW mg->mg d.name=some (.ref fa) ->
   ∃fd:IK,(∀(s:HK) (u:Value),IL s fd ⟨[u],[]⟩ [(x,u)]) /\
    ∀base:HQ,(K w.params).In base->base.Ns HW mg->bX l.prog w (K w.params) mg base (CX w) k fa fd [x] (sp w))(hsp:∀(w:HL) (H:Hp) (a:Addr) (ns:List Int),ns.length<=n->fM H->bt (K w.params) H a (ns.map V.int)->sp w [.ref a] H (λv _=>v=.bl true) λ_ _ _=>False)(hCX:∀(w:HL) (H:Hp) (s:HK) (e:Value) (s':HK),CX w [] H s (λ_ _ _=>False) e s'->False):
  W5 q loose XP YP l.row.toRowW d [] (λf vs=>PySem.call f vs):=by
 refine Att.cX hn hdf λw s₀ s₁ mg mb fa o pm cd doc a vs ns G Y ho hd hcd hmg hobj hints hlen hg=>?_;have KX:=hY w _ Y;obtain⟨fd,hb,hF⟩:=F w mg fa _ KX G.T.g hmg;exact EF KX G.T.g G.T.b G.T.builtins G.T.nolimit hg hobj hints (Qm hlen hn2) hr hF hb (λH hO hS=>hsp w H a ns hlen hO hS) λH e s'=>hCX w H s₁ e s'
abbrev dt:dL:=λ_ _ _ _ _ _=>False
abbrev E0:XK:=λ_ _ _=>False
def uD:xU dt X E0:=λ_ _ _ _ _ _ _ h=>h.elim
structure dP(K:Qa)(x qual:Str)(st:Stmt)(f:Addr)(fd:IK):Prop where
 ex:∃(oc:Value) (od:Option Addr) (kV doc pm:Value) (an:Option Addr) (cdv ct:Value) (osl:Array (Option Value)),
  fd=Wb x qual (yR st) (yh st) (zt st) .none kV doc pm an cdv ct/\K.lookup f=some ⟨oc,od,.func fd,osl⟩/\WH K cdv qual=true
 kp:QY K (.ref f)=true
section
variable{P:HJ}{w:HL}{K:Qa}{mg:Str->Option Value}{base:HQ}
def dP.ok {st:Stmt}(F:dP K x qual st f fd)(S:cq N ps (zt st))(len:∀vs H Q E,sp vs H Q E->vs.length=ps.length)(hbody:∀(cdv:Value) (A:HY) (outer:List Env) (s:HK) (H:Hp) (vs:List V) (Q:VK) (E:XK),bU k (A.deeper (envOfC qual (zt st) s.heap.objs.size f cdv))->sp vs H Q E ->
   ∃t,cb (vq dt P w K mg base N qual (zt st) f cdv A outer s H E).nox (yh st) t/\t {nx:=λ_ H'=>Q .non H',rt:=Q} (start N vs) H):bX P w K mg base dt (k+1) f fd ps sp:=by
 obtain⟨oc,od,kV,doc,pm,an,cdv,ct,osl,rfl,lk,hcd⟩:=F.ex;refine pQ lk hcd S len λA outer s H vs Q E hr hsp=>?_;obtain⟨t,h,q⟩:=hbody cdv A outer s H vs Q E hr hsp;exact⟨t,h.nox,q⟩
def dP.binds {st:Stmt}(F:dP K x qual st f fd)(h:∀(kV doc pm:Value) (an:Option Addr) (cdv ct:Value) (us:List Value),us.length=ps.length->bindArgs (Wb x qual (yR st) (yh st) (zt st) .none kV doc pm an cdv ct) ⟨us,[]⟩=pure (ps.zip us)):Binds K fd ps []:=by
 obtain⟨oc,od,kV,doc,pm,an,cdv,ct,osl,rfl,lk,hcd⟩:=F.ex;exact .all (h kV doc pm an cdv ct)
def Bw {st:Stmt}{kV:Value}(l:K.lookup f=some ⟨oc,od,.func (Wb x qual (yR st) (yh st) (zt st) .none kV doc pm an cdv ct),osl⟩)(c:WH K cdv qual=true)(k:QY K (.ref f)=true):dP K x qual st f (Wb x qual (yR st) (yh st) (zt st) .none kV doc pm an cdv ct):=⟨⟨oc,od,kV,doc,pm,an,cdv,ct,osl,rfl,l,c⟩,k⟩
end
def E2 (h:n<=1000):n<sizeLine:=Nat.lt_of_le_of_lt h (by decide)
def ju {B:Prop}(h:B):if false=true then A else B:=by
 rw[J8 QJ];exact h
def kH {B:Prop}(h:A):if true=true then A else B:=by
 rw[J7 rfl];exact h
noncomputable def xW(env:Env):List (Str×IQ)->List (Str×Addr)->List (Str×Addr)
 |[],acc=>acc
 |(n,k)::r,acc=>if k == .free then xW env r ((n,(env.cells.lookup n).getD 0)::acc)else xW env r acc
theorem wu (f:Str×IQ->List (Str×Addr)->Sem (ForInStep (List (Str×Addr))))(hf:∀n k cs,f (n,k) cs=if k == .free then(do let a <-cellOf env n;pure (.yield ((n,a)::cs)))else pure (.yield cs)):
  ∀(names:List (Str×IQ)) (acc:List (Str×Addr)),(∀y∈names,y.2=.free->∃c,env.cells.lookup y.1=some c)->forIn names acc f=pure (xW env names acc)
 |[],acc,_=>by rw[WN];rfl
 |(n,k)::r,acc,h=>by
  have ih:=wu f hf r;rw[W3,hf];unfold xW;cases hk:k==NameKind.free with
  |true=>
   obtain⟨c,hc⟩:=h (n,k) QA (by simpa using hk);have hc':env.cells.lookup n=some c:=hc;have e1:cellOf env n=pure c:=by unfold cellOf;rw[hc']
   simp only[if_true,e1,hc',WT,pure_bind];exact ih _ λy hy=>h y (Qd _ hy)
  |false=>
   simp only[QU,if_false,pure_bind];exact ih _ λy hy=>h y (Qd _ hy)
def vN (h:∀y∈scope.names,y.2=.free->∃c,env.cells.lookup y.1=some c):closureFor scope env=pure (xW env scope.names []):=by
 unfold closureFor;simp only[];rw[wu (env:=env) _ (λn k cs=>by cases hk:k==NameKind.free<;>simp[hk]) scope.names [] h];rfl
theorem xB:∀{names:List (Str×IQ)}{acc:List (Str×Addr)},(∀z∈names,z.2=.free->∃c,env.cells.lookup z.1=some c)->(xW env names acc).lookup y=some c ->
  acc.lookup y=some c\/((y,NameKind.free)∈names/\env.cells.lookup y=some c)
 |[],acc,_,e=>.inl e
 |(n,k)::r,acc,h,e=>by
  unfold xW at e;have h':∀z∈r,z.2=.free->∃c,env.cells.lookup z.1=some c:=λz hz=>h z (Qd _ hz);cases hk:k==NameKind.free with
  |true=>
   have hk':k=.free:=by simpa using hk
   subst hk';rw[hk,J7 rfl]at e;rcases xB h' e with q|⟨q1,q2⟩
   .rw[QI]at q;cases hy:y==n with
    |true=>
     rw[hy]at q;have:y=n:=by simpa using hy
     subst this;obtain⟨c',hc'⟩:=h (y,.free) QA rfl;have hc'':env.cells.lookup y=some c':=hc';rw[hc'']at q;refine .inr ⟨QA,?_⟩;rw[hc''];exact q
    |false=>rw[hy]at q;exact .inl q
   .exact .inr ⟨Qd _ q1,q2⟩
  |false=>
   rw[hk,J8 (by simp)]at e;rcases xB h' e with q|⟨q1,q2⟩
   .exact .inl q
   .exact .inr ⟨Qd _ q1,q2⟩
theorem wM:∀{names:List (Str×IQ)}{acc:List (Str×Addr)},((y,NameKind.free)∈names\/(acc.lookup y).isSome=true)->((xW env names acc).lookup y).isSome=true
 |[],acc,h=>by
  rcases h with h|h
  .cases h
  .exact h
 |(n,k)::r,acc,h=>by
  unfold xW;cases hk:k==NameKind.free with
  |true=>
   rw[J7 rfl];refine wM ?_;rcases h with h|h
   .rcases Qj.mp h with e|e
    .cases e;exact .inr (by rw[QI];simp)
    .exact .inl e
   .refine .inr ?_;rw[QI];split
    .rfl
    .exact h
  |false=>
   rw[J8 (by simp)];refine wM ?_;rcases h with h|h
   .rcases Qj.mp h with e|e
    .cases e;cases hk
    .exact .inl e
   .exact .inr h
theorem lx:∀{names:List (Str×IQ)}{h:HQ}{acc:List (Str×Addr)},(IT h.objs.size names acc).lookup y=some c ->
  acc.lookup y=some c\/(h.objs.size<=c/\(Jm h names).IsCell c none/\(y,NameKind.cell)∈names)
 |[],h,acc,e=>.inl e
 |(n,k)::r,h,acc,e=>by
  unfold IT at e;cases hk:k==NameKind.cell with
  |true=>
   have hk':k=.cell:=by simpa using hk
   subst hk';rw[hk,J7 rfl]at e;have ih:=lx (y:=y) (c:=c) (names:=r) (h:=h.push {cls:=.type "cell",data:=.cell none}) (acc:=(n,h.objs.size)::acc);rw[We]at ih;have hp:Jm h ((n,NameKind.cell)::r)=Jm (h.push {cls:=.type "cell",data:=.cell none}) r:=by
    exact J7 hk
   rcases ih e with q|⟨q1,q2,q3⟩
   .rw[QI]at q;cases hy:y==n with
    |true=>
     rw[hy]at q;cases q;have hyn:y=n:=by simpa using hy
     subst hyn;refine .inr ⟨Qf _,?_,QA⟩;rw[hp];exact⟨_,Jn _ _ _ _ (Qk _ rfl),rfl⟩
    |false=>rw[hy]at q;exact .inl q
   .exact .inr ⟨Qm (Wz _) q1,by rw[hp];exact q2,Qd _ q3⟩
  |false=>
   rw[hk,J8 (by simp)]at e;have hp:Jm h ((n,k)::r)=Jm h r:=by
    show(if(k==NameKind.cell)=true then _ else _)=_;rw[hk,J8 (by simp)]
   rcases lx e with q|⟨q1,q2,q3⟩
   .exact .inl q
   .exact .inr ⟨q1,by rw[hp];exact q2,Qd _ q3⟩
theorem lu {lo:Nat}:∀{names:List (Str×IQ)}{n:Nat}{acc:List (Str×Addr)},((y,NameKind.cell)∈names\/∀c,acc.lookup y=some c->lo<=c)->lo<=n->(IT n names acc).lookup y=some c->lo<=c
 |[],n,acc,h,_,e=>by
  rcases h with h|h
  .cases h
  .exact h c e
 |(m,k)::r,n,acc,h,hn,e=>by
  unfold IT at e;cases hk:k==NameKind.cell with
  |true=>
   rw[hk,J7 rfl]at e;refine lu ?_ (Qm hn (Wz _)) e;by_cases hy:y=m
   .subst hy;refine .inr λc hc=>?_;rw[QI,beq_self_eq_true]at hc;cases hc;exact hn
   .rcases h with h|h
    .rcases Qj.mp h with z|z
     .cases z;exact J9 rfl hy
     .exact .inl z
    .refine .inr λc hc=>?_;rw[QI]at hc;have:(y==m)=false:=by simpa using hy
     rw[this]at hc;exact h c hc
  |false=>
   rw[hk,J8 (by simp)]at e;refine lu ?_ hn e;rcases h with h|h
   .rcases Qj.mp h with z|z
    .cases z;cases hk
    .exact .inl z
   .exact .inr h
theorem qf:∀{names:List (Str×IQ)}{n:Nat}{acc:List (Str×Addr)},(∀y z c,acc.lookup y=some c->acc.lookup z=some c->y=z)->(∀y c,acc.lookup y=some c->c<n) ->
  ∀y z c,(IT n names acc).lookup y=some c->(IT n names acc).lookup z=some c->y=z
 |[],n,acc,hi,_=>hi
 |(m,k)::r,n,acc,hi,hl=>by
  unfold IT;cases hk:k==NameKind.cell with
  |true=>
   rw[J7 rfl];refine qf (λy z c e1 e2=>?_) λy c e=>?_
   .rw[QI]at e1 e2;cases hy:y==m<;>cases hz:z==m<;>rw[hy]at e1<;>rw[hz]at e2
    .exact hi y z c e1 e2
    .cases e2;exact J9 (hl y _ e1) (QZ _)
    .cases e1;exact J9 (hl z _ e2) (QZ _)
    .exact (by simpa using hy:y=m).trans (by simpa using hz:z=m).symm
   .rw[QI]at e;cases hy:y==m<;>rw[hy]at e
    .exact Wa (hl y c e)
    .cases e;exact Q4 _
  |false=>
   rw[J8 (by simp)];exact qf hi hl
def gc (hQ:Q {scope:=scope,locals:=s.heap.objs.size,globals:=globals,cells:=IT (s.heap.objs.size+1) scope.names cl,qual:=qual,func:=none,code:=outer.code,frame:=outer.frame,builtins:=outer.builtins}
   {s with heap:=Jm (s.heap.push {cls:=.type "dict",data:=.dict #[]}) scope.names}):
  Ic M A (Jo scope globals cl [] qual none .none (some outer)) Q E s:=by
 simp only[Jo,Option.isSome_some,if_true];refine Iv (wpAny_alloc ?_);refine Iv (wpAny_layCells _ (λname kind cells=>by cases hkc:kind==NameKind.cell<;>simp[hkc]) _ _ _ _ ?_);rw[show({s with heap:=s.heap.push {cls:=.type "dict",data:=.dict #[]} }:HK).heap.objs.size=s.heap.objs.size+1 from We ..];simp only[WN];exact Iv (IB (IB hQ))
def zJ:(Jp scope env).names.lookup y=(scope.names.lookup y).map λk=>if(k==NameKind.free&&env.scope.kind == .function&&env.kindOf y==some .cell)then NameKind.cell else k:=by
 have all:∀l:List (Str×IQ),(l.map λ(n,k)=>if(k==NameKind.free&&env.scope.kind == .function&&env.kindOf n==some .cell)then(n,NameKind.cell)else(n,k)).lookup y=(l.lookup y).map λk=>if(k==NameKind.free&&env.scope.kind == .function&&env.kindOf y==some .cell)then NameKind.cell else k:=by
  intro l
  induction l with
  |nil=>rfl
  |cons p r ih=>
   obtain⟨n,k⟩:=p;rw[QO,QI];by_cases hc:(k==NameKind.free&&env.scope.kind == .function&&env.kindOf n==some .cell)=true
   .simp only[hc,if_true,QI];cases hy:y==n with
    |true=>
     have:y=n:=by simpa using hy
     subst this;simp only[QM,hc,if_true]
    |false=>exact ih
   .simp only[J8 hc,QI];cases hy:y==n with
    |true=>
     have:y=n:=by simpa using hy
     subst this;simp only[QM,J8 hc]
    |false=>exact ih
 exact all scope.names
noncomputable def iQ(x:Str):Str:=⟨x.cps.push 0⟩
noncomputable def zW(N xs:List Str):List Str:=(N.map λy=>if y∈xs then iQ y else y)++xs
def E1(N xs:List Str):(zW N xs).length=N.length+xs.length:=by simp[zW]
def xX(N xs:List Str)(j:Nat):(zW N xs)[N.length+j]?=xs[j]?:=by
 unfold zW;rw[Qi (by simp)];simp
def EZ (hi:i<N.length)(h:(zW N xs)[i]?=some y):(∃x∈xs,y=iQ x)\/(N[i]?=some y/\y∉xs):=by
 unfold zW at h;rw[Qh (by simpa using hi),QD]at h;obtain⟨z,hz⟩:∃z,N[i]?=some z:=⟨N[i],by simp[hi]⟩;rw[hz]at h;by_cases e:z∈xs
 .simp only[QM,J7 e]at h;exact .inl ⟨z,e,(Option.some.inj h).symm⟩
 .simp only[QM,J8 e]at h;have e2:z=y:=Option.some.inj h;subst e2;exact .inr ⟨hz,e⟩
structure bp(X:Cx)(scope:HH)(xs:List Str)(Xc:Cx):Prop where
 prog:Xc.prog=X.prog
 w:Xc.w=X.w
 K:Xc.K=X.K
 mg:Xc.mg=X.mg
 base:Xc.base=X.base
 A:Xc.A=X.A
 N:Xc.N=zW X.N xs
 sc:Xc.env.scope=Jp scope X.env
 calm:Xc.calm=true
 stack:Xc.stack=X.stack
noncomputable def eM(X:Cx)(ifs:List Expr)(t:TT):Prop:=
 ∀(pins:List (Addr×Obj)) (s:HK) (σ:St) (H:Hp) (Q:Bool->Hp->Prop),Inv X pins σ H s->t σ H Q ->
  Ic (Ie X.prog X.w) X.A (forIn ifs true λc r=>if r=true then do let ok <-isTrue c X.env (eval c X.env);pure (ForInStep.yield ok)else pure (ForInStep.yield r)) (TP X pins σ Q) X.xe s
def xC:eM X [] (λ_ H Q=>Q true H):=λ_ _ _ H _ I h=>wpAny_tests_nil ⟨H,I,h⟩
def qS (h:PT X c t):eM X [c] t:=λpins s σ H Q I q=>wpAny_tests_one (h pins s σ H Q I q)
structure bD(X:Cx)(scope:HH)(xs:List Str):Prop where
 kind:scope.kind=.function
 own:∀x∈xs,scope.names.lookup x=some .local\/scope.names.lookup x=some .cell
 locs:∀y∈scope.names,y.2=.local->scope.names.lookup y.1=some .local
 free:∀y∈scope.names,y.2=.free->X.env.scope.names.lookup y.1=some .cell\/X.env.scope.names.lookup y.1=some .free
 alone:∀y∈X.N,y∉xs->scope.names.lookup y≠some .local/\scope.names.lookup y≠some .cell
 one:∀y∈scope.names,y.2=.cell->scope.names.lookup y.1≠some .free
 nd:(zW X.N xs).Nodup
 dumN:∀x∈xs,scope.names.lookup (iQ x)=none
def jv{prog:HJ}{w:HL}{A:HY}{R:Result->HK->Prop}{s:HK}{elt target iter:Expr}{ifs:List Expr}{scope:HH}{pos:Pos}{it acc:Value}{env:Env}(I:Nat->HK->Prop)
  (turn:∀n s,I n s->Ic (Ie prog w) A (Iz it) (λr s₁=>match r with
   |none=>R (.ok .next) s₁
   |some v=>Ic (Ie prog w) A (IA target it v) (λ_ s₁'=>Ic (Ie prog w) A (assign target env v) (λ_ s₂=>
     Ic (Ie prog w) A (forIn ifs true λc r=>if r=true then do let ok <-isTrue c env (eval c env);pure (ForInStep.yield ok)else pure (ForInStep.yield r)) (λok s₃=>
      if ok=true then Ic (Ie prog w) A (eval elt env) (λx s₄=>
       Ic (Ie prog w) A (call (.builtin "list.append") [acc,x]) (λ_ s₅=>∃m,m<n/\I m s₅) (Jq (Ie prog w) A env λe s'=>R (.error e) s') s₄) (Jq (Ie prog w) A env λe s'=>R (.error e) s') s₃
      else ∃m,m<n/\I m s₃) (Jq (Ie prog w) A env λe s'=>R (.error e) s') s₂) (Jq (Ie prog w) A env λe s'=>R (.error e) s') s₁') (Jq (Ie prog w) A env λe s'=>R (.error e) s') s₁) (Jq (Ie prog w) A env λe s'=>R (.error e) s') s)
  (n:Nat) (h:I n s):IM (Ie prog w) A (.compLoop (.ListComp elt [⟨target,iter,ifs,0⟩] scope pos) 0 it acc env) R s:=by
 refine codeAny_loop rfl I (λn s hI=>?_) n h;show Ic _ A ((compTurn (.ListComp elt [⟨target,iter,ifs,0⟩] scope pos) 0 it acc env).onRaise (λx=>do noteFrame x env;theTreesLotGoes x)) _ _ s;refine wpAny_noted ?_;rw[compTurn_list];refine Iv (Ix (Iv (Ii (turn n s hI) (λr s₁ h₁=>?_) λ_ _ h'=>h')));cases r with
 |none=>exact IB h₁
 |some v=>
  refine Iv (Ii h₁ (λ_ s₁' h₁'=>?_) λ_ _ h'=>h');refine Iv (Ii h₁' (λ_ s₂ h₂=>Iv (Ii h₂ (λok s₃ h₃=>?_) λ_ _ h'=>h')) λ_ _ h'=>h');cases ok with
  |false=>exact IB ⟨rfl,h₃⟩
  |true=>
   exact Iv (Iv (Ii h₃ (λx s₄ h₄=>Iv (Ii h₄ (λ_ s₅ h₅=>IB (IB ⟨rfl,h₅⟩)) λ_ _ h'=>h')) λ_ _ h'=>h'))
noncomputable def vO(un:V->Hp->List V->Prop)(wi:TI)(tc:TT)(te:TE):TE:=λσ H Q=>wi σ H λJ H1=>∀D,H1 D=none->∃W:Nat->Nat->List V->Hp->Prop,(∃m,W 0 m [] (aG H1 D (.lst [])))/\∀i m ys H,W i m ys H ->
 (J.stop i H/\Q (.ref D) H)\/(J.go i H/\∀v H',J.yld i H v H'->∃vs,un v H' vs/\tc (σ++vs.map some) H' λb H2=>if b=true then te (σ++vs.map some) H2 λy H3=>H3 D=some (.lst ys)/\ys.length<sizeLine/\∃m',m'<m/\W (i+1) m' (ys++[y]) (aG H3 D (.lst (ys++[y])))
  else ∃m',m'<m/\W (i+1) m' ys H2)
def vP {un:V->Hp->List V->Prop}(B:bD X scope xs)(hc:X.calm=true)(hpg:∀Xc,bp X scope xs Xc->(∀x∈xs,Loc Xc.env.scope x/\(Xc.fn x=true\/Xc.env.scope.names.lookup x=some .local))->PG Xc tg g)(hun:∀v H vs os,os.length=xs.length->un v H vs->vs.length=xs.length/\g v (σ++os) H λσ2 H2=>σ2=σ++vs.map some/\H2=H)(hbody:∀Xc,bp X scope xs Xc->eM Xc ifs tc/\PE Xc elt te)(I:Inv X pins σ H s)(T:cP X.prog X.w X.K tg J fp it tn)(st:tn 0 s.heap)(hfp:∀b∈fp,vp X pins H b)(W:Nat->Nat->List V->Hp->Prop)(m0:Nat)(w0:W 0 m0 [] H)(turn:∀i m ys H,W i m ys H->(J.stop i H/\∀s' m' C,Inv X pins σ H s'->s'.heap.Ns C m'->s.heap.objs.size<=C->H C=none->compPost (Ie X.prog X.w) X.A X.xe use Q (.ref D) C (.ok .next) s') \/
   (J.go i H/\∀v H',J.yld i H v H'->∃vs,un v H' vs/\tc (σ++vs.map some) H' λb H2=>if b=true then te (σ++vs.map some) H2 λy H3=>H3 D=some (.lst ys)/\ys.length<sizeLine/\∃m',m'<m/\W (i+1) m' (ys++[y]) (aG H3 D (.lst (ys++[y])))
    else ∃m',m'<m/\W (i+1) m' ys H2)):
  Ic (Ie X.prog X.w) X.A (Jo scope X.env.globals (xW X.env scope.names []) [] X.env.qual none .none (some X.env)) (λcenv s₄=>
   IM (Ie X.prog X.w) X.A (.compStart (.ListComp elt [⟨tg,iter,ifs,0⟩] scope pos) 0 (.ref it) (.ref D) {cenv with scope:=Jp scope X.env}) (compPost (Ie X.prog X.w) X.A X.xe use Q (.ref D) cenv.locals) s₄) X.xe s:=by
 refine gc ?_;have hcl:∀y∈scope.names,y.2=.free->∃c,X.env.cells.lookup y.1=some c:=λy hy hf=>by
  rcases B.free y hy hf with q|q
  .exact I.ok.has y.1 (.inl q)
  .exact I.ok.has y.1 (.inr q)
 -- the block's own parts
 generalize hC:s.heap.objs.size=C;generalize hcs:IT (C+1) scope.names (xW X.env scope.names [])=cs;generalize hh4:Jm (s.heap.push {cls:=.type "dict",data:=.dict #[]}) scope.names=h4;have szP:(s.heap.push {cls:=.type "dict",data:=.dict #[]}).objs.size=C+1:=by rw[We,hC]
 have keep4:∀b o,s.heap.get? b=some o->h4.get? b=some o:=λb o e=>hh4▸Jn _ _ _ _ (Qc _ e);have nsC:h4.Ns C (λ_=>none):=by
  have q:=(Heap.Ns.new s.heap (.type "dict")).keeps (Jn scope.names (s.heap.push {cls:=.type "dict",data:=.dict #[]}));rw[hC,hh4]at q;exact q
 -- a cell of the block: one of its own,or one of those around
 have csIn:∀y c,cs.lookup y=some c->((y,NameKind.free)∈scope.names/\X.env.cells.lookup y=some c)\/(C+1<=c/\h4.IsCell c none/\(y,NameKind.cell)∈scope.names):=λy c e=>by
  have q:=lx (y:=y) (c:=c) (names:=scope.names) (h:=s.heap.push {cls:=.type "dict",data:=.dict #[]}) (acc:=xW X.env scope.names []);rw[szP,hcs,hh4]at q;rcases q e with q|q
  .rcases xB hcl q with z|z
   .cases z
   .exact .inl z
  .exact .inr q
 have oldC:∀y c,X.env.cells.lookup y=some c->c<C:=λy c e=>by
  obtain⟨v,q⟩:=I.cell y c e;rw[<-hC];exact q.lt
 have fpC:∀b∈fp,b<C:=λb hb=>by
  obtain⟨o,e,_⟩:=T.obj _ _ st b hb;rw[<-hC];exact Qg e
 let cenv:Env:={scope:=Jp scope X.env,locals:=C,globals:=X.env.globals,cells:=cs,qual:=X.env.qual,func:=none,code:=X.env.code,frame:=X.env.frame,builtins:=X.env.builtins}
 let RR:Result->HK->Prop:=compPost (Ie X.prog X.w) X.A X.xe use Q (.ref D) C
 let Xc:Cx:={X with N:=zW X.N xs,s₀:=s,H₀:=H,env:=cenv,outer:=X.stack,stack:=X.stack,ex:=fp,fn:=λy=>decide (scope.names.lookup y=some .cell),calm:=true,pn:=[],xe:=Jq (Ie X.prog X.w) X.A cenv λe s'=>RR (.error e) s' }
 have hXc:bp X scope xs Xc:=⟨rfl,rfl,rfl,rfl,rfl,rfl,rfl,rfl,rfl,rfl⟩;obtain⟨hT,hE⟩:=hbody Xc hXc;have ok:Xc.Ok:=by
  refine⟨I.ok.mod,B.kind,I.ok.glob,I.ok.blt,WW hC,?_,λy hy=>?_,λy c hf e=>?_,λ_=>I.ok.hd hc,I.ok.frames,.inl rfl,λb hb=>⟨Qx (fpC b hb),λy c e=>?_⟩,I.bs,Qm I.ok.bsz I.sz,λb o e hb=>?_,λb hb hf=>?_,I.stack,I.stkFree⟩
  .show ∀y z c,cs.lookup y=some c->cs.lookup z=some c->y=z;rw[<-hcs];refine qf (λy z c e1 e2=>?_) λy c e=>?_
   .rcases xB hcl e1 with q|q
    .cases q
    .rcases xB hcl e2 with q'|q'
     .cases q'
     .exact I.ok.inj y z c q.2 q'.2
   .rcases xB hcl e with q|q
    .cases q
    .exact Wa (oldC y c q.2)
  .have hy':(Jp scope X.env).names.lookup y=some .cell\/(Jp scope X.env).names.lookup y=some .free:=hy;rw[zJ]at hy';show ∃c,cs.lookup y=some c;rw[<-hcs];refine Wj.mp (WC _ _ _ ?_);cases hk:scope.names.lookup y with
   |none=>rw[hk]at hy';rcases hy' with z|z<;>cases z
   |some k=>
    rw[hk]at hy';have kk:k=.cell\/k=.free:=by
     simp only[QM]at hy';by_cases hcnd:(k==NameKind.free&&X.env.scope.kind == .function&&X.env.kindOf y==some .cell)=true
     .refine .inr ?_;have:=(Qs.mp (Qs.mp hcnd).1).1;simpa using this
     .rw[J8 hcnd]at hy';rcases hy' with z|z
      .exact .inl (Option.some.inj z)
      .exact .inr (Option.some.inj z)
    rcases kk with rfl|rfl
    .exact .inl rfl
    .exact .inr (wM (.inl (PySem.mem_of_lookup hk)))
  .show s.heap.objs.size<=c;rw[hC];have e':cs.lookup y=some c:=e;rw[<-hcs]at e';exact Qm (Wz _) (lu (lo:=C+1) (.inl (PySem.mem_of_lookup (Kb hf))) (Qf _) e')
  .show c≠b;rintro rfl;rcases csIn y c e with⟨_,z⟩|⟨z,_,_⟩
   .exact (hfp c hb).2.2.2.2.1 y c z rfl
   .exact J9 (Qe (fpC c hb) (Qm (Wz _) z)) (QZ _)
  .rcases (hfp b hb).2.2.2.1 with z|z
   .exact I.ok.noex b o e z
   .exact J9 (Qe (Qg (I.ok.bs b o e).1) z) (QZ _)
  .rcases Qj.mp (I.stkSub b hf)with z|z
   .exact (hfp b hb).2.1 z
   .exact (hfp b hb).2.2.1 z
 have frC:H C=none:=I.hok.fresh (WW hC);have frN:∀c,C<=c->H c=none:=λc hc'=>I.hok.fresh (by rw[hC];exact hc');have hσ:σ.length=X.N.length:=I.len;have I4:Inv Xc [] (σ++xs.map λ_=>none) H {s with heap:=h4}:=by
  refine⟨ok,rfl,I.bare,Un.kept keep4,⟨_,nsC,λi y v e1 e2 e3=>?_⟩,λy c e=>?_,frC,λy c e=>?_,λp hp=>J9 (show p∈([]:List (Addr×Obj))from hp) (by simp),I.hok.kept keep4,?_⟩
  .have hi:i<σ.length:=by
    by_cases hi:i<σ.length
    .exact hi
    .rw[Qi (by lia),QD]at e2;cases hz:xs[i-σ.length]? with
     |none=>rw[hz]at e2;simp at e2
     |some k=>rw[hz]at e2;simp at e2
   rw[Qh hi]at e2;have vis:scope.names.lookup y=some .local\/scope.names.lookup y=some .cell\/scope.names.lookup y=some .free:=by
    have e3':eK (Jp scope X.env) y:=e3;unfold eK at e3';rw[zJ]at e3';cases hk:scope.names.lookup y with
    |none=>rw[hk]at e3';rcases e3' with z|z|z<;>cases z
    |some k=>
     rw[hk]at e3';simp only[QM]at e3';by_cases hcnd:(k==NameKind.free&&X.env.scope.kind == .function&&X.env.kindOf y==some .cell)=true
     .have:=(Qs.mp (Qs.mp hcnd).1).1;exact .inr (.inr (by rw[show k=.free by simpa using this]))
     .rw[J8 hcnd]at e3';exact e3'
   rcases EZ (by rw[<-hσ];exact hi) e1 with z|⟨z,zx⟩
   .obtain ⟨x,hx,z⟩:=z;subst z;rw[B.dumN x hx]at vis;rcases vis with q|q|q<;>cases q
   .have hfree:scope.names.lookup y=some .free:=by
     rcases vis with q|q|q
     .exact J9 q (B.alone y (Ql z) zx).1
     .exact J9 q (B.alone y (Ql z) zx).2
     .exact q
    have kout:=B.free _ (PySem.mem_of_lookup hfree) rfl;obtain⟨m,hn,hl⟩:=I.loc;obtain⟨u,r,l⟩:=hl i y v z e2 (kout.elim (λq=>.inr (.inl q)) λq=>.inr (.inr q));refine⟨u,r,?_⟩;rcases l with⟨k,_⟩|⟨_,c,ec,zc⟩
    .have k':X.env.scope.names.lookup y=some .local:=k;rcases kout with q|q<;>rw[k']at q<;>cases q
    .have hsome:∃c',cs.lookup y=some c':=ok.has y (by
      show(Jp scope X.env).names.lookup y=some .cell\/(Jp scope X.env).names.lookup y=some .free;rw[zJ,hfree];simp only[QM];split
      .exact .inl rfl
      .exact .inr rfl)
     obtain⟨c',ec'⟩:=hsome;refine .inr ⟨?_,c',ec',?_⟩
     .show (Jp scope X.env).names.lookup y=some .cell\/(Jp scope X.env).names.lookup y=some .free;rw[zJ,hfree];simp only[QM];split
      .exact .inl rfl
      .exact .inr rfl
     .rcases csIn y c' ec' with⟨_,q⟩|⟨_,_,q⟩
      .rw[ec]at q;cases q;exact zc.keeps keep4
      .exact J9 hfree (B.one (y,.cell) q rfl)
  .rcases csIn y c e with⟨_,q⟩|⟨_,q,_⟩
   .obtain ⟨v,z⟩:=I.cell y c q;exact⟨v,z.keeps keep4⟩
   .exact ⟨_,q⟩
  .rcases csIn y c e with⟨_,q⟩|⟨q,_,_⟩
   .exact I.freeC y c q
   .exact frN c (by lia)
  .show (σ++xs.map λ_=>none).length=(zW X.N xs).length;rw[E1,Q3,hσ,QF]
 -- the loop
 have hLoc:∀x∈xs,Loc Xc.env.scope x/\(Xc.fn x=true\/Xc.env.scope.names.lookup x=some .local):=λx hx=>by
  constructor
  .show (Jp scope X.env).names.lookup x=some .local\/(Jp scope X.env).names.lookup x=some .cell;rw[zJ];rcases B.own x hx with q|q<;>rw[q]
   .exact .inl rfl
   .exact .inr rfl
  .rcases B.own x hx with q|q
   .refine .inr ?_;show(Jp scope X.env).names.lookup x=some .local;rw[zJ,q];rfl
   .exact .inl (Ka q)
 have hg:PG Xc tg g:=hpg Xc hXc hLoc;have fpX:∀{H':Hp},(∀b∈fp,H' b=none)->∀b∈fp,vp Xc [] H' b:=λhn b hb=>
  ⟨hn b hb,Qx (fpC b hb),λz=>ok.exfs b hb z,.inl hb,λy c e=>(ok.exf b hb).2 y c e,λp hp=>J9 (show p∈([]:List (Addr×Obj))from hp) (by simp)⟩
 have loop:IM (Ie X.prog X.w) X.A (.compLoop (.ListComp elt [⟨tg,iter,ifs,0⟩] scope pos) 0 (.ref it) (.ref D) cenv) RR {s with heap:=h4}:=by
  refine jv (λn s'=>∃i os ys H',os.length=xs.length/\Inv Xc [] (σ++os) H' s'/\tn i s'.heap/\(∀b∈fp,H' b=none)/\W i n ys H') ?_ m0 ⟨0,_,[],H,QF _,I4,T.keep _ _ _ st λb _ o e=>keep4 b o e,λb hb=>(hfp b hb).1,w0⟩;rintro n s3 ⟨i,os,ys,H3,hos,I3,st3,fr3,w3⟩;rcases turn i n ys H3 w3 with⟨stop,fin⟩|⟨go,step⟩
  .refine aP (T.done Xc rfl rfl rfl rfl i [] s3 (σ++os) H3 Xc.xe I3 (fpX fr3) st3 stop) λr s4 ⟨hr,I4⟩=>?_;subst hr;obtain⟨m,hn,_⟩:=id I4.loc;refine fin s4 m C ?_ hn (WW hC) I4.free;exact I.call' (ch:=fp) I4.os I4.base I4.hok I4.bare λb hb=>⟨(hfp b hb).2.2.2.1,(hfp b hb).2.1,(hfp b hb).2.2.2.2.1,(hfp b hb).2.2.2.2.2⟩
  .refine aP (T.item Xc rfl rfl rfl rfl i [] s3 (σ++os) H3 Xc.xe I3 (fpX fr3) st3 go) λr s4 ⟨u,hr,h4'⟩=>?_;subst hr;refine aP h4' λ_ s5 ⟨v,H5,I5,r5,y5,st5,fr5⟩=>?_;have I5':=I5.pinned (fpX fr5) (T.obj _ _ st5);obtain⟨vs,hvs,step5⟩:=step v H5 y5;obtain⟨hvl,hset⟩:=hun v H5 vs os hos hvs;refine aP (hg _ s5 (σ++os) H5 v u (λσ2 H2=>σ2=σ++vs.map some/\H2=H5) I5' r5 hset) λ_ s6 ⟨σ6,H6,I6,e6,e6'⟩=>?_;subst e6;subst e6';have back:∀{H7:Hp}{s7:HK},Inv Xc ([]++vK fp s5.heap) (σ++vs.map some) H7 s7->tn (i+1) s7.heap/\(∀b∈fp,H7 b=none)/\Inv Xc [] (σ++vs.map some) H7 s7:=λ{H7 s7} I7=>by
    refine⟨T.keep _ _ _ st5 λb hb ob e=>(I7.pin (b,ob) (Qn _ (Qn _ (y6 hb e)))).1,λb hb=>?_,I7.unpinned⟩;obtain⟨ob,e,_⟩:=T.obj _ _ st5 b hb;exact(I7.pin (b,ob) (Qn _ (Qn _ (y6 hb e)))).2.1
   refine aP (hT _ s6 (σ++vs.map some) H6 _ I6 step5) λb s7 ⟨H7,I7,q7⟩=>?_;cases b with
   |false=>
    rw[J8 QJ]at q7 ⊢;obtain⟨m',hm,w7⟩:=q7;obtain⟨t1,t2,t3⟩:=back I7;exact⟨m',hm,i+1,_,ys,H7,(by rw[QF];exact hvl),t3,t1,t2,w7⟩
   |true=>
    rw[J7 rfl]at q7 ⊢;refine aP (hE _ s7 (σ++vs.map some) H7 _ I7 q7) λyv s8 ⟨y,H8,I8,r8,hD8,hl8,m',hm,w8⟩=>?_;refine aP (kT (X:=Xc) _ s8 (σ++vs.map some) H8 (.ref D) [y] (.ref D) [yv] (λ_ H9=>H9=aG H8 D (.lst (ys++[y]))) I8 rfl (.cons r8 .nil) ⟨D,ys,y,rfl,rfl,hD8,hl8,rfl⟩) λ_ s9 ⟨_,H9,I9,_,e9⟩=>?_;subst e9;obtain⟨t1,t2,t3⟩:=back I9;exact⟨m',hm,i+1,_,ys++[y],_,(by rw[QF];exact hvl),t3,t1,t2,w8⟩
 refine codeAny_compStart_list loop ?_;exact T.self X.A 0 _ _ _ (T.keep _ _ _ st λb _ o e=>keep4 b o e) loop
section
variable{X:Cx}{elt iter tg:Expr}{xs:List Str}{y:Str}{g:TG}{un:V->Hp->List V->Prop}{py:Pos}{ifs:List Expr}{scope:HH}{pos spos:Pos}{wi:TI}{tc:TT}{te:TE}
def Inv.aside{pins:List (Addr×Obj)}{σ:St}{H:Hp}{s:HK}{C lo:Addr}{h':HQ}(I:Inv X pins σ H s)(hlo:lo<=C)(hL:X.env.locals<lo)(hcell:∀y c,X.env.cells.lookup y=some c->c<lo)(hpin:∀p∈X.pn++pins,p.1<lo)
  (hn:H C=none) (hs:QT C s.heap h'):Inv X pins σ H {s with heap:=h' } :=
 I.turned (it:=C) (t':=s.toks) (λb o hb e=>(hs.2 b hb).trans e) hn (Wh (Qe hL hlo)) (.inr (Qm I.ok.above (Qm (Wv hL) hlo)))
  (λy c e=>Qx (Qe (hcell y c e) hlo)) λp hp=>Qx (Qe (hpin p hp) hlo)
def Inv.below (I:Inv X pins σ H s):X.env.locals<s.heap.objs.size/\(∀y c,X.env.cells.lookup y=some c->c<s.heap.objs.size)/\∀p∈X.pn++pins,p.1<s.heap.objs.size:=
 ⟨I.lt,λy c e=>let⟨_,z⟩:=I.cell y c e;z.lt,λp hp=>Qg (I.pin p hp).1⟩
def xS(B:bD X scope xs)(ok:X.Ok):closureFor scope X.env=pure (xW X.env scope.names []):=
 vN λy hy hf=>(B.free y hy hf).elim (λq=>ok.has y.1 (.inl q)) λq=>ok.has y.1 (.inr q)
structure fU(X:Cx)(scope:HH)(xs:List Str)(tg:Expr)(g:TG)(un:V->Hp->List V->Prop):Prop where
 pg:∀Xc,bp X scope xs Xc->(∀x∈xs,Loc Xc.env.scope x/\(Xc.fn x=true\/Xc.env.scope.names.lookup x=some .local))->PG Xc tg g
 un:∀v H vs os (σ:St),σ.length=X.N.length->os.length=xs.length->un v H vs->vs.length=xs.length/\g v (σ++os) H λσ2 H2=>σ2=σ++vs.map some/\H2=H
noncomputable def iJ(v:V)(_:Hp)(vs:List V):Prop:=vs=[v]
def rR{α:Type}{l:List α}(h:l.length=1):∃a,l=[a]:=by
 cases l with
 |nil=>cases h
 |cons a t=>
  cases t with
  |nil=>exact⟨a,rfl⟩
  |cons b t=>cases h
def rQ{α:Type}{l:List α}(h:l.length=2):∃a b,l=[a,b]:=by
 cases l with
 |nil=>cases h
 |cons a t=>
  obtain⟨b,rfl⟩:=rR (Nat.succ.inj h);exact⟨a,b,rfl⟩
def xD (B:bD X scope [x]):fU X scope [x] (.Name x px) (yV X.N.length) iJ:=by
 refine⟨λXc c h=>?_,λv H vs os σ hσ ho hv=>?_⟩
 .exact y0 (by rw[c.N];exact B.nd) (by rw[c.N];exact xX X.N [x] 0) (h x (by simp)).1 (h x (by simp)).2
 .cases hv;refine⟨rfl,?_,rfl⟩;obtain⟨o,rfl⟩:=rR ho;rw[<-hσ,WK _ _ (Qf _)];simp
noncomputable def iI(K:Qa)(v:V)(H:Hp)(vs:List V):Prop:=∃a,v=.ref a/\bJ K H a vs/\vs.length=2
def jw (hc:X.calm=true)(B:bD X scope [x,y]):fU X scope [x,y] (.Tuple [.Name x px,.Name y py] k pt) (ij X.K 2 (vJ (yV X.N.length) (vJ (yV (X.N.length+1)) ik))) (iI X.K):=by
 refine⟨λXc c h=>?_,λv H vs os σ hσ ho hv=>?_⟩
 .have nd:Xc.N.Nodup:=by rw[c.N];exact B.nd
  rw[<-c.K];exact rK c.calm (wt (y0 nd (by rw[c.N];exact xX X.N [x,y] 0) (h x (by simp)).1 (h x (by simp)).2) (wt (y0 nd (by rw[c.N];exact xX X.N [x,y] 1) (h y (by simp)).1 (h y (by simp)).2) qM))
 .obtain ⟨a,e1,e2,e3⟩:=hv;obtain⟨u,w,rfl⟩:=rQ e3;obtain⟨o,p,rfl⟩:=rQ ho;refine⟨rfl,a,[u,w],e1,e2,rfl,u,[w],rfl,w,[],rfl,rfl,?_,rfl⟩;rw[<-hσ,WK _ _ (Qf _),WK _ _ (by lia)];simp
def xF(B:bD X scope xs)(hc:X.calm=true)(hT:fU X scope xs tg g un)(hi:PI X tg iter wi)(hbody:∀Xc,bp X scope xs Xc->eM Xc ifs tc/\PE Xc elt te)
  (hs:∀v,IE iter X.env v=pure v:=by intro _;rfl):PE X (.ListComp elt [⟨tg,iter,ifs,0⟩] scope pos) (vO un wi tc te):=by
 intro pins s σ H Q I h;rw[eval_ListComp];refine Jr (use:=none) (cl:=xW X.env scope.names []) rfl hs (xS B I.ok) B.kind B.locs ?_;refine aP (hi pins s σ H _ I h) λxv s1 h1=>aP h1 λitv s2 h2=>?_;obtain⟨it,fp,tn,J,H2,e,I2,T,st2,f2,q2⟩:=h2;subst e;refine Jb ?_;have I3:=I2.lnew (its:=[]) (ys:=[]) (t':=s2.toks) .nil (WO _);obtain⟨W,⟨m0,w0⟩,turn⟩:=q2 s2.heap.objs.size (I2.hok.fresh (Qf _));have fp3:∀b∈fp,vp X pins (aG H2 s2.heap.objs.size (.lst [])) b:=λb hb=>by
  obtain⟨o,e,_⟩:=T.obj _ _ st2 b hb;exact⟨by rw[ze (Qx (Qg e))];exact(f2 b hb).1,(f2 b hb).2⟩
 obtain⟨b1,b2,b3⟩:=I3.below;refine vP B hc hT.pg (λv H vs os h1 h2=>hT.un v H vs os σ I.len h1 h2) hbody I3 T (T.keep _ _ _ st2 λb _ o e=>Qc _ e) fp3 W m0 w0 λi m ys H4 w=>?_;rcases turn i m ys H4 w with⟨stop,q⟩|r
 .exact .inl ⟨stop,λs' m' C I' hn hC hCn=>⟨m',hn,λh' hsb=>⟨.ref s2.heap.objs.size,H4,I'.aside hC b1 b2 b3 hCn hsb,rfl,q⟩⟩⟩
 .exact .inr r
def vQ (B:bD X scope xs)(hc:X.calm=true)(hT:fU X scope xs tg g un)(hi:PI X tg iter wi)(hbody:∀Xc,bp X scope xs Xc->eM Xc ifs tc/\PE Xc elt te)(hN:X.N.Nodup)(hy:X.N[i]?=some y)(hx:Loc X.env.scope y)(hf:X.fn y=true\/X.env.scope.names.lookup y=some .local)(hsw:Ip (.ListComp elt [⟨tg,iter,ifs,0⟩] scope pos) (some (.Name y py)) spos.line X.env=pure true)(hs:∀v,IE iter X.env v=pure v:=by intro _;rfl):PS X (.Assign [.Name y py] (.ListComp elt [⟨tg,iter,ifs,0⟩] scope pos) spos) (ii (vO un wi tc te) (yV i)):=by
 intro pins s σ H D I h;rw[exec_Assign_Name_used _ _ _ _ hsw];refine Iv (Ix (Iv ?_));show Ic _ X.A (do let _ <-comprehension (.ListComp elt [⟨tg,iter,ifs,0⟩] scope pos) scope X.env _ (newList []) false (eval iter X.env) (some (assign (.Name y py) X.env))) _ _ s;refine Iv (Ii (Jr (use:=some (assign (.Name y py) X.env)) (cl:=xW X.env scope.names []) (Q:=λ_ s'=>SP X pins D .next s') rfl hs (xS B I.ok) B.kind B.locs ?_)
  (λ_ s' hq=>IB (IB hq)) λ_ _ e=>e)
 refine aP (hi pins s σ H _ I h) λxv s1 h1=>aP h1 λitv s2 h2=>?_;obtain⟨it,fp,tn,J,H2,e,I2,T,st2,f2,q2⟩:=h2;subst e;refine Jb ?_;have I3:=I2.lnew (its:=[]) (ys:=[]) (t':=s2.toks) .nil (WO _);obtain⟨W,⟨m0,w0⟩,turn⟩:=q2 s2.heap.objs.size (I2.hok.fresh (Qf _));have fp3:∀b∈fp,vp X pins (aG H2 s2.heap.objs.size (.lst [])) b:=λb hb=>by
  obtain⟨o,e,_⟩:=T.obj _ _ st2 b hb;exact⟨by rw[ze (Qx (Qg e))];exact(f2 b hb).1,(f2 b hb).2⟩
 obtain⟨b1,b2,b3⟩:=I3.below;refine vP B hc hT.pg (λv H vs os h1 h2=>hT.un v H vs os σ I.len h1 h2) hbody I3 T (T.keep _ _ _ st2 λb _ o e=>Qc _ e) fp3 W m0 w0 λi' m ys H4 w=>?_;rcases turn i' m ys H4 w with⟨stop,q⟩|r
 .refine .inl ⟨stop,λs' m' C I' hn hC hCn=>?_⟩;refine wpAny_assign_Name (kN I' hN hy hx (v:=.ref s2.heap.objs.size) rfl (λs'' I'' ⟨a,sb,ha⟩=>?_) hf);have hCa:C≠a:=by
   rcases ha with rfl|ha
   .exact Wh (Qe b1 hC)
   .exact Wh (Qe (b2 _ _ ha) hC)
  exact⟨m',hn.sameBut sb hCa,λh' hsb=>⟨_,H4,I''.aside hC b1 b2 b3 hCn hsb,q⟩⟩
 .exact .inr r
end
section
variable{X:Cx}
theorem av.at (h:av xs us){i:Nat}(e:us[i]?=some u):∃x,xs[i]?=some x/\RelV x u:=by
 have hl:=h.length;have hi:=(Qb.mp e).1;have hx:xs[i]?=some xs[i]:=Qv (by lia);obtain⟨u',h1,h2⟩:=h.get hx;rw[e]at h1;cases h1;exact⟨_,hx,h2⟩
theorem vk(ns:List Int):∀n,n<=ns.length->preSum (λi=>ns.getD i 0) n=(ns.take n).sum
 |0,_=>by simp[preSum]
 |n+1,h=>by
  have e:ns[n]?=some (ns.getD n 0):=by rw[W6,Qv (by lia)];rfl
  rw[preSum,vk ns n (by lia),List.take_add_one,e,List.sum_append];simp
def gd(hc:X.calm=true):bv X (.builtin "sum") (λxs H Q=>∃(p:Addr) (ns:List Int),xs=[.ref p]/\bt X.K H p (ns.map V.int)/\Q (.int ns.sum) H):=by
 intro pins s σ H xs us Q I r h;obtain⟨p,ns,rfl,hq,q⟩:=h;obtain⟨u,rfl,rx⟩:=vh r;cases rx;obtain⟨its,r',pl,hz⟩:=I.list hq;have hlen:=r'.length;have hp:∃o,s.heap.get? p=some o:=by obtain⟨o,ho,_⟩:=pl.isList;exact⟨o,ho⟩
 obtain⟨o,ho⟩:=hp;have hlt:=Qg ho;refine call_sum_walkG (ID pl.isList ?_);refine⟨s.heap.objs.size,_,_,_,_,_,λi=>ns.getD i 0,rfl,Walks.list (A:=X.A.in1) (I.ok.hd hc) s.heap.objs.size p (Qx hlt) its.toArray,⟨⟨_,Qk _ rfl,rfl,rfl⟩,pl.isList.at λo e=>Qc _ e⟩,?_,?_,λh' tk t' hk=>?_⟩
 .intro b hb;have h1:s.heap.objs.size<(s.heap.push {cls:=.type "list_iterator",data:=.fields #[.ref p,.int 0 0]}).objs.size:=Qg (Qk _ rfl);have:b=s.heap.objs.size\/b=p:=by simpa using hb
  rcases this with rfl|rfl
  .exact h1
  .exact Nat.lt_trans hlt h1
 .intro i v hv;have hv':its[i]?=some v:=by simpa using hv
  obtain⟨y,hy,ry⟩:=r'.at hv';rw[QD]at hy;cases hb:ns[i]? with
  |none=>rw[hb]at hy;cases hy
  |some b=>
   rw[hb]at hy;cases hy;obtain⟨t,rfl⟩:=(ry:∃t,v=.int b t);have e:ns.getD i 0=b:=by rw[W6,hb];rfl
   exact⟨t,by show Value.int b t=Value.int (ns.getD i 0) t;rw[e]⟩
 .have e:its.toArray.size=ns.length:=by simp at hlen ⊢;lia
  rw[e,vk ns ns.length (Qf _),List.take_length];exact⟨.int ns.sum,H,I.kept (t':=tk) λb o e=>hk b o (λhb=>by
   have:b=s.heap.objs.size:=by simpa using hb
   exact J9 (Qg e) (by rw[this];exact QZ _)) (Qc _ e),⟨t',rfl⟩,q⟩
end
abbrev TK:=List Int×Addr×Value
noncomputable def gf(x:TK):DictEntry:=⟨reduceHash (Builtin.Tuple.tupleHashOf (x.1.map hashInt)),.ref x.2.1,x.2.2⟩
noncomputable def xf(d:Addr)(xs:List TK):HO:=.ext λh=>(d==HR)=false/\∃o es,h.get? d=some o/\o.ExactDict/\o.data=.dict es xs.length/\es.toList=xs.map gf/\(xs.map (·.1)).Nodup
theorem qT:∀{k:List Int}{us:List Value},av (k.map V.int) us->ItemsAre (HV P w) k us
 |[],_,.nil=>.nil
 |i::_,_,.cons p q=>by
  obtain⟨t,rfl⟩:=p;exact .cons (by show Value.isInt i (.int i t)=true;simp[Value.isInt]) (qT q)
noncomputable def yC(K:Qa)(H:Hp)(d:Addr)(xs:List TK):Prop:=H d=some (xf d xs)/\∀x∈xs,bJ K H x.2.1 (x.1.map V.int)
section
variable{prog:HJ}{w:HL}{T:Type}[DecidableEq T]{kd:HeapKind prog w T}{A:HY}{E:Value->HK->Prop}{s:HK}{d a:Addr}{k:T}{xs:List (T×Addr×Value)}
noncomputable def qU(kd:HeapKind prog w T)(h:HQ)(d:Addr)(xs:List (T×Addr×Value)):Prop:=∃o es,h.get? d=some o/\o.ExactDict/\o.data=.dict es xs.length/\es.toList=xs.map (HS kd)/\(xs.map (·.1)).Nodup
def lR (room:kd.room A)(hk:kd.is s.heap k a)(D:qU kd s.heap d xs)(all:∀x∈xs,kd.is s.heap x.1 x.2.1)(hz:xs.length<=sizeLine)(end':∀h',qU kd h' d (storedH xs k a v)->QT d s.heap h'->R () {s with heap:=h',toks:=s.toks+kd.draws k}):Ic (Ie prog w) A (dictSet d (.ref a) v) R E s:=by
 obtain⟨o,es,g,ex,dat,rows,nd⟩:=D;have sz:=size_of_entries rows
 let s1:HK:={s with toks:=s.toks+kd.draws k}
 unfold dictSet;apply Iw;apply Iv;apply kd.pyHash room hk;unfold dictSetHashed;apply Iw;apply Iv;apply wpAny_dictFind_heap (s:=s1) room hk g dat rows all nd
 .intro no;have e1:storedH xs k a v=xs++[(k,a,v)]:=storedH_new (atKey_none_of_get no) a v;have g1:=Wn (Obj.mapDictKeys (·.push ⟨kd.hash k,.ref a,v⟩)) g (Obj.isFreed_of_dict (Obj.data_mapDictKeys dat _));apply Iv;apply Js;apply wpAny_updateDictKeys (s:=s1) g dat _ (by lia);refine end' _ ⟨_,es.push ⟨kd.hash k,.ref a,v⟩,g1,ex.mapDictKeys _,?_,?_,?_⟩ (QT.update ..)
  .rw[e1,Q3];exact Obj.data_mapDictKeys dat _
  .simp[e1,rows,HS]
  .have z:=not_mem_keys_of_get no;rw[e1,WI,QB];refine⟨nd,by simp,λx hx y hy e=>?_⟩;have f:y=k:=by simpa using hy
   exact z (f▸e▸hx)
 .intro j p at_;have e1:storedH xs k a v=xs.map (Jt k v):=storedH_old (atKey_of_get nd at_) a v;have g1:=Wn (Obj.mapDict (·.modify j λe=>{e with val:=v})) g (Obj.isFreed_of_dict (Obj.data_mapDict dat _));apply Iv;apply Js;apply Iv;apply wpAny_updateDict (s:=s1) g dat;apply wpAny_point;refine end' _ ⟨_,es.modify j λe=>{e with val:=v},g1,ex.mapDict _,?_,?_,?_⟩ (QT.update ..)
  .rw[e1,QF];exact Obj.data_mapDict dat _
  .have q:=modify_map_putAt (HS kd) (λe:DictEntry=>{e with val:=v}) k v (λ_ _=>rfl) nd at_;rw[<-rows]at q;rw[e1,Array.toList_modify];exact q
  .rw[e1,keys_map_putAt];exact nd
def EE (room:kd.room A.in1)(hk:kd.is s.heap k a)(D:qU kd s.heap d xs)(all:∀x∈xs,kd.is s.heap x.1 x.2.1)(hz:xs.length<=sizeLine)(end':∀h',qU kd h' d (storedH xs k a v)->QT d s.heap h'->R () {s with heap:=h',toks:=s.toks+kd.draws k}):Ic (Ie prog w) A (Is (.ref d) (.ref a) v) R E s:=by
 have ty:s.TypeIs (.ref d) "dict":=let⟨o,_,g,ex,_⟩:=D;⟨o,g,ex.1⟩;unfold Is;apply Iw;apply Iv;apply wpAny_sequenceKey ty (by decide);apply Iv;apply I0 ty slot_dict_setitem;refine Ja slot_dict_setitem ty entry_dict_setitem ?_ (args_dict_setitem _ _ _);apply Iv (m:=Builtin.Dict.notOrdered "__setitem__" ⟨[.ref d,.ref a,v],[]⟩);apply Ju ty;apply Iv (m:=dictSet d (.ref a) v);exact lR room hk D all hz λh' q sb=>IB ⟨.none,rfl,IB (end' h' q sb)⟩
end
section
variable{X:Cx}{pins:List (Addr×Obj)}{σ:St}{H:Hp}{s:HK}
def xH (I:Inv X pins σ H s)(h:bJ X.K H a (k.map V.int)):Jv (HV X.prog X.w) s.heap k a:=by
 obtain⟨its,r,⟨o,ho,hc,n,hd⟩,_⟩:=I.tuple h;exact⟨o,its.toArray,n,ho,hc,hd,qT r⟩
def xk (I:Inv X pins σ H s)(h:yC X.K H d xs):(d==HR)=false/\s.heap.DictOfH (HU (HV X.prog X.w)) d xs:=by
 obtain⟨h1,h2⟩:=h;obtain⟨⟨a0,o,es,a1,a2,a3,a4,a5⟩,_,_⟩:=I.hok d _ h1;exact⟨a0,o,es,_,a1,a2,a3,a4,λx hx=>xH I (h2 x hx),a5⟩
def EY:PE X (.Dict [] [] pos) (λ_ H Q=>∀d,H d=none->Q (.ref d) (aG H d (xf d []))):=by
 intro pins s σ H Q I h;have hd:(s.heap.objs.size==HR)=false:=by
  obtain⟨o,_,_,ho,_⟩:=I.ok.mod.glob;have h1:(3:Nat)<X.base.objs.size:=Qg ho;have h2:=Qm I.ok.bsz I.sz;have:s.heap.objs.size≠(1:Nat):=by lia
  exact beq_eq_false_iff_ne.mpr this
 refine wpAny_Dict_empty ⟨.ref s.heap.objs.size,aG H s.heap.objs.size (xf s.heap.objs.size []),I.laid (t':=s.toks) (λb u e=>Qc _ e) (Qf _) ?_,rfl,h _ I.fresh⟩;refine⟨⟨hd,_,#[],Qk _ rfl,⟨rfl,rfl,rfl⟩,rfl,rfl,Qu⟩,⟨_,Qk _ rfl⟩,λh1 h2 hx k=>?_⟩;obtain⟨a0,o,es,a1,r⟩:=hx;exact⟨a0,o,es,k o a1,r⟩
noncomputable def pO(K:Qa):V->V->V->Hp->(Hp->Prop)->Prop:=λo i v H Q=>∃d a ks xs,o=.ref d/\i=.ref a/\bJ K H a (ks.map V.int)/\yC K H d xs/\xs.length<=100000/\∀u,RelV v u->Q (aG H d (xf d (storedH xs ks a u)))
def uC(hu:X.A.units+64<IJ):pB X (pO X.K):=by
 intro pins s σ H o i v ov iv u Q I ro ri rv h;obtain⟨d,a,ks,xs,rfl,rfl,hk,hd,hl,q⟩:=h;cases ro;cases ri;obtain⟨d0,dm⟩:=xk I hd;obtain⟨⟨_,o1,es1,b1,b2,b3,b4,b5⟩,_,_⟩:=I.hok d _ hd.1;refine EE (kd:=HU (HV X.prog X.w)) (by show X.A.units+1<IJ;lia) (xH I hk) ⟨o1,es1,b1,b2,b3,b4,b5⟩ (λx hx=>xH I (hd.2 x hx)) (Qm hl (by decide)) λh' ⟨o',es,a1,a2,a3,a4,a6⟩ sb=>?_;refine⟨aG H d (xf d (storedH xs ks a u)),?_,q u rv⟩;refine I.write (x:=d) (e:=d) (by rw[hd.1];trivial) (.inl rfl) (λb u' hb e=>(sb.2 b hb).trans e) ⟨_,a1⟩ ?_;refine⟨⟨d0,o',es,a1,a2,a3,a4,a6⟩,⟨_,a1⟩,λh1 h2 hx k=>?_⟩;obtain⟨b0,o,es,b1,r⟩:=hx;exact⟨b0,o,es,k o b1,r⟩
noncomputable def pN(K:Qa):R2:=λx y H Q=>∃d a ks xs p,x=.ref d/\y=.ref a/\bJ K H a (ks.map V.int)/\yC K H d xs/\Jw xs ks=some p/\∃v,RelV v p.2/\Q v H
def nn(hu:X.A.units+64<IJ):dD X (pN X.K):=by
 intro value slice pins s σ H x y v u Q I rx ry h hs;obtain⟨d,a,ks,xs,p,rfl,rfl,hk,hd,hp,z,rz,q⟩:=h;cases rx;cases ry;obtain⟨d0,dm⟩:=xk I hd;exact Jc (x:=p.2) dm.typeIs slot_dict_getitem.lookup
  (wpAny_getItem_heap (knd:=HU (HV X.prog X.w)) (Q:=λr s'=>r=p.2/\EP X pins σ Q r s') (by show X.A.units+1<IJ;lia) (xH I hk) dm hp ⟨rfl,z,H,I.tok _,rz,q⟩) hs
end
end L2
namespace Mini
inductive Wd where
 |non|bl (b:Bool)|int (i:Int)|str (s:List Nat)|tup (xs:List Wd)|rol (xs:List Wd)|ref (l:Nat)
deriving Inhabited
set_option genInjectivity false in
inductive Ob where
 |lst (xs:List Wd)|dct (ks:List (List Int)) (ws:List Wd)
deriving Inhabited
abbrev Me:=List Ob
set_option tactic.hygienic true in
abbrev En:=List (Option Wd)
set_option genInjectivity false in
inductive Rz where
 |ok (w:Wd) (m:Me)|no
deriving Inhabited
set_option genInjectivity false in
inductive Rs where
 |next (e:En) (m:Me)|ret (w:Wd) (m:Me)
 |no
deriving Inhabited
inductive Bo where|add|sub|mul|fdiv|mod|pow|shr|band|mulB|fdivB
deriving DecidableEq
inductive Co where|eq|ne|lt|le|gt|notN|isin
deriving DecidableEq
inductive Tg where|int|bool|list|tuple|str|dict
deriving DecidableEq
inductive dM where|len|int|list|tuple|sum|sorted|sortI
deriving DecidableEq
inductive dO where|append|pop|reverse|clear
deriving DecidableEq
inductive Kd where|zip|enum|prs|ptp
deriving DecidableEq
inductive Dk where|get|trg|lix|lct
deriving DecidableEq
set_option genInjectivity false in
inductive Ex where
 |var (i:Nat)|lit (w:Wd)
 |bin (op:Bo) (a b:Ex)|neg (a:Ex)|not (a:Ex)|and (a b:Ex)|or (a b:Ex)
 |cmp (op:Co) (a b:Ex)|chain (p q:Co) (a b c:Ex)|ife (c a b:Ex)
 |unit|pair (a b:Ex)
 |call (k:Nat) (args:Ex)|blt (b:dM) (args:Ex)|isi (t:Tg) (a:Ex)
 |lst (args:Ex)|tup (args:Ex)|dict0
 |idx (a b:Ex)|slL (a lo:Ex)
 |meth (n:dO) (o args:Ex)
 |rng (a b c:Ex)
 |comp (elt it cond:Ex)
 |compP (k:Kd) (elt a b cond:Ex)
 |dget (a b:Ex)
 |dop (k:Dk) (a b c:Ex)
deriving Inhabited
set_option genInjectivity false in
inductive Sm where
 |skip|seq (a b:Sm)
 |asg (i:Nat) (e:Ex)   |aug (i:Nat) (op:Bo) (e:Ex)
 |ite (c:Ex) (a b:Sm)|forv (i:Nat) (it:Ex) (body:Sm)  |while (c:Ex) (body:Sm)
 |ret (e:Ex)  |expr (e:Ex)|never
 |forZ (i j:Nat) (a b:Ex) (body:Sm)
 |dput (x:Nat) (k e:Ex)
 |forD (i x:Nat) (body:Sm)
deriving Inhabited
noncomputable def aF:Nat:=100000
noncomputable def oG:Int:=18446744073709551616
noncomputable def small(i:Int):Bool:=decide (-oG<i)&&decide (i<oG)
noncomputable def cJ(p:Wd->Wd->Option Bool):List Wd->List Wd->Option Bool
 |x::xs,y::ys=>match p x y with
  |some a=>(cJ p xs ys).map (a && ·)
  |none=>none
 |_,_=>some true
noncomputable def b2i(b:Bool):Int:=if b then 1 else 0
noncomputable def aK(m:Me)(l:Nat):Bool:=match m[l]? with
 |some (.lst _)=>true
 |_=>false
noncomputable def rP:Wd->Bool
 |.rol _=>false
 |_=>true
noncomputable def b8(m:Me):Nat->Wd->Wd->Option Bool
 |0,_,_=>none
 |k+1,x,y=>match x,y with
  |.tup a,.tup b=>(cJ (b8 m k) a b).map (· && decide (a.length=b.length))
  |.ref a,.ref b=>if a=b then(if aK m a then some true else none)else match m[a]?,m[b]? with
   |some (.lst xs),some (.lst ys)=>if xs.length=ys.length then cJ (b8 m k) xs ys else some false
   |_,_=>none
  |.ref a,y=>if aK m a&&rP y then some false else none
  |x,.ref b=>if aK m b&&rP x then some false else none
  |.rol _,_=>none
  |_,.rol _=>none
  |.non,.non=>some true
  |.bl a,.bl b=>some (a==b)
  |.int a,.int b=>some (decide (a=b))
  |.bl a,.int b=>some (decide (b2i a=b))
  |.int a,.bl b=>some (decide (a=b2i b))
  |.str a,.str b=>some (decide (a=b))
  |_,_=>some false
noncomputable def zV:Nat:=12
noncomputable def dZ(p:Wd->Wd->Option Bool)(x:Wd):List Wd->Option Bool
 |[]=>some false
 |y::ys=>match p y x with
  |some a=>(dZ p x ys).map (a || ·)
  |none=>none
noncomputable def ix(n:Nat)(i:Int):Option Nat:=
 if 0<=i then(if i<n then some i.toNat else none)else if -(n:Int)<=i then some (i+n).toNat else none
noncomputable def alloc(m:Me)(xs:List Wd):Rz:=if xs.length<=aF then .ok (.ref m.length) (m++[.lst xs])else .no
noncomputable def zn(m:Me)(l:Nat):Option (List Wd):=match m[l]? with
 |some (.lst xs)=>some xs
 |_=>none
noncomputable def yD(m:Me):Wd->Option (List Wd)
 |.tup xs=>some xs
 |.rol xs=>some xs
 |.ref l=>zn m l
 |_=>none
noncomputable def cE(op:Bo)(x y:Wd)(m:Me):Rz:=match x,y with
 |.int i,.int j=>match op with
  |.add=>.ok (.int (i+j)) m
  |.sub=>.ok (.int (i-j)) m
  |.mul=>if small i || small j then .ok (.int (i*j)) m else .no
  |.fdiv=>if 0<j/\j<1073741824 then .ok (.int (i/j)) m else .no
  |.mod=>if 0<j then .ok (.int (i%j)) m else .no
  |.pow=>if 0<=j/\j<=1000000/\small i=true then .ok (.int (i^j.toNat)) m else .no
  |.shr=>if 0<=j/\j<=1000 then .ok (.int (i/2^j.toNat)) m else .no
  |.band=>if 0<=i/\j=1 then .ok (.int (i%2)) m else .no
  |.mulB=>if i.natAbs.log2<100000/\j.natAbs.log2<100000 then .ok (.int (i*j)) m else .no
  |.fdivB=>if 0<j/\j.natAbs.log2<9000 then .ok (.int (i/j)) m else .no
 |.ref a,.ref b=>match op,m[a]?,m[b]? with
  |.add,some (.lst xs),some (.lst ys)=>alloc m (xs++ys)
  |_,_,_=>.no
 |.ref a,.int k=>match op,m[a]? with
  |.mul,some (.lst xs)=>if -aF<=k/\k<=aF then alloc m (Qt k.toNat xs).flatten else .no
  |_,_=>.no
 |.tup xs,.tup ys=>match op with
  |.add=>if xs.length+ys.length<=aF then .ok (.tup (xs++ys)) m else .no
  |_=>.no
 |_,_=>.no
noncomputable def dw(o:Option Bool)(m:Me):Rz:=match o with
 |some b=>.ok (.bl b) m
 |none=>.no
noncomputable def kW(r:Int->Int->Bool)(x y:Wd)(m:Me):Rz:=match x,y with
 |.int i,.int j=>.ok (.bl (r i j)) m
 |_,_=>.no
noncomputable def zX:List Wd->Option (List Int)
 |[]=>some []
 |.int i::r=>(zX r).map (i::·)
 |_=>none
noncomputable def iN(m:Me)(x y:Wd):Option Bool:=match y with
 |.ref l=>match m[l]? with
  |some (.dct ks _)=>match x with
   |.int _=>some false
   |.tup ws=>(zX ws).map λk=>decide (k∈ks)
   |_=>none
  |_=>none
 |_=>none
noncomputable def cL(op:Co)(x y:Wd)(m:Me):Rz:=match op with
 |.eq=>dw (b8 m zV x y) m
 |.ne=>dw ((b8 m zV x y).map (!·)) m
 |.notN=>match y,x with
  |.non,.non=>.ok (.bl false) m
  |.non,_=>.ok (.bl true) m
  |_,_=>.no
 |.isin=>match yD m y with
  |some ys=>dw (dZ (b8 m zV) x ys) m
  |none=>dw (iN m x y) m
 |.lt=>kW (λi j=>decide (i<j)) x y m
 |.le=>kW (λi j=>decide (i<=j)) x y m
 |.gt=>kW (λi j=>decide (j<i)) x y m
noncomputable def df(t:Tg)(x:Wd)(m:Me):Option Bool:=match t,x with
 |.int,.int _=>some true
 |.int,.bl _=>some true
 |.bool,.bl _=>some true
 |.str,.str _=>some true
 |.tuple,.tup _=>some true
 |.list,.rol _=>some true
 |t,.ref l=>match m[l]? with
  |some (.lst _)=>some (decide (t=.list))
  |some (.dct _ _)=>some (decide (t=.dict))
  |none=>none
 |_,_=>some false
noncomputable def aL(n d:Nat):Option Int->Nat
 |none=>d
 |some v=>if v<0 then(v+(n:Int)).toNat else min v.toNat n
noncomputable def qg:List Wd->Option Int
 |[]=>some 0
 |.int i::r=>(qg r).map (i+·)
 |_=>none
noncomputable def vR(m:Me):Wd->Option (List Wd)
 |.rol xs=>some xs
 |.ref l=>zn m l
 |_=>none
noncomputable def gh(m:Me):List Wd->Option (List (List Int))
 |[]=>some []
 |.ref l::r=>match zn m l with
  |some xs=>match zX xs,gh m r with
   |some k,some ks=>some (k::ks)
   |_,_=>none
  |none=>none
 |_=>none
noncomputable def pM:List (List Int)->Option (List Int)
 |r::rs=>if r.length≠0/\rs.all (λq=>q.length==r.length)=true then some (((r.length:Int)+1)::(r::rs).flatten)else none
 |[]=>none
noncomputable def oY(m:Me)(xs:List Wd):Option (List Int):=match zX xs with
 |some k=>some (0::k)
 |none=>(gh m xs).bind pM
noncomputable def fk(ns:List Int):List Int:=ns.mergeSort λa b=>decide (a<=b)
noncomputable def vv(b:dM)(ws:List Wd)(m:Me):Rz:=match b with
 |.sortI=>match ws with
  |[x]=>match (vR m x).bind zX with
   |some k=>if k.length<64 then alloc m ((fk k).map Wd.int)else .no
   |none=>.no
  |_=>.no
 |.sorted=>match ws with
  |[.ref l]=>match zn m l with
   |some xs=>if xs.length<2 then alloc m xs else .no
   |none=>.no
  |_=>.no
 |.len=>match ws with
  |[x]=>match yD m x with
   |some xs=>.ok (.int xs.length) m
   |none=>.no
  |_=>.no
 |.int=>match ws with
  |[.int i]=>.ok (.int i) m
  |[.bl b]=>.ok (.int (b2i b)) m
  |_=>.no
 |.list=>match ws with
  |[x]=>match yD m x with
   |some xs=>alloc m xs
   |none=>.no
  |_=>.no
 |.tuple=>match ws with
  |[x]=>match yD m x with
   |some xs=>.ok (.tup xs) m
   |none=>.no
  |_=>.no
 |.sum=>match ws with
  |[x]=>match (vR m x).bind qg with
   |some i=>.ok (.int i) m
   |none=>.no
  |_=>.no
noncomputable def dB(n:dO)(o:Wd)(ws:List Wd)(m:Me):Rz:=match o with
 |.ref l=>match m[l]? with
  |some (.lst xs)=>match n,ws with
   |.append,[y]=>if xs.length<aF then .ok .non (m.set l (.lst (xs++[y])))else .no
   |.pop,[]=>match xs[xs.length-1]? with
    |some y=>.ok y (m.set l (.lst xs.dropLast))
    |none=>.no
   |.reverse,[]=>.ok .non (m.set l (.lst xs.reverse))
   |_,_=>.no
  |_=>.no
 |_=>.no
noncomputable def zQ(x:Wd)(m:Me):Bool:=match x with
 |.ref l=>aK m l
 |_=>false
noncomputable def xY(x y:Wd)(m:Me):Rz:=match y with
 |.int i=>match yD m x with
  |some xs=>match (ix xs.length i).bind λj=>xs[j]? with
   |some v=>.ok v m
   |none=>.no
  |none=>.no
 |_=>.no
noncomputable def jx:Wd->Option (List Int)
 |.tup ws=>zX ws
 |_=>none
noncomputable def b9{α:Type}:List (List Int)->List α->List Int->Option α
 |k::ks,w::ws,q=>if k=q then some w else b9 ks ws q
 |_,_,_=>none
noncomputable def xg(ks:List (List Int))(q:List Int):List (List Int):=if q∈ks then ks else ks++[q]
noncomputable def zK{α:Type}:List (List Int)->List α->List Int->α->List α
 |k::ks,w::ws,q,v=>if k=q then v::ws else w::zK ks ws q v
 |_,ws,_,v=>ws++[v]
noncomputable def vS(x y:Wd)(m:Me):Rz:=match x with
 |.ref l=>match m[l]? with
  |some (.dct ks ws)=>match (jx y).bind (b9 ks ws)with
   |some v=>.ok v m
   |none=>.no
  |_=>.no
 |_=>.no
noncomputable def wv(x y v:Wd)(m:Me):Rz:=match x with
 |.ref l=>match m[l]? with
  |some (.dct ks ws)=>match jx y with
   |some q=>if ks.length<aF then .ok .non (m.set l (.dct (xg ks q) (zK ks ws q v)))else .no
   |none=>.no
  |_=>.no
 |_=>.no
noncomputable def eT(x:Wd)(lo hi:Option Int)(m:Me):Rz:=match x with
 |.tup xs=>if aL xs.length 0 lo=0/\aL xs.length xs.length hi=xs.length then .no else .ok (.tup ((xs.drop (aL xs.length 0 lo)).take (aL xs.length xs.length hi-aL xs.length 0 lo))) m
 |x=>match vR m x with
 |some xs=>alloc m ((xs.drop (aL xs.length 0 lo)).take (aL xs.length xs.length hi-aL xs.length 0 lo))
 |none=>.no
noncomputable def qh(lo st:Int):Nat->List Wd
 |0=>[]
 |n+1=>.int lo::qh (lo+st) st n
noncomputable def gi{α:Type}[DecidableEq α](k:α):List α->Nat->Option Nat
 |[],_=>none
 |x::r,i=>if x=k then some i else gi k r (i+1)
noncomputable def dz{α:Type}(p:α->Option Bool):List α->Option (List Bool)
 |[]=>some []
 |x::r=>match p x,dz p r with
  |some b,some bs=>some (b::bs)
  |_,_=>none
noncomputable def fj(x:Wd)(m:Me):Option (List Int):=match x with
 |.ref l=>(zn m l).bind zX
 |_=>none
noncomputable def fL(k:Dk)(x:Wd)(m:Me):Bool:=match k with
 |.trg=>true
 |.lix=>zQ x m
 |.lct=>zQ x m
 |_=>match x with
  |.ref l=>match m[l]? with
   |some (.dct _ _)=>true
   |_=>false
  |_=>false
noncomputable def vT(k:Dk)(x y z:Wd)(m:Me):Rz:=match k with
 |.get=>match x with
  |.ref l=>match m[l]? with
   |some (.dct ks ws)=>match jx y with
    |some q=>match b9 ks ws q with
     |some v=>.ok v m
     |none=>.ok z m
    |none=>.no
   |_=>.no
  |_=>.no
 |.trg=>match x with
  |.int j=>if -aF<=j/\j<=aF then .ok (.tup (qh 0 1 j.toNat)) m else .no
  |_=>.no
 |.lix=>match x with
  |.ref l=>match ((zn m l).bind (dz λw=>b8 m zV w y)).bind λbs=>gi true bs 0 with
   |some j=>.ok (.int (j:Nat)) m
   |none=>.no
  |_=>.no
 |.lct=>match y with
  |.int k=>match fj x m with
   |some ks=>.ok (.int (ks.countP (· == k):Nat)) m
   |none=>.no
  |_=>.no
noncomputable def ie(a b c:Int):Nat:=if c=1 then(b-a).toNat else if c=-1 then(a-b).toNat else if c=-2 then((a-b+1)/2).toNat else if c=2 then((b-a+1)/2).toNat else 0
noncomputable def fi(a b c:Wd)(m:Me):Rz:=match a,b,c with
 |.int a,.int b,.int c=>if -aF<=a/\a<=aF/\-aF<=b/\b<=aF/\(c=1\/c=-1\/c=-2\/c=2)then .ok (.tup (qh a c (ie a b c))) m else .no
 |_,_,_=>.no
noncomputable def Rz.bind(r:Rz)(f:Wd->Me->Rz):Rz:=match r with
 |.ok w m=>f w m
 |r=>r
noncomputable def yE(c e:Wd->Me->Rz):List Wd->List Wd->Me->Rz
 |[],acc,m=>alloc m acc
 |x::xs,acc,m=>(c x m).bind λb m1=>match b with
  |.bl true=>(e x m1).bind λy m2=>if acc.length<aF then yE c e xs (acc++[y]) m2 else .no
  |.bl false=>yE c e xs acc m1
  |_=>.no
noncomputable def yF(c e:Wd->Me->Rz)(l:Nat):Nat->Nat->List Wd->Me->Rz
 |0,_,_,_=>.no
 |k+1,i,acc,m=>match zn m l with
  |none=>.no
  |some xs=>match xs[i]? with
   |none=>alloc m acc
   |some x=>(c x m).bind λb m1=>match b with
    |.bl true=>(e x m1).bind λy m2=>if acc.length<aF then yF c e l k (i+1) (acc++[y]) m2 else .no
    |.bl false=>yF c e l k (i+1) acc m1
    |_=>.no
noncomputable def ls:Wd->Option (Wd×Wd)
 |.tup [x,y]=>some (x,y)
 |_=>none
noncomputable def xZ(m:Me):Wd->Option (List Wd)
 |.tup xs=>some xs
 |.ref l=>zn m l
 |_=>none
noncomputable def zp(k:Kd)(x y:Wd)(i:Nat)(m:Me):Option (Option (Wd×Wd)):=match k,x,y with
 |.zip,x,y=>match xZ m x,xZ m y with
  |some xs,some ys=>some (match xs[i]?,ys[i]? with
   |some x,some y=>some (x,y)
   |_,_=>none)
  |_,_=>none
 |.enum,.ref la,.int s=>match zn m la with
  |some xs=>some (xs[i]?.map λx=>(.int (s+(i:Int)),x))
  |none=>none
 |.prs,.ref la,.int _=>match zn m la with
  |some xs=>match xs[i]? with
   |none=>some none
   |some w=>(ls w).map some
  |none=>none
 |.ptp,.tup xs,.int _=>match xs[i]? with
  |none=>some none
  |some w=>(ls w).map some
 |_,_,_=>none
noncomputable def zL(c e:Wd->Wd->Me->Rz)(g:Nat->Me->Option (Option (Wd×Wd))):Nat->Nat->List Wd->Me->Rz
 |0,_,_,_=>.no
 |k+1,i,acc,m=>match g i m with
  |none=>.no
  |some none=>alloc m acc
  |some (some (x,y))=>(c x y m).bind λb m1=>match b with
   |.bl true=>(e x y m1).bind λz m2=>if acc.length<aF then zL c e g k (i+1) (acc++[z]) m2 else .no
   |.bl false=>zL c e g k (i+1) acc m1
   |_=>.no
noncomputable def zh:Wd->List Wd
 |.tup xs=>xs
 |_=>[]
noncomputable def af(cl:Nat->List Wd->Me->Rz):Ex->En->Me->Rz
 |.var i,env,m=>match env[i]? with
  |some (some w)=>.ok w m
  |_=>.no
 |.lit w,_,m=>.ok w m
 |.bin op a b,env,m=>(af cl a env m).bind λx m1=>(af cl b env m1).bind λy m2=>cE op x y m2
 |.neg a,env,m=>(af cl a env m).bind λx m1=>match x with
  |.int i=>.ok (.int (-i)) m1
  |_=>.no
 |.not a,env,m=>(af cl a env m).bind λx m1=>match x with
  |.bl b=>.ok (.bl (! b)) m1
  |_=>.no
 |.and a b,env,m=>(af cl a env m).bind λx m1=>match x with
  |.bl true=>af cl b env m1
  |.bl false=>.ok (.bl false) m1
  |_=>.no
 |.or a b,env,m=>(af cl a env m).bind λx m1=>match x with
  |.bl false=>af cl b env m1
  |.bl true=>.ok (.bl true) m1
  |_=>.no
 |.cmp op a b,env,m=>(af cl a env m).bind λx m1=>(af cl b env m1).bind λy m2=>cL op x y m2
 |.chain p q a b c,env,m=>(af cl a env m).bind λx m1=>(af cl b env m1).bind λy m2=>(cL p x y m2).bind λz m3=>match z with
  |.bl true=>(af cl c env m3).bind λu m4=>cL q y u m4
  |.bl false=>.ok (.bl false) m3
  |_=>.no
 |.ife c a b,env,m=>(af cl c env m).bind λx m1=>match x with
  |.bl true=>af cl a env m1
  |.bl false=>af cl b env m1
  |_=>.no
 |.unit,_,m=>.ok (.tup []) m
 |.pair a b,env,m=>(af cl a env m).bind λx m1=>(af cl b env m1).bind λy m2=>.ok (.tup (x::zh y)) m2
 |.call k a,env,m=>(af cl a env m).bind λx m1=>cl k (zh x) m1
 |.blt b a,env,m=>(af cl a env m).bind λx m1=>vv b (zh x) m1
 |.isi t a,env,m=>(af cl a env m).bind λx m1=>dw (df t x m1) m1
 |.lst a,env,m=>(af cl a env m).bind λx m1=>alloc m1 (zh x)
 |.tup a,env,m=>(af cl a env m).bind λx m1=>if(zh x).length<=aF then .ok (.tup (zh x)) m1 else .no
 |.dict0,_,m=>.ok (.ref m.length) (m++[.dct [] []])
 |.idx a b,env,m=>(af cl a env m).bind λx m1=>(af cl b env m1).bind λy m2=>xY x y m2
 |.dget a b,env,m=>(af cl a env m).bind λx m1=>(af cl b env m1).bind λy m2=>vS x y m2
 |.dop k a b c,env,m=>(af cl a env m).bind λx m1=>match fL k x m1 with
  |true=>(af cl b env m1).bind λy m2=>(af cl c env m2).bind λz m3=>vT k x y z m3
  |false=>.no
 |.slL a lo,env,m=>(af cl a env m).bind λx m1=>(af cl lo env m1).bind λy m2=>match y with
  |.int i=>eT x (some i) none m2
  |_=>.no
 |.meth n o a,env,m=>(af cl o env m).bind λx m1=>match zQ x m1 with
  |true=>(af cl a env m1).bind λy m2=>dB n x (zh y) m2
  |false=>.no
 |.rng a b c,env,m=>(af cl a env m).bind λx m1=>(af cl b env m1).bind λy m2=>(af cl c env m2).bind λz m3=>fi x y z m3
 |.comp elt it cond,env,m=>(af cl it env m).bind λx m1=>match x with
  |.tup xs=>yE (λx m=>af cl cond (env++[some x]) m) (λx m=>af cl elt (env++[some x]) m) xs [] m1
  |.rol xs=>yE (λx m=>af cl cond (env++[some x]) m) (λx m=>af cl elt (env++[some x]) m) xs [] m1
  |.ref l=>yF (λx m=>af cl cond (env++[some x]) m) (λx m=>af cl elt (env++[some x]) m) l (aF+1) 0 [] m1
  |_=>.no
 |.compP k elt a b cond,env,m=>(af cl a env m).bind λx m1=>(af cl b env m1).bind λy m2=>
  zL (λu v m=>af cl cond (env++[some u]++[some v]) m) (λu v m=>af cl elt (env++[some u]++[some v]) m) (zp k x y) (aF+1) 0 [] m2
noncomputable def ww(body:Wd->En->Me->Rs):List Wd->En->Me->Rs
 |[],env,m=>.next env m
 |x::xs,env,m=>match body x env m with
  |.next e1 m1=>ww body xs e1 m1
  |r=>r
noncomputable def xl(body:Wd->En->Me->Rs)(l:Nat):Nat->Nat->En->Me->Rs
 |0,_,_,_=>.no
 |k+1,i,env,m=>match zn m l with
  |none=>.no
  |some xs=>match xs[i]? with
   |none=>.next env m
   |some x=>match body x env m with
    |.next e1 m1=>xl body l k (i+1) e1 m1
    |r=>r
noncomputable def yS(body:Wd->En->Me->Rs)(l n:Nat):Nat->Nat->En->Me->Rs
 |0,_,_,_=>.no
 |k+1,i,env,m=>match m[l]? with
  |some (.dct ks _)=>if ks.length=n then match ks[i]? with
   |none=>.next env m
   |some q=>match body (.tup (q.map Wd.int)) env m with
    |.next e1 m1=>yS body l n k (i+1) e1 m1
    |r=>r
   else .no
  |_=>.no
noncomputable def wz(m:Me)(l:Nat):Nat:=match m[l]? with
 |some (.dct ks _)=>ks.length
 |_=>0
noncomputable def yX(body:Wd->En->Me->Rs)(g:Nat->Me->Option (Option (Wd×Wd))):Nat->Nat->En->Me->Rs
 |0,_,_,_=>.no
 |k+1,i,env,m=>match g i m with
  |none=>.no
  |some none=>.next env m
  |some (some (x,y))=>match body (.tup [x,y]) env m with
   |.next e1 m1=>yX body g k (i+1) e1 m1
   |r=>r
noncomputable def vU(c:En->Me->Rz)(body:En->Me->Rs):Nat->En->Me->Rs
 |0,_,_=>.no
 |k+1,env,m=>match c env m with
  |.ok (.bl true) m1=>match body env m1 with
   |.next e1 m2=>vU c body k e1 m2
   |r=>r
  |.ok (.bl false) m1=>.next env m1
  |_=>.no
noncomputable def Rz.bindS(r:Rz)(env:En)(f:Wd->Me->Rs):Rs:=match r with
 |.ok w m=>f w m
 |.no=>.no
noncomputable def io(body:Wd->En->Me->Rs)(w:Wd)(env:En)(m:Me):Rs:=match w with
 |.tup xs=>ww body xs env m
 |.rol xs=>ww body xs env m
 |.ref l=>xl body l (aF+1) 0 env m
 |_=>.no
noncomputable def cW(i j:Nat):Wd->En->Option En:=λw env=>match w with
 |.tup [a,b]=>some ((env.set i (some a)).set j (some b))
 |_=>none
noncomputable def zM(st:Wd->En->Option En)(b:En->Me->Rs):Wd->En->Me->Rs:=λw env m=>match st w env with
 |some env'=>b env' m
 |none=>.no
noncomputable def fK(op:Bo)(x y:Wd)(m:Me)(env:En)(f:Wd->Me->Rs):Rs:=match x,y with
 |.int _,.int _=>(cE op x y m).bindS env f
 |_,_=>.no
noncomputable def aT(cl:Nat->List Wd->Me->Rz):Sm->En->Me->Rs
 |.skip,env,m=>.next env m
 |.seq a b,env,m=>match aT cl a env m with
  |.next e1 m1=>aT cl b e1 m1
  |r=>r
 |.asg i e,env,m=>(af cl e env m).bindS env λw m1=>.next (env.set i (some w)) m1
 |.aug i op e,env,m=>match env[i]? with
  |some (some x)=>(af cl e env m).bindS env λy m1=>fK op x y m1 env λz m2=>.next (env.set i (some z)) m2
  |_=>.no
 |.ite c a b,env,m=>(af cl c env m).bindS env λx m1=>match x with
  |.bl true=>aT cl a env m1
  |.bl false=>aT cl b env m1
  |_=>.no
 |.forv i it body,env,m=>(af cl it env m).bindS env λw m1=>io (λx e m=>aT cl body (e.set i (some x)) m) w env m1
 |.while c body,env,m=>vU (af cl c) (aT cl body) 1000000 env m
 |.ret e,env,m=>(af cl e env m).bindS env λw m1=>.ret w m1
 |.expr e,env,m=>(af cl e env m).bindS env λ_ m1=>.next env m1
 |.forZ i j a b body,env,m=>(af cl a env m).bindS env λx m1=>(af cl b env m1).bindS env λy m2=>yX (zM (cW i j) (aT cl body)) (zp .zip x y) (aF+1) 0 env m2
 |.dput x k e,env,m=>(af cl e env m).bindS env λv m1=>(af cl (.var x) env m1).bindS env λd m2=>(af cl k env m2).bindS env λq m3=>(wv d q v m3).bindS env λ_ m4=>.next env m4
 |.forD i x body,env,m=>(af cl (.var x) env m).bindS env λw m1=>match w with
  |.ref l=>yS (λq e m=>aT cl body (e.set i (some q)) m) l (wz m1 l) (aF+1) 0 env m1
  |_=>.no
 |.never,_,_=>.no
noncomputable def kI(a b c d:Ex):Ex:=.tup (.pair a (.pair b (.pair c (.pair d .unit))))
noncomputable def du(k:List Nat)(a:Ex):Ex:=.tup (.pair (.lit (.str k)) (.pair a .unit))
noncomputable def lc(n:Nat)(k1 k2 k3 k4:List Nat)(a b c d mx elt:Ex):Ex:=.compP .ptp elt (kI (du k1 a) (du k2 b) (du k3 c) (du k4 d)) (.lit (.int 0)) (.cmp .eq (.var (n+1)) mx)
noncomputable def cV(x y:Int):Ex:=.tup (.pair (.lit (.int x)) (.pair (.lit (.int y)) .unit))
noncomputable def gj(i:Nat)(k1 k2 k3 k4:List Nat):Ex:=.ife (.cmp .eq (.var i) (.lit (.str k1))) (.lit (.int 0)) (.ife (.cmp .eq (.var i) (.lit (.str k2))) (.lit (.int 1)) (.ife (.cmp .eq (.var i) (.lit (.str k3))) (.lit (.int 2)) (.ife (.cmp .eq (.var i) (.lit (.str k4))) (.lit (.int 3)) (.lit .non))))
noncomputable def vV{α:Type}(s k1 k2 k3 k4:List Nat)(a b c d:α):Option α:=if s=k1 then some a else if s=k2 then some b else if s=k3 then some c else if s=k4 then some d else none
set_option genInjectivity false in
structure Fn where
 ar:Nat
 sz:Nat
 body:Sm
deriving Inhabited
noncomputable def yi(fn:Fn)(ws:List Wd):En:=ws.map some++Qt (fn.sz-ws.length) none
noncomputable def y7(cl:Nat->List Wd->Me->Rz)(fn:Fn)(ws:List Wd)(m:Me):Rz:=
 if ws.length=fn.ar then match aT cl fn.body (yi fn ws) m with
  |.next _ m1=>.ok .non m1
  |.ret w m1=>.ok w m1
  |_=>.no
 else .no
noncomputable def ye(T:List Fn):Nat->Nat->List Wd->Me->Rz
 |0,_,_,_=>.no
 |d+1,k,ws,m=>match T[k]? with
  |some fn=>y7 (ye T d) fn ws m
  |none=>.no
end Mini
namespace Mini
open PySem PySem.Spec PyProof.Rows L2
abbrev St:=L2.St
noncomputable def KL(K:Qa)(a:Addr)(xs:List V):Prop:=
 ∃(o:Obj) (its:Array Value) (n:Nat),K.lookup a=some o/\o.cls=.type "list" /\ o.dict=none/\o.data=.seq its n/\its.size<=sizeLine/\av xs its.toList
noncomputable def en(K:Qa)(H:Hp)(a:Addr)(vs:List V):Prop:=(∃o,H a=some (.frz o (.lst vs)))\/KL K a vs
def en.sq {K:Qa}(h:en K H a vs):bt K H a vs:=by
 rcases h with h|h
 .exact .inl (.inr h)
 .exact .inr h
mutual
noncomputable def ai(K:Qa)(as:List Addr)(H:Hp):Wd->V->Prop
 |.non,v=>v=.non
 |.bl b,v=>v=.bl b
 |.int i,v=>v=.int i
 |.str s,v=>v=.str ⟨s.toArray⟩
 |.tup xs,v=>∃a vs,v=.ref a/\bJ K H a vs/\ae K as H xs vs
 |.rol xs,v=>∃a vs,v=.ref a/\en K H a vs/\ae K as H xs vs
 |.ref l,v=>∃a,as[l]?=some a/\v=.ref a
noncomputable def ae(K:Qa)(as:List Addr)(H:Hp):List Wd->List V->Prop
 |[],vs=>vs=[]
 |x::xs,vs=>∃v r,vs=v::r/\ai K as H x v/\ae K as H xs r
end
noncomputable def bh(K:Qa)(as:List Addr)(H:Hp):Ob->Addr->Prop
 |.lst ws,a=>∃vs,H a=some (.lst vs)/\ae K as H ws vs
 |.dct ks ws,a=>∃xs vs,yC K H a xs/\xs.map (·.1)=ks/\ae K as H ws vs/\av vs (xs.map (·.2.2))/\ks.Nodup
structure aJ(K:Qa)(as:List Addr)(m:Me)(H:Hp):Prop where
 len:as.length=m.length
 nd:as.Nodup
 obj:∀(l:Nat) (a:Addr) (o:Ob),as[l]?=some a->m[l]?=some o->bh K as H o a
structure Step(as:List Addr)(H:Hp)(as':List Addr)(H':Hp):Prop where
 pre:∃t,as'=as++t
 frame:∀b o,H b=some o->b∉as->H' b=some o
 fresh:∀a∈as',a∈as\/H a=none
section
variable{K:Qa}{as as' as2:List Addr}{H H' H2:Hp}{m m':Me}
def Step.refl:Step as H as H:=⟨⟨[],by simp⟩,λ_ _ h _=>h,λ_ h=>.inl h⟩
def Step.get (T:Step as H as' H'){l:Nat}(h:as[l]?=some a):as'[l]?=some a:=by
 obtain⟨t,rfl⟩:=T.pre;rw[Qh (Qb.mp h).1];exact h
def Step.out (T:Step as H as' H')(h:H b=some o)(hb:b∉as):b∉as':=λz=>by
 rcases T.fresh b z with q|q
 .exact hb q
 .rw[h]at q;cases q
def Step.trans(T:Step as H as' H')(U:Step as' H' as2 H2):Step as H as2 H2:=by
 refine⟨?_,λb o h hb=>U.frame b o (T.frame b o h hb) (T.out h hb),λa ha=>?_⟩
 .obtain ⟨t,rfl⟩:=T.pre;obtain⟨u,rfl⟩:=U.pre;exact⟨t++u,by simp⟩
 .rcases U.fresh a ha with q|q
  .exact T.fresh a q
  .by_cases z:a∈as
   .exact .inl z
   .refine .inr ?_;cases e:H a with
    |none=>rfl
    |some o=>rw[T.frame a o e z]at q;cases q
def aJ.get (S:aJ K as m H){l:Nat}(h:m[l]?=some o):∃a,as[l]?=some a/\bh K as H o a:=by
 have hl:l<as.length:=by rw[S.len];exact(Qb.mp h).1
 exact⟨as[l],by simp[hl],S.obj l _ o (by simp[hl]) h⟩
noncomputable def LD:HO->Prop
 |.lst _=>True
 |.ext _=>True
 |.dK _=>True
 |_=>False
def aJ.isLst (S:aJ K as m H)(h:a∈as):∃o,H a=some o/\LD o:=by
 obtain⟨l,hl,rfl⟩:=Wq.mp h;have hm:l<m.length:=by rw[<-S.len];exact hl
 have q:=S.obj l as[l] m[l] (by simp[hl]) (by simp[hm]);cases e:m[l]with
 |lst ws=>
  rw[e]at q;obtain⟨vs,h1,_⟩:=q;exact⟨_,h1,trivial⟩
 |dct ks ws=>
  rw[e]at q;obtain⟨xs,vs,h1,_⟩:=q;exact⟨_,h1.1,trivial⟩
def ED (nt:∀a∈as,∃o,H a=some o/\LD o)(T:Step as H as' H')(h:bJ K H a vs):bJ K H' a vs:=by
 rcases h with h|h
 .have hn:a∉as:=λz=>by
   obtain⟨u,e,hu⟩:=nt a z;rcases h with h|⟨o,h⟩<;>rw[e]at h<;>cases h<;>exact hu
  rcases h with h|⟨o,h⟩
  .exact .inl (.inl (T.frame _ _ h hn))
  .exact .inl (.inr ⟨o,T.frame _ _ h hn⟩)
 .exact .inr h
def EC (nt:∀a∈as,∃o,H a=some o/\LD o)(T:Step as H as' H')(h:en K H a vs):en K H' a vs:=by
 rcases h with⟨o,h⟩|h
 .have hn:a∉as:=λz=>by
   obtain⟨u,e,hu⟩:=nt a z;rw[e]at h;cases h;exact hu
  exact .inl ⟨o,T.frame _ _ h hn⟩
 .exact .inr h
structure Kp(K:Qa)(H H':Hp):Prop where
 t:∀a vs,bJ K H a vs->bJ K H' a vs
 f:∀a vs,en K H a vs->en K H' a vs
def aJ.kp(S:aJ K as m H)(T:Step as H as' H'):Kp K H H':=⟨λ_ _ h=>ED (λ_ z=>S.isLst z) T h,λ_ _ h=>EC (λ_ z=>S.isLst z) T h⟩
def Kp.updL{D:Addr}{u o:HO}(h:H D=some u)(hu:LD u):Kp K H (L2.aG H D o):=by
 refine⟨λa vs q=>?_,λa vs q=>?_⟩
 .rcases q with (q|⟨x,q⟩)|q
  .exact .inl (.inl (by rw[ze (by rintro rfl;rw[h]at q;cases q;exact hu)];exact q))
  .exact .inl (.inr ⟨x,by rw[ze (by rintro rfl;rw[h]at q;cases q;exact hu)];exact q⟩)
  .exact .inr q
 .rcases q with⟨x,q⟩|q
  .exact .inl ⟨x,by rw[ze (by rintro rfl;rw[h]at q;cases q;exact hu)];exact q⟩
  .exact .inr q
def Kp.upd{D:Addr}{ys:List V}{o:HO}(h:H D=some (.lst ys)):Kp K H (L2.aG H D o):=Kp.updL h trivial
mutual
theorem vW(k:Kp K H H')(g:∀(l:Nat) (a:Addr),as[l]?=some a->as'[l]?=some a):∀(w:Wd) (v:V),ai K as H w v->ai K as' H' w v
 |.non,_,h=>by rw[ai]at h ⊢;exact h
 |.bl _,_,h=>by rw[ai]at h ⊢;exact h
 |.int _,_,h=>by rw[ai]at h ⊢;exact h
 |.str _,_,h=>by rw[ai]at h ⊢;exact h
 |.tup xs,v,h=>by
  rw[ai]at h ⊢;obtain⟨a,vs,e,q,r⟩:=h;exact⟨a,vs,e,k.t _ _ q,aY k g xs vs r⟩
 |.rol xs,v,h=>by
  rw[ai]at h ⊢;obtain⟨a,vs,e,q,r⟩:=h;exact⟨a,vs,e,k.f _ _ q,aY k g xs vs r⟩
 |.ref l,v,h=>by
  rw[ai]at h ⊢;obtain⟨a,q,e⟩:=h;exact⟨a,g _ _ q,e⟩
theorem aY(k:Kp K H H')(g:∀(l:Nat) (a:Addr),as[l]?=some a->as'[l]?=some a):∀(ws:List Wd) (vs:List V),ae K as H ws vs->ae K as' H' ws vs
 |[],_,h=>by rw[ae]at h ⊢;exact h
 |x::xs,vs,h=>by
  rw[ae]at h ⊢;obtain⟨v,r,e,q,t⟩:=h;exact⟨v,r,e,vW k g x v q,aY k g xs r t⟩
end
def bh.mono{ob:Ob}{a:Addr}(k:Kp K H H')(g:∀(l:Nat) (a:Addr),as[l]?=some a->as'[l]?=some a)(e:∀o,H a=some o->H' a=some o)(h:bh K as H ob a):bh K as' H' ob a:=by
 cases ob with
 |lst ws=>obtain⟨vs,h1,h2⟩:=h;exact⟨vs,e _ h1,aY k g _ _ h2⟩
 |dct ks ws=>obtain⟨xs,vs,h1,h2,h3,h4⟩:=h;exact⟨xs,vs,⟨e _ h1.1,λx hx=>k.t _ _ (h1.2 x hx)⟩,h2,aY k g _ _ h3,h4⟩
def ai.mono{w:Wd}{v:V}(h:ai K as H w v)(S:aJ K as m H)(T:Step as H as' H'):ai K as' H' w v:=vW (S.kp T) (λ_ _ e=>T.get e) w v h
def ae.mono{ws:List Wd}{vs:List V}(h:ae K as H ws vs)(S:aJ K as m H)(T:Step as H as' H'):ae K as' H' ws vs:=aY (S.kp T) (λ_ _ e=>T.get e) ws vs h
def ae.kp{ws:List Wd}{vs:List V}(h:ae K as H ws vs)(k:Kp K H H'):ae K as H' ws vs:=aY k (λ_ _ e=>e) ws vs h
def ai.kp{w:Wd}{v:V}(h:ai K as H w v)(k:Kp K H H'):ai K as H' w v:=vW k (λ_ _ e=>e) w v h
def am:ai K as H .non v↔v=.non:=by rw[ai]
def aj:ai K as H (.bl b) v↔v=.bl b:=by rw[ai]
def aa:ai K as H (.int i) v↔v=.int i:=by rw[ai]
def az:ai K as H (.str s) v↔v=.str ⟨s.toArray⟩:=by rw[ai]
def ah:ai K as H (.tup xs) v↔∃a vs,v=.ref a/\bJ K H a vs/\ae K as H xs vs:=by rw[ai]
def ba:ai K as H (.rol xs) v↔∃a vs,v=.ref a/\en K H a vs/\ae K as H xs vs:=by rw[ai]
def aE:ai K as H (.ref l) v↔∃a,as[l]?=some a/\v=.ref a:=by rw[ai]
def aA:ae K as H [] vs↔vs=[]:=by rw[ae]
def ao:ae K as H (x::xs) vs↔∃v r,vs=v::r/\ai K as H x v/\ae K as H xs r:=by rw[ae]
theorem ae.length:∀{xs:List Wd}{vs:List V},ae K as H xs vs->xs.length=vs.length
 |[],vs,h=>by rw[aA.mp h];rfl
 |x::xs,vs,h=>by
  obtain⟨v,r,rfl,_,t⟩:=ao.mp h;simp[ae.length t]
theorem ae.get:∀{xs:List Wd}{vs:List V}{i:Nat}{x:Wd},ae K as H xs vs->xs[i]?=some x->∃v,vs[i]?=some v/\ai K as H x v
 |[],_,_,_,_,e=>by simp at e
 |x::xs,vs,0,y,h,e=>by
  obtain⟨v,r,rfl,q,t⟩:=ao.mp h;simp at e;subst e;exact⟨v,rfl,q⟩
 |x::xs,vs,i+1,y,h,e=>by
  obtain⟨v,r,rfl,q,t⟩:=ao.mp h;obtain⟨u,h1,h2⟩:=ae.get (i:=i) (x:=y) t (by simpa using e);exact⟨u,by simpa using h1,h2⟩
def ae.back:∀{xs:List Wd}{vs:List V}{i:Nat}{v:V},ae K as H xs vs->vs[i]?=some v->∃x,xs[i]?=some x/\ai K as H x v:=λ{xs vs i v} h e=>by
 have hi:i<xs.length:=by rw[h.length];exact(Qb.mp e).1
 obtain⟨u,h1,h2⟩:=h.get (i:=i) (x:=xs[i]) (by simp[hi]);rw[e]at h1;cases h1;exact⟨xs[i],by simp[hi],h2⟩
theorem ae.append:∀{xs ys:List Wd}{vs us:List V},ae K as H xs vs->ae K as H ys us->ae K as H (xs++ys) (vs++us)
 |[],ys,vs,us,h,h'=>by rw[aA.mp h];exact h'
 |x::xs,ys,vs,us,h,h'=>by
  obtain⟨v,r,rfl,q,t⟩:=ao.mp h;exact ao.mpr ⟨v,r++us,rfl,q,t.append h'⟩
def ae.one{x:Wd}{v:V}(h:ai K as H x v):ae K as H [x] [v]:=ao.mpr ⟨v,[],rfl,h,aA.mpr rfl⟩
set_option tactic.hygienic true in
theorem ae.take:∀{xs:List Wd}{vs:List V}(n:Nat),ae K as H xs vs->ae K as H (xs.take n) (vs.take n)
 |_,_,0,_=>aA.mpr rfl
 |[],vs,n+1,h=>by rw[aA.mp h];exact aA.mpr rfl
 |x::xs,vs,n+1,h=>by
  obtain⟨v,r,rfl,q,t⟩:=ao.mp h;exact ao.mpr ⟨v,r.take n,rfl,q,t.take n⟩
theorem ae.drop:∀{xs:List Wd}{vs:List V}(n:Nat),ae K as H xs vs->ae K as H (xs.drop n) (vs.drop n)
 |_,_,0,h=>h
 |[],vs,n+1,h=>by rw[aA.mp h];exact aA.mpr rfl
 |x::xs,vs,n+1,h=>by
  obtain⟨v,r,rfl,q,t⟩:=ao.mp h;exact t.drop n
theorem ae.reverse:∀{xs:List Wd}{vs:List V},ae K as H xs vs->ae K as H xs.reverse vs.reverse
 |[],vs,h=>by rw[aA.mp h];exact aA.mpr rfl
 |x::xs,vs,h=>by
  obtain⟨v,r,rfl,q,t⟩:=ao.mp h;rw[Q5,Q5];exact t.reverse.append (.one q)
theorem ae.dropLast:∀{xs:List Wd}{vs:List V},ae K as H xs vs->ae K as H xs.dropLast vs.dropLast:=λ{xs vs} h=>by
 rw[List.dropLast_eq_take,List.dropLast_eq_take,h.length];exact h.take _
theorem ae.rep (h:ae K as H xs vs):∀k:Nat,ae K as H (Qt k xs).flatten (Qt k vs).flatten
 |0=>aA.mpr rfl
 |k+1=>by
  rw[QX,QX,Q6,Q6];exact h.append (ae.rep h k)
structure aC(K:Qa)(as:List Addr)(H:Hp)(env:En)(σ:St):Prop where
 len:env.length=σ.length
 get:∀(i:Nat) (w:Wd),env[i]?=some (some w)->∃v,σ[i]?=some (some v)/\ai K as H w v
theorem aC.mono{env:En}{σ:St}(G:aC K as H env σ)(S:aJ K as m H)(T:Step as H as' H'):aC K as' H' env σ:=
 ⟨G.len,λi w e=>let⟨v,h1,h2⟩:=G.get i w e;⟨v,h1,h2.mono S T⟩⟩
theorem aC.kp{env:En}{σ:St}(G:aC K as H env σ)(k:Kp K H H'):aC K as H' env σ:=
 ⟨G.len,λi w e=>let⟨v,h1,h2⟩:=G.get i w e;⟨v,h1,h2.kp k⟩⟩
theorem aC.set{env:En}{σ:St}(G:aC K as H env σ){w:Wd}{v:V}(h:ai K as H w v)(i:Nat):aC K as H (env.set i (some w)) (σ.set i (some v)):=by
 refine⟨by simp[G.len],λj x e=>?_⟩;by_cases hj:j=i
 .subst hj;have hl:j<env.length:=by
   have:=(Qb.mp e).1;simpa using this
  rw[QW hl]at e;cases e;exact⟨v,QW (by rw[<-G.len];exact hl),h⟩
 .rw[Qo (Ne.symm hj)]at e;obtain⟨u,h1,h2⟩:=G.get j x e;exact⟨u,by rw[Qo (Ne.symm hj)];exact h1,h2⟩
def aC.push{env:En}{σ:St}(G:aC K as H env σ){w:Wd}{v:V}(h:ai K as H w v):aC K as H (env++[some w]) (σ++[some v]):=by
 refine⟨by simp[G.len],λj x e=>?_⟩;by_cases hj:j<env.length
 .rw[Qh hj]at e;obtain⟨u,h1,h2⟩:=G.get j x e;exact⟨u,by rw[Qh (by rw[<-G.len];exact hj)];exact h1,h2⟩
 .rw[Qi (by lia)]at e;have hz:j-env.length=0:=by
   cases hq:j-env.length with
   |zero=>rfl
   |succ k=>rw[hq]at e;simp at e
  rw[hz]at e;simp at e;subst e;refine⟨v,?_,h⟩;rw[Qi (by rw[<-G.len];lia),<-G.len,hz];rfl
noncomputable def ak(K:Qa)(as:List Addr)(H:Hp)(Q:VK)(r:Rz):Prop:=match r with
 |.ok w m'=>∀as' H' v,Step as H as' H'->aJ K as' m' H'->ai K as' H' w v->Q v H'
 |_=>False
def ak.step{Q:VK}{r:Rz}(h:ak K as H Q r)(T:Step as H as' H'):ak K as' H' Q r:=by
 cases r with
 |ok w m'=>exact λas2 H2 v U S R=>h as2 H2 v (T.trans U) S R
 |no=>exact h
theorem ak.bind{Q Q1:VK}{r:Rz}{f:Wd->Me->Rz}(h:ak K as H Q (r.bind f))
  (k:∀w m' as' H' v,Step as H as' H'->aJ K as' m' H'->ai K as' H' w v->ak K as' H' Q (f w m')->Q1 v H'):ak K as H Q1 r:=by
 cases r with
 |ok w m'=>exact λas2 H2 v U S R=>k w m' as2 H2 v U S R (ak.step (r:=f w m') h U)
 |no=>exact h
def eD (h:ak K as H Q (r.bind f))(T:Step as H as' H')(k:∀w m2 as2 H2 v,Step as' H' as2 H2->aJ K as2 m2 H2->ai K as2 H2 w v->ak K as H Q (f w m2)->Q1 v H2):ak K as' H' Q1 r:=by
 cases r with
 |ok w m'=>exact λas2 H2 v U S R=>k w m' as2 H2 v U S R h
 |no=>exact h
noncomputable def aH(K:Qa)(g:En->Me->Rz):TE:=λσ H Q=>∃as env m,aJ K as m H/\aC K as H env σ/\ak K as H Q (g env m)
noncomputable def yO(K:Qa)(g:En->Me->Rz):TT:=λσ H Q=>aH K g σ H λv H'=>∃b,v=.bl b/\Q b H'
theorem ak.ok (h:ak K as H Q (.ok w m))(S:aJ K as m H)(R:ai K as H w v):Q v H:=h as H v .refl S R
end
def PE.imp{X:Cx}{e:Expr}{t t':TE}(h:PE X e t)(k:∀σ H Q,t' σ H Q->t σ H Q):PE X e t':=λpins s σ H Q I q=>h pins s σ H Q I (k σ H Q q)
def PT.imp{X:Cx}{e:Expr}{t t':TT}(h:PT X e t)(k:∀σ H Q,t' σ H Q->t σ H Q):PT X e t':=λpins s σ H Q I q=>h pins s σ H Q I (k σ H Q q)
def PA.imp{X:Cx}{es:List Expr}{t t':TA}(h:PA X es t)(k:∀σ H Q,t' σ H Q->t σ H Q):PA X es t':=λpos pins s σ H Q I q=>h pos pins s σ H Q I (k σ H Q q)
def PS.imp{X:Cx}{st:Stmt}{t t':TS}(h:PS X st t)(k:∀D σ H,t' D σ H->t D σ H):PS X st t':=λpins s σ H D I q=>h pins s σ H D I (k D σ H q)
def cb.imp{X:Cx}{st:List Stmt}{t t':TS}(h:cb X st t)(k:∀D σ H,t' D σ H->t D σ H):cb X st t':=λpins s σ H D I q=>h pins s σ H D I (k D σ H q)
end Mini
namespace L2
open PySem PySem.Spec PyProof.Rows
section
variable{X:Cx}
noncomputable def cy(i j:Int):Prop:=i.natAbs.log2<100000/\j.natAbs.log2<100000
noncomputable def pL(_ j:Int):Prop:=0<j/\j.natAbs.log2<9000
def cy.ok (h:cy i j):IntMulOk i j:=by
 have q:∀{k:Int},k.natAbs.log2<100000->Builtin.Int.intBits k<=2^20:=λ{k} hk=>by
  refine PyProof.Rows.intBits_le (Qe Nat.lt_log2_self (Nat.pow_le_pow_right (by decide) ?_));have:(2:Nat)^20=1048576:=by decide
  lia
 exact IntMulOk.of_bits (q h.1) (q h.2)
def Dl:bY X (IF .Mult) (rI cy λi j=>.int (i*j)):=eG λ_ _ _ _ _ _ _ hc q=>mul_int q hc.ok
def EB:bY X (inplaceOp .Mult) (rI cy λi j=>.int (i*j)):=eG λ_ _ _ _ _ _ _ hc q=>imul_int q hc.ok
def EA:bY X (IF .FloorDiv) (rI pL λi j=>.int (i/j)):=eG λi j _ _ _ _ _ hc q=>by
 have h1:(0:Int)<j:=hc.1;exact floordiv_int (by lia) (by rw[Wx i (by lia)];exact q) (.inl (PyProof.noPylong_of_log2 hc.2))
noncomputable def pK(K:Qa):R2:=λx y H Q=>∃a b ys,x=.ref a/\y=.ref b/\bJ K H a []/\bJ K H b ys/\Q (.ref b) H
def Dj:bY X (IF .Add) (pK X.K):=by
 intro pins s σ H x y v u Q I rx ry h;obtain⟨a,b,ys,rfl,rfl,ha,hb,q⟩:=h;cases rx;cases ry;obtain⟨its,r1,p1,_⟩:=I.tuple ha;obtain⟨its2,r2,p2,_⟩:=I.tuple hb;cases r1;obtain⟨⟨c1,d1,f1,l1⟩,g1,e1,n1,k1⟩:=p1;obtain⟨⟨c2,d2,f2,l2⟩,g2,e2,n2,k2⟩:=p2;simp only at e1 e2 k1 k2;subst e1 e2 k1 k2;have m:=tuple_addW0 a b #[] its2.toArray n1 n2 d1 d2 l1 l2 rfl;exact IU ⟨_,g1,rfl⟩ ⟨_,g2,rfl⟩ IV IW PySem.F.slot_tuple_add PySem.F.entry_tuple_add (PySem.F.args_tuple_add_2 _ _) m ⟨g1,g2,.ref b,H,I,rfl,q⟩
end
end L2
namespace Mini
open PySem PySem.Spec PyProof.Rows L2
section
variable{K:Qa}{as:List Addr}{H H':Hp}{m:Me}{Q:VK}{a p:Addr}{l:Nat}{ws xs:List Wd}{vs us:List V}
def yq:aF<=sizeLine:=by rw[sizeLine_eq];decide
def aJ.new(S:aJ K as m H)(hp:H p=none):p∉as:=λz=>by
 obtain⟨us,e,_⟩:=S.isLst z;rw[hp]at e;cases e
def aJ.alloc(S:aJ K as m H)(hp:H p=none)(R:ae K as H ws vs):Step as H (as++[p]) (aG H p (.lst vs))/\aJ K (as++[p]) (m++[.lst ws]) (aG H p (.lst vs)):=by
 have hn:=S.new hp;have T:Step as H (as++[p]) (aG H p (.lst vs)):=⟨⟨[p],rfl⟩,λb o h _=>by rw[ze (zo h hp)];exact h,λb hb=>by
  rcases QN.mp hb with z|z
  .exact .inl z
  .exact .inr (by rw[QK.mp z];exact hp)⟩
 refine⟨T,⟨by simp[S.len],?_,λl b o h1 h2=>?_⟩⟩
 .refine QB.mpr ⟨S.nd,by simp,λx hx y hy=>?_⟩;rw[QK.mp hy];rintro rfl;exact hn hx
 .by_cases hl:l<as.length
  .rw[Qh hl]at h1;rw[Qh (by rw[<-S.len];exact hl)]at h2;have q:=S.obj l b o h1 h2;cases o with
   |lst ys=>
    obtain⟨zs,e,r⟩:=q;exact⟨zs,by rw[ze (zo e hp)];exact e,r.mono S T⟩
   |dct ks us=>exact bh.mono (ob:=.dct ks us) (S.kp T) (λ_ _ e=>T.get e) (λo e=>by rw[ze (zo e hp)];exact e) q
  .rw[Qi (by lia)]at h1;rw[Qi (by rw[<-S.len];lia)]at h2;have hz:l-as.length=0:=by
    cases hq:l-as.length with
    |zero=>rfl
    |succ k=>rw[hq]at h1;simp at h1
   rw[hz]at h1;rw[<-S.len,hz]at h2;simp at h1 h2;subst h1;subst h2;exact⟨vs,zf,R.mono S T⟩
theorem aJ.set(S:aJ K as m H)(ha:as[l]?=some a)(hm:m[l]?=some (.lst xs))(R:ae K as H ws vs):Step as H as (aG H a (.lst vs))/\aJ K as (m.set l (.lst ws)) (aG H a (.lst vs)):=by
 have hin:a∈as:=Ql ha;have T:Step as H as (aG H a (.lst vs)):=⟨⟨[],by simp⟩,λb o h hb=>by
  rw[ze (by rintro rfl;exact hb hin)];exact h,λb hb=>.inl hb⟩
 refine⟨T,⟨by simp[S.len],S.nd,λk b o h1 h2=>?_⟩⟩;by_cases hk:k=l
 .subst hk;rw[ha]at h1;cases h1;rw[QW (Qb.mp hm).1]at h2;cases h2;exact⟨vs,zf,R.mono S T⟩
 .rw[Qo (Ne.symm hk)]at h2;have q:=S.obj k b o h1 h2;have hb:b≠a:=by
   rintro rfl;obtain⟨i1,e1⟩:=Qb.mp h1;obtain⟨i2,e2⟩:=Qb.mp ha;exact hk ((Wo S.nd).mp (e1.trans e2.symm))
  cases o with
  |lst ys=>
   obtain⟨zs,e,r⟩:=q;exact⟨zs,by rw[ze hb];exact e,r.mono S T⟩
  |dct ks us=>exact bh.mono (ob:=.dct ks us) (S.kp T) (λ_ _ e=>T.get e) (λo e=>by rw[ze hb];exact e) q
def aJ.keep(S:aJ K as m H)(T:Step as H as H')(hk:∀a∈as,∀o,H a=some o->H' a=some o):aJ K as m H':=by
 refine⟨S.len,S.nd,λl b o h1 h2=>?_⟩;have q:=S.obj l b o h1 h2;cases o with
 |lst ys=>
  obtain⟨zs,e,r⟩:=q;exact⟨zs,hk b (Ql h1) _ e,r.mono S T⟩
 |dct ks us=>exact bh.mono (ob:=.dct ks us) (S.kp T) (λ_ _ e=>T.get e) (λo e=>hk b (Ql h1) _ e) q
theorem aJ.tup(S:aJ K as m H)(hp:H p=none)(R:ae K as H ws vs):Step as H as (aG H p (.tup vs))/\aJ K as m (aG H p (.tup vs))/\ai K as (aG H p (.tup vs)) (.tup ws) (.ref p):=by
 have T:Step as H as (aG H p (.tup vs)):=⟨⟨[],by simp⟩,λb o h _=>by rw[ze (zo h hp)];exact h,λb hb=>.inl hb⟩;exact⟨T,S.keep T λb _ o e=>by rw[ze (zo e hp)];exact e,ah.mpr ⟨p,vs,rfl,bJ.of zf,R.mono S T⟩⟩
def yJ(S:aJ K as m H)(R:ae K as H ws vs)(h:ak K as H Q (alloc m ws)):vs.length<=aF/\∀p,H p=none->Q (.ref p) (aG H p (.lst vs)):=by
 unfold Mini.alloc at h;by_cases hl:ws.length<=aF
 .rw[J7 hl]at h;refine⟨by rw[<-R.length];exact hl,λp hp=>?_⟩;obtain⟨T,S'⟩:=S.alloc hp R;refine h _ _ _ T S' (aE.mpr ⟨p,?_,rfl⟩);rw[<-S.len,Qi (Qf _)];simp
 .rw[J8 hl]at h;exact h.elim
def zI(S:aJ K as m H)(hm:m[l]?=some (.lst xs)):∃a vs,as[l]?=some a/\H a=some (.lst vs)/\ae K as H xs vs:=by
 obtain⟨a,ha,vs,e,r⟩:=S.get hm;exact⟨a,vs,ha,e,r⟩
def zw (h:zn m l=some xs):m[l]?=some (.lst xs):=by
 unfold zn at h;cases e:m[l]? with
 |none=>rw[e]at h;cases h
 |some o=>cases o with
  |lst ys=>rw[e]at h;cases h;rfl
  |dct ks us=>rw[e]at h;cases h
def vX (S:aJ K as m H)(R:ai K as H w v)(h:yD m w=some xs):∃p vs,v=.ref p/\(bt K H p vs\/bJ K H p vs)/\ae K as H xs vs:=by
 cases w with
 |tup ys=>
  cases h;obtain⟨b,vs,rfl,q,r⟩:=ah.mp R;exact⟨b,vs,rfl,.inr q,r⟩
 |rol ys=>
  cases h;obtain⟨b,vs,rfl,q,r⟩:=ba.mp R;exact⟨b,vs,rfl,.inl q.sq,r⟩
 |ref l=>
  obtain⟨b,hb,rfl⟩:=aE.mp R;obtain⟨a,vs,ha,e,r⟩:=zI S (zw h);rw[hb]at ha;cases ha;exact⟨b,vs,rfl,.inl (bt.of e),r⟩
 |non=>cases h
 |bl b=>cases h
 |int i=>cases h
 |str s=>cases h
noncomputable def fx:Bo->Iu
 |.add=>.Add |.sub=>.Sub |.mul=>.Mult |.fdiv=>.FloorDiv |.mod=>.Mod |.pow=>.Pow |.shr=>.RShift |.band=>.BitAnd |.mulB=>.Mult |.fdivB=>.FloorDiv
noncomputable def rB(K:Qa):Bo->R2
 |.add=>λx y H Q=>dG (λi j=>.int (i+j)) x y H Q\/(o0 x y H Q\/(pP K x y H Q\/pK K x y H Q))
 |.sub=>dG λi j=>.int (i-j)
 |.mul=>λx y H Q=>rI eA (λi j=>.int (i*j)) x y H Q\/oZ x y H Q
 |.fdiv=>rI pD λi j=>.int (i/j)
 |.mod=>rI (λ_ j=>0<j) λi j=>.int (i%j)
 |.pow=>rI pC λi j=>.int (i^j.toNat)
 |.shr=>rI (λ_ j=>0<=j) λi j=>.int (i/2^j.toNat)
 |.band=>dG λi j=>.int (Builtin.bitAnd i j)
 |.mulB=>rI cy λi j=>.int (i*j)
 |.fdivB=>rI pL λi j=>.int (i/j)
def uB (op:Bo):bY X (IF (fx op)) (rB X.K op):=by
 cases op with
 |add=>exact eW.or (eV.or (dS.or Dj))
 |sub=>exact AU
 |mul=>exact eU.or Bx
 |fdiv=>exact CL
 |mod=>exact AT
 |pow=>exact AS
 |shr=>exact AR
 |band=>exact AQ
 |mulB=>exact Dl
 |fdivB=>exact EA
def Di (h:0<=i):Builtin.bitAnd i 1=i%2:=by
 obtain⟨n,rfl⟩:=Int.eq_ofNat_of_zero_le h;show Int.ofNat (n &&& 1)=_;rw[Nat.and_one_is_mod];rfl
def wN (h:small i=true):-(2^64)<i/\i<2^64:=by
 unfold small oG at h;rw[Qp,decide_eq_true_iff,decide_eq_true_iff]at h;lia
def yr [Decidable c](h:ak K as H Q (if c then r else .no)):c/\ak K as H Q r:=by
 by_cases hc:c
 .rw[J7 hc]at h;exact⟨hc,h⟩
 .rw[J8 hc]at h;exact h.elim
def Dh (h:ak K as H Q (cE .add (.ref a) (.ref b) m)):∃xs ys,m[a]?=some (.lst xs)/\m[b]?=some (.lst ys)/\ak K as H Q (alloc m (xs++ys)):=by
 unfold cE at h;dsimp only at h;generalize m[a]?=p at h ⊢;generalize m[b]?=q at h ⊢;cases p with
 |none=>exact h.elim
 |some o=>
  cases o with
  |dct ks us=>exact h.elim
  |lst xs=>
   cases q with
   |none=>exact h.elim
   |some o=>
    cases o with
    |dct ks us=>exact h.elim
    |lst ys=>exact⟨xs,ys,rfl,rfl,h⟩
def Dg (h:ak K as H Q (cE .mul (.ref a) (.int k) m)):∃xs,m[a]?=some (.lst xs)/\ak K as H Q (if -aF<=k/\k<=aF then alloc m (Qt k.toNat xs).flatten else .no):=by
 unfold cE at h;dsimp only at h;generalize m[a]?=p at h ⊢;cases p with
 |none=>exact h.elim
 |some o=>
  cases o with
  |dct ks us=>exact h.elim
  |lst xs=>exact⟨xs,rfl,h⟩
set_option tactic.hygienic true in
def Bv (S:aJ K as m H)(Rx:ai K as H x v)(Ry:ai K as H y u)(h:ak K as H Q (cE op x y m)):rB K op v u H Q:=by
 cases x with
 |int i=>
  cases y with
  |int j=>
   obtain rfl:=aa.mp Rx;obtain rfl:=aa.mp Ry;cases op with
   |add=>exact .inl ⟨i,j,rfl,rfl,h.ok S (aa.mpr rfl)⟩
   |sub=>exact⟨i,j,rfl,rfl,h.ok S (aa.mpr rfl)⟩
   |mul=>
    obtain⟨hs,h⟩:=yr h;refine .inl ⟨i,j,rfl,rfl,?_,h.ok S (aa.mpr rfl)⟩;rcases Bool.or_eq_true_iff.mp hs with q|q
    .exact .inl (wN q)
    .exact .inr (wN q)
   |fdiv=>
    obtain⟨hs,h⟩:=yr h;exact⟨i,j,rfl,rfl,hs,h.ok S (aa.mpr rfl)⟩
   |mod=>
    obtain⟨hs,h⟩:=yr h;exact⟨i,j,rfl,rfl,hs,h.ok S (aa.mpr rfl)⟩
   |pow=>
    obtain⟨⟨h1,h2,h3⟩,h⟩:=yr h;have h4:=wN h3;exact⟨i,j,rfl,rfl,⟨h1,h2,by lia⟩,h.ok S (aa.mpr rfl)⟩
   |shr=>
    obtain⟨hs,h⟩:=yr h;exact⟨i,j,rfl,rfl,hs.1,h.ok S (aa.mpr rfl)⟩
   |band=>
    obtain⟨⟨h1,rfl⟩,h'⟩:=yr h;refine⟨i,1,rfl,rfl,?_⟩;show Q (.int (Builtin.bitAnd i 1)) H;rw[Di h1];exact h'.ok S (aa.mpr rfl)
   |mulB=>
    obtain⟨hs,h⟩:=yr h;exact⟨i,j,rfl,rfl,hs,h.ok S (aa.mpr rfl)⟩
   |fdivB=>
    obtain⟨hs,h⟩:=yr h;exact⟨i,j,rfl,rfl,hs,h.ok S (aa.mpr rfl)⟩
  |_=>exact h.elim
 |ref a=>
  obtain⟨pa,ha,rfl⟩:=aE.mp Rx;cases y with
  |ref b=>
   obtain⟨pb,hb,rfl⟩:=aE.mp Ry;cases op with
   |add=>
    obtain⟨xs,ys,e1,e2,h⟩:=Dh h;obtain⟨pa',va,ha',ea,ra⟩:=zI S e1;rw[ha]at ha';cases ha';obtain⟨pb',vb,hb',eb,rb⟩:=zI S e2;rw[hb]at hb';cases hb';obtain⟨hl,q⟩:=yJ S (ra.append rb) h;rw[Q3]at hl;exact .inr (.inl ⟨pa,pb,va,vb,rfl,rfl,ea,eb,Qm hl yq,q⟩)
   |_=>exact h.elim
  |int k=>
   obtain rfl:=aa.mp Ry;cases op with
   |mul=>
    obtain⟨xs,e1,h⟩:=Dg h;obtain⟨hk,h⟩:=yr h;obtain⟨pa',va,ha',ea,ra⟩:=zI S e1;rw[ha]at ha';cases ha';obtain⟨hl,q⟩:=yJ S (ra.rep k.toNat) h;rw[qR]at hl;have hlim:(aF:Int)=100000:=rfl;exact .inr ⟨pa,k,va,rfl,rfl,ea,by lia,by lia,by rw[Nat.mul_comm];exact Qm hl yq,q⟩
   |_=>exact h.elim
  |_=>exact h.elim
 |tup xs=>
  cases y with
  |tup ys=>
   cases op with
   |add=>
    obtain⟨hc,h⟩:=yr h;obtain⟨pa,va,rfl,qa,ra⟩:=ah.mp Rx;obtain⟨pb,vb,rfl,qb,rb⟩:=ah.mp Ry;have la:=ra.length;have lb:=rb.length;by_cases hv:va=[]
    .subst hv;obtain rfl:xs=[]:=by
      cases xs with
      |nil=>rfl
      |cons x xs=>simp at la
     exact .inr (.inr (.inr ⟨pa,pb,vb,rfl,rfl,qa,qb,h.ok S Ry⟩))
    refine .inr (.inr (.inl ⟨pa,pb,va,vb,rfl,rfl,qa,qb,hv,?_,λe=>?_,λe p hp=>?_⟩))
    .rw[<-la,<-lb];exact Qm hc yq
    .subst e;obtain rfl:ys=[]:=by
      cases ys with
      |nil=>rfl
      |cons y ys=>simp at lb
     refine h.ok S (ah.mpr ⟨pa,va,rfl,qa,?_⟩);rw[QS];exact ra
    .obtain ⟨T,S',R'⟩:=S.tup hp (ra.append rb);exact h _ _ _ T S' R'
   |_=>exact h.elim
  |_=>exact h.elim
 |_=>exact h.elim
end
end Mini
namespace Mini
open PySem PySem.Spec PyProof.Rows L2
open PySem.SeqAt
section
variable{X:Cx}{pins:List (Addr×Obj)}{σ:St}{s:HK}{as:List Addr}{H:Hp}{m:Me}
def gk (I:Inv X pins σ H s)(h1:bJ X.K H a xs)(h2:bt X.K H a ys):False:=by
 obtain⟨its,_,p,_⟩:=I.tuple h1;obtain⟨its',_,q,_⟩:=I.list h2;exact ne_of_list_tuple q.isList (show s.heap.IsTuple a its.toArray from p) rfl
def rO (I:Inv X pins σ H s)(h1:bJ X.K H a xs)(h2:H a=some u)(h3:LD u):False:=by
 rcases h1 with (q|⟨o,q⟩)|⟨o,_,_,hk,_⟩
 .rw[h2]at q;cases q;exact h3
 .rw[h2]at q;cases q;exact h3
 .have:=(I.bs a o (I.ok.mod.kin a o hk)).2;rw[this]at h2;cases h2
def kX (I:Inv X pins σ H s)(h1:KL X.K a xs)(h2:H a=some u):False:=by
 obtain⟨o,_,_,hk,_⟩:=h1;have:=(I.bs a o (I.ok.mod.kin a o hk)).2;rw[this]at h2;cases h2
mutual
theorem wA(I:Inv X pins σ H s)(S:aJ X.K as m H):∀(w w':Wd) (v:V),ai X.K as H w v->ai X.K as H w' v->w=w'
 |.non,w',v,h,h'=>by
  obtain rfl:=am.mp h;cases w' with
  |non=>rfl
  |bl b=>cases aj.mp h'
  |int i=>cases aa.mp h'
  |str x=>cases az.mp h'
  |tup xs=>obtain⟨_,_,e,_⟩:=ah.mp h';cases e
  |rol xs=>obtain⟨_,_,e,_⟩:=ba.mp h';cases e
  |ref l=>obtain⟨_,_,e⟩:=aE.mp h';cases e
 |.bl c,w',v,h,h'=>by
  obtain rfl:=aj.mp h;cases w' with
  |non=>cases am.mp h'
  |bl b=>cases aj.mp h';rfl
  |int i=>cases aa.mp h'
  |str x=>cases az.mp h'
  |tup xs=>obtain⟨_,_,e,_⟩:=ah.mp h';cases e
  |rol xs=>obtain⟨_,_,e,_⟩:=ba.mp h';cases e
  |ref l=>obtain⟨_,_,e⟩:=aE.mp h';cases e
 |.int c,w',v,h,h'=>by
  obtain rfl:=aa.mp h;cases w' with
  |non=>cases am.mp h'
  |bl b=>cases aj.mp h'
  |int i=>cases aa.mp h';rfl
  |str x=>cases az.mp h'
  |tup xs=>obtain⟨_,_,e,_⟩:=ah.mp h';cases e
  |rol xs=>obtain⟨_,_,e,_⟩:=ba.mp h';cases e
  |ref l=>obtain⟨_,_,e⟩:=aE.mp h';cases e
 |.str c,w',v,h,h'=>by
  obtain rfl:=az.mp h;cases w' with
  |non=>cases am.mp h'
  |bl b=>cases aj.mp h'
  |int i=>cases aa.mp h'
  |str x=>
   have e:=az.mp h';injection e with e
   injection e with e
   have:c=x:=by simpa using J5 Wm e
   rw[this]
  |tup xs=>obtain⟨_,_,e,_⟩:=ah.mp h';cases e
  |rol xs=>obtain⟨_,_,e,_⟩:=ba.mp h';cases e
  |ref l=>obtain⟨_,_,e⟩:=aE.mp h';cases e
 |.tup xs,w',v,h,h'=>by
  obtain⟨a,vs,rfl,q,r⟩:=ah.mp h;cases w' with
  |non=>cases am.mp h'
  |bl b=>cases aj.mp h'
  |int i=>cases aa.mp h'
  |str x=>cases az.mp h'
  |tup ys=>
   obtain⟨b,us,e,q',r'⟩:=ah.mp h';cases e;obtain rfl:=I.tuple_inj q q';rw[cr I S xs ys vs r r']
  |rol ys=>
   obtain⟨b,us,e,q',r'⟩:=ba.mp h';cases e;exact(gk I q q'.sq).elim
  |ref l=>
   obtain⟨b,hb,e⟩:=aE.mp h';cases e;obtain⟨u,e2,e3⟩:=S.isLst (Ql hb);exact(rO I q e2 e3).elim
 |.rol xs,w',v,h,h'=>by
  obtain⟨a,vs,rfl,q,r⟩:=ba.mp h;cases w' with
  |non=>cases am.mp h'
  |bl b=>cases aj.mp h'
  |int i=>cases aa.mp h'
  |str x=>cases az.mp h'
  |tup ys=>
   obtain⟨b,us,e,q',r'⟩:=ah.mp h';cases e;exact(gk I q' q.sq).elim
  |rol ys=>
   obtain⟨b,us,e,q',r'⟩:=ba.mp h';cases e;obtain rfl:=I.list_inj q.sq q'.sq;rw[cr I S xs ys vs r r']
  |ref l=>
   obtain⟨b,hb,e⟩:=aE.mp h';cases e;obtain⟨u,e2,e3⟩:=S.isLst (Ql hb);rcases q with⟨o,q⟩|q
   .rw[e2]at q;cases q;exact e3.elim
   .exact (kX I q e2).elim
 |.ref l,w',v,h,h'=>by
  obtain⟨a,ha,rfl⟩:=aE.mp h;obtain⟨u,e2,e3⟩:=S.isLst (Ql ha);cases w' with
  |non=>cases am.mp h'
  |bl b=>cases aj.mp h'
  |int i=>cases aa.mp h'
  |str x=>cases az.mp h'
  |tup ys=>
   obtain⟨b,us,e,q',r'⟩:=ah.mp h';cases e;exact(rO I q' e2 e3).elim
  |rol ys=>
   obtain⟨b,us,e,q',r'⟩:=ba.mp h';cases e;rcases q' with⟨o,q'⟩|q'
   .rw[e2]at q';cases q';exact e3.elim
   .exact (kX I q' e2).elim
  |ref l'=>
   obtain⟨b,hb,e⟩:=aE.mp h';cases e;obtain⟨i1,e1⟩:=Qb.mp ha;obtain⟨i2,e2⟩:=Qb.mp hb;rw[(Wo S.nd).mp (e1.trans e2.symm)]
theorem cr(I:Inv X pins σ H s)(S:aJ X.K as m H):∀(xs ys:List Wd) (vs:List V),ae X.K as H xs vs->ae X.K as H ys vs->xs=ys
 |[],ys,vs,h,h'=>by
  obtain rfl:=aA.mp h;cases ys with
  |nil=>rfl
  |cons y ys=>obtain⟨_,_,e,_⟩:=ao.mp h';cases e
 |x::xs,ys,vs,h,h'=>by
  obtain⟨v,r,rfl,q,t⟩:=ao.mp h;cases ys with
  |nil=>cases aA.mp h'
  |cons y ys=>
   obtain⟨v',r',e,q',t'⟩:=ao.mp h';cases e;rw[wA I S x y v q q',cr I S xs ys r t t']
end
theorem jy:∀{xs ys:List Wd}{r:Bool},cJ p xs ys=some r ->
  ∃f:Nat->Bool,(∀j x y,xs[j]?=some x->ys[j]?=some y->p x y=some (f j))/\r=(Q2 (min xs.length ys.length)).all f
 |[],ys,r,h=>by
  unfold cJ at h;cases h;exact⟨λ_=>true,λj x y e=>by simp at e,by simp⟩
 |_::_,[],r,h=>by
  unfold cJ at h;cases h;exact⟨λ_=>true,λj x y _ e=>by simp at e,by simp⟩
 |x::xs,y::ys,r,h=>by
  unfold cJ at h;cases hp:p x y with
  |none=>rw[hp]at h;cases h
  |some b=>
   rw[hp]at h;simp only[]at h;cases hr:cJ p xs ys with
   |none=>rw[hr]at h;cases h
   |some r'=>
    rw[hr]at h;cases h;obtain⟨f,hf,e⟩:=jy (xs:=xs) (ys:=ys) hr;refine⟨λj=>match j with|0=>b|j+1=>f j,λj x' y' e1 e2=>?_,?_⟩
    .cases j with
     |zero=>simp at e1 e2;subst e1;subst e2;exact hp
     |succ j=>exact hf j x' y' (by simpa using e1) (by simpa using e2)
    .rw[WD,WD,Nat.succ_min_succ,WF,Q7,List.all_map,e];rfl
theorem gl:∀(k:Nat) (w:Wd) (r:Bool),b8 m k w w=some r->r=true
 |0,w,r,h=>by cases h
 |k+1,w,r,h=>by
  cases w with
  |non=>cases h;rfl
  |bl b=>cases h;simp
  |int i=>cases h;simp
  |str x=>cases h;simp
  |tup xs=>
   replace h:(cJ (b8 m k) xs xs).map (· && decide (xs.length=xs.length))=some r:=h
   cases hr:cJ (b8 m k) xs xs with
   |none=>rw[hr]at h;cases h
   |some r'=>
    rw[hr]at h;simp only[QM,decide_true,Bool.and_true]at h;cases h;obtain⟨f,hf,rfl⟩:=jy hr;rw[Wf];intro j hj;have hj':j<xs.length:=by simpa using hj
    exact gl k xs[j] (f j) (hf j xs[j] xs[j] (by simp[hj']) (by simp[hj']))
  |rol xs=>cases h
  |ref l=>
   replace h:(if l=l then(if aK m l then some true else none)else match m[l]?,m[l]? with
    |some (.lst xs),some (.lst ys)=>if xs.length=ys.length then cJ (b8 m k) xs ys else some false
    |_,_=>none)=some r:=h
   simp only[if_true]at h;split at h
   .cases h;rfl
   .cases h
structure FW(A:HY)(s:HK)(u u':Value)(r:Bool):Prop where
 it:EqAt A s u u' r
 eq:RcAt A s u u' r
 ne:RcNeAt A s u u' (! r)
def aQ (S:aJ X.K as m H)(I:Inv X pins σ H s)(h:aK m l=true)(R:ai X.K as H (.ref l) v)(ru:RelV v u):∃b its,u=.ref b/\s.heap.IsList b its:=by
 unfold aK at h;cases e:m[l]? with
 |none=>rw[e]at h;cases h
 |some o=>
  cases o with
  |dct ks us=>rw[e]at h;cases h
  |lst xs=>
   obtain⟨b,hb,rfl⟩:=aE.mp R;obtain⟨a,vs,ha,ea,ra⟩:=zI S e;rw[hb]at ha;cases ha;obtain rfl:u=.ref b:=ru;obtain⟨its,_,p,_⟩:=I.list (bt.of ea);exact⟨b,_,rfl,p.isList⟩
def wf (I:Inv X pins σ H s)(R:ai X.K as H (.tup xs) v)(ru:RelV v u):∃b vs its,v=.ref b/\u=.ref b/\ae X.K as H xs vs/\av vs its/\s.heap.IsTuple b its.toArray:=by
 obtain⟨b,vs,rfl,q,r⟩:=ah.mp R;obtain rfl:u=.ref b:=ru;obtain⟨its,rv,p,_⟩:=I.tuple q;exact⟨b,vs,its,rfl,rfl,r,rv,p⟩
set_option tactic.hygienic true in
theorem gm(I:Inv X pins σ H s)(S:aJ X.K as m H):∀(k:Nat) (A:HY) (w w':Wd) (v v':V) (u u':Value) (r:Bool),A.units+k<IJ->b8 m k w w'=some r ->
  ai X.K as H w v->ai X.K as H w' v'->RelV v u->RelV v' u'->FW A s u u' r
 |0,_,_,_,_,_,_,_,_,_,h,_,_,_,_=>by cases h
 |k+1,A,w,w',v,v',u,u',r,hu,h,R,R',ru,ru'=>by
  have hu0:A.units<IJ:=by lia
  have hu1:A.in1.units+k<IJ:=by show A.units+1+k<IJ;lia
  -- items,pair by pair
  have pairs:∀{xs ys:List Wd}{vs us:List V}{its its':List Value}{r:Bool},ae X.K as H xs vs->ae X.K as H ys us->av vs its->av us its'->cJ (b8 m k) xs ys=some r ->
    ∃f:Nat->Bool,(∀j (h1:j<its.toArray.size) (h2:j<its'.toArray.size),EqAt A.in1 s its.toArray[j] its'.toArray[j] (f j))/\r=(Q2 (min its.toArray.size its'.toArray.size)).all f/\its.toArray.size=xs.length/\its'.toArray.size=ys.length:=by
   intro xs ys vs us its its' r r1 r2 rv rv' he;obtain⟨f,hf,e⟩:=jy he;have l1:=r1.length;have l2:=r2.length;have l3:=rv.length;have l4:=rv'.length;have s1:its.toArray.size=xs.length:=by simp;lia
   have s2:its'.toArray.size=ys.length:=by simp;lia
   refine⟨f,λj h1 h2=>?_,by rw[e,s1,s2],s1,s2⟩;have hj:j<xs.length:=by lia
   have hj2:j<ys.length:=by lia
   obtain⟨v1,e1,q1⟩:=r1.get (i:=j) (x:=xs[j]) (by simp[hj]);obtain⟨v2,e2,q2⟩:=r2.get (i:=j) (x:=ys[j]) (by simp[hj2]);obtain⟨u1,e3,q3⟩:=rv.get e1;obtain⟨u2,e4,q4⟩:=rv'.get e2;have z:=gm I S k A.in1 xs[j] ys[j] v1 v2 u1 u2 (f j) hu1 (hf j _ _ (by simp[hj]) (by simp[hj2])) q1 q2 q3 q4;obtain⟨_,e5⟩:=Qb.mp e3;obtain⟨_,e6⟩:=Qb.mp e4;have g1:its.toArray[j]=u1:=by simpa using e5
   have g2:its'.toArray[j]=u2:=by simpa using e6
   rw[g1,g2];exact z.it
  cases w with
  |tup xs=>
   obtain⟨b,vs,its,rfl,rfl,r1,rv,p⟩:=wf I R ru;cases w' with
   |tup ys=>
    obtain⟨b',vs',its',rfl,rfl,r1',rv',p'⟩:=wf I R' ru';have rc:RcAt A s (.ref b) (.ref b') r/\RcNeAt A s (.ref b) (.ref b') (! r):=by
     replace h:(cJ (b8 m k) xs ys).map (· && decide (xs.length=ys.length))=some r:=h
     cases hr:cJ (b8 m k) xs ys with
     |none=>rw[hr]at h;cases h
     |some r'=>
      rw[hr]at h;simp only[QM]at h;cases h;obtain⟨f,hf,e,z1,z2⟩:=pairs r1 r1' rv rv' hr;have e2:((Q2 (min its.toArray.size its'.toArray.size)).all f&&its.toArray.size==its'.toArray.size)=(r'&&decide (xs.length=ys.length)):=by
       rw[e,z1,z2];congr 1
      exact⟨e2▸RcAt.tuples p p' hu0 hf,e2▸RcNeAt.tuples p p' hu0 hf⟩
    refine⟨?_,rc.1,rc.2⟩;by_cases hb:b=b'
    .subst hb;have e:=wA I S _ _ _ R R';rw[<-e]at h;obtain rfl:=gl _ _ _ h;exact EqAt.same _
    .exact EqAt.of_refs hb rc.1
   |ref l=>
    replace h:(if aK m l&&true then some false else none)=some r:=h
    split at h
    .rename_i hl;cases h;obtain⟨b',its',rfl,q⟩:=aQ S I (Qs.mp hl).1 R' ru';exact⟨EqAt.tuple_list p q hu0,RcAt.tuple_list p q hu0,RcNeAt.tuple_list p q hu0⟩
    .cases h
   |rol ys=>cases h
   |non=>
    cases h;obtain rfl:=am.mp R';obtain rfl:u'=.none:=ru';exact⟨EqAt.tuple_none p hu0,RcAt.tuple_none p hu0,RcNeAt.tuple_none p hu0⟩
   |bl c=>
    cases h;obtain rfl:=aj.mp R';obtain rfl:u'=.bool c:=ru';exact⟨EqAt.tuple_bool c p hu0,RcAt.tuple_bool c p hu0,RcNeAt.tuple_bool c p hu0⟩
   |int i=>
    cases h;obtain rfl:=aa.mp R';obtain⟨t,rfl⟩:=ru';exact⟨EqAt.tuple_int i t p hu0,RcAt.tuple_int i t p hu0,RcNeAt.tuple_int i t p hu0⟩
   |str x=>
    cases h;obtain rfl:=az.mp R';obtain⟨t,rfl⟩:=ru';exact⟨EqAt.tuple_str _ t p hu0,RcAt.tuple_str _ t p hu0,RcNeAt.tuple_str _ t p hu0⟩
  |ref l=>
   cases w' with
   |ref l'=>
    obtain⟨b,hb,rfl⟩:=aE.mp R;obtain⟨b',hb',rfl⟩:=aE.mp R';obtain rfl:u=.ref b:=ru;obtain rfl:u'=.ref b':=ru'
    replace h:(if l=l' then(if aK m l then some true else none)else match m[l]?,m[l']? with
     |some (.lst xs),some (.lst ys)=>if xs.length=ys.length then cJ (b8 m k) xs ys else some false
     |_,_=>none)=some r:=h
    by_cases hll:l=l'
    .subst hll;rw[hb]at hb';cases hb';rw[J7 rfl]at h;split at h
     .rename_i hil;cases h;obtain⟨c,its,ec,q⟩:=aQ S I hil R (u:=.ref b) rfl;cases ec;have al:(Q2 its.size).all (λ_=>true)=true:=by simp
      have e1:=RcAt.lists (A:=A) (e:=λ_=>true) q q rfl hu0 (λj h1 h2=>EqAt.same _);have e2:=RcNeAt.lists (A:=A) (e:=λ_=>true) q q rfl hu0 (λj h1 h2=>EqAt.same _);rw[al]at e1 e2;exact⟨EqAt.same _,e1,e2⟩
     .cases h
    .rw[J8 hll]at h;have hbb:b≠b':=by
      rintro rfl;obtain⟨i1,e1⟩:=Qb.mp hb;obtain⟨i2,e2⟩:=Qb.mp hb';exact hll ((Wo S.nd).mp (e1.trans e2.symm))
     split at h
     .rename_i xs ys m1 m2;obtain⟨a1,vs,h1,g1,r1⟩:=zI S m1;rw[hb]at h1;cases h1;obtain⟨a2,us,h2,g2,r2⟩:=zI S m2;rw[hb']at h2;cases h2;obtain⟨its,rv,p,_⟩:=I.list (bt.of g1);obtain⟨its',rv',p',_⟩:=I.list (bt.of g2);split at h
      .rename_i hl;obtain⟨f,hf,e,z1,z2⟩:=pairs r1 r2 rv rv' h;have hsz:its.toArray.size=its'.toArray.size:=by rw[z1,z2,hl]
       rw[<-hsz,Nat.min_self]at e;have e1:=RcAt.lists p.isList p'.isList hsz hu0 hf;have e2:=RcNeAt.lists p.isList p'.isList hsz hu0 hf;rw[<-e]at e1 e2;exact⟨EqAt.of_refs hbb e1,e1,e2⟩
      .rename_i hl;cases h;have l1:=r1.length;have l2:=r2.length;have l3:=rv.length;have l4:=rv'.length;have hsz:(its.toArray.size != its'.toArray.size)=true:=by
        simp;lia
       have e1:=RcAt.lists_lengths (A:=A) p.isList p'.isList hsz hu0;exact⟨EqAt.of_refs hbb e1,e1,RcNeAt.lists_lengths p.isList p'.isList hsz hu0⟩
     .cases h
   |tup ys=>
    replace h:(if aK m l&&true then some false else none)=some r:=h
    split at h
    .rename_i hl;cases h;obtain⟨b,its,rfl,q⟩:=aQ S I (Qs.mp hl).1 R ru;obtain⟨b',vs',its',rfl,rfl,r1',rv',p'⟩:=wf I R' ru';exact⟨EqAt.list_tuple q p' hu0,RcAt.list_tuple q p' hu0,RcNeAt.list_tuple q p' hu0⟩
    .cases h
   |rol ys=>
    replace h:(if aK m l&&false then some false else none)=some r:=h
    simp only[Bool.and_false,QU,if_false]at h;cases h
   |non=>
    replace h:(if aK m l&&true then some false else none)=some r:=h
    split at h
    .rename_i hl;cases h;obtain⟨b,its,rfl,q⟩:=aQ S I (Qs.mp hl).1 R ru;obtain rfl:=am.mp R';obtain rfl:u'=.none:=ru';exact⟨EqAt.list_none q hu0,RcAt.list_none q hu0,RcNeAt.list_none q hu0⟩
    .cases h
   |bl c=>
    replace h:(if aK m l&&true then some false else none)=some r:=h
    split at h
    .rename_i hl;cases h;obtain⟨b,its,rfl,q⟩:=aQ S I (Qs.mp hl).1 R ru;obtain rfl:=aj.mp R';obtain rfl:u'=.bool c:=ru';exact⟨EqAt.list_bool c q hu0,RcAt.list_bool c q hu0,RcNeAt.list_bool c q hu0⟩
    .cases h
   |int i=>
    replace h:(if aK m l&&true then some false else none)=some r:=h
    split at h
    .rename_i hl;cases h;obtain⟨b,its,rfl,q⟩:=aQ S I (Qs.mp hl).1 R ru;obtain rfl:=aa.mp R';obtain⟨t,rfl⟩:=ru';exact⟨EqAt.list_int i t q hu0,RcAt.list_int i t q hu0,RcNeAt.list_int i t q hu0⟩
    .cases h
   |str x=>
    replace h:(if aK m l&&true then some false else none)=some r:=h
    split at h
    .rename_i hl;cases h;obtain⟨b,its,rfl,q⟩:=aQ S I (Qs.mp hl).1 R ru;obtain rfl:=az.mp R';obtain⟨t,rfl⟩:=ru';exact⟨EqAt.list_str _ t q hu0,RcAt.list_str _ t q hu0,RcNeAt.list_str _ t q hu0⟩
    .cases h
  |rol xs=>
   cases w'<;>first|cases h|(replace h:(if aK m _&&false then some false else none)=some r:=h;simp at h)
  |non=>
   obtain rfl:=am.mp R;obtain rfl:u=.none:=ru;cases w' with
   |rol ys=>cases h
   |ref l=>
    replace h:(if aK m l&&true then some false else none)=some r:=h
    split at h
    .rename_i hl;cases h;obtain⟨b,its,rfl,q⟩:=aQ S I (Qs.mp hl).1 R' ru';exact⟨EqAt.none_list q hu0,RcAt.none_list q hu0,RcNeAt.none_list q hu0⟩
    .cases h
   |tup ys=>
    cases h;obtain⟨b',vs',its',rfl,rfl,r1',rv',p'⟩:=wf I R' ru';exact⟨EqAt.none_tuple p' hu0,RcAt.none_tuple p' hu0,RcNeAt.none_tuple p' hu0⟩
   |non=>
    cases h;obtain rfl:=am.mp R';obtain rfl:u'=.none:=ru';exact⟨EqAt.same _,RcAt.none_none,RcNeAt.none_none⟩
   |bl c=>
    cases h;obtain rfl:=aj.mp R';obtain rfl:u'=.bool c:=ru';exact⟨EqAt.none_bool c,RcAt.none_bool c,RcNeAt.none_bool c⟩
   |int i=>
    cases h;obtain rfl:=aa.mp R';obtain⟨t,rfl⟩:=ru';exact⟨EqAt.none_int i t,RcAt.none_int i t,RcNeAt.none_int i t⟩
   |str x=>
    cases h;obtain rfl:=az.mp R';obtain⟨t,rfl⟩:=ru';exact⟨EqAt.none_str _ t,RcAt.none_str _ t,RcNeAt.none_str _ t⟩
  |bl c=>
   obtain rfl:=aj.mp R;obtain rfl:u=.bool c:=ru;cases w' with
   |rol ys=>cases h
   |ref l=>
    replace h:(if aK m l&&true then some false else none)=some r:=h
    split at h
    .rename_i hl;cases h;obtain⟨b,its,rfl,q⟩:=aQ S I (Qs.mp hl).1 R' ru';exact⟨EqAt.bool_list c q hu0,RcAt.bool_list c q hu0,RcNeAt.bool_list c q hu0⟩
    .cases h
   |tup ys=>
    cases h;obtain⟨b',vs',its',rfl,rfl,r1',rv',p'⟩:=wf I R' ru';exact⟨EqAt.bool_tuple c p' hu0,RcAt.bool_tuple c p' hu0,RcNeAt.bool_tuple c p' hu0⟩
   |non=>
    cases h;obtain rfl:=am.mp R';obtain rfl:u'=.none:=ru';exact⟨EqAt.bool_none c,RcAt.bool_none c,RcNeAt.bool_none c⟩
   |bl d=>
    cases h;obtain rfl:=aj.mp R';obtain rfl:u'=.bool d:=ru';exact⟨EqAt.bool_bool c d,RcAt.bool_bool c d,RcNeAt.bool_bool c d⟩
   |int i=>
    cases h;obtain rfl:=aa.mp R';obtain⟨t,rfl⟩:=ru';have e:decide (b2i c=i)=((if c then(1:Int)else 0)==i):=by
     show decide ((if c then(1:Int)else 0)=i)=_;rw[WL]
    rw[e];exact⟨EqAt.bool_int c i t,RcAt.bool_int c i t,RcNeAt.bool_int c i t⟩
   |str x=>
    cases h;obtain rfl:=az.mp R';obtain⟨t,rfl⟩:=ru';exact⟨EqAt.bool_str c _ t,RcAt.bool_str c _ t,RcNeAt.bool_str c _ t⟩
  |int i=>
   obtain rfl:=aa.mp R;obtain⟨t,rfl⟩:=ru;cases w' with
   |rol ys=>cases h
   |ref l=>
    replace h:(if aK m l&&true then some false else none)=some r:=h
    split at h
    .rename_i hl;cases h;obtain⟨b,its,rfl,q⟩:=aQ S I (Qs.mp hl).1 R' ru';exact⟨EqAt.int_list i t q hu0,RcAt.int_list i t q hu0,RcNeAt.int_list i t q hu0⟩
    .cases h
   |tup ys=>
    cases h;obtain⟨b',vs',its',rfl,rfl,r1',rv',p'⟩:=wf I R' ru';exact⟨EqAt.int_tuple i t p' hu0,RcAt.int_tuple i t p' hu0,RcNeAt.int_tuple i t p' hu0⟩
   |non=>
    cases h;obtain rfl:=am.mp R';obtain rfl:u'=.none:=ru';exact⟨EqAt.int_none i t,RcAt.int_none i t,RcNeAt.int_none i t⟩
   |bl d=>
    cases h;obtain rfl:=aj.mp R';obtain rfl:u'=.bool d:=ru';have e:decide (i=b2i d)=(i==(if d then(1:Int)else 0)):=by
     show decide (i=(if d then(1:Int)else 0))=_;rw[WL]
    rw[e];exact⟨EqAt.int_bool i t d,RcAt.int_bool i t d,RcNeAt.int_bool i t d⟩
   |int j=>
    cases h;obtain rfl:=aa.mp R';obtain⟨t',rfl⟩:=ru';have e:decide (i=j)=(i==j):=by rw[WL]
    rw[e];exact⟨EqAt.int_int i t j t',RcAt.int_int i t j t',RcNeAt.int_int i t j t'⟩
   |str x=>
    cases h;obtain rfl:=az.mp R';obtain⟨t',rfl⟩:=ru';exact⟨EqAt.int_str i t _ t',RcAt.int_str i t _ t',RcNeAt.int_str i t _ t'⟩
  |str x=>
   obtain rfl:=az.mp R;obtain⟨t,rfl⟩:=ru;cases w' with
   |rol ys=>cases h
   |ref l=>
    replace h:(if aK m l&&true then some false else none)=some r:=h
    split at h
    .rename_i hl;cases h;obtain⟨b,its,rfl,q⟩:=aQ S I (Qs.mp hl).1 R' ru';exact⟨EqAt.str_list _ t q hu0,RcAt.str_list _ t q hu0,RcNeAt.str_list _ t q hu0⟩
    .cases h
   |tup ys=>
    cases h;obtain⟨b',vs',its',rfl,rfl,r1',rv',p'⟩:=wf I R' ru';exact⟨EqAt.str_tuple _ t p' hu0,RcAt.str_tuple _ t p' hu0,RcNeAt.str_tuple _ t p' hu0⟩
   |non=>
    cases h;obtain rfl:=am.mp R';obtain rfl:u'=.none:=ru';exact⟨EqAt.str_none _ t,RcAt.str_none _ t,RcNeAt.str_none _ t⟩
   |bl d=>
    cases h;obtain rfl:=aj.mp R';obtain rfl:u'=.bool d:=ru';exact⟨EqAt.str_bool _ t d,RcAt.str_bool _ t d,RcNeAt.str_bool _ t d⟩
   |int j=>
    cases h;obtain rfl:=aa.mp R';obtain⟨t',rfl⟩:=ru';exact⟨EqAt.str_int _ t j t',RcAt.str_int _ t j t',RcNeAt.str_int _ t j t'⟩
   |str y=>
    cases h;obtain rfl:=az.mp R';obtain⟨t',rfl⟩:=ru';have e:decide (x=y)=((⟨x.toArray⟩:Str) == ⟨y.toArray⟩):=by
     by_cases hxy:x=y
     .subst hxy;simp
     .have:¬(⟨x.toArray⟩:Str)=⟨y.toArray⟩:=λz=>by
       injection z with z
       exact hxy (by simpa using J5 Wm z)
      rw[J6 hxy];exact(beq_eq_false_iff_ne.mpr this).symm
    rw[e];exact⟨EqAt.str_str _ t _ t',RcAt.str_str _ t _ t',RcNeAt.str_str _ t _ t'⟩
end
end Mini
namespace L2
open PySem PySem.Spec PyProof.Rows PySem.SeqAt
section
variable{prog:HJ}{w:HL}{A:HY}{E:Value->HK->Prop}{s:HK}
def gp {stored:List Value}(hst:∀v∈stored,∃k' b,v=.ref b/\Jv (HV prog w) s.heap k' b)(h:Q false s):Ic (Ie prog w) A (tableMayTell (.int i t) stored) Q E s:=by
 unfold tableMayTell;split
 .exact IB h
 .rw[eqIsQuiet_byValue 8 (show carriedByValue (.int i t)=true from rfl)];refine Iv (IB ?_);simp only[Va,QU,if_false];refine Iv ?_;refine Jx _ (λrest r s'=>s'=s/\r=(none,())/\∀v∈rest,∃k' b,v=.ref b/\Jv (HV prog w) s.heap k' b) _ ?_ ?_ _ _ ⟨rfl,rfl,hst⟩
  .rintro v rest r s' ⟨rfl,rfl,hr⟩;obtain⟨k',b,rfl,hk⟩:=hr v QA;refine Iv (wpAny_eqIsQuiet_tuple hk ?_);simp only[Va,QU,if_false];exact IB ⟨rfl,rfl,λv hv=>hr v (Qd _ hv)⟩
  .rintro r s' ⟨rfl,rfl,_⟩;exact IB h
def Ez {xs:List TK}(hu:A.units<IJ)(ho:s.heap.get? d=some o)(hd:o.data=.dict es ep)(he:es.toList=xs.map gf)(his:∀x∈xs,Jv (HV prog w) s.heap x.1 x.2.1)(h:Q none s):
  Ic (Ie prog w) A (dictFind d (.int i t) (hashInt i)) Q E s:=by
 have hmem:∀e∈es,∃x∈xs,e=gf x:=by
  intro e hin;have:e∈xs.map gf:=he▸WM.mpr hin;obtain⟨x,hx,rfl⟩:=WG.mp this;exact⟨x,hx,rfl⟩
 have hst:∀v∈(placesWithHash es.size (λi=>es[i]?.map (·.hash)) (hashInt i)).filterMap (λi=>es[i]?.map (·.key)),∃k' b,v=.ref b/\Jv (HV prog w) s.heap k' b:=by
  intro v hv;obtain⟨j,_,hi⟩:=Ww.mp hv;cases hei:es[j]? with
  |none=>rw[hei]at hi;cases hi
  |some e=>
   rw[hei]at hi;obtain rfl:e.key=v:=by simpa using hi
   obtain⟨x,hx,rfl⟩:=hmem e (WJ hei);exact⟨x.1,x.2.1,rfl,his x hx⟩
 have hne:∀(e:DictEntry),e∈es->∀(Q:Bool->HK->Prop),Q false s->Ic (Ie prog w) A (eqBool e.key (.int i t)) Q E s:=by
  intro e hin Q q;obtain⟨x,hx,rfl⟩:=hmem e hin;obtain⟨ob,items,n,h1,h2,h3,_⟩:=his x hx;exact EqAt.tuple_int i t (show s.heap.IsTuple x.2.1 items from⟨ob,h1,h2,n,h3⟩) hu prog w E Q q
 unfold dictFind
 try with_reducible refine Iw ?_
 refine Iv (Jy ho hd ?_);dsimp only;by_cases hall:((Value.int i t::(placesWithHash es.size (λi=>es[i]?.map (·.hash)) (hashInt i)).filterMap (λi=>es[i]?.map (·.key))).all carriedByValue)=true
 .rw[J7 hall];unfold dictWalkPlain;refine Iv ?_;refine Jx _ (λ_ b s'=>s'=s/\b=(none,())) _ ?_ ?_ _ _ ⟨rfl,rfl⟩
  .rintro x rest b s' ⟨rfl,rfl⟩;cases hex:es[x]? with
   |none=>exact IB ⟨rfl,rfl⟩
   |some e=>
    dsimp only;by_cases hh:(e.hash==hashInt i)=true
    .rw[J7 hh];refine Iv (Jz ho hd (Iv (hne e (WJ hex) _ (Iv (Jz ho hd ?_)))));show Ic _ _ (if(ep != ep)=true then _ else _) _ E _;rw[J8 (by simp)];simp only[QU,if_false];refine Iv (Js ?_);exact IB ⟨rfl,rfl⟩
    .rw[J8 hh];exact IB ⟨rfl,rfl⟩
  .rintro b s' ⟨rfl,rfl⟩;exact IB h
 .rw[J8 hall];have hone:¬(((placesWithHash es.size (λi=>es[i]?.map (·.hash)) (hashInt i)).filterMap (λi=>es[i]?.map (·.key))) == [Value.int i t])=true:=by
   intro z;have z:=eq_of_beq z;obtain⟨_,b,e,_⟩:=hst (.int i t) (by rw[z];simp);cases e
  rw[J8 hone];refine Iv (gp hst ?_);rw[J8 (by simp)];refine Iv ?_;refine Jx _ (λ_ b s'=>s'=s/\b=(none,none)) _ ?_ ?_ _ _ ⟨rfl,rfl⟩
  .rintro x rest b s' ⟨rfl,rfl⟩;cases hex:es[x]? with
   |none=>exact IB ⟨rfl,rfl⟩
   |some e=>
    dsimp only;by_cases hh:(e.hash==hashInt i)=true
    .rw[J7 hh];refine Iv (Jz ho hd (Iv (hne e (WJ hex) _ (Iv (Jz ho hd ?_)))));show Ic _ _ (if(ep != ep)=true then _ else _) _ E _;rw[J8 (by simp)];simp only[QU,if_false];refine Iv (Js ?_)
     first
      |exact IB ⟨rfl,rfl⟩
      |(rw[J8 (by simp)];exact IB ⟨rfl,rfl⟩)
      |exact Iv (IB (IB ⟨rfl,rfl⟩))
    .rw[J8 hh];exact IB ⟨rfl,rfl⟩
  .rintro b s' ⟨rfl,rfl⟩;exact IB h
def Bu (hu:A.units+1<IJ)(hd:(d==HR)=false)(hm:s.heap.DictOfH (HU (HV prog w)) d xs)(h:Q (.bool false) {s with toks:=s.toks+1}):
  Ic (Ie prog w) A (IG .In (.int i t) (.ref d)) Q E s:=by
 show Ic _ _ (do return .bool (<-contains (.ref d) (.int i t))) Q E s;refine Iv ?_;unfold contains
 try with_reducible refine Iw ?_
 refine Iv (wpAny_specialOf hm.typeIs slot_dict_contains.lookup ?_);show Ic _ _ (if(some (Value.builtin "dict.__contains__")==some Value.none)=true then _ else _) _ E s;rw[J8 (by rw[beq_builtin_none];exact QJ)];refine Iv (wpAny_callSpecialUnlessNone?_slot (name:=Str.ofString "__contains__") hm.typeIs slot_dict_contains
  (Ja slot_dict_contains hm.typeIs entry_dict_contains ?_ (args_dict_contains _ _)))
 obtain⟨o,es,ep,ho,_,hdd,he,his,hn⟩:=id hm;show Ic _ _ (dictGet d (.int i t) >>= _) _ _ s;refine Iv ?_;unfold dictGet
 try with_reducible refine Iw ?_
 refine Iv (wpAny_pyHash_int (Iv (Ez (s:={s with toks:=s.toks+1}) (xs:=xs) (by show A.units+1<IJ;lia) ho hdd he his ?_)));refine IB ?_;show Ic _ _ (Builtin.Dict.pendingKey? d (.int i t) >>= _) _ _ _;exact Iv (wpAny_pendingKey_other hd (IB ⟨_,rfl,Il (IB h)⟩))
end
section
variable{X:Cx}{pins:List (Addr×Obj)}{σ:St}{H:Hp}{s:HK}
noncomputable def oX(K:Qa):R2:=λx y H Q=>∃d xs,y=.ref d/\yC K H d xs/\((∃i,x=.int i/\Q (.bl false) H)\/∃a ks,x=.ref a/\bJ K H a (ks.map V.int)/\Q (.bl (Jw xs ks).isSome) H)
def Bt(hu:X.A.units+64<IJ):bY X (IG .In) (oX X.K):=by
 intro pins s σ H x y v u Q I rx ry h;obtain⟨d,xs,rfl,hd,h⟩:=h;cases ry;obtain⟨d0,dm⟩:=xk I hd;rcases h with⟨i,rfl,q⟩|⟨a,ks,rfl,hk,q⟩
 .obtain ⟨t,rfl⟩:=rx;exact Bu (by lia) d0 dm ⟨.bl false,H,I.tok _,rfl,q⟩
 .cases rx;exact wpAny_in_heap (knd:=HU (HV X.prog X.w)) (by show X.A.units+1<IJ;lia) (xH I hk) d0 dm ⟨.bl (Jw xs ks).isSome,H,I.tok _,rfl,q⟩
end
end L2
namespace Mini
open PySem PySem.Spec PyProof.Rows L2
section
variable{K:Qa}{as:List Addr}{H:Hp}{m:Me}{Q:VK}
theorem wO:∀{ws:List Wd}{k:List Int}{vs:List V},zX ws=some k->ae K as H ws vs->vs=k.map V.int
 |[],k,vs,h,r=>by cases h;rw[aA.mp r];rfl
 |w::ws,k,vs,h,r=>by
  cases w with
  |int i=>
   have h':(zX ws).map (i::·)=some k:=h;obtain⟨k',e,rfl⟩:=QH.mp h';obtain⟨v,r',rfl,q,t⟩:=ao.mp r;rw[aa.mp q,wO e t];rfl
  |_=>cases h
def vY {l:Nat}(S:aJ K as m H)(hm:m[l]?=some (.dct ks ws)):∃a xs vs,as[l]?=some a/\yC K H a xs/\xs.map (·.1)=ks/\ae K as H ws vs/\av vs (xs.map (·.2.2))/\ks.Nodup:=by
 obtain⟨a,ha,xs,vs,r⟩:=S.get hm;exact⟨a,xs,vs,ha,r⟩
def bN {q:List Int}:(Jw xs q).isSome=true↔q∈xs.map (·.1):=by
 unfold Jw;rw[Option.isSome_map,List.find?_isSome];simp only[WG,Kc]
def Bs (S:aJ K as m H)(R:ai K as H x v)(R':ai K as H y u)(h:iN m x y=some b)(q:Q (.bl b) H):oX K v u H Q:=by
 unfold iN at h;cases y with
 |ref l=>
  obtain⟨a,ha,rfl⟩:=aE.mp R';dsimp only at h;cases e:m[l]? with
  |none=>rw[e]at h;cases h
  |some o=>
   cases o with
   |lst ys=>rw[e]at h;cases h
   |dct ks ws=>
    rw[e]at h;dsimp only at h;obtain⟨a',xs,vs,ha',td,rfl,_⟩:=vY S e;rw[ha]at ha';cases ha';refine⟨a,xs,rfl,td,?_⟩;cases x with
    |int i=>cases h;exact .inl ⟨i,aa.mp R,q⟩
    |tup us=>
     obtain⟨k,hk,rfl⟩:=QH.mp h;obtain⟨c,vs,rfl,sq,r⟩:=ah.mp R;rw[wO hk r]at sq;refine .inr ⟨c,k,rfl,sq,?_⟩;rw[show(Jw xs k).isSome=decide (k∈xs.map (·.1))from by
      rw[W4,bN,Kc]]
     exact q
    |_=>cases h
 |_=>cases h
end
end Mini
namespace Mini
open PySem PySem.Spec PyProof.Rows L2
open PySem.SeqAt
noncomputable def cK:Co->IH
 |.eq=>.Eq |.ne=>.NotEq |.lt=>.Lt |.le=>.LtE |.gt=>.Gt |.notN=>.IsNot |.isin=>.In 
noncomputable def rC(K:Qa)(op:Co):R2:=λx y H Q=>∃as m w w',aJ K as m H/\ai K as H w x/\ai K as H w' y/\ak K as H Q (cL op w w' m)
section
variable{X:Cx}
def vZ {K:Qa}(S:aJ K as m H)(h:ak K as H Q (dw o m)):∃b,o=some b/\Q (.bl b) H:=by
 cases o with
 |none=>exact h.elim
 |some b=>exact⟨b,rfl,h.ok S (aj.mpr rfl)⟩
theorem qV:∀{ys:List Wd}{r:Bool},dZ p x ys=some r ->
  ∃f:Wd->Bool,(∀y∈ys,p y x=some (f y))/\r=ys.any f
 |[],r,h=>by cases h;exact⟨λ_=>false,λy hy=>by simp at hy,rfl⟩
 |y::ys,r,h=>by
  unfold dZ at h;cases hp:p y x with
  |none=>rw[hp]at h;cases h
  |some b=>
   rw[hp]at h;simp only[]at h;cases hr:dZ p x ys with
   |none=>rw[hr]at h;cases h
   |some r'=>
    rw[hr]at h;cases h;obtain⟨f,hf,rfl⟩:=qV hr
    classical
    refine⟨λz=>(p z x).getD false,λz hz=>?_,?_⟩
    .rcases Qj.mp hz with rfl|hz
     .simp only[hp,WT]
     .simp only[hf z hz,WT]
    .rw[WA,hp];congr 1;refine W4.mpr ?_;rw[Wp,Wp];constructor
     .rintro ⟨z,hz,e⟩;exact⟨z,hz,by rw[hf z hz];exact e⟩
     .rintro ⟨z,hz,e⟩;rw[hf z hz]at e;exact⟨z,hz,e⟩
def gq (I:Inv X pins σ H s)(S:aJ X.K as m H)(hu:A.units+zV<IJ)(R:ai X.K as H w v)(ru:RelV v u)(ry:ae X.K as H ys vs)(rv:av vs its)(h:dZ (b8 m zV) w ys=some r):
  ∃e:Value->Bool,(∀y,y∈its.toArray->EqAt A s y u (e y))/\its.toArray.any e=r:=by
 obtain⟨f,hf,rfl⟩:=qV h
 classical
 -- the plain value of an item
 have pick:∀y,y∈its->∃z,z∈ys/\∃vz,ai X.K as H z vz/\RelV vz y:=λy hy=>by
  obtain⟨j,hj,rfl⟩:=Wq.mp hy;have l1:=ry.length;have l2:=rv.length;have hj1:j<vs.length:=by lia
  obtain⟨u1,e1,q1⟩:=rv.get (i:=j) (x:=vs[j]) (by simp[hj1]);obtain⟨z,e2,q2⟩:=ry.back (i:=j) (v:=vs[j]) (by simp[hj1]);obtain⟨_,e3⟩:=Qb.mp e1;exact⟨z,Ql e2,vs[j],q2,by rw[e3];exact q1⟩
 let e:Value->Bool:=λy=>if hy:y∈its then f (Classical.choose (pick y hy))else false
 have he:∀y (hy:y∈its) z vz,z∈ys->ai X.K as H z vz->RelV vz y->e y=f z:=λy hy z vz hz hr hq=>by
  obtain⟨h1,vz',h2,h3⟩:=Classical.choose_spec (pick y hy);have:e y=f (Classical.choose (pick y hy)):=dif_pos hy;rw[this];have hv:vz'=vz:=h3.inj hq;subst hv;rw[wA I S _ _ _ h2 hr]
 refine⟨e,λy hy=>?_,?_⟩
 .have hy':y∈its:=by simpa using hy
  obtain⟨z,hz,vz,q1,q2⟩:=pick y hy';rw[he y hy' z vz hz q1 q2];exact(gm I S zV A z w vz v y u (f z) hu (hf z hz) q1 R q2 ru).it
 .refine W4.mpr ?_;rw[List.any_toArray,Wp,Wp];constructor
  .rintro ⟨y,hy,ey⟩;obtain⟨z,hz,vz,q1,q2⟩:=pick y hy;rw[he y hy z vz hz q1 q2]at ey;exact⟨z,hz,ey⟩
  .rintro ⟨z,hz,ez⟩;obtain⟨j,hj,rfl⟩:=Wq.mp hz;obtain⟨v1,e1,q1⟩:=ry.get (i:=j) (x:=ys[j]) (by simp[hj]);obtain⟨u1,e2,q2⟩:=rv.get e1;have hy:u1∈its:=Ql e2;exact⟨u1,hy,by rw[he u1 hy ys[j] v1 (List.getElem_mem hj) q1 q2];exact ez⟩
set_option tactic.hygienic true in
def v5(hu:X.A.units+64<IJ)(op:Co):bY X (IG (cK op)) (rC X.K op):=by
 intro pins s σ H x y v u Q I rx ry h;obtain⟨as,m,w,w',S,R,R',q⟩:=h;have hd:zV=12:=rfl;have fin:∀{b:Bool},Q (.bl b) H->EP X pins σ Q (.bool b) s:=λ{b} q=>⟨.bl b,H,I,rfl,q⟩;have cmpI:∀{r:Int->Int->Bool},ak X.K as H Q (kW r w w' m)->∃i j,x=.int i/\y=.int j/\Q (.bl (r i j)) H:=λ{r} q=>by
  unfold kW at q;cases w with
  |int i=>
   cases w' with
   |int j=>exact⟨i,j,aa.mp R,aa.mp R',q.ok S (aj.mpr rfl)⟩
   |_=>exact q.elim
  |_=>exact q.elim
 cases op with
 |eq=>
  obtain⟨b,hb,q⟩:=vZ S q;exact(gm I S zV X.A w w' x y v u b (by lia) hb R R' rx ry).eq X.prog X.w X.xe _ (fin q)
 |ne=>
  obtain⟨b,hb,q⟩:=vZ S q;obtain⟨c,hc,rfl⟩:=QH.mp hb;exact(gm I S zV X.A w w' x y v u c (by lia) hc R R' rx ry).ne X.prog X.w X.xe _ (fin q)
 |isin=>
  simp only[cL]at q;split at q
  .rename_i ys hs;obtain⟨b,hb,q⟩:=vZ S q;obtain⟨p,vs,rfl,hq,r⟩:=vX S R' hs;obtain rfl:u=.ref p:=ry;rcases hq with hq|hq
   .obtain ⟨its,rv,pl,_⟩:=I.list hq;obtain⟨e,he,rfl⟩:=gq (A:=X.A.in1) I S (by show X.A.units+1+zV<IJ;lia) R rx r rv hb;exact in_listAt e pl.isList he (fin q)
   .obtain ⟨its,rv,pl,_⟩:=I.tuple hq;obtain⟨e,he,rfl⟩:=gq (A:=X.A.in1) I S (by show X.A.units+1+zV<IJ;lia) R rx r rv hb;exact in_tupleAt e (show s.heap.IsTuple p its.toArray from pl) he (fin q)
  .obtain ⟨b,hb,q⟩:=vZ S q;exact Bt hu pins s σ H x y v u Q I rx ry (Bs S R R' hb q)
 |notN=>
  refine CK pins s σ H x y v u Q I rx ry ?_;simp only[cL]at q;split at q
  .exact ⟨am.mp R',by rw[am.mp R];exact q.ok S (aj.mpr rfl)⟩
  .rename_i hne;refine⟨am.mp R',?_⟩;have:x≠.non:=λz=>by
    subst z;exact hne (wA I S _ _ _ R (am.mpr rfl))
   rw[J6 this];exact q.ok S (aj.mpr rfl)
  .exact q.elim
 |lt=>exact AB pins s σ H x y v u Q I rx ry (cmpI q)
 |le=>exact AA pins s σ H x y v u Q I rx ry (cmpI q)
 |gt=>exact Az pins s σ H x y v u Q I rx ry (cmpI (r:=λi j=>decide (j<i)) q)
end
end Mini
namespace L2
open PySem PySem.Spec PyProof.Rows
section
theorem qW:∀vs:List Value,List.map (λx:Value×Value=>x.snd) (vs.zip vs)=vs
 |[]=>rfl
 |v::r=>J5 (v::·) (qW r)
end
section
variable{O:KeyOrd}{key:JA->O.α}
noncomputable def Le(O:KeyOrd)(key:JA->O.α)(x y:JA):Prop:=O.kle (key x) (key y)
def Le.trans{x y z:JA}(h1:Le O key x y)(h2:Le O key y z):Le O key x z:=KeyOrd.kle_trans h1 h2
variable{X Y L:List JA}{ia ib:Nat}
end
section
variable{O:KeyOrd}{key:JA->O.α}
variable{X Y L:List JA}{na nb:Nat}
end
section
variable{O:KeyOrd}{key:JA->O.α}{S:JA->Prop}
variable{κ:SortKind}
structure Ok(κ:SortKind)(O:KeyOrd)(key:JA->O.α)(S:JA->Prop)(st:SortSt)(pend:List (Nat×Nat×Nat))(l:List JA):Prop where
 kind:kindOf st=κ
 failed:failedOf st=none
 pend:(pendingOf st).toList=pend
 arr:(arrOf st).toList=l
 all:∀x∈l,S x
end
noncomputable def oJ(K:Qa)(H:Hp)(c:Int)(n:Nat)(b:Addr)(k:List Int):Prop:=k.length=n /\
 ((c=0/\bt K H b (k.map V.int))\/∃(rs:List Addr) (kk:List (List Int)),2<=c/\k=kk.flatten/\rs.length=kk.length/\bt K H b (rs.map V.ref)/\∀(j:Nat) r q,rs[j]?=some r->kk[j]?=some q->(q.length:Int)+1=c/\bt K H r (q.map V.int))
section
variable{prog:HJ}{w:HL}{A:HY}{E:Value->HK->Prop}{s:HK}
def kJ (ho:s.heap.get? a=some (JB "list" vs.toArray n))(hz:vs.length<=sizeLine)(hf:vs.length<2)(h:P (.done (.ret .none)) {s with heap:=sortedHeap s.heap a vs vs.toArray}):
  Ic (Ie prog w) A (Builtin.«list.sort» ⟨[.ref a],[]⟩) P E s:=by
 rw[list_sort_plain];have ha:a<s.heap.objs.size:=Qg ho;have hzs:vs.toArray.size<=sizeLine:=by simpa using hz
 refine Iv (listItems_at ho rfl ?_);refine Iv (listUpdate_at ho rfl ?_ hzs (by simp));obtain⟨e1,ho1⟩:∃e1,(s.heap.update a (Obj.mapSeq λ_=>#[])).get? a=some (JB "list" #[] e1):=⟨_,JC ho (λ_=>#[])⟩;refine Iv (seqEpoch_at ho1 rfl ?_);refine Iv (wpAny_newTuple ?_);refine Iv (wpAny_newList ?_);refine Iw ?_;have ho6:(((s.heap.update a (Obj.mapSeq λ_=>#[])).push (JB "tuple" vs.toArray 0)).push (JB "list" #[] 0)).get? a=some (JB "list" #[] e1):=by
  rw[Heap.get?_push_ne _ _ _ (by rw[size_push',WY];exact Qx (Wa ha)),Heap.get?_push_ne _ _ _ (by rw[WY];exact Qx ha)];exact ho1
 show Ic (Ie prog w) A _ P E {s with heap:=((s.heap.update a (Obj.mapSeq λ_=>#[])).push (JB "tuple" vs.toArray 0)).push (JB "list" #[] 0)};dsimp only;have h2:vs.toArray.size<2:=by simpa using hf
 rw[J7 h2,J7 h2];refine Iv (IB ?_);rw[StateT.run_pure];refine Iv (IB ?_);dsimp only;have e0:(vs.toArray.zip vs.toArray).map (·.2)=vs.toArray:=by
  apply Array.ext';simpa using qW vs
 refine Iv (seqEpoch_at ho6 rfl ?_);refine Iv (listUpdate_at ho6 rfl ?_ (by simp) (by show((vs.toArray.zip vs.toArray).map (·.2)).size<=_;rw[e0];lia));simp only[bne_self_eq_false,QU,if_false];rw[show(arrOf (SortSt.mk' general' (vs.toArray.zip vs.toArray) #[] 7 none)).map (·.2)=vs.toArray from e0];exact IB h
end
section
variable{X:Cx}
def jz:bv X (.builtin "sorted") (λxs H Q=>∃(p:Addr) (vs:List V),xs=[.ref p]/\bt X.K H p vs/\vs.length<2/\∀l,H l=none->Q (.ref l) (aG H l (.lst vs))):=by
 intro pins s σ H xs us Q I r h;obtain⟨p,ys,rfl,hq,hf,q⟩:=h;obtain⟨u,rfl,rx⟩:=vh r;cases rx;obtain⟨vs,r',pl,hz⟩:=I.list hq;have hl:=r'.length.symm;rw[<-hl]at hz hf;refine Calls.call_function_entry kind_sorted plain_sorted entry_sorted (args_sorted1 _) ?_;unfold Builtin.«sorted»;refine Iv (m:=checkCount "sorted" 1 1 _) (IB ?_);refine Iv (collect_list pl.isList ?_ hz);refine Iv (wpAny_newList ?_);have hsz:((s.heap.push (JB "list" #[] 0)).update s.heap.objs.size (Obj.mapSeq (·++vs.toArray))).objs.size=s.heap.objs.size+1:=by
  rw[WY,size_push']
 have hoL:(((s.heap.push (JB "list" #[] 0)).update s.heap.objs.size (Obj.mapSeq (·++vs.toArray))).push (JB "list" vs.toArray 0)).get? (s.heap.objs.size+1)=some (JB "list" vs.toArray 0):=by
  rw[<-hsz];exact Qk _ rfl
 have hk2:∀b o,s.heap.get? b=some o->(JD s.heap vs vs.toArray).get? b=some o:=by
  intro b o e;have hb:=Qg e;unfold JD sortedHeap;rw[WP _ _ _ _ (Qx (Wa hb))];refine Qc _ (Qc _ ?_);rw[WP _ _ _ _ (Qx (Wa hb))];refine Qc _ ?_;rw[WP _ _ _ _ (Qx hb)];exact Qc _ e
 have hres:∃c,(JD s.heap vs vs.toArray).get? (s.heap.objs.size+1)=some (JB "list" vs.toArray c):=by
  unfold JD sortedHeap;obtain⟨e1,ho1⟩:∃e1,((((s.heap.push (JB "list" #[] 0)).update s.heap.objs.size (Obj.mapSeq (·++vs.toArray))).push (JB "list" vs.toArray 0)).update (s.heap.objs.size+1) (Obj.mapSeq λ_=>#[])).get? (s.heap.objs.size+1)=some (JB "list" #[] e1):=⟨_,JC hoL (λ_=>#[])⟩;exact⟨_,JC (Qc _ (Qc _ ho1)) (λ_=>vs.toArray)⟩
 obtain⟨c,e⟩:=hres;show Ic _ _ _ _ _ {s with heap:=((s.heap.push (JB "list" #[] 0)).update s.heap.objs.size (Obj.mapSeq (·++vs.toArray))).push (JB "list" vs.toArray 0)};rw[hsz];refine Iv (Iw (Ja slot_list_sort ⟨_,hoL,rfl⟩ entry_list_sort (kJ hoL hz hf ⟨_,rfl,?_⟩) (args_list_sort _)));refine IB ⟨_,rfl,?_⟩;exact⟨.ref (s.heap.objs.size+1),_,I.laid (t':=s.toks) hk2 (Wz _) (show aR X.prog X.w _ _ _ (.lst ys)from⟨by rw[<-hl];exact hz,_,c,r',e⟩),rfl,q _ (I.hok.fresh (Wz _))⟩
end
noncomputable def fh(ns:List Int):List Int:=ns.mergeSort λa b=>decide (a<=b)
def kY(ns:List Int):(fh ns).Perm ns:=List.mergeSort_perm _ _
def gr(ns:List Int):(fh ns).Pairwise (·<=·):=by
 have:=List.pairwise_mergeSort (le:=λa b:Int=>decide (a<=b)) (λa b c h1 h2=>by simp only[Kc]at *;lia) (λa b=>by simp only[Ws,Kc];lia) ns;exact this.imp λh=>Kb h
def Df (h:ms.Perm ns)(hs:ms.Pairwise (·<=·)):fh ns=ms:=
 List.Perm.eq_of_pairwise (le:=λa b:Int=>a<=b) (λa b _ _ h1 h2=>by lia) (gr ns) hs ((kY ns).trans h.symm)
theorem gs:∀{ns:List Int}{its:List Value},av (ns.map V.int) its->Jk its ns
 |[],_,.nil=>.nil
 |n::ns,_,.cons r t=>by
  obtain⟨k,rfl⟩:=(r:∃t,_=Value.int n t);exact .cons _ _ (gs t)
theorem gu:∀{ns:List Int}{its:List Value},Jk its ns->av (ns.map V.int) its
 |_,_,.nil=>.nil
 |_,_,.cons _ _ t=>.cons ⟨_,rfl⟩ (gu t)
section
variable{X:Cx}
def qi:bv X (.builtin "sorted") (λxs H Q=>∃(p:Addr) (ns:List Int),xs=[.ref p]/\bt X.K H p (ns.map V.int)/\ns.length<64/\∀l,H l=none->Q (.ref l) (aG H l (.lst ((fh ns).map V.int)))):=by
 intro pins s σ H xs us Q I r h;obtain⟨p,ns,rfl,hq,h64,q⟩:=h;obtain⟨u,rfl,rx⟩:=vh r;cases rx;obtain⟨its,r',pl,hz⟩:=I.list hq;have hlen:=r'.length;rw[QF]at hlen;refine sorted_ints pl.isList (gs r') (by lia) λout ns' h1 h2 h3=>?_;obtain⟨e,he⟩:=sortedAll_at s.heap its out;have e1:fh ns=ns':=Df h2 h3;refine⟨.ref (s.heap.objs.size+1),_,I.laid (a:=s.heap.objs.size+1) (t':=s.toks) (λb o hb=>sortedAll_old hb) (by lia) (show aR X.prog X.w _ _ _ (.lst ((fh ns).map V.int))from⟨?_,out.toList,e,?_,?_⟩),rfl,q _ (I.hok.fresh (by lia))⟩
 .rw[QF,(kY ns).length_eq];have:(64:Nat)<=sizeLine:=by decide
  lia
 .rw[e1];exact gu h1
 .exact he
end
end L2
namespace Mini
open PySem PySem.Spec PyProof.Rows L2
section
variable{K:Qa}{as:List Addr}{H:Hp}{m:Me}{Q:VK}{X:Cx}
noncomputable def im:dM->Option (Str×Value)
 |.len=>some ("len",.builtin "len")
 |.int=>some ("int",.type "int")
 |.list=>some ("list",.type "list")
 |.tuple=>some ("tuple",.type "tuple")
 |.sum=>some ("sum",.builtin "sum")
 |.sorted=>some ("sorted",.builtin "sorted")
 |.sortI=>some ("sorted",.builtin "sorted")
noncomputable def sL(K:Qa)(b:dM):List V->Hp->VK->Prop:=λvs H Q=>∃as m ws,aJ K as m H/\ae K as H ws vs/\ak K as H Q (vv b ws m)
def yT (h:ae K as H [x] vs):∃v,vs=[v]/\ai K as H x v:=by
 obtain⟨v,r,rfl,q,t⟩:=ao.mp h;obtain rfl:=aA.mp t;exact⟨v,rfl,q⟩
def Br (h:ae K as H [x,y] vs):∃v u,vs=[v,u]/\ai K as H x v/\ai K as H y u:=by
 obtain⟨v,r,rfl,q,t⟩:=ao.mp h;obtain⟨u,rfl,q'⟩:=yT t;exact⟨v,u,rfl,q,q'⟩
def qX (S:aJ K as m H)(R:ai K as H w v)(h:vR m w=some xs):∃p vs,v=.ref p/\bt K H p vs/\ae K as H xs vs:=by
 cases w with
 |rol ys=>
  cases h;obtain⟨a,vs,rfl,hq,rr⟩:=ba.mp R;exact⟨a,vs,rfl,hq.sq,rr⟩
 |ref l=>
  obtain⟨b,hb,rfl⟩:=aE.mp R;obtain⟨a,vs,ha,e,r⟩:=zI S (zw h);rw[hb]at ha;cases ha;exact⟨b,vs,rfl,bt.of e,r⟩
 |_=>cases h
theorem qY:∀{xs:List Wd}{vs:List V}{i:Int},ae K as H xs vs->qg xs=some i->∃ns:List Int,vs=ns.map V.int/\ns.sum=i
 |[],vs,i,R,h=>by cases h;exact⟨[],aA.mp R,rfl⟩
 |x::xs,vs,i,R,h=>by
  obtain⟨v,r,rfl,q,t⟩:=ao.mp R;cases x with
  |int j=>
   simp only[qg,QH]at h;obtain⟨k,hk,rfl⟩:=h;obtain⟨ns,rfl,rfl⟩:=qY t hk;obtain rfl:=aa.mp q;exact⟨j::ns,rfl,by simp⟩
  |_=>cases h
def vB{o:Option (List Wd)}{f:(List Wd)->Rz}(h:ak K as H Q (match o with|some a=>f a|none=>.no)):∃a,o=some a/\ak K as H Q (f a):=by
 cases o with
 |none=>exact h.elim
 |some a=>exact⟨a,rfl,h⟩
def De{o:Option Int}{f:Int->Rz}(h:ak K as H Q (match o with|some a=>f a|none=>.no)):∃a,o=some a/\ak K as H Q (f a):=by
 cases o with
 |none=>exact h.elim
 |some a=>exact⟨a,rfl,h⟩
theorem wP:∀(l:List Int),ae K as H (l.map Wd.int) (l.map V.int)
 |[]=>aA.mpr rfl
 |n::l=>ao.mpr ⟨_,_,rfl,aa.mpr rfl,wP l⟩
theorem xo:∀{xs:List Wd}{vs:List V}{k:List Int},ae K as H xs vs->zX xs=some k->vs=k.map V.int
 |[],vs,k,R,h=>by cases h;exact aA.mp R
 |x::xs,vs,k,R,h=>by
  obtain⟨v,r,rfl,q,t⟩:=ao.mp R;cases x with
  |int j=>
   have h':(zX xs).map (j::·)=some k:=h;obtain⟨k',hk,rfl⟩:=QH.mp h';rw[xo t hk,aa.mp q];rfl
  |_=>cases h
theorem gv(S:aJ K as m H):∀{zs:List Wd}{vs:List V}{ks:List (List Int)},ae K as H zs vs->gh m zs=some ks ->
  ∃bs:List Addr,vs=bs.map V.ref/\ks.length=bs.length/\∀(i:Nat) b k,bs[i]?=some b->ks[i]?=some k->bt K H b (k.map V.int)
 |[],vs,ks,R,h=>by
  cases h;exact⟨[],aA.mp R,rfl,λi b k h1 _=>by simp at h1⟩
 |z::zs,vs,ks,R,h=>by
  obtain⟨v,r,rfl,q,t⟩:=ao.mp R;cases z with
  |ref l=>
   have h':(match zn m l with
    |some xs=>match zX xs,gh m zs with
     |some k,some ks=>some (k::ks)
     |_,_=>none
    |none=>none)=some ks:=h
   cases e1:zn m l with
   |none=>rw[e1]at h';cases h'
   |some xs=>
    rw[e1]at h';cases e2:zX xs with
    |none=>simp only[e2]at h';cases h'
    |some k=>
     cases e3:gh m zs with
     |none=>simp only[e2,e3]at h';cases h'
     |some ks'=>
      simp only[e2,e3]at h';cases h';obtain⟨bs,rfl,hl,hb⟩:=gv S t e3;obtain⟨p,us,rfl,hq,rr⟩:=qX S q (show vR m (.ref l)=some xs from e1);refine⟨p::bs,rfl,by simp[hl],λi b k' h1 h2=>?_⟩;cases i with
      |zero=>
       cases h1;cases h2;rw[<-xo rr e2];exact hq
      |succ i=>exact hb i b k' h1 h2
  |_=>cases h
def EX (h:pM kk=some k):∃c:Int,k=c::kk.flatten/\2<=c/\kk≠[]/\∀q∈kk,(q.length:Int)+1=c:=by
 cases kk with
 |nil=>cases h
 |cons r rs=>
  replace h:(if r.length≠0/\rs.all (λq=>q.length==r.length)=true then some (((r.length:Int)+1)::(r::rs).flatten)else none)=some k:=h
  by_cases z:r.length≠0/\rs.all (λq=>q.length==r.length)=true
  .rw[J7 z]at h;cases h;refine⟨_,rfl,by lia,by simp,λq hq=>?_⟩;rcases Qj.mp hq with rfl|hq
   .rfl
   .have:=eq_of_beq (Wf.mp z.2 q hq);lia
  .rw[J8 z]at h;cases h
def dy (S:aJ K as m H)(R:ae K as H xs vs)(hq:bt K H p vs)(h:oY m xs=some k):∃c k',k=c::k'/\oJ K H c k'.length p k':=by
 unfold oY at h;cases e:zX xs with
 |some k'=>
  rw[e]at h;cases h;exact⟨0,k',rfl,rfl,.inl ⟨rfl,by rw[<-xo R e];exact hq⟩⟩
 |none=>
  rw[e]at h;obtain⟨kk,h1,h2⟩:=QE.mp h;obtain⟨c,rfl,hc,_,hl⟩:=EX h2;obtain⟨rs,rfl,h3,h4⟩:=gv S R h1;exact⟨c,_,rfl,rfl,.inr ⟨rs,kk,hc,rfl,h3.symm,hq,λj r q a b=>⟨hl q (Ql b),h4 j r q a b⟩⟩⟩
set_option tactic.hygienic true in
def Ey (hu:X.A.units+64<IJ)(hc:X.calm=true)(hb:im b=some (nm,f)):bv X f (sL X.K b):=by
 intro pins s σ H xs us Q I r h;obtain⟨as,m,ws,S,R,q⟩:=h;cases b with
 |len=>
  cases hb;refine js pins s σ H xs us Q I r ?_;rcases ws with _|⟨x,_|⟨_,_⟩⟩
  .exact q.elim
  .obtain ⟨ys,hs,q⟩:=vB (o:=yD m x) (f:=λys=>.ok (.int ys.length) m) q;obtain⟨v,rfl,q1⟩:=yT R;obtain⟨p,vs,rfl,hq,rr⟩:=vX S q1 hs;refine⟨p,vs,rfl,hq,?_⟩;rw[<-rr.length];exact q.ok S (aa.mpr rfl)
  .exact q.elim
 |int=>
  cases hb;refine E7 pins s σ H xs us Q I r ?_;cases ws with
  |nil=>exact q.elim
  |cons x ws=>
   cases x with
   |int i=>
    cases ws with
    |nil=>
     obtain⟨v,rfl,q1⟩:=yT R;obtain rfl:=aa.mp q1;exact .inl ⟨i,rfl,q.ok S (aa.mpr rfl)⟩
    |cons _ _=>exact q.elim
   |bl i=>
    cases ws with
    |nil=>
     obtain⟨v,rfl,q1⟩:=yT R;obtain rfl:=aj.mp q1;exact .inr ⟨i,rfl,q.ok S (aa.mpr rfl)⟩
    |cons _ _=>exact q.elim
   |_=>exact q.elim
 |list=>
  cases hb;refine jt pins s σ H xs us Q I r ?_;rcases ws with _|⟨x,_|⟨_,_⟩⟩
  .exact q.elim
  .obtain ⟨ys,hs,q⟩:=vB (o:=yD m x) (f:=λys=>alloc m ys) q;obtain⟨v,rfl,q1⟩:=yT R;obtain⟨p,vs,rfl,hq,rr⟩:=vX S q1 hs;exact⟨p,vs,rfl,hq,(yJ S rr q).2⟩
  .exact q.elim
 |tuple=>
  cases hb;refine kG pins s σ H xs us Q I r ?_;rcases ws with _|⟨x,_|⟨_,_⟩⟩
  .exact q.elim
  .obtain ⟨ys,hs,q⟩:=vB (o:=yD m x) (f:=λys=>.ok (.tup ys) m) q;obtain⟨v,rfl,q1⟩:=yT R;obtain⟨p,vs,rfl,hq,rr⟩:=vX S q1 hs;refine⟨p,vs,rfl,?_⟩;rcases hq with hq|hq
   .refine .inl ⟨hq,λl hl=>?_⟩;obtain⟨T,S',R'⟩:=S.tup hl rr;exact q _ _ _ T S' R'
   .exact .inr ⟨hq,q.ok S (ah.mpr ⟨p,vs,rfl,hq,rr⟩)⟩
  .exact q.elim
 |sorted=>
  cases hb;refine jz pins s σ H xs us Q I r ?_;rcases ws with _|⟨x,_|⟨_,_⟩⟩
  .exact q.elim
  .cases x with
   |ref l=>
    obtain⟨zs,hs,q⟩:=vB (o:=zn m l) (f:=λzs=>if zs.length<2 then alloc m zs else .no) q;obtain⟨hf,q⟩:=yr q;obtain⟨v,rfl,q1⟩:=yT R;obtain⟨p,vs,rfl,hq,rr⟩:=qX S q1 (show vR m (.ref l)=some zs from hs);exact⟨p,vs,rfl,hq,by have:=ae.length rr;lia,(yJ S rr q).2⟩
   |_=>exact q.elim
  .cases x<;>exact q.elim
 |sortI=>
  cases hb;refine qi pins s σ H xs us Q I r ?_;rcases ws with _|⟨x,_|⟨_,_⟩⟩
  .exact q.elim
  .replace q:ak X.K as H Q (match (vR m x).bind zX with
    |some k=>if k.length<64 then alloc m ((fk k).map Wd.int)else .no
    |none=>.no):=q
   cases hs:(vR m x).bind zX with
   |none=>rw[hs]at q;exact q.elim
   |some k=>
    rw[hs]at q;by_cases h64:k.length<64
    .replace q:ak X.K as H Q (if k.length<64 then alloc m ((fk k).map Wd.int)else .no):=q
     rw[J7 h64]at q;obtain⟨ys,h1,h2⟩:=QE.mp hs;obtain⟨v,rfl,q1⟩:=yT R;obtain⟨p,vs,rfl,hq,rr⟩:=qX S q1 h1;obtain rfl:=xo rr h2;exact⟨p,k,rfl,hq,h64,(yJ S (wP _) q).2⟩
    .replace q:ak X.K as H Q (if k.length<64 then alloc m ((fk k).map Wd.int)else .no):=q
     rw[J8 h64]at q;exact q.elim
  .exact q.elim
 |sum=>
  cases hb;refine gd hc pins s σ H xs us Q I r ?_;rcases ws with _|⟨x,_|⟨_,_⟩⟩
  .exact q.elim
  .obtain ⟨i,hs,q⟩:=De (o:=(vR m x).bind qg) (f:=λi=>.ok (.int i) m) q;obtain⟨ys,h1,h2⟩:=QE.mp hs;obtain⟨v,rfl,q1⟩:=yT R;obtain⟨p,vs,rfl,hq,rr⟩:=qX S q1 h1;obtain⟨ns,rfl,rfl⟩:=qY rr h2;exact⟨p,ns,rfl,hq,q.ok S (aa.mpr rfl)⟩
  .exact q.elim
set_option tactic.hygienic true in
def Bq (S:aJ K as m H)(R:ai K as H x v)(R':ai K as H y u)(h:ak K as H Q (xY x y m)):sK K v u H Q:=by
 unfold xY at h;split at h
 .rename_i i;obtain rfl:=aa.mp R';split at h
  .rename_i xs hs;split at h
   .rename_i w hw;obtain⟨p,vs,rfl,hq,rr⟩:=vX S R hs;have e:∃z,eY vs i=some z/\ai K as H w z:=by
     obtain⟨j,hj,hx⟩:=QE.mp hw;obtain⟨z,hz,rz⟩:=rr.get hx;refine⟨z,?_,rz⟩;unfold eY;have hj':fR vs.length i=some j:=by rw[<-rr.length];exact hj
     rw[hj'];exact hz
    obtain⟨z,hz,rz⟩:=e;rcases hq with hq|hq
    .exact .inl ⟨p,vs,i,z,rfl,rfl,hq,hz,h.ok S rz⟩
    .exact .inr (.inl ⟨p,vs,i,z,rfl,rfl,hq,hz,h.ok S rz⟩)
   .exact h.elim
  .exact h.elim
 .exact h.elim
noncomputable def fy:dO->Str×String
 |.append=>("append","list.append") |.pop=>("pop","list.pop") |.reverse=>("reverse","list.reverse") |.clear=>("clear","list.clear") 
noncomputable def Ft(K:Qa)(n:dO):V->List V->Hp->VK->Prop:=λv vs H Q=>∃as m w ws,aJ K as m H/\ai K as H w v/\ae K as H ws vs/\ak K as H Q (dB n w ws m)
set_option tactic.hygienic true in
def Bm(n:dO):iW X (fy n).2 (Ft X.K n):=by
 intro pins s σ H v vs u us Q I r rs h;obtain⟨as,m,w,ws,S,R,Rs,q⟩:=h;unfold dB at q;split at q
 .rename_i l;split at q
  .rename_i xs hl;obtain⟨a,ha,rfl⟩:=aE.mp R;obtain⟨b,zs,hb,e,rr⟩:=zI S hl;rw[ha]at hb;cases hb;have hz:zs.length<=sizeLine:=(I.lstM e).1;split at q
   .rename_i y;split at q
    .rename_i hlt;obtain⟨z,rfl,rz⟩:=yT Rs;obtain⟨T,S'⟩:=S.set ha hl (rr.append (.one rz));exact kT pins s σ H _ _ u us Q I r rs ⟨a,zs,z,rfl,rfl,e,by rw[<-rr.length];exact Qe hlt yq,q _ _ _ T S' (am.mpr rfl)⟩
    .exact q.elim
   .split at q
    .rename_i y hy;obtain rfl:=aA.mp Rs;obtain⟨z,hz',rz⟩:=rr.get hy;obtain⟨T,S'⟩:=S.set ha hl rr.dropLast;exact By pins s σ H _ _ u us Q I r rs ⟨a,zs,z,rfl,rfl,e,by rw[<-rr.length];exact hz',q _ _ _ T S' (rz.mono S T)⟩
    .exact q.elim
   .obtain rfl:=aA.mp Rs;obtain⟨T,S'⟩:=S.set ha hl rr.reverse;exact qe pins s σ H _ _ u us Q I r rs ⟨a,zs,rfl,rfl,e,q _ _ _ T S' (am.mpr rfl)⟩
   .exact q.elim
  .exact q.elim
 .exact q.elim
noncomputable def cU:Tg->String
 |.int=> "int" |.bool=> "bool" |.list=> "list" |.tuple=> "tuple" |.str=> "str" |.dict=> "dict"
def Dd(K:Qa)(t:Tg):
  QG K (.type "NoneType") (.type (cU t))=some false/\QG K (.type "bool") (.type (cU t))=some (decide (t=.bool\/t=.int))/\QG K (.type "int") (.type (cU t))=some (decide (t=.int)) /\
  QG K (.type "str") (.type (cU t))=some (decide (t=.str))/\QG K (.type "list") (.type (cU t))=some (decide (t=.list))/\QG K (.type "tuple") (.type (cU t))=some (decide (t=.tuple))/\QG K (.type "dict") (.type (cU t))=some (decide (t=.dict)):=by
 cases t<;>refine⟨?_,?_,?_,?_,?_,?_,?_⟩<;>kernel_rfl
noncomputable def lV(K:Qa)(t:Tg):List V->Hp->VK->Prop:=λvs H Q=>∃as m w v,vs=[v,.ty (cU t)]/\aJ K as m H/\ai K as H w v/\ak K as H Q (dw (df t w m) m)
def Bl(m:Me)(t:Tg):df t .non m=some false/\(∀c,df t (.bl c) m=some (decide (t=.bool\/t=.int)))/\(∀i,df t (.int i) m=some (decide (t=.int)))/\(∀x,df t (.str x) m=some (decide (t=.str)))/\(∀ys,df t (.tup ys) m=some (decide (t=.tuple)))/\(∀ys,df t (.rol ys) m=some (decide (t=.list)))/\∀l ys,m[l]?=some (.lst ys)->df t (.ref l) m=some (decide (t=.list)):=by
 refine⟨?_,λc=>?_,λi=>?_,λx=>?_,λys=>?_,λys=>?_,λl ys h=>?_⟩
 rotate_right
 .have e:df t (.ref l) m=(match m[l]? with|some (.lst _)=>some (decide (t=.list))|some (.dct _ _)=>some (decide (t=.dict))|none=>none):=by cases t<;>rfl
  rw[e,h]
 all_goals cases t<;>rfl
def Dc (m:Me)(t:Tg)(h:m[l]?=some (.dct ks ws)):df t (.ref l) m=some (decide (t=.dict)):=by
 have e:df t (.ref l) m=(match m[l]? with|some (.lst _)=>some (decide (t=.list))|some (.dct _ _)=>some (decide (t=.dict))|none=>none):=by cases t<;>rfl
 rw[e,h]
def Ew(t:Tg):bv X (.builtin "isinstance") (lV X.K t):=by
 intro pins s σ H xs us Q I r h;obtain⟨as,m,w,v,rfl,S,R,q⟩:=h;obtain⟨b,hb,q⟩:=vZ S q;obtain⟨u,u',rfl,ru,ru'⟩:=Ay r;obtain rfl:u'=.type (cU t):=ru';obtain⟨k1,k2,k3,k4,k5,k6,k7⟩:=Dd X.K t;obtain⟨z1,z2,z3,z4,z5,z6,z7⟩:=Bl m t;have fin:∀tk,EP X pins σ Q (.bool b) {s with toks:=tk}:=λtk=>⟨.bl b,H,I.tok tk,rfl,q⟩;cases w with
 |non=>
  obtain rfl:=am.mp R;have e:b=false:=Option.some.inj (hb.symm.trans z1);subst e;exact yW I ru .non k1 fin
 |bl c=>
  obtain rfl:=aj.mp R;have e:b=decide (t=.bool\/t=.int):=Option.some.inj (hb.symm.trans (z2 _));subst e;exact yW I ru (.bl c) k2 fin
 |int i=>
  obtain rfl:=aa.mp R;have e:b=decide (t=.int):=Option.some.inj (hb.symm.trans (z3 _));subst e;exact yW I ru (.int i) k3 fin
 |str x=>
  obtain rfl:=az.mp R;have e:b=decide (t=.str):=Option.some.inj (hb.symm.trans (z4 _));subst e;exact yW I ru (.str _) k4 fin
 |tup ys=>
  obtain⟨a,vs,rfl,hq,rr⟩:=ah.mp R;have e:b=decide (t=.tuple):=Option.some.inj (hb.symm.trans (z5 _));subst e;obtain rfl:u=.ref a:=ru;obtain⟨its,_,⟨o,h1,h2,_⟩,_⟩:=I.tuple hq;exact QP PySem.W.kitx_tuple I.kIn ⟨o,h1,h2⟩ k6 (λz=>nomatch z) fin
 |rol ys=>
  obtain⟨a,vs,rfl,hq,rr⟩:=ba.mp R;have e:b=decide (t=.list):=Option.some.inj (hb.symm.trans (z6 _));subst e;obtain rfl:u=.ref a:=ru;obtain⟨its,_,p,_⟩:=I.list hq.sq;obtain⟨o,n,h1,h2,_⟩:=p;exact QP WR I.kIn ⟨o,h1,h2⟩ k5 (λz=>nomatch z) fin
 |ref l=>
  obtain⟨a,ha,rfl⟩:=aE.mp R;have hlm:l<m.length:=by rw[<-S.len];exact(Qb.mp ha).1
  have hg:m[l]?=some m[l]:=by simp[hlm]
  cases ho:m[l]with
  |lst ys=>
   rw[ho]at hg;obtain⟨a',us,ha',e2,_⟩:=zI S hg;rw[ha]at ha';cases ha';have e:b=decide (t=.list):=Option.some.inj (hb.symm.trans (z7 _ _ hg));subst e;exact yW I ru (.lst e2) k5 fin
  |dct ks us=>
   rw[ho]at hg;obtain⟨a',ha',xs,vs,td,_⟩:=S.get hg;rw[ha]at ha';cases ha';have e:b=decide (t=.dict):=Option.some.inj (hb.symm.trans (Dc m t hg));subst e;obtain rfl:u=.ref a:=ru;exact QP WS I.kIn (xk I td).2.typeIs k7 (λz=>nomatch z) fin
end
structure eL(J:It)(vs:List V)(ok:Hp->Prop):Prop where
 go:∀i H,ok H->i<vs.length->J.go i H
 yld:∀i H x H',ok H->i<vs.length->J.yld i H x H'->H'=H/\vs[i]?=some x
 stop:∀i H,ok H->vs.length<=i->J.stop i H
noncomputable def qZ(K:Qa)(as:List Addr)(H:Hp)(J:It)(xs:List Wd):Prop:=
 ∃vs ok,eL J vs ok/\ok H/\ae K as H xs vs/\∀H1 H2,Kp K H1 H2->ok H1->ok H2
noncomputable def oW(K:Qa)(as:List Addr)(H:Hp)(w:Wd)(J:It):Prop:=match w with
 |.tup xs=>qZ K as H J xs
 |.rol xs=>qZ K as H J xs
 |.ref l=>∃a,as[l]?=some a/\J=oK K a
 |_=>True
noncomputable def bO(K:Qa)(as:List Addr)(H:Hp)(R:It->Hp->Prop)(r:Rz):Prop:=match r with
 |.ok w m'=>(yD m' w).isSome=true/\∀as' H' J,Step as H as' H'->aJ K as' m' H'->oW K as' H' w J->R J H'
 |_=>False
noncomputable def fB(K:Qa)(g:En->Me->Rz):TI:=λσ H R=>∃as env m,aJ K as m H/\aC K as H env σ/\bO K as H R (g env m)
def PI.or{X:Cx}{tg e:Expr}{a b:TI}(h1:PI X tg e a)(h2:PI X tg e b):PI X tg e (λσ H R=>a σ H R\/b σ H R):=λpins s σ H R I h=>by
 rcases h with h|h
 .exact h1 pins s σ H R I h
 .exact h2 pins s σ H R I h
def PI.imp{X:Cx}{tg e:Expr}{a b:TI}(h:PI X tg e a)(k:∀σ H R,b σ H R->a σ H R):PI X tg e b:=λpins s σ H R I q=>h pins s σ H R I (k σ H R q)
def v6 (h:PE X x (aH X.K g)):PI X tg x (fB X.K g):=by
 refine PI.imp (PI.or (CM h) (AV h)) λσ H R q=>?_;obtain⟨as,env,m,S,G,P⟩:=q;cases hr:g env m with
 |no=>rw[hr]at P;exact P.elim
 |ok w m'=>
  rw[hr]at P;obtain⟨hs,P⟩:=P;obtain⟨xs,hs⟩:=Wj.mp hs;cases w with
  |tup ys=>
   refine .inr ⟨as,env,m,S,G,?_⟩;rw[hr];intro as' H' v T S' R';obtain⟨a,vs,rfl,hq,rr⟩:=ah.mp R';refine⟨a,rfl,⟨vs,hq⟩,P as' H' _ T S' ⟨vs,λH=>bJ X.K H a vs,⟨λi H h hi=>⟨vs,vs[i],h,by simp[hi]⟩,λi H x H' h hi q=>⟨q.1,q.2 vs h⟩,λi H h hi=>⟨vs,h,hi⟩⟩,hq,rr,λH1 H2 k h=>k.t _ _ h⟩⟩
  |rol ys=>
   refine .inl ⟨as,env,m,S,G,?_⟩;rw[hr];intro as' H' v T S' R';obtain⟨a,vs,rfl,hq,rr⟩:=ba.mp R';refine⟨a,rfl,⟨vs,hq.sq⟩,P as' H' _ T S' ⟨vs,λH=>en X.K H a vs,⟨λi H h hi=>⟨vs,vs[i],h.sq,by simp[hi]⟩,λi H x H' h hi q=>⟨q.1,q.2 vs h.sq⟩,λi H h hi=>⟨vs,h.sq,hi⟩⟩,hq,rr,λH1 H2 k h=>k.f _ _ h⟩⟩
  |ref l=>
   refine .inl ⟨as,env,m,S,G,?_⟩;rw[hr];intro as' H' v T S' R';obtain⟨a,ha,rfl⟩:=aE.mp R';obtain⟨a',us,ha',e,_⟩:=zI S' (zw hs);rw[ha]at ha';cases ha';exact⟨a,rfl,⟨us,bt.of e⟩,P as' H' _ T S' ⟨a,ha,rfl⟩⟩
  |non=>cases hs
  |bl b=>cases hs
  |int i=>cases hs
  |str x=>cases hs
theorem v7 {K:Qa}(st:Int):∀(n:Nat) (lo:Int),ae K as H (qh lo st n) ((Q2 n).map λ(i:Nat)=>V.int (lo+st*(i:Int)))
 |0,lo=>aA.mpr rfl
 |n+1,lo=>by
  rw[WF,QO,List.map_map];refine ao.mpr ⟨_,_,rfl,aa.mpr (by simp),?_⟩;have e:((λ(i:Nat)=>V.int (lo+st*(i:Int))) ∘ Nat.succ)=λ(i:Nat)=>V.int (lo+st+st*(i:Int)):=by
   funext i;show V.int (lo+st*((i.succ:Nat):Int))=_;congr 1;rw[Nat.succ_eq_add_one,Int.natCast_add,Int.mul_add];lia
  rw[e];exact v7 st n (lo+st)
def EW{K:Qa}(lo:Int)(n:Nat):eL (fD lo n) ((Q2 n).map λ(i:Nat)=>V.int (lo+1*(i:Int))) (λ_=>True):=by
 refine⟨λi H _ hi=>?_,λi H x H' _ hi q=>?_,λi H _ hi=>?_⟩
 .show i<n;simpa using hi
 .obtain ⟨e,rfl⟩:=q;refine⟨e,?_⟩;have hi':i<n:=by simpa using hi
  rw[QD,List.getElem?_range hi'];simp
 .show n<=i;simpa using hi
end Mini
namespace L2
open PySem PySem.Spec PyProof.Rows
section
variable{κ:Type}[DecidableEq κ]
noncomputable def y8(kvs:List (κ×V))(k:κ):Option V:=(kvs.find? λkv=>decide (kv.1=k)).map (·.2)
noncomputable def gw(kvs:List (κ×V))(k:κ)(v:V):List (κ×V):=
 if(kvs.any λkv=>decide (kv.1=k))=true then kvs.map (λkv=>if kv.1=k then(kv.1,v)else kv)else kvs++[(k,v)]
def yY {k:κ}(e:p.1=k):y8 (p::r) k=some p.2:=by simp[y8,Wk,e]
def xp {k:κ}(e:¬p.1=k):y8 (p::r) k=y8 r k:=by simp[y8,Wk,e]
theorem v8(k:κ):∀kvs:List (κ×V),(kvs.any λkv=>decide (kv.1=k))=(y8 kvs k).isSome
 |[]=>rfl
 |p::r=>by
  rw[WA];by_cases e:p.1=k
  .simp only[yY e,Ka e,Bool.true_or,Option.isSome_some]
  .rw[xp e,J6 e,Bool.false_or];exact v8 k r
def Ev {k:κ}(v:V)(h:y8 kvs k=none):gw kvs k v=kvs++[(k,v)]:=by
 unfold gw;rw[v8,h];exact J8 (by decide)
def KV.val (r:KV kvs vs)(k:κ):dJ (y8 kvs k) (JE vs k):=by
 unfold KV at r
 induction r with
 |nil=>exact True.intro
 |@cons p q ps qs h t ih=>
  obtain⟨h1,h2⟩:=h;by_cases e:p.1=k
  .have e':q.1=k:=h1.symm.trans e;have b:JE (q::qs) k=some q.2:=by simp[JE,Wk,e']
   rw[yY e,b];exact h2
  .have e':¬q.1=k:=λz=>e (h1.trans z);have b:JE (q::qs) k=JE qs k:=by simp[JE,Wk,e']
   rw[xp e,b];exact ih
theorem KV.any (r:KV kvs vs)(k:κ):(kvs.any λkv=>decide (kv.1=k))=vs.any λkv=>decide (kv.1=k):=by
 unfold KV at r
 induction r with
 |nil=>rfl
 |cons h t ih=>rw[WA,WA,ih,h.1]
def KV.repl{kvs:List (κ×V)}{vs:List (κ×Value)}(r:KV kvs vs)(k:κ){y:V}{u:Value}(ry:RelV y u):
  KV (kvs.map λkv=>if kv.1=k then(kv.1,y)else kv) (vs.map λkv=>if kv.1=k then(kv.1,u)else kv):=by
 unfold KV at r ⊢
 induction r with
 |nil=>exact .nil
 |@cons p q ps qs h t ih=>
  rw[QO,QO];refine .cons ?_ ih;obtain⟨h1,h2⟩:=h;by_cases e:p.1=k
  .rw[J7 e,J7 (h1.symm.trans e)];exact⟨h1,ry⟩
  .rw[J8 e,J8 (λz=>e (h1.trans z))];exact⟨h1,h2⟩
def KV.put{kvs:List (κ×V)}{vs:List (κ×Value)}(r:KV kvs vs)(k:κ){y:V}{u:Value}(ry:RelV y u):KV (gw kvs k y) (stored vs k u):=by
 unfold gw stored;rw[r.any k];by_cases e:(vs.any λkv=>decide (kv.1=k))=true
 .rw[J7 e,J7 e];exact r.repl k ry
 .rw[J8 e,J8 e];exact Paired.snoc r ⟨rfl,ry⟩
def KV.keys {vs:List (κ×Value)}(r:KV kvs vs):kvs.map (·.1)=vs.map (·.1):=by
 unfold KV at r
 induction r with
 |nil=>rfl
 |cons h t ih=>rw[QO,QO,ih,h.1]
theorem KV.length {vs:List (κ×Value)}(r:KV kvs vs):kvs.length=vs.length:=Paired.length r
end
def lr (r:RelV (kV k) u):(zE P w).is k u=true:=by
 cases k with
 |inl i=>obtain⟨t,e⟩:=(show ∃t,u=Value.int i t from r);subst e;exact jZ P w i t
 |inr x=>obtain⟨t,e⟩:=(show ∃t,u=Value.str x t from r);subst e;exact j4 P w x t
section
variable{P:HJ}{w:HL}{H:Hp}{h:HQ}{a:Addr}
def uA (ok:b7 P w H h)(e:Rd H a u):aR P w H h a u:=e.ok ok
def uy (ok:b7 P w H h)(e:Rd H a (.dK kvs)):kvs.length<=sizeLine/\(a==HR)=false/\∃vs,KV kvs vs/\h.DictOf (zE P w) a vs:=
 show aR P w H h a (.dK kvs)from uA ok e
def ux (ok:b7 P w H h)(e:H a=some (.dK kvs)):kvs.length<=sizeLine/\(a==HR)=false/\∃vs,KV kvs vs/\h.DictOf (zE P w) a vs:=uy ok (.inl e)
end
section
variable{X:Cx}{pins:List (Addr×Obj)}{σ:St}{H:Hp}{s:HK}{a:Addr}
def Inv.big(I:Inv X pins σ H s):HR<s.heap.objs.size:=by
 have h:HW<s.heap.objs.size:=(I.mod.glob.keeps I.bk).lt;exact Nat.lt_trans (by decide) h
def Db (I:Inv X pins σ H s)(mu:fW (H a))(hs:QT a s.heap h')(he:∃q,h'.get? a=some q)(new:aR X.prog X.w (aG H a ob) h' a ob):
  Inv X pins σ (aG H a ob) {s with heap:=h',toks:=t' } :=
 I.write (x:=a) (e:=a) mu (.inl rfl) (λb q hb z=>(hs.2 b hb).trans z) he new
end
def Eu (h:HQ)(hb:HR<h.objs.size):aR P w H (h.push {cls:=.type "dict",data:=.dict #[]}) h.objs.size (.dK []):=
 ⟨WO _,beq_eq_false_iff_ne.mpr (Ne.symm (Qx hb)),[],.nil,Heap.DictOf.new h⟩
noncomputable def qj:List (TE×TE)->St->Hp->(List (V×V)->Hp->Prop)->Prop
 |[],_,H,Q=>Q [] H
 |(tk,tv)::r,σ,H,Q=>tk σ H λx H1=>tv σ H1 λy H2=>qj r σ H2 λps H3=>Q ((x,y)::ps) H3
abbrev VV:List (V×V)->List (Value×Value)->Prop:=HP λp q=>RelV p.1 q.1/\RelV p.2 q.2
noncomputable def iT(X:Cx)(pos:Pos)(keys:List (Option Expr))(values:List Expr)(trs:List (TE×TE)):Prop:=
 ∀(pins:List (Addr×Obj)) (s:HK) (σ:St) (H:Hp) (Q:List (V×V)->Hp->Prop),Inv X pins σ H s->qj trs σ H Q ->
  Ic (Ie X.prog X.w) X.A (evalPairs (pairTrees keys values X.env pos)) (λvs s'=>∃ps H',Inv X pins σ H' s'/\VV ps vs/\Q ps H') X.xe s
def Da:iT X pos [] [] []:=λpins s σ H Q I h=>pairTrees_nil_walk ⟨[],H,I,.nil,h⟩
def wB (hk:PE X k tk)(hv:PE X v tv)(hr:iT X pos ks vs trs):
  iT X pos (some k::ks) (v::vs) ((tk,tv)::trs):=λpins s σ H Q I h=>
 pairTrees_cons_walk (aP (hk pins s σ H _ I h) λu s1 ⟨x,H1,I1,rx,q1⟩=>aP (hv pins s1 σ H1 _ I1 q1) λw2 s2 ⟨y,H2,I2,ry,q2⟩=>
  aP (hr pins s2 σ H2 _ I2 q2) λws s3 ⟨ps,H3,I3,rel,q3⟩=>⟨(x,y)::ps,H3,I3,.cons ⟨rx,ry⟩ rel,q3⟩)
noncomputable def wg(kvs more:List (bB×V)):List (bB×V):=more.foldl (λacc kv=>gw acc kv.1 kv.2) kvs
def KV.merge:∀{more:List (bB×V)}{rs:List (bB×Value)}{kvs:List (bB×V)}{vs:List (bB×Value)},KV more rs->KV kvs vs->KV (wg kvs more) (merged vs rs):=by
 intro more rs kvs vs r;unfold KV at r
 induction r generalizing kvs vs with
 |nil=>intro q;exact q
 |@cons p q ps qs h t ih=>
  intro r0;have e:KV (gw kvs p.1 p.2) (stored vs q.1 q.2):=by
   have:=r0.put p.1 h.2;rw[<-h.1];exact this
  exact ih e
theorem v9:∀{kvs:List (bB×V)}{ws:List (Value×Value)},VV (kvs.map λkv=>(kV kv.1,kv.2)) ws->∃rs,Carries (zE P w) ws rs/\KV kvs rs
 |[],_,r=>by rw[List.map_nil]at r;cases r;exact⟨[],True.intro,.nil⟩
 |p::kvs,_,r=>by
  rw[QO]at r;cases r with
  |@cons a b as bs h t=>
   obtain⟨rs,c,q⟩:=v9 (P:=P) (w:=w) t;obtain⟨b1,b2⟩:=b;exact⟨(p.1,b2)::rs,⟨lr h.1,rfl,c⟩,.cons ⟨rfl,h.2⟩ q⟩
noncomputable def xh(d:Addr)(o:Obj):HO:=.ext λh=>h.get? d=some o
noncomputable def FO(P:HJ)(w:HL)(d:Addr)(o:Obj)(ep:Nat)(kvs:List (bB×V)):Prop:=
 (d==HR)=false/\∃es vs,o.ExactDict/\o.data=.dict es ep/\KeysOf (zE P w) es/\Pairs (zE P w) es.toList vs/\(vs.map (·.1)).Nodup/\KV kvs vs
def FO.at (f:FO P w d o ep kvs){h:HQ}(e:h.get? d=some o):∃vs,KV kvs vs/\h.DictAt (zE P w) d vs ep:=by
 obtain⟨_,es,vs,a,b,c,g,n,r⟩:=f;exact⟨vs,r,o,es,e,a,b,c,g,n⟩
def C9 (h:(zE P w).is k u=true):RelV (kV k) u:=by
 cases k with
 |inl i=>exact Value.isInt_shape h
 |inr x=>exact Value.isStrOf_shape h
section
variable{X:Cx}{pins:List (Addr×Obj)}{σ:St}{H:Hp}{s:HK}
def jA (I:Inv X pins σ H s)(h:H d=some (xh d o)):s.heap.get? d=some o:=(I.hok d _ h).1
noncomputable def t9(d:Addr)(o:Obj)(kvs:List (bB×V)):It:=
 ⟨λi H=>H d=some (xh d o)/\i<kvs.length,λi H x H'=>H'=H/\∃kv,kvs[i]?=some kv/\x=kV kv.1,λi H=>H d=some (xh d o)/\kvs.length<=i⟩
def Bk {vs:List (bB×Value)}(r:KV kvs vs)(hi:i<kvs.length):∃k v u,kvs[i]?=some (k,v)/\vs[i]?=some (k,u):=by
 have hk:=r.keys;have hl:=r.length;have hi':i<vs.length:=by lia
 refine⟨kvs[i].1,kvs[i].2,vs[i].2,Qv hi,?_⟩;rw[Qv hi'];have e:(kvs.map (·.1))[i]?=(vs.map (·.1))[i]?:=by rw[hk]
 rw[QD,QD,Qv hi,Qv hi']at e;have e:=Option.some.inj e;have e:kvs[i].1=vs[i].1:=e;rw[e]
def qk {K:Qa}(f:FO P w d o ep kvs)(it:Addr):cP P w K tg (t9 d o kvs) [it] it (λi h=>h.IsKeyIter it d i kvs.length ep) where
 mem:=by simp
 obj:=λi h st b hb=>by
  have e:b=it:=by simpa using hb
  subst e;obtain⟨o,e,c,d⟩:=st;exact⟨o,e,λv z=>by rw[d]at z;cases z⟩
 keep:=λi h h' st k=>by
  obtain⟨o,e,r⟩:=st;exact⟨o,k it (by simp) o e,r⟩
 item:=by
  intro X hP hw hK hc i pins s σ H E I hf st hg;subst hP hw hK;obtain⟨hq,hi⟩:=hg;obtain⟨vs,rel,da⟩:=f.at (jA I hq);obtain⟨k,v,u,e1,e2⟩:=Bk rel hi;obtain⟨f0,f1,f2,f3,f4,f5⟩:=hf it (by simp);have hl:=rel.length;rw[hl]at st;refine wpAny_pyNext_dict_item st da e2 λkey h' hk st' sb=>?_;have I1:Inv X pins σ H {s with heap:=h' }:=I.turned (t':=s.toks) (λb o hb e=>(sb.2 b hb).trans e) f0 f1 f3 f4 f5;obtain⟨o,e,c,dd⟩:=id st';rw[<-hl]at st';exact⟨key,rfl,j7 (s:={s with heap:=h' }) e c dd (by decide) ⟨kV k,H,I1,C9 hk,⟨rfl,(k,v),e1,rfl⟩,st',λb hb=>(hf b hb).1⟩⟩
 done:=by
  intro X hP hw hK hc i pins s σ H E I hf st hg;subst hP hw hK;obtain⟨hq,hi⟩:=hg;obtain⟨vs,rel,da⟩:=f.at (jA I hq);obtain⟨f0,f1,f2,f3,f4,f5⟩:=hf it (by simp);have hl:=rel.length;rw[hl]at st;exact wpAny_pyNext_dict_end (I.ok.hd hc) st da (Qz (by lia)) λh' eb=>⟨rfl,I.turned (t':=s.toks) (λb o hb e=>eb b o hb e) f0 f1 f3 f4 f5⟩
 self:=λ_ _ _ _ _ st h=>JF st h
noncomputable def sP(X:Cx)(tl:TE):TI:=λσ H R=>tl σ H λx H1=>∃d o ep kvs,x=.ref d/\FO X.prog X.w d o ep kvs/\H1 d=some (xh d o)/\R (t9 d o kvs) H1
def Et (hl:PE X l tl):PI X tg l (sP X tl):=by
 intro pins s σ H R I h;refine aP (hl pins s σ H _ I h) λv s1 ⟨x,H1,I1,r1,q1⟩=>?_;obtain⟨d,o,ep,kvs,e,f,hq,q⟩:=q1;subst e;cases r1;obtain⟨vs,rel,da⟩:=f.at (jA I1 hq);have hl:=rel.length;refine wpAny_pyIter_dict f.1 da ?_;refine⟨s1.heap.objs.size,[s1.heap.objs.size],_,_,H1,rfl,I1.kept (t':=s1.toks) λb o e=>Qc _ e,qk f _,⟨_,Qk _ rfl,rfl,by rw[hl];rfl⟩,λb hb=>?_,q⟩;have e:b=s1.heap.objs.size:=by simpa using hb
 subst e;exact I1.fpOk (Qf _) (I1.hok.fresh (Qf _))
noncomputable def kZ(X:Cx):R2:=λx y H Q=>∃d o ep kvs k v,x=.ref d/\y=kV k/\FO X.prog X.w d o ep kvs/\H d=some (xh d o)/\y8 kvs k=some v/\Q v H
def nr:dD X (kZ X):=by
 intro value slice pins s σ H x y v u Q I rx ry h hs;obtain⟨d,o,ep,kvs,k,z,rfl,rfl,f,hq,hv,q⟩:=h;cases rx;obtain⟨vs,rel,da⟩:=f.at (jA I hq);obtain⟨w',hw,rw'⟩:=oU (v:=z) (o:=JE vs k) (by rw[<-hv];exact rel.val k);exact Jc (x:=w') da.dictOf.typeIs slot_dict_getitem.lookup
  (wpAny_getItem_of (Q:=λr s'=>r=w'/\EP X pins σ Q r s') (lr ry) da.dictOf.mapOf hw ⟨rfl,z,H,I.tok _,rw',q⟩) hs
def k8 (h:(kvs.map (·.1)).Nodup):∀{ps:List (bB×V)},((ps++kvs).map (·.1)).Nodup->wg ps kvs=ps++kvs:=by
 induction kvs with
 |nil=>intro ps _;simp[wg]
 |cons a r ih=>
  intro ps hn;have hp:y8 ps a.1=none:=by
   cases hz:y8 ps a.1 with
   |none=>rfl
   |some y=>
    exfalso;have hs:(y8 ps a.1).isSome=true:=by rw[hz];rfl
    rw[<-v8,Wp]at hs;obtain⟨q,hq,he⟩:=hs;have he:=Kb he;rw[WI,QB]at hn;exact hn.2.2 q.1 (List.mem_map_of_mem hq) a.1 (by simp) he
  show wg (gw ps a.1 a.2) r=_;rw[Ev _ hp,ih (by simpa using (Qw.mp (by simpa using h)).2) (ps:=ps++[(a.1,a.2)]) (by simpa using hn)];simp
noncomputable def Bj(X:Cx)(trs:List (TE×TE)):TE:=λσ H Q=>∀p,H p=none->qj trs σ (aG H p (.dK [])) λps H2=>H2 p=some (.dK [])/\∃kvs:List (bB×V),ps=kvs.map (λkv=>(kV kv.1,kv.2))/\kvs.length<=15/\(kvs.map (·.1)).Nodup/\∀o ep,FO X.prog X.w p o ep kvs->Q (.ref p) (aG H2 p (xh p o))
def Es (h:iT X pos keys values trs)(hall:keys.all (·.isSome)=true)(hl:keys.length=values.length)(h0:keys≠[])(h15:keys.length<=15):PE X (.Dict keys values pos) (Bj X trs):=by
 intro pins s σ H Q I q;have hn:=I.hok.fresh (Qf s.heap.objs.size);have I1:=I.laid (a:=s.heap.objs.size) (o:=.dK []) (h':=s.heap.push {cls:=.type "dict",data:=.dict #[]}) (t':=s.toks) (λ_ _ q=>Qc _ q) (Qf _) (Eu s.heap I.big);refine wpAny_Dict_walk (knd:=zE X.prog X.w) hall hl h0 h15 (aP (h pins _ σ _ _ I1 (q _ hn)) λws s2 ⟨ps,H2,I2,rel,e,kvs,ep,lk,nd,q2⟩=>?_);subst ep;obtain⟨rs,c,rk⟩:=v9 (P:=X.prog) (w:=X.w) rel;obtain⟨z,hd,vs0,r0,dd⟩:=ux I2.hok e;cases r0;refine⟨rs,c,dd,λh' dd' hs=>?_⟩;have rm:=rk.merge (kvs:=[]) (vs:=[]) .nil;rw[k8 nd (ps:=[]) (by simpa using nd)]at rm;obtain⟨o,es,ep,b1,b2,b3,b4,b5,b6⟩:=dd';refine⟨.ref s.heap.objs.size,_,?_,rfl,q2 o ep ⟨hd,es,_,b2,b3,b4,b5,b6,rm⟩⟩;exact Db I2 (by rw[e];exact True.intro) hs ⟨_,b1⟩ ⟨b1,⟨_,b1⟩,λh1 h2 hx k=>k o hx⟩
end
noncomputable def il(K:Qa)(b:Addr)(xs:List V):Prop:=
 ∃(o:Obj) (its:Array Value) (n:Nat),K.lookup b=some o/\o.cls=.type "tuple" /\ o.data=.seq its n/\its.size<=sizeLine/\av xs its.toList
abbrev ff:=List (List Nat×Int×Int)
noncomputable def oO(K:Qa)(w:HL):List DictEntry->ff->Prop
 |[],q=>q=[]
 |e::es,q=>∃k x y r t b,q=(k,x,y)::r/\e.key=.str ⟨k.toArray⟩ t/\e.hash=HN w ⟨k.toArray⟩/\e.val=.ref b/\il K b [.int x,.int y]/\oO K w es r
noncomputable def fJ(K:Qa)(w:HL)(a:Addr)(q:ff):Prop:=
 (a==HR)=false/\∃o es ep,K.lookup a=some o/\o.ExactDict/\o.data=.dict es ep/\oO K w es.toList q
noncomputable def oN(K:Qa):List (bB×V)->ff->Prop
 |[],q=>q=[]
 |kv::kvs,q=>∃k x y r b,q=(k,x,y)::r/\kv=(Sum.inr ⟨k.toArray⟩,.ref b)/\il K b [.int x,.int y]/\oN K kvs r
theorem rW {K:Qa}:∀(es:List DictEntry) (q:ff),oO K w es q ->
  ∃kvs vs,(∀e∈es,∃k,(zE P w).is k e.key=true/\e.hash=(zE P w).hash k)/\Pairs (zE P w) es vs/\KV kvs vs/\vs.map (·.1)=q.map (λz=>(Sum.inr ⟨z.1.toArray⟩:bB))/\oN K kvs q
 |[],q,h=>by
  cases(show q=[]from h);exact⟨[],[],by simp,.nil,.nil,rfl,rfl⟩
 |e::es,q,h=>by
  obtain⟨k,x,y,r,t,b,rfl,h1,h2,h3,h4,h5⟩:=h;obtain⟨kvs,vs,g1,g2,g3,g4,g5⟩:=rW (P:=P) es r h5;have hk:(zE P w).is (Sum.inr ⟨k.toArray⟩) e.key=true:=by rw[h1];exact kM _ t
  refine⟨(Sum.inr ⟨k.toArray⟩,.ref b)::kvs,(Sum.inr ⟨k.toArray⟩,.ref b)::vs,λe' he=>?_,.cons hk h3 g2,.cons ⟨rfl,rfl⟩ g3,?_,k,x,y,r,b,rfl,rfl,h4,g5⟩
  .rcases Qj.mp he with rfl|he
   .exact ⟨_,hk,h2⟩
   .exact g1 e' he
  .rw[QO,QO,g4]
def uw {K:Qa}(h:fJ K w a q)(nd:(q.map (·.1)).Nodup):∃o ep kvs,K.lookup a=some o/\FO P w a o ep kvs/\oN K kvs q:=by
 obtain⟨h0,o,es,ep,h1,h2,h3,h4⟩:=h;obtain⟨kvs,vs,g1,g2,g3,g4,g5⟩:=rW (P:=P) _ _ h4;refine⟨o,ep,kvs,h1,⟨h0,es,vs,h2,h3,λe he=>g1 e (WM.mpr he),g2,?_,g3⟩,g5⟩;rw[g4];refine List.Pairwise.map _ (λx y hxy=>?_) (List.pairwise_map.mp nd);intro e;injection e with e
 injection e with e
 exact hxy (by simpa using J5 Wm e)
section
variable{X:Cx}{pins:List (Addr×Obj)}{σ:St}{H:Hp}{s:HK}
noncomputable def uv(X:Cx):R2:=λx y H Q=>∃d o ep kvs k v,x=.ref d/\y=kV k/\FO X.prog X.w d o ep kvs/\X.K.lookup d=some o/\y8 kvs k=some v/\Q v H
def nq:dD X (uv X):=by
 intro value slice pins s σ H x y v u Q I rx ry h hs;obtain⟨d,o,ep,kvs,k,z,rfl,rfl,f,hq,hv,q⟩:=h;cases rx;obtain⟨vs,rel,da⟩:=f.at (I.kIn d o hq);obtain⟨w',hw,rw'⟩:=oU (v:=z) (o:=JE vs k) (by rw[<-hv];exact rel.val k);exact Jc (x:=w') da.dictOf.typeIs slot_dict_getitem.lookup
  (wpAny_getItem_of (Q:=λr s'=>r=w'/\EP X pins σ Q r s') (lr ry) da.dictOf.mapOf hw ⟨rfl,z,H,I.tok _,rw',q⟩) hs
end
end L2
namespace Mini
open PySem PySem.Spec PyProof.Rows L2
set_option genInjectivity false in
structure Ctx where
 fns:List Str
 cons:List (Str×Int)
 dcs:List (Str×ff)
set_option genInjectivity false in
inductive Nd where
 |e (x:Expr)|a (xs:List Expr)
noncomputable def bZ(sc:HH)(x:Str):Bool:=decide (sc.names.lookup x=some .globalImplicit)
noncomputable def jB(sc:HH)(x:Str):Bool:=decide (sc.names.lookup x=some .local) || (decide (sc.names.lookup x=some .cell) || decide (sc.names.lookup x=some .free))
noncomputable def zr(x:Str):Bool:=!(x==("__debug__":Str)) && !(x==("__classdict__":Str)) && !(x==("__name__":Str))
noncomputable def zg:Expr->Bool
 |.Starred _ _=>false
 |_=>true
noncomputable def yj:Expr->Bool
 |.Set _ _ _=>false
 |_=>true
noncomputable def yz:Expr->Bool
 |.Slice _ _ _ _=>false
 |_=>true
noncomputable def yG:Expr->Bool
 |.Call _ _ _ _=>false
 |_=>true
noncomputable def zi:Ex->Bool
 |.rng _ _ _=>true
 |_=>false
noncomputable def wQ:Ex->Bool
 |.ife _ _ _=>true
 |_=>false
noncomputable def zR(scope sc:HH):HH:=
 {scope with names:=scope.names.map λ(n,k)=>if(k == .free&&sc.kind == .function&&sc.names.lookup n==some .cell)then(n,.cell)else(n,k)}
noncomputable def yU(sc:HH)(N:List Str)(scope:HH)(xs:List Str):Bool:=
 decide (scope.kind=.function)&&(xs.all (λx=>decide (scope.names.lookup x=some .local) || decide (scope.names.lookup x=some .cell)) &&
 (scope.names.all (λy=>!(decide (y.2=.local)) || decide (scope.names.lookup y.1=some .local)) &&
 (scope.names.all (λy=>!(decide (y.2=.free)) || (decide (sc.names.lookup y.1=some .cell) || decide (sc.names.lookup y.1=some .free))) &&
 (scope.names.all (λy=>!(decide (y.2=.cell)) || !(decide (scope.names.lookup y.1=some .free))) &&
 (N.all (λy=>decide (y∈xs) || (!(decide (scope.names.lookup y=some .local)) && !(decide (scope.names.lookup y=some .cell)))) &&
 (decide (zW N xs).Nodup&&xs.all (λx=>decide (scope.names.lookup (iQ x)=none))))))))
def zC (h:yU X.env.scope X.N scope xs=true):bD X scope xs:=by
 unfold yU at h;simp only[Qp,Ws,Kc,Wf,Q9,decide_eq_false_iff_not]at h;obtain⟨h1,h2,h3,h4,h5,h6,h7,h8⟩:=h;refine⟨h1,h2,λy hy e=>?_,λy hy e=>?_,λy hy e=>?_,λy hy e=>?_,h7,h8⟩
 .rcases h3 y hy with z|z
  .exact J9 e z
  .exact z
 .rcases h4 y hy with z|z
  .exact J9 e z
  .exact z
 .rcases h6 y hy with z|z
  .exact J9 z e
  .exact z
 .rcases h5 y hy with z|z
  .exact J9 e z
  .exact z
noncomputable def wR(K:Qa)(g:List Wd->Me->Rz):Sp:=λvs H Q _=>∃as m ws,aJ K as m H/\ae K as H ws vs/\ak K as H Q (g ws m)
noncomputable def zm:List Str:=["len","int","bool","list","tuple","abs","max","min","isinstance","range","str","dict","sum","all","zip","enumerate","sorted","reversed"]
noncomputable def kc(K:Qa)(w:HL)(mg:Str->Option Value)(C:Ctx):Prop:=(∀(nm:Str) (i:Int),C.cons.lookup nm=some i->∃t,mg nm=some (.int i t))/\∀(nm:Str) (q:ff),C.dcs.lookup nm=some q->∃a,mg nm=some (.ref a)/\fJ K w a q
structure bj(C:Ctx)(X:Cx)(cl:Nat->List Wd->Me->Rz)(d:Nat):Prop where
 room:bU d X.A
 calm:X.calm=true
 fn:∀(k:Nat) (nm:Str),C.fns[k]?=some nm->∃f fd ps,X.mg nm=some (.ref f)/\QY X.K (.ref f)=true/\Binds X.K fd ps []/\bX X.prog X.w X.K X.mg X.base dt d f fd ps (wR X.K (cl k))
 con:kc X.K X.w X.mg C
 blt:∀nm∈zm,X.mg nm=none
def bj.comp{C:Ctx}{X Xc:Cx}{cl:Nat->List Wd->Me->Rz}{d:Nat}{scope:HH}{x:List Str}(h:bj C X cl d)(c:bp X scope x Xc):bj C Xc cl d:=by
 refine⟨by rw[c.A];exact h.room,c.calm,λk nm e=>?_,?_,λnm e=>?_⟩
 .obtain ⟨f,fd,ps,h1,h2,h3,h4⟩:=h.fn k nm e;exact⟨f,fd,ps,by rw[c.mg];exact h1,by rw[c.K];exact h2,by rw[c.K];exact h3,by rw[c.prog,c.w,c.K,c.mg,c.base];exact h4⟩
 .rw[c.mg,c.K,c.w];exact h.con
 .rw[c.mg];exact h.blt nm e
noncomputable def bP(K:Qa)(as:List Addr)(H:Hp)(Q:List V->Hp->Prop)(r:Rz):Prop:=match r with
 |.ok w m'=>∀as' H' vs,Step as H as' H'->aJ K as' m' H'->ae K as' H' (zh w) vs->Q vs H'
 |_=>False
noncomputable def wl(K:Qa)(g:En->Me->Rz):TA:=λσ H Q=>∃as env m,aJ K as m H/\aC K as H env σ/\bP K as H Q (g env m)
theorem bP.bind{K:Qa}{as:List Addr}{H:Hp}{Q:VK}{Q1:List V->Hp->Prop}{r:Rz}{f:Wd->Me->Rz}(h:ak K as H Q (r.bind f))
  (k:∀w m' as' H' vs,Step as H as' H'->aJ K as' m' H'->ae K as' H' (zh w) vs->ak K as' H' Q (f w m')->Q1 vs H'):bP K as H Q1 r:=by
 cases r with
 |ok w m'=>exact λas2 H2 v U S R=>k w m' as2 H2 v U S R (ak.step (r:=f w m') h U)
 |no=>exact h
noncomputable def bT(cl:Nat->List Wd->Me->Rz)(X:Cx)(e:Ex):Nd->Prop
 |.e x=>(zi e=false->PE X x (aH X.K (af cl e))/\(wQ e=false->PT X x (yO X.K (af cl e)))/\(∀op vs pos,x=.BoolOp op vs pos->PW X x (yO X.K (af cl e))))/\∀tg,PI X tg x (fB X.K (af cl e))
 |.a xs=>PA X xs (wl X.K (af cl e))
def bT.of{cl:Nat->List Wd->Me->Rz}{X:Cx}{e:Ex}{x:Expr}(h:PE X x (aH X.K (af cl e)))(ht:∀whole,isTrue x X.env whole=(do let v <-whole;standAt x.pos;holding [v] (truthy v)):=by intro _;rfl)
  (hb:∀op vs pos,x≠.BoolOp op vs pos:=by intros;intro z;cases z):bT cl X e (.e x):=
 ⟨λ_=>⟨h,λ_=>rN h ht,λop vs pos z=>J9 z (hb op vs pos)⟩,λtg=>v6 h⟩
def zd (h:zg e=true):Ih (e::es) env=(false,eval e env)::Ih es env:=by
 cases e<;>first|rfl|cases h
theorem zz:∀{es:List Expr},es.all zg=true->(Ig pos (Ih es env)).any (·.1)=false
 |[],_=>rfl
 |e::es,h=>by
  rw[Q7,Qp]at h;rw[zd h.1];show(false || (Ig pos (Ih es env)).any (·.1))=false;rw[zz h.2];rfl
section
variable{cl:Nat->List Wd->Me->Rz}{X:Cx}{a b:Ex}{x y:Expr}{pos:Pos}
def Bh (ha:PE X x (aH X.K (af cl a)))(hb:PE X y (aH X.K (af cl b))):PE X (.BinOp x (fx op) y pos) (aH X.K (af cl (.bin op a b))):=by
 refine PE.imp (AD (uB op) ha hb) λσ H Q h=>?_;obtain⟨as,env,m,S,G,P⟩:=h;refine⟨as,env,m,S,G,ak.bind P λx m1 as1 H1 v T1 S1 R1 P1=>?_⟩;refine⟨as1,env,m1,S1,G.mono S T1,ak.bind P1 λy m2 as2 H2 u T2 S2 R2 P2=>?_⟩;exact Bv S2 (R1.mono S1 T2) R2 P2
def Bg(ha:PE X x (aH X.K (af cl a))):PE X (.UnaryOp .USub x pos) (aH X.K (af cl (.neg a))):=by
 refine PE.imp (AC AO ha) λσ H Q h=>?_;obtain⟨as,env,m,S,G,P⟩:=h;refine⟨as,env,m,S,G,ak.bind P λx m1 as1 H1 v T1 S1 R1 P1=>?_⟩;cases x with
 |int i=>
  obtain rfl:=aa.mp R1;exact⟨i,rfl,P1.ok S1 (aa.mpr rfl)⟩
 |_=>exact P1.elim
def rV(ha:PE X x (aH X.K (af cl a))):PE X (.UnaryOp .Not x pos) (aH X.K (af cl (.not a))):=by
 refine PE.imp (A4 ha) λσ H Q h=>?_;obtain⟨as,env,m,S,G,P⟩:=h;refine⟨as,env,m,S,G,ak.bind P λx m1 as1 H1 v T1 S1 R1 P1=>?_⟩;cases x with
 |bl k=>
  obtain rfl:=aj.mp R1;exact⟨k,rfl,P1.ok S1 (aj.mpr rfl)⟩
 |_=>exact P1.elim
def Bf(ha:PT X x (yO X.K (af cl a))):PT X (.UnaryOp .Not x pos) (yO X.K (af cl (.not a))):=by
 refine PT.imp (Cp ha) λσ H Q h=>?_;obtain⟨as,env,m,S,G,P⟩:=h;refine⟨as,env,m,S,G,ak.bind P λx m1 as1 H1 v T1 S1 R1 P1=>?_⟩;cases x with
 |bl k=>
  obtain rfl:=aj.mp R1;obtain⟨b,e,q⟩:=P1.ok S1 (aj.mpr rfl);cases e;exact⟨k,rfl,q⟩
 |_=>exact P1.elim
def gx {K:Qa}(h:aH K (af cl (.and a b)) σ H Q):aH K (af cl a) σ H λx H1=>∃k,x=.bl k/\if k=true then aH K (af cl b) σ H1 Q else Q (.bl false) H1:=by
 obtain⟨as,env,m,S,G,P⟩:=h;refine⟨as,env,m,S,G,ak.bind P λx m1 as1 H1 v T1 S1 R1 P1=>?_⟩;cases x with
 |bl k=>
  obtain rfl:=aj.mp R1;refine⟨k,rfl,?_⟩;cases k with
  |true=>exact kH ⟨as1,env,m1,S1,G.mono S T1,P1⟩
  |false=>exact ju (P1.ok S1 (aj.mpr rfl))
 |_=>exact P1.elim
def q8 {K:Qa}(h:aH K (af cl (.or a b)) σ H Q):aH K (af cl a) σ H λx H1=>∃k,x=.bl k/\if k=true then Q (.bl true) H1 else aH K (af cl b) σ H1 Q:=by
 obtain⟨as,env,m,S,G,P⟩:=h;refine⟨as,env,m,S,G,ak.bind P λx m1 as1 H1 v T1 S1 R1 P1=>?_⟩;cases x with
 |bl k=>
  obtain rfl:=aj.mp R1;refine⟨k,rfl,?_⟩;cases k with
  |false=>exact ju ⟨as1,env,m1,S1,G.mono S T1,P1⟩
  |true=>exact kH (P1.ok S1 (aj.mpr rfl))
 |_=>exact P1.elim
def gA {K:Qa}(h:aH K g σ H Q)(k:∀v H,Q v H->Q' v H):aH K g σ H Q':=by
 obtain⟨as,env,m,S,G,P⟩:=h;refine⟨as,env,m,S,G,?_⟩;cases hr:g env m with
 |ok w m'=>rw[hr]at P;exact λas' H' v T S' R=>k _ _ (P as' H' v T S' R)
 |no=>rw[hr]at P;exact P
def Be (ha:PE X x (aH X.K (af cl a)))(hb:PE X (.BoolOp .And (y::r) pos) (aH X.K (af cl b))):PE X (.BoolOp .And (x::y::r) pos) (aH X.K (af cl (.and a b))):=
 PE.imp (rM ha hb) λσ H Q h=>gx h
def uu (ha:PE X x (aH X.K (af cl a)))(hb:PE X (.BoolOp .Or (y::r) pos) (aH X.K (af cl b))):PE X (.BoolOp .Or (x::y::r) pos) (aH X.K (af cl (.or a b))):=
 PE.imp (Ap ha hb) λσ H Q h=>q8 h
def PW.imp{e:Expr}{t t':TT}(h:PW X e t)(k:∀σ H Q,t' σ H Q->t σ H Q):PW X e t':=λwhole pins s σ H Q I q=>h whole pins s σ H Q I (k σ H Q q)
def Bc (ha:PT X x (yO X.K (af cl a)))(hb:PW X (.BoolOp .And (y::r) pos) (yO X.K (af cl b))):PW X (.BoolOp .And (x::y::r) pos) (yO X.K (af cl (.and a b))):=
 PW.imp (Cq ha hb) λσ H Q h=>by
  refine gA (gx h) λv H1 q=>?_;obtain⟨k,e,q⟩:=q;refine⟨k,e,?_⟩;cases k with
  |true=>rw[J7 rfl]at q ⊢;exact q
  |false=>
   rw[J8 QJ]at q ⊢;obtain⟨b',e',q⟩:=q;cases e';exact q
def ut (ha:PT X x (yO X.K (af cl a)))(hb:PW X (.BoolOp .Or (y::r) pos) (yO X.K (af cl b))):PW X (.BoolOp .Or (x::y::r) pos) (yO X.K (af cl (.or a b))):=
 PW.imp (As ha hb) λσ H Q h=>by
  refine gA (q8 h) λv H1 q=>?_;obtain⟨k,e,q⟩:=q;refine⟨k,e,?_⟩;cases k with
  |false=>rw[J8 QJ]at q ⊢;exact q
  |true=>
   rw[J7 rfl]at q ⊢;obtain⟨b',e',q⟩:=q;cases e';exact q
def q9 (h:yj e=true):II op e=false:=by
 cases e<;>first|rfl|cases h
def gB {K:Qa}(h:aH K (af cl (.cmp op a b)) σ H Q):dQ (rC K op) (aH K (af cl a)) (aH K (af cl b)) σ H Q:=by
 obtain⟨as,env,m,S,G,P⟩:=h;refine⟨as,env,m,S,G,ak.bind P λx m1 as1 H1 v T1 S1 R1 P1=>?_⟩;refine⟨as1,env,m1,S1,G.mono S T1,ak.bind P1 λy m2 as2 H2 u T2 S2 R2 P2=>?_⟩;exact⟨as2,m2,x,y,S2,R1.mono S1 T2,R2,P2⟩
def rT (hu:X.A.units+64<IJ)(ha:PE X x (aH X.K (af cl a)))(hb:PE X y (aH X.K (af cl b)))(hs:yj y=true):PE X (.Compare x [cK op] [y] pos) (aH X.K (af cl (.cmp op a b))):=
 PE.imp (CJ (v5 hu op) ha hb (q9 hs)) λσ H Q h=>gB h
def Bb (hu:X.A.units+64<IJ)(ha:PE X x (aH X.K (af cl a)))(hb:PE X y (aH X.K (af cl b)))(hs:yj y=true):PT X (.Compare x [cK op] [y] pos) (yO X.K (af cl (.cmp op a b))):=
 PT.imp (qO (v5 hu op) ha hb (q9 hs)) λσ H Q h=>gB h
end
section
variable{cl:Nat->List Wd->Me->Rz}{X:Cx}{a b c:Ex}{x y z:Expr}{pos:Pos}
def ke {K:Qa}(h:aH K (af cl (.chain p q a b c)) σ H Q):g8 (rC K p) (rC K q) (aH K (af cl a)) (aH K (af cl b)) (aH K (af cl c)) σ H Q:=by
 obtain⟨as,env,m,S,G,P⟩:=h;refine⟨as,env,m,S,G,ak.bind P λx m1 as1 H1 v T1 S1 R1 P1=>?_⟩;refine⟨as1,env,m1,S1,G.mono S T1,ak.bind P1 λy m2 as2 H2 u T2 S2 R2 P2=>?_⟩;refine⟨as2,m2,x,y,S2,R1.mono S1 T2,R2,ak.bind P2 λz m3 as3 H3 w T3 S3 R3 P3=>?_⟩;cases z with
 |bl k=>
  obtain rfl:=aj.mp R3;refine⟨k,rfl,?_⟩;cases k with
  |false=>exact ju (P3.ok S3 (aj.mpr rfl))
  |true=>
   refine kH ⟨as3,env,m3,S3,((G.mono S T1).mono S1 T2).mono S2 T3,ak.bind P3 λt m4 as4 H4 r T4 S4 R4 P4=>?_⟩;exact⟨as4,m4,y,t,S4,(R2.mono S2 T3).mono S3 T4,R4,P4⟩
 |_=>exact P3.elim
def rS (h:yj z=true):lastMarks [o,o'] [y,z]=false:=by
 show II o' z=false;exact q9 h
def gC (hu:X.A.units+64<IJ)(ha:PE X x (aH X.K (af cl a)))(hb:PE X y (aH X.K (af cl b)))(hc:PE X z (aH X.K (af cl c)))(hs:yj z=true):
  PE X (.Compare x [cK p,cK q] [y,z] pos) (aH X.K (af cl (.chain p q a b c))):=
 PE.imp (Ec (v5 hu p) (v5 hu q) ha hb hc (rS hs)) λσ H Q h=>ke h
def EL (hu:X.A.units+64<IJ)(ha:PE X x (aH X.K (af cl a)))(hb:PE X y (aH X.K (af cl b)))(hc:PE X z (aH X.K (af cl c)))(hs:yj z=true):
  PT X (.Compare x [cK p,cK q] [y,z] pos) (yO X.K (af cl (.chain p q a b c))):=
 PT.imp (Eb (v5 hu p) (v5 hu q) ha hb hc (rS hs)) λσ H Q h=>ke h
def EK {K:Qa}(h:aH K (af cl (.ife c a b)) σ H Q):sH (yO K (af cl c)) (aH K (af cl a)) (aH K (af cl b)) σ H Q:=by
 obtain⟨as,env,m,S,G,P⟩:=h;refine⟨as,env,m,S,G,ak.bind P λx m1 as1 H1 v T1 S1 R1 P1=>?_⟩;cases x with
 |bl k=>
  obtain rfl:=aj.mp R1;refine⟨k,rfl,?_⟩;cases k with
  |true=>exact kH ⟨as1,env,m1,S1,G.mono S T1,P1⟩
  |false=>exact ju ⟨as1,env,m1,S1,G.mono S T1,P1⟩
 |_=>exact P1.elim
def Ba(hc:PT X z (yO X.K (af cl c)))(ha:PE X x (aH X.K (af cl a)))(hb:PE X y (aH X.K (af cl b))):PE X (.IfExp z x y pos) (aH X.K (af cl (.ife c a b))):=
 PE.imp (Ef hc ha hb) λσ H Q h=>EK h
def C8:PA X [] (wl X.K (af cl .unit)):=PA.imp zP λσ H Q h=>by
 obtain⟨as,env,m,S,G,P⟩:=h;exact P as H [] .refl S (aA.mpr rfl)
def C7 (ha:PE X x (aH X.K (af cl a)))(hb:PA X xs (wl X.K (af cl b)))(hs:zg x=true):PA X (x::xs) (wl X.K (af cl (.pair a b))):=by
 refine PA.imp (zq ha hb (zd hs)) λσ H Q h=>?_;obtain⟨as,env,m,S,G,P⟩:=h;refine⟨as,env,m,S,G,?_⟩;have P':bP X.K as H Q ((af cl a env m).bind λx m1=>(af cl b env m1).bind λy m2=>.ok (.tup (x::zh y)) m2):=P;cases hr:af cl a env m with
 |no=>rw[hr]at P';exact P'
 |ok w m1=>
  rw[hr]at P';intro as1 H1 v T1 S1 R1;refine⟨as1,env,m1,S1,G.mono S T1,?_⟩;simp only[Rz.bind]at P';cases hr2:af cl b env m1 with
  |no=>rw[hr2]at P';exact P'
  |ok w' m2=>
   rw[hr2]at P';intro as2 H2 vs T2 S2 R2;exact P' as2 H2 (v::vs) (T1.trans T2) S2 (ao.mpr ⟨v,vs,rfl,R1.mono S1 T2,R2⟩)
def C6 (hC:bj C X cl d)(hk:C.fns[k]?=some nm)(hg:X.env.scope.names.lookup nm=some .globalImplicit)(hn:zr nm=true)(hs:(x::xs).all zg=true)(ha:PA X (x::xs) (wl X.K (af cl a))):PE X (.Call (.Name nm p) (x::xs) [] pos) (aH X.K (af cl (.call k a))):=by
 obtain⟨f,fd,ps,h1,h2,h3,h4⟩:=hC.fn k nm hk;have hs':=hs;rw[Q7,Qp]at hs';have hdb:(nm==("__debug__":Str))=false:=by
  unfold zr at hn;simp only[Qp,Q9]at hn;exact hn.1.1
 refine PE.imp (CH h4 hC.room hg h1 h2 h3 .nil (uD (X:=X)) ha hdb (zd hs'.1) (zz hs'.2)) λσ H Q h=>?_;obtain⟨as,env,m,S,G,P⟩:=h;refine⟨as,env,m,S,G,bP.bind P λw m1 as1 H1 vs T1 S1 R1 P1=>?_⟩;refine⟨as1,m1,zh w,S1,?_,P1⟩;rw[QS];exact R1
def yw (hn:zr nm=true):(nm==("__debug__":Str))=false/\(nm==("__classdict__":Str))=false/\nm ≠ "__name__":=by
 unfold zr at hn;simp only[Qp,Q9]at hn;exact⟨hn.1.1,hn.1.2,by simpa using hn.2⟩
def A9 (hC:bj C X cl d)(hb:im bf=some (nm,f))(hg:X.env.scope.names.lookup nm=some .globalImplicit)(hn:zr nm=true)(hs:(x::xs).all zg=true)(ha:PA X (x::xs) (wl X.K (af cl a))):PE X (.Call (.Name nm p) (x::xs) [] pos) (aH X.K (af cl (.blt bf a))):=by
 obtain⟨n1,n2,n3⟩:=yw hn;have hs':=hs;rw[Q7,Qp]at hs';have hc:=Ey hC.room.units hC.calm hb;have go:PE X (.Call (.Name nm p) (x::xs) [] pos) (lO (sL X.K bf) (wl X.K (af cl a))):=by
  cases bf with
  |len=>cases hb;exact yo hc hg (hC.blt _ (by simp[zm])) PySem.boot_len ha n3 n1 (zd hs'.1) (zz hs'.2)
  |int=>cases hb;exact wK hc hg (hC.blt _ (by simp[zm])) PyProof.Rows.boot_int ha n3 n1 (zd hs'.1) (zz hs'.2)
  |list=>cases hb;exact wK hc hg (hC.blt _ (by simp[zm])) PyProof.Rows.boot_list ha n3 n1 (zd hs'.1) (zz hs'.2)
  |tuple=>cases hb;exact wK hc hg (hC.blt _ (by simp[zm])) PyProof.Rows.boot_tuple ha n3 n1 (zd hs'.1) (zz hs'.2)
  |sum=>cases hb;exact yo hc hg (hC.blt _ (by simp[zm])) PyProof.Rows.boot_sum ha n3 n1 (zd hs'.1) (zz hs'.2)
  |sorted=>cases hb;exact yo hc hg (hC.blt _ (by simp[zm])) PyProof.Rows.boot_sorted ha n3 n1 (zd hs'.1) (zz hs'.2)
  |sortI=>cases hb;exact yo hc hg (hC.blt _ (by simp[zm])) PyProof.Rows.boot_sorted ha n3 n1 (zd hs'.1) (zz hs'.2)
 refine PE.imp go λσ H Q h=>?_;obtain⟨as,env,m,S,G,P⟩:=h;refine⟨as,env,m,S,G,bP.bind P λw m1 as1 H1 vs T1 S1 R1 P1=>?_⟩;exact⟨as1,m1,zh w,S1,R1,P1⟩
def C5(t:Tg):HX (Str.ofString (cU t))=some (.type (cU t)):=by
 cases t<;>decide +kernel
def A8 (hC:bj C X cl d)(hg:X.env.scope.names.lookup ("isinstance":Str)=some .globalImplicit)(hg':X.env.scope.names.lookup (Str.ofString (cU t))=some .globalImplicit)(hs:zg x=true)(ha:PE X x (aH X.K (af cl a))):PE X (.Call (.Name "isinstance" p) [x,.Name (Str.ofString (cU t)) p'] [] pos) (aH X.K (af cl (.isi t a))):=by
 have hm:X.mg (Str.ofString (cU t))=none:=hC.blt _ (by cases t<;>decide +kernel);have hty:PE X (.Name (Str.ofString (cU t)) p') (tC (.ty (cU t))):=qK hg' hm (C5 t) rfl (by cases t<;>decide +kernel) (by cases t<;>decide +kernel);refine PE.imp (yo (Ew t) hg (hC.blt _ (by simp[zm])) PyProof.Rows.boot_isinstance (zq ha (zq hty zP) (zd hs)) (by decide +kernel) (by decide +kernel) (zd hs) rfl) λσ H Q h=>?_;obtain⟨as,env,m,S,G,P⟩:=h;refine⟨as,env,m,S,G,ak.bind P λw m1 as1 H1 v T1 S1 R1 P1=>?_⟩;exact⟨as1,m1,w,v,rfl,S1,R1,P1⟩
def A7 (ha:PA X xs (wl X.K (af cl a))):PE X (.List xs pos) (aH X.K (af cl (.lst a))):=by
 refine PE.imp (AM ha) λσ H Q h=>?_;obtain⟨as,env,m,S,G,P⟩:=h;refine⟨as,env,m,S,G,bP.bind P λw m1 as1 H1 vs T1 S1 R1 P1=>?_⟩;obtain⟨h1,h2⟩:=yJ S1 R1 P1;exact⟨Qm h1 yq,h2⟩
set_option tactic.hygienic true in
def A6 (ha:PA X xs (wl X.K (af cl a))):PE X (.Tuple xs k pos) (aH X.K (af cl (.tup a))):=by
 refine PE.imp (rH ha) λσ H Q h=>?_;obtain⟨as,env,m,S,G,P⟩:=h;refine⟨as,env,m,S,G,bP.bind P λw m1 as1 H1 vs T1 S1 R1 P1=>?_⟩;split at P1
 .rename_i hl;refine⟨by rw[<-R1.length];exact Qm hl yq,λp hp=>?_⟩;obtain⟨T,S',R'⟩:=S1.tup hp R1;exact P1 _ _ _ T S' R'
 .exact P1.elim
def A5(ha:PE X x (aH X.K (af cl a)))(hb:PE X y (aH X.K (af cl b)))(hs:yz y=true):PE X (.Subscript x y pos) (aH X.K (af cl (.idx a b))):=by
 have hp:jq y:=λo i=>by cases y<;>first|rfl|cases hs
 refine PE.imp (qQ AH ha hb hp) λσ H Q h=>?_;obtain⟨as,env,m,S,G,P⟩:=h;refine⟨as,env,m,S,G,ak.bind P λx m1 as1 H1 v T1 S1 R1 P1=>?_⟩;refine⟨as1,env,m1,S1,G.mono S T1,ak.bind P1 λy m2 as2 H2 u T2 S2 R2 P2=>?_⟩;exact Bq S2 (R1.mono S1 T2) R2 P2
end
section
variable{cl:Nat->List Wd->Me->Rz}{X:Cx}{a b c:Ex}{x y:Expr}{pos:Pos}
set_option tactic.hygienic true in
def ur {K:Qa}{lo:Option Int}(S:aJ K as m H)(R:ai K as H w v)(h:ak K as H Q (eT w lo hi m)):i5 K v lo hi H Q\/pj K v lo hi H Q:=by
 have hs:∀(n d:Nat) (o:Option Int),aL n d o=HT.aL n d o:=λn d o=>by cases o<;>rfl
 have key:∀{xs:List Wd}{p:Addr}{vs:List V},bt K H p vs->ae K as H xs vs->ak K as H Q (alloc m ((xs.drop (aL xs.length 0 lo)).take (aL xs.length xs.length hi-aL xs.length 0 lo)))->i5 K (.ref p) lo hi H Q:=λ{xs p vs} q r h=>by
  refine⟨p,vs,rfl,q,?_⟩;have e:(vs.drop (aL xs.length 0 lo)).take (aL xs.length xs.length hi-aL xs.length 0 lo)=kE vs lo hi:=by
   unfold kE;rw[r.length,hs,hs]
  rw[<-e];exact(yJ S ((r.drop _).take _) h).2
 cases w with
 |tup xs=>
  obtain⟨p,vs,rfl,q,r⟩:=ah.mp R;have h':ak K as H Q (if aL xs.length 0 lo=0/\aL xs.length xs.length hi=xs.length then .no else .ok (.tup ((xs.drop (aL xs.length 0 lo)).take (aL xs.length xs.length hi-aL xs.length 0 lo))) m):=h;by_cases c:aL xs.length 0 lo=0/\aL xs.length xs.length hi=xs.length
  .rw[J7 c]at h';exact h'.elim
  .rw[J8 c]at h';refine .inr ⟨p,vs,rfl,q,by rw[<-r.length,<-hs,<-hs];exact c,λl hl=>?_⟩;have e:(vs.drop (aL xs.length 0 lo)).take (aL xs.length xs.length hi-aL xs.length 0 lo)=kE vs lo hi:=by
    unfold kE;rw[r.length,hs,hs]
   obtain⟨T,S',R'⟩:=S.tup hl ((r.drop (aL xs.length 0 lo)).take (aL xs.length xs.length hi-aL xs.length 0 lo));rw[<-e];exact h' _ _ _ T S' R'
 |rol ys=>
  obtain⟨p,vs,rfl,q,r⟩:=ba.mp R;exact .inl (key q.sq r h)
 |ref l=>
  obtain⟨p,hp,rfl⟩:=aE.mp R;have h':ak K as H Q (match zn m l with
   |some xs=>alloc m ((xs.drop (aL xs.length 0 lo)).take (aL xs.length xs.length hi-aL xs.length 0 lo))
   |none=>.no):=h
  cases hx:zn m l with
  |none=>rw[hx]at h';exact h'.elim
  |some xs=>
   rw[hx]at h';obtain⟨p',vs,hp',e,r⟩:=zI S (zw hx);rw[hp]at hp';cases hp';exact .inl (key (bt.of e) r h')
 |_=>exact h.elim
def BH (ha:PE X x (aH X.K (af cl a)))(hb:PE X y (aH X.K (af cl b))):PE X (.Subscript x (.Slice (some y) none none p2) pos) (aH X.K (af cl (.slL a b))):=by
 refine PE.imp (D9 (dR.or AJ) ha (CC hb) CF) λσ H Q h=>?_;obtain⟨as,env,m,S,G,P⟩:=h;refine⟨as,env,m,S,G,ak.bind P λx m1 as1 H1 v T1 S1 R1 P1=>?_⟩;refine⟨as1,env,m1,S1,G.mono S T1,ak.bind P1 λy m2 as2 H2 u T2 S2 R2 P2=>?_⟩;cases y with
 |int i=>exact⟨i,aa.mp R2,ur S2 (R1.mono S1 T2) P2⟩
 |_=>exact P2.elim
def bR (h:yG e=true):Je e f env (eval e env)=eval e env:=by
 cases e<;>first|rfl|cases h
def jC (h:ys.all zg=true)(hl:ys.length<29):
  ((Ig cp (Ih ys env)).all (λx=>! x.1)&&(Jf cp (Jg [] env)).all (λx=>x.1.isSome)
   && decide (ys.length+([]:List Jh).length+(if([]:List Jh).isEmpty then 0 else 1)<30))=true:=by
 have all:∀{es:List Expr},es.all zg=true->(Ig cp (Ih es env)).all (λx=>! x.1)=true:=by
  intro es
  induction es with
  |nil=>intro _;rfl
  |cons e es ih=>
   intro h;rw[Q7,Qp]at h;rw[zd h.1];show(true&&(Ig cp (Ih es env)).all (λx=>! x.1))=true;rw[ih h.2];rfl
 rw[all h];have e2:(Jf cp (Jg [] env)).all (λx=>x.1.isSome)=true:=rfl;rw[e2];have e3:decide (ys.length+([]:List Jh).length+(if([]:List Jh).isEmpty then 0 else 1)<30)=true:=by
  apply Ka;show ys.length+0+0<30;lia
 rw[e3];rfl
def EJ(k:dO):Slot "list" (fy k).1 (fy k).2/\typeOf (.builtin (fy k).2)=pure (.type "method_descriptor"):=by
 cases k with
 |append=>exact⟨PySem.F.slot_list_append,PySem.F.type_list_append⟩
 |pop=>exact⟨PySem.F.slot_list_pop,PySem.F.type_list_pop⟩
 |reverse=>exact⟨PySem.F.slot_list_reverse,PySem.F.type_list_reverse⟩
 |clear=>exact⟨PySem.F.slot_list_clear,PySem.F.type_list_clear⟩
def C4{K:Qa}{as:List Addr}{H:Hp}{Q:VK}{b:Bool}{r:Rz}(h:ak K as H Q (match b with|true=>r|false=>.no)):b=true/\ak K as H Q r:=by
 cases b with
 |true=>exact⟨rfl,h⟩
 |false=>exact h.elim
def ql (h:zQ w m=true):∃l,w=.ref l/\(zn m l).isSome=true:=by
 cases w with
 |ref l=>
  refine⟨l,rfl,?_⟩;unfold zQ aK at h;unfold zn;cases e:m[l]? with
  |none=>simp[e]at h
  |some o=>
   cases o with
   |lst xs=>rfl
   |dct ks us=>simp[e]at h
 |_=>cases h
def qm {K:Qa}(S:aJ K as m H)(R:ai K as H w v)(hw:∃l,w=.ref l/\(zn m l).isSome=true):lF K "list" v H:=by
 obtain⟨l,rfl,hs⟩:=hw;obtain⟨p,hp,rfl⟩:=aE.mp R;obtain⟨xs,hs⟩:=Wj.mp hs;obtain⟨p',us,hp',e,_⟩:=zI S (zw hs);rw[hp]at hp';cases hp';exact .inl ⟨rfl,us,bt.of e⟩
def C3 (ho:PE X x (aH X.K (af cl a)))(ha:PA X (y::ys) (wl X.K (af cl b)))(hx:yG x=true)(hl:(ap.endLine==pos.line)=true)(hn:(y::ys).length<29)(hs:(y::ys).all zg=true):
  PE X (.Call (.Attribute x (fy k).1 ap) (y::ys) [] pos) (aH X.K (af cl (.meth k a b))):=by
 obtain⟨f1,f2⟩:=EJ k;have hs':=hs;rw[Q7,Qp]at hs';refine PE.imp (lq PySem.F.plainAttrs_list f1 f2 (Bm k) ho ha (bR hx) (jC hs hn) hl (zd hs'.1) (zz hs'.2)) λσ H Q h=>?_;obtain⟨as,env,m,S,G,P⟩:=h;refine⟨as,env,m,S,G,ak.bind P λw m1 as1 H1 v T1 S1 R1 P1=>?_⟩;obtain⟨hl',P1⟩:=C4 P1;refine⟨qm S1 R1 (ql hl'),?_⟩;refine⟨as1,env,m1,S1,G.mono S T1,bP.bind P1 λw2 m2 as2 H2 vs T2 S2 R2 P2=>?_⟩;exact⟨as2,m2,w,zh w2,S2,R1.mono S1 T2,R2,P2⟩
def gD {K:Qa}(S:aJ K as m H)(h:bO K as H R (fi (.int i) (.int j) (.int 1) m)):(-(2^62)<=i/\i<2^62/\-(2^62)<=j/\j<2^62)/\R (fD i (j-i).toNat) H:=by
 have h':bO K as H R (if -aF<=i/\i<=aF/\-aF<=j/\j<=aF/\((1:Int)=1\/(1:Int)=-1\/(1:Int)=-2\/(1:Int)=2)then .ok (.tup (qh i 1 (ie i j 1))) m else .no):=h;by_cases hc:-(aF:Int)<=i/\i<=aF/\-(aF:Int)<=j/\j<=aF/\((1:Int)=1\/(1:Int)=-1\/(1:Int)=-2\/(1:Int)=2)
 .rw[J7 hc]at h';have hlim:(aF:Int)=100000:=rfl;refine⟨by lia,h'.2 as H _ .refl S ?_⟩;have e:ie i j 1=(j-i).toNat:=J7 rfl;rw[e];exact⟨_,λ_=>True,EW i (j-i).toNat (K:=K),trivial,v7 1 (j-i).toNat i,λ_ _ _ _=>trivial⟩
 .rw[J8 hc]at h';exact h'.elim
theorem bO.bind {K:Qa}(h:bO K as H R (r.bind f))(k:∀w m' as' H' v,Step as H as' H'->aJ K as' m' H'->ai K as' H' w v->bO K as' H' R (f w m')->Q1 v H'):ak K as H Q1 r:=by
 cases r with
 |ok w m'=>
  intro as2 H2 v U S Rr;refine k w m' as2 H2 v U S Rr ?_;have h':bO K as H R (f w m'):=h;cases hr:f w m' with
  |ok w2 m2=>rw[hr]at h';exact⟨h'.1,λas3 H3 J U3 S3 q=>h'.2 as3 H3 J (U.trans U3) S3 q⟩
  |no=>rw[hr]at h';exact h'
 |no=>exact h
def C2 (hC:bj C X cl d)(hg:X.env.scope.names.lookup ("range":Str)=some .globalImplicit)(hs:zg x=true)(hb:PE X x (aH X.K (af cl b))):
  PI X tg (.Call (.Name "range" p) [x] [] pos) (fB X.K (af cl (.rng (.lit (.int 0)) b (.lit (.int 1))))):=by
 refine PI.imp (Fa hg (hC.blt _ (by simp[zm])) (zq hb zP (zd hs)) (zd hs)) λσ H R h=>?_;obtain⟨as,env,m,S,G,P⟩:=h;have P':bO X.K as H R ((af cl b env m).bind λy m2=>fi (.int 0) y (.int 1) m2):=P;refine⟨as,env,m,S,G,bO.bind P' λw m1 as1 H1 v T1 S1 R1 P1=>?_⟩;cases w with
 |int j=>
  obtain rfl:=aa.mp R1;obtain⟨⟨_,_,h1,h2⟩,q⟩:=gD S1 P1;refine⟨j,rfl,h1,h2,?_⟩;simpa using q
 |_=>exact P1.elim
def C1 (hC:bj C X cl d)(hg:X.env.scope.names.lookup ("range":Str)=some .globalImplicit)(hs:zg x=true)(hs':zg y=true)(ha:PE X x (aH X.K (af cl a)))(hb:PE X y (aH X.K (af cl b))):
  PI X tg (.Call (.Name "range" p) [x,y] [] pos) (fB X.K (af cl (.rng a b (.lit (.int 1))))):=by
 refine PI.imp (E9 hg (hC.blt _ (by simp[zm])) (zq ha (zq hb zP (zd hs')) (zd hs)) (by rw[zd hs,zd hs'];rfl) (zd hs')) λσ H R h=>?_;obtain⟨as,env,m,S,G,P⟩:=h;have P':bO X.K as H R ((af cl a env m).bind λx m1=>(af cl b env m1).bind λy m2=>fi x y (.int 1) m2):=P;refine⟨as,env,m,S,G,bO.bind P' λw m1 as1 H1 v T1 S1 R1 P1=>?_⟩;refine⟨as1,env,m1,S1,G.mono S T1,bO.bind P1 λw2 m2 as2 H2 u T2 S2 R2 P2=>?_⟩;cases w with
 |int i=>
  cases w2 with
  |int j=>
   obtain rfl:=aa.mp R1;obtain rfl:=aa.mp R2;obtain⟨hb,q⟩:=gD S2 P2;exact⟨i,j,rfl,hb,q⟩
  |_=>exact P2.elim
 |_=>cases w2<;>exact P2.elim
end
end Mini
namespace L2
open PySem PySem.Spec PyProof.Rows
section
variable{X:Cx}{pins:List (Addr×Obj)}{σ:St}{H:Hp}{s:HK}{h':HQ}
def oT {ch:List Addr}(I:Inv X pins σ H s)(hf:∀b∈ch,vp X pins H b)(k:∀b o,b∉ch->s.heap.get? b=some o->h'.get? b=some o)(hT:s.heap.objs.size<=T)(hz:xs.length<=sizeLine)(hv:av xs its)(ht:IsTup h' T its.toArray):Inv X pins σ (aG H T (.tup xs)) {s with heap:=h',toks:=t' }:=by
 have hn:H T=none:=I.hok.fresh hT;have nit:∀b u,H b=some u->b∉ch:=λb u e z=>by rw[(hf b z).1]at e;cases e
 have up:∀b u,H b=some u->aG H T (.tup xs) b=some u:=λb u e=>by rw[ze (zo e hn)];exact e
 refine I.step (g':=s.gens) (d':=s.drawn) (ch:=ch) (λb hb=>?_) (λb o _ _ hc e _=>k b o hc e) (λb o _ _ hc e _=>⟨o.slots,k b o hc e⟩) (λb o hc e n=>?_)
  (λb o hc e=>⟨o,k b o hc e⟩) (λb _ e=>up b _ e) (λb _ _ e=>up b _ e) (λb ps e=>⟨#[],by rw[up b _ e];simp⟩) (λm hm=>?_) (λb u e=>?_) I.bare
 .obtain ⟨f0,f1,f2,f3,f4,f5⟩:=hf b hb;exact⟨f3,f1,f4,f5⟩
 .rw[ze (Qx (Qe (Qg e) hT))];exact n
 .obtain ⟨o,es,ep,ho,r⟩:=hm;exact⟨o,es,ep,k _ o (λz=>(hf _ z).2.1 rfl) ho,r⟩
 .by_cases hb:b=T
  .subst hb;rw[zf]at e;cases e;exact⟨hz,its,hv,ht⟩
  .rw[ze hb]at e;refine(I.hok b u e).stay (λc v hc q=>k c v ?_ q) (λc q=>up c _ q) λc _ q=>up c _ q;rcases hc with z|z
   .rw[z];exact nit b u e
   .exact nit c _ z
def Inv.turnedL{t':Nat}{ch:List Addr}(I:Inv X pins σ H s)(hf:∀b∈ch,vp X pins H b)(k:∀b o,b∉ch->s.heap.get? b=some o->h'.get? b=some o):Inv X pins σ H {s with heap:=h',toks:=t' }:=by
 have nit:∀b u,H b=some u->b∉ch:=λb u e z=>by rw[(hf b z).1]at e;cases e
 refine I.step (g':=s.gens) (d':=s.drawn) (ch:=ch) (λb hb=>?_) (λb o _ _ hc e _=>k b o hc e) (λb o _ _ hc e _=>⟨o.slots,k b o hc e⟩) (λb o hc e n=>n)
  (λb o hc e=>⟨o,k b o hc e⟩) (λb _ e=>e) (λb _ _ e=>e) (λb ps e=>⟨#[],by rw[e];simp⟩) (λm hm=>?_) (λb u e=>?_) I.bare
 .obtain ⟨f0,f1,f2,f3,f4,f5⟩:=hf b hb;exact⟨f3,f1,f4,f5⟩
 .obtain ⟨o,es,ep,ho,r⟩:=hm;exact⟨o,es,ep,k _ o (λz=>(hf _ z).2.1 rfl) ho,r⟩
 .refine (I.hok b u e).stay (λc v hc q=>k c v ?_ q) (λc q=>q) λc _ q=>q;rcases hc with z|z
  .rw[z];exact nit b u e
  .exact nit c _ z
end
noncomputable def Yp(H:Hp)(v:V)(H':Hp)(x y:V):Prop:=∃T,H T=none/\v=.ref T/\H'=aG H T (.tup [x,y])
noncomputable def oM(K:Qa)(c:Nat)(l:Addr):It:=
 ⟨λi H=>∃xs x,bt K H l xs/\xs[i]?=some x,
  λi H v H'=>∃x,Yp H v H' (.int ((i+c:Nat):Int)) x/\∀xs,bt K H l xs->xs[i]?=some x,
  λi H=>∃xs,bt K H l xs/\xs.length<=i⟩
def EV (hh:A.handled=none)(it l:Addr)(hne:l≠it)(items:Array Value)(c:Nat):
  Draws prog w A it [it,l] (items.size+c) (λi x=>∃j,i=j+c/\items[j]?=some x) (λi h=>∃j,i=j+c/\h.IsListIter it l j/\h.IsList l items):=by
 have D:=Draws.list (prog:=prog) (w:=w) hh it l hne items;refine⟨λi h st=>?_,λi h h' st k=>?_,λi s Q E hi st hQ=>?_,λs Q E st hE=>?_⟩
 .obtain ⟨j,_,h1,h2⟩:=st;exact D.live j h ⟨h1,h2⟩
 .obtain ⟨j,e,h1,h2⟩:=st;obtain⟨q1,q2⟩:=D.frame j h h' ⟨h1,h2⟩ k;exact⟨j,e,q1,q2⟩
 .obtain ⟨j,rfl,h1,h2⟩:=st;refine D.item j s Q E (by lia) ⟨h1,h2⟩ λx h' tk p q sb=>hQ x h' tk ⟨j,rfl,p⟩ ⟨j+1,by lia,q.1,q.2⟩ sb
 .obtain ⟨j,e,h1,h2⟩:=st;have e':j=items.size:=by lia
  subst e';exact D.done s Q E ⟨h1,h2⟩ hE
def EI (hh:A.handled=none)(it l:Addr)(items:Array Value)(hi:items[i]?=none):
  Draws prog w A it [it,l] 0 (λ_ _=>True) (λk h=>k=0/\h.IsListIter it l i/\h.IsList l items):=by
 refine⟨λk h st=>?_,λk h h' st q=>?_,λk s Q E hk st hQ=>J9 hk (Nat.not_lt_zero _),λs Q E st hE=>?_⟩
 .obtain ⟨o,ho,_⟩:=st.2.1;exact⟨o,ho⟩
 .exact ⟨st.1,st.2.1.at λo e=>q it (by simp) o e,st.2.2.at λo e=>q l (by simp) o e⟩
 .exact JG hh st.2.1 st.2.2 hi hE
def EU {K:Qa}(c:Nat)(e it l:Addr)(hei:e≠it)(hle:l≠e)(hli:l≠it):
  cP P w K (.Tuple elts k pt) (oM K c l) [e,it] e (λi h=>(∃old,IsEnum h e it ((i+c:Nat):Int) old)/\h.IsListIter it l i) where
 mem:=by simp
 obj:=λi h st b hb=>by
  obtain⟨⟨old,he⟩,o1,e1,c1,d1⟩:=st;simp only[Qj,QV,or_false]at hb;rcases hb with rfl|rfl
  .exact ⟨_,he,λv z=>by cases z⟩
  .exact ⟨_,e1,λv z=>by rw[d1]at z;cases z⟩
 keep:=λi h h' st k=>by
  obtain⟨⟨old,he⟩,h1⟩:=st;exact⟨⟨old,k e (by simp) _ he⟩,h1.at λo q=>k it (by simp) o q⟩
 item:=by
  intro X hP hw hK hc i pins s σ H E I hf st hg;subst hP hw hK;obtain⟨xs,x,hq1,hx⟩:=hg;obtain⟨its1,rv1,p1,_⟩:=I.list hq1;obtain⟨u,hu,ru⟩:=rv1.get hx;obtain⟨⟨old,he⟩,h1⟩:=st;have hil:i<its1.length:=(Qb.mp hu).1;have D:=EV (prog:=X.prog) (w:=X.w) (A:=X.A.in1) (I.ok.hd hc) it l hli its1.toArray c;refine wpAny_pyNext_enum_itemD D he ⟨i,rfl,h1,p1.isList⟩ (by simp;lia) hei (by simp[hei,Ne.symm hle]) λx' h' tk px a1 st' a3 a4 hk=>?_;obtain⟨j,ej,hj⟩:=px;have ej':i=j:=by lia
  subst ej';have hxu:x'=u:=by
   have:its1[i]?=some x':=by simpa using hj
   rw[hu]at this;cases this;rfl
  subst hxu;obtain⟨j',ej',a2,_⟩:=st';have e2:j'=i+1:=by lia
  subst e2;refine⟨_,rfl,wpAny_letOwnedTupleGo_enum (s:={s with heap:=h',toks:=tk+1}) a1 λh'' he' hs'=>?_⟩;have sT:e<s.heap.objs.size:=Qg he;have kk:∀b o,b∉[e,it]->s.heap.get? b=some o->h''.get? b=some o:=λb o hb q=>
   (hs'.2 b λz=>hb (by simp[z])).trans (hk b o (λz=>hb (by simp[z])) (λz=>hb (by simp[z])) q)
  refine⟨.ref s.heap.objs.size,aG H s.heap.objs.size (.tup [.int ((i+c:Nat):Int),x]),?_,rfl,⟨x,⟨_,I.hok.fresh (Qf _),rfl,rfl⟩,λzs hz=>by rw[I.list_inj hz hq1];exact hx⟩,?_,?_⟩
  .have I1:Inv X pins σ (aG H s.heap.objs.size (.tup [.int ((i+c:Nat):Int),x])) {s with heap:=h'',toks:=tk+1}:=oT (s:=s) (its:=[.int ((i+c:Nat):Int) tk,x']) I hf kk (Qf _) (show(2:Nat)<=sizeLine by decide) (.cons ⟨_,rfl⟩ (.cons ru .nil)) ⟨_,(hs'.2 _ (Wh sT)).trans a3,rfl,_,rfl⟩;exact I1
  .refine ⟨⟨x',?_⟩,a2.at λo q=>(hs'.2 it hei.symm).trans q⟩;have:((i+1+c:Nat):Int)=((i+c:Nat):Int)+1:=by lia
   rw[this];exact he'
  .intro b hb;have hlt:b<s.heap.objs.size:=by
    simp only[Qj,QV,or_false]at hb;obtain⟨_,e1,_⟩:=h1;rcases hb with rfl|rfl
    .exact sT
    .exact Qg e1
   rw[ze (Qx hlt)];exact(hf b hb).1
 done:=by
  intro X hP hw hK hc i pins s σ H E I hf st hg;subst hP hw hK;obtain⟨xs,hq1,hx⟩:=hg;obtain⟨its1,rv1,p1,_⟩:=I.list hq1;obtain⟨⟨old,he⟩,h1⟩:=st;have l1:=rv1.length;have D:=EI (prog:=X.prog) (w:=X.w) (A:=X.A.in1) (I.ok.hd hc) it l its1.toArray (i:=i) (by simp;lia);refine wpAny_pyNext_enum_endD D he ⟨rfl,h1,p1.isList⟩ λh' hk=>⟨rfl,?_⟩;exact I.turnedL (t':=s.toks) hf λb o hb q=>hk b o (λz=>hb (by simp[z])) q
 self:=λ_ _ _ _ _ st h=>by
  obtain⟨⟨old,he⟩,_⟩:=st;exact wpAny_pyIter_enum he h
section
variable{X:Cx}{elts:List Expr}{k:Nat}{pt:Pos}
noncomputable def pJ(K:Qa)(c:Nat)(ta:TA):TI:=λσ H R=>ta σ H λvs H1=>∃l xs,vs=[.ref l]/\bt K H1 l xs/\R (oM K c l) H1
def C0 (hg:Gl X "enumerate")(hm:X.mg "enumerate"=none)(ha:PA X [a] ta)(hs:Ih [a] X.env=[(false,eval a X.env)]:=by rfl):
  PI X (.Tuple elts k pt) (.Call (.Name "enumerate" p) [a] [] pos) (pJ X.K 0 ta):=by
 intro pins s σ H R I h;refine Call_ (yZ I hg hm PyProof.Rows.boot_enumerate (PyProof.Rows.callWith_type1 (aP (ha pos pins s σ H _ I h) λus s1 ⟨vs,H1,I1,r1,q1⟩=>?_) hs rfl));obtain⟨l,xs,e,g1,q⟩:=q1;subst e;cases r1 with
 |cons r rr=>
  cases rr;cases r;obtain⟨its1,rv1,p1,_⟩:=I1.list g1;have t1:l<s1.heap.objs.size:=by obtain⟨o,e,_⟩:=p1.isList;exact Qg e
  refine call_enumerate_list p1.isList λh' he hi hsz hk=>?_;refine wpAny_pyIter_enum (s:={s1 with heap:=h' }) he ?_;refine⟨_,_,_,_,H1,rfl,I1.kept (t':=s1.toks) hk,EU 0 (s1.heap.objs.size+1) s1.heap.objs.size l (Nat.succ_ne_self _) (Qx (Wa t1)) (Qx t1),⟨⟨_,he⟩,hi⟩,λb hb=>?_,q⟩;have hb':s1.heap.objs.size<=b:=by
   simp only[Qj,QV,or_false]at hb;rcases hb with rfl|rfl
   .exact Nat.le_add_right _ _
   .exact Qf _
  exact I1.fpOk hb' (I1.hok.fresh hb')
end
end L2
namespace L2
open PySem PySem.Spec PyProof.Rows
open AutoSeq1 (wpAny_loadPart')
end L2
namespace L2
open PySem PySem.Spec PyProof.Rows
section
variable{prog:HJ}{w:HL}{A:HY}{E:Value->HK->Prop}{s:HK}{it d:Addr}{i n:Nat}{od:Obj}{es:Array DictEntry}
def um {R:Option Value->HK->Prop}{Q':α->HK->Prop}(quiet:A.handled=none)(go:s.heap.get? it=some o)(fo:o.data=.fields fs)(hk:k<fs.size)(end':∀h',W0 it s.heap h'->R none {s with heap:=h' }):
  Ic (Ie prog w) A.in1 (do setField (.ref it) k .none;let e <-newExc (.type "StopIteration") [];raiseNew e:Sem α) Q'
   (λe s'=>Ic (Ie prog w) A (do let b <-isInstance e (.type "StopIteration");if b=true then pure none else throw e) R E s') s:=by
 apply Iv;apply JH go fo hk;apply Iv;simp only[newExc,newTuple];refine Iv (Jb (Iv (m:=JI _ _) (JJ (a:=Value.none) (by first|rfl|(simp only[JI];rfl)) (Jb ?_ (by size_fits)))) (by size_fits));simp only[raiseNew];apply Iv;apply wpAny_handled;rw[show A.in1.handled=none from quiet];apply wpAny_throw;apply Iv;refine wpAny_isInstance (T:="StopIteration") (b:=true) ⟨_,Qk _ rfl,rfl⟩ isSubtype_stop ?_;exact IB (end' _ (((QT.update ..).extBut.push _).push _))
def ul (nosys:(d==HR)=false)(g:s.heap.get? d=some od)(ex:od.ExactDict)(dat:od.data=.dict es n)(sz:es.size=n)(end':R (.ref s.heap.objs.size) {s with heap:=s.heap.push {cls:=.type "dict_keyiterator",data:=.fields #[.ref d,.int 0 0,.int n 0,.int n 0]} }):Ic (Ie prog w) A (pyIter (.ref d)) R E s:=by
 have ty:s.TypeIs (.ref d) "dict":=⟨od,g,ex.1⟩;apply wpAny_pyIter_slot ty F.slot_dict_iter;refine Ja F.slot_dict_iter ty F.entry_dict_iter ?_ (F.args_dict_iter_1 _);unfold Builtin.«dict.__iter__» Builtin.Dict.dictSlotNone;apply Iv;apply Iv;apply Ju ty;apply IB (a:=Value.ref d);apply Iv (m:=Builtin.Dict.showsAll d);unfold Builtin.Dict.showsAll;rw[nosys];apply IB;apply Iv;apply Jy g dat;apply Iv;apply Jz g dat;apply Iv;refine Jb (IB ⟨_,rfl,"dict_keyiterator",_,⟨_,Qk _ rfl,rfl⟩,F.slot_dict_keyiterator_next.lookup,?_⟩);rw[sz];exact end'
def uk (at_:s.heap.IsKeyIter it d i n n)(g:s.heap.get? d=some od)(dat:od.data=.dict es n)(sz:es.size=n)(hi:i<n)(end':∀h',h'.IsKeyIter it d (i+1) n n->QT it s.heap h'->R (some (es[i]'(by lia)).key) {s with heap:=h' }):Ic (Ie prog w) A (Iz (.ref it)) R E s:=by
 obtain⟨o,go,co,fo⟩:=id at_;have ty:=at_.typeIs;unfold Iz;apply Iv;apply JK;apply I0 ty F.slot_dict_keyiterator_next;refine Ja F.slot_dict_keyiterator_next ty F.entry_dict_keyiterator_next ?_ (F.args_dict_keyiterator_next_1 _);refine Iv (IB (Iv (Iv (Iv (JL ty (IB ?_))))));refine Iv (wpAny_fieldsOf go fo ?_);have no:Builtin.Dict_items.ownsTuple "dict_keyiterator"=false:=by decide
 simp only[no,QU,if_false];change Ic _ _ (ite ((Value.ref d==Value.none)=true) _ _) _ _ s;rw[show(Value.ref d==Value.none)=false from rfl,J8 QJ];refine Iv (IB (Iv (Jy g dat ?_)));rw[sz,J8 (by simp)];refine Iv (IB (Iv (Jz g dat ?_)));rw[J8 (by simp)];apply IB;have hi':i<es.size:=by lia
 simp only[show ¬(i:Int)<0 from by lia,if_false,WB,Wg hi'];refine Iv (Iv (JL ty (IB (Iv (JM ty ?_)))));apply Iv (m:=setField (.ref it) 1 (IC ((i:Int)+1)));apply JH go fo (by simp);have nx:(s.heap.update it (Obj.mapFields (·.setIfInBounds 1 (IC ((i:Int)+1))))).IsKeyIter it d (i+1) n n:=by
  refine⟨_,Wn _ go (Obj.isFreed_of_fields (Obj.data_mapFields fo _)),by rw[Obj.cls_mapFields];exact co,?_⟩;rw[Obj.data_mapFields fo];simp[IC]
 refine Iv (Iw (Iv (JM nx.typeIs ?_)));exact IB (IB ⟨_,rfl,IB (end' _ nx (QT.update ..))⟩)
def uj (quiet:A.handled=none)(at_:s.heap.IsKeyIter it d i n n)(g:s.heap.get? d=some od)(dat:od.data=.dict es n)(sz:es.size=n)(hi:n<=i)(end':∀h',W0 it s.heap h'->R none {s with heap:=h' }):Ic (Ie prog w) A (Iz (.ref it)) R E s:=by
 obtain⟨o,go,co,fo⟩:=id at_;have ty:=at_.typeIs;unfold Iz;apply Iv;apply JK;apply I0 ty F.slot_dict_keyiterator_next;refine Ja F.slot_dict_keyiterator_next ty F.entry_dict_keyiterator_next ?_ (F.args_dict_keyiterator_next_1 _);refine Iv (IB (Iv (Iv (Iv (JL ty (IB ?_))))));refine Iv (wpAny_fieldsOf go fo ?_);have no:Builtin.Dict_items.ownsTuple "dict_keyiterator"=false:=by decide
 simp only[no,QU,if_false];change Ic _ _ (ite ((Value.ref d==Value.none)=true) _ _) _ _ s;rw[show(Value.ref d==Value.none)=false from rfl,J8 QJ];refine Iv (IB (Iv (Jy g dat ?_)));rw[sz,J8 (by simp)];refine Iv (IB (Iv (Jz g dat ?_)));rw[J8 (by simp)];apply IB;simp only[show ¬(i:Int)<0 from by lia,if_false,WB,WE (show es.size<=i by lia)];refine Iv (Iv (JL ty (IB ?_)));exact um quiet go fo (by rw[no];exact Nat.zero_lt_succ 3) end'
end
section
variable{X:Cx}{pins:List (Addr×Obj)}{σ:St}{H:Hp}{s:HK}
def yK (I:Inv X pins σ H s)(h:yC X.K H d xs):(d==HR)=false/\∃o es,s.heap.get? d=some o/\o.ExactDict/\o.data=.dict es xs.length/\es.size=xs.length/\∀(i:Nat) (x:TK),xs[i]?=some x->es[i]?=some (gf x):=by
 obtain⟨⟨a0,o,es,a1,a2,a3,a4,a5⟩,_,_⟩:=I.hok d _ h.1;refine⟨a0,o,es,a1,a2,a3,by rw[<-Wi,a4,QF],λi x hx=>?_⟩;rw[<-Vd,a4,QD,hx];rfl
noncomputable def ua(K:Qa)(d:Addr)(n:Nat):It:=
 ⟨λi H=>∃xs,yC K H d xs/\xs.length=n/\i<n,λi H x H'=>H'=H/\∀xs,yC K H d xs->∃k,xs[i]?=some k/\x=.ref k.2.1,λi H=>∃xs,yC K H d xs/\xs.length=n/\n<=i⟩
def qo {K:Qa}(it:Addr):cP P w K tg (ua K d n) [it] it (λi h=>h.IsKeyIter it d i n n) where
 mem:=by simp
 obj:=λi h st b hb=>by
  have e:b=it:=by simpa using hb
  subst e;obtain⟨o,e,c,d⟩:=st;exact⟨o,e,λv z=>by rw[d]at z;cases z⟩
 keep:=λi h h' st k=>by
  obtain⟨o,e,r⟩:=st;exact⟨o,k it (by simp) o e,r⟩
 item:=by
  intro X hP hw hK hc i pins s σ H E I hf st hg;subst hP hw hK;obtain⟨xs,td,hn,hi⟩:=hg;obtain⟨_,od,es,g,ex,dat,sz,rows⟩:=yK I td;obtain⟨f0,f1,f2,f3,f4,f5⟩:=hf it (by simp);have hx:i<xs.length:=by lia
  have e2:=rows i _ (Qv hx);subst hn;refine uk st g dat sz hi λh' st' sb=>?_;have I1:Inv X pins σ H {s with heap:=h' }:=I.turned (t':=s.toks) (λb o hb e=>(sb.2 b hb).trans e) f0 f1 f3 f4 f5;obtain⟨o,e,c,dd⟩:=id st';have hk:(es[i]'(by lia)).key=.ref xs[i].2.1:=by
   rw[Wg (by lia)]at e2;rw[Option.some.inj e2];rfl
  rw[hk];refine⟨_,rfl,j7 (s:={s with heap:=h' }) e c dd (by decide) ⟨.ref xs[i].2.1,H,I1,rfl,⟨rfl,λys ty=>?_⟩,st',λb hb=>(hf b hb).1⟩⟩;obtain⟨_,od',es',g',_,dat',sz',rows'⟩:=yK I ty;rw[g]at g';cases g';rw[dat]at dat';injection dat' with d1 d2
  subst d1;have hy:i<ys.length:=by lia
  have e3:=rows' i _ (Qv hy);rw[e2]at e3;refine⟨ys[i],Qv hy,?_⟩;have e4:=J5 DictEntry.key (Option.some.inj e3);exact J5 V.ref (Value.ref.inj e4)
 done:=by
  intro X hP hw hK hc i pins s σ H E I hf st hg;subst hP hw hK;obtain⟨xs,td,hn,hi⟩:=hg;obtain⟨_,od,es,g,ex,dat,sz,rows⟩:=yK I td;obtain⟨f0,f1,f2,f3,f4,f5⟩:=hf it (by simp);subst hn;exact uj (I.ok.hd hc) st g dat sz hi λh' eb=>⟨rfl,I.turned (t':=s.toks) (λb o hb e=>eb b o hb e) f0 f1 f3 f4 f5⟩
 self:=λ_ _ _ _ _ st h=>JF st h
noncomputable def sO(X:Cx)(tl:TE):TI:=λσ H R=>tl σ H λx H1=>∃d xs,x=.ref d/\yC X.K H1 d xs/\R (ua X.K d xs.length) H1
def EH (hl:PE X l tl):PI X tg l (sO X tl):=by
 intro pins s σ H R I h;refine aP (hl pins s σ H _ I h) λv s1 ⟨x,H1,I1,r1,q1⟩=>?_;obtain⟨d,xs,e,td,q⟩:=q1;subst e;cases r1;obtain⟨nosys,od,es,g,ex,dat,sz,_⟩:=yK I1 td;refine ul nosys g ex dat sz ?_;refine⟨s1.heap.objs.size,[s1.heap.objs.size],_,_,H1,rfl,I1.kept (t':=s1.toks) λb o e=>Qc _ e,qo _,⟨_,Qk _ rfl,rfl,rfl⟩,λb hb=>?_,q⟩;have e:b=s1.heap.objs.size:=by simpa using hb
 subst e;exact I1.fpOk (Qf _) (I1.hok.fresh (Qf _))
end
section
variable{prog:HJ}{w:HL}{A:HY}{E:Value->HK->Prop}{s:HK}
def uQ (at_:s.heap.IsTupleIter it t i)(tp:s.heap.IsTuple t its)(hi:i<its.size)(end':∀h',h'.IsTupleIter it t (i+1)->QT it s.heap h'->R its[i] {s with heap:=h' }):Ic (Ie prog w) A (Builtin.SmallTypes.nextOf (.ref it)) R E s:=by
 obtain⟨o,go,co,fo⟩:=id at_;obtain⟨ot,gt,_,n,ft⟩:=tp;have ty:=at_.typeIs;unfold Builtin.SmallTypes.nextOf;apply Iv;apply I0 ty F.slot_tuple_iterator_next;refine Ja F.slot_tuple_iterator_next ty F.entry_tuple_iterator_next ?_ (F.args_tuple_iterator_next_1 _);apply Iv (m:=JN (.ref it) 0);apply IY go fo (x:=.ref t) rfl;change Ic _ _ (ite ((Value.ref t==Value.none)=true) _ _) _ _ s;rw[show(Value.ref t==Value.none)=false from rfl,J8 QJ];apply Iv (m:=JN (.ref it) 1);apply IY go fo (x:=.int i 0) rfl;apply Iv (m:=seqItems? (.ref t));apply JO gt ft;simp only[WB,Wg hi];refine Iv (JH go fo (by simp) (IB ⟨_,rfl,IB (end' _ ⟨_,Wn _ go (Obj.isFreed_of_fields (Obj.data_mapFields fo _)),by rw[Obj.cls_mapFields];exact co,?_⟩ (QT.update ..))⟩));rw[Obj.data_mapFields fo];simp[IC]
def uP (quiet:A.handled=none)(at_:s.heap.IsTupleIter it t i)(tp:s.heap.IsTuple t its)(hi:its.size<=i)(end':∀h' e,W0 it s.heap h'->(∃o,h'.get? e=some o/\o.cls=.type "StopIteration")->E (.ref e) {s with heap:=h' }):Ic (Ie prog w) A (Builtin.SmallTypes.nextOf (.ref it)) R E s:=by
 obtain⟨o,go,co,fo⟩:=id at_;obtain⟨ot,gt,_,n,ft⟩:=tp;have ty:=at_.typeIs;unfold Builtin.SmallTypes.nextOf;apply Iv;apply I0 ty F.slot_tuple_iterator_next;refine Ja F.slot_tuple_iterator_next ty F.entry_tuple_iterator_next ?_ (F.args_tuple_iterator_next_1 _);apply Iv (m:=JN (.ref it) 0);apply IY go fo (x:=.ref t) rfl;change Ic _ _ (ite ((Value.ref t==Value.none)=true) _ _) _ _ s;rw[show(Value.ref t==Value.none)=false from rfl,J8 QJ];apply Iv (m:=JN (.ref it) 1);apply IY go fo (x:=.int i 0) rfl;apply Iv (m:=seqItems? (.ref t));apply JO gt ft;simp only[WB,WE hi];apply Iv;apply Js;apply Iv;apply JH go fo (by simp);apply Iv;simp only[newExc,newTuple];refine Iv (Jb (Iv (m:=JI _ _) (JJ (a:=Value.none) (by first|rfl|(simp only[JI];rfl)) (Jb ?_ (by size_fits)))) (by size_fits));simp only[raiseNew];apply Iv;apply wpAny_handled
 first|rw[show A.in1.handled=none from quiet]|rw[quiet]
 apply wpAny_throw;exact end' _ _ (((QT.update ..).extBut.push _).push _) ⟨_,Qk _ rfl,rfl⟩
noncomputable def bW(b:Bool)(h:HQ)(l:Addr)(its:Array Value):Prop:=match b with
 |false=>h.IsList l its
 |true=>h.IsTuple l its
noncomputable def bL(b:Bool)(h:HQ)(it l:Addr)(i:Nat):Prop:=match b with
 |false=>h.IsListIter it l i
 |true=>h.IsTupleIter it l i
theorem bW.at{b:Bool}{h h':HQ}{l:Addr}{its:Array Value}(x:bW b h l its)(k:∀o,h.get? l=some o->h'.get? l=some o):bW b h' l its:=by
 cases b with
 |false=>exact Heap.IsList.at x k
 |true=>obtain⟨o,g,r⟩:=x;exact⟨o,k o g,r⟩
theorem bL.at{b:Bool}{h h':HQ}{it l:Addr}{i:Nat}(x:bL b h it l i)(k:∀o,h.get? it=some o->h'.get? it=some o):bL b h' it l i:=by
 cases b with
 |false=>exact Heap.IsListIter.at x k
 |true=>exact Heap.IsTupleIter.at x k
def bL.there (x:bL b h it l i):∃o,h.get? it=some o/\∀v,o.data≠.cell v:=by
 cases b with
 |false=>obtain⟨o,g,_,d⟩:=x;exact⟨o,g,λv z=>by rw[d]at z;cases z⟩
 |true=>obtain⟨o,g,_,d⟩:=x;exact⟨o,g,λv z=>by rw[d]at z;cases z⟩
def ly (b:Bool)(at_:bL b s.heap it l i)(sq:bW b s.heap l its)(hi:i<its.size)(end':∀h',bL b h' it l (i+1)->QT it s.heap h'->R its[i] {s with heap:=h' }):Ic (Ie prog w) A (Builtin.SmallTypes.nextOf (.ref it)) R E s:=by
 cases b with
 |false=>exact wpAny_nextOf_list_item at_ sq (Wg hi) end'
 |true=>exact uQ at_ sq hi end'
def pH (b:Bool)(quiet:A.handled=none)(at_:bL b s.heap it l i)(sq:bW b s.heap l its)(hi:its.size<=i)(end':∀h' e,W0 it s.heap h'->(∃o,h'.get? e=some o/\o.cls=.type "StopIteration")->E (.ref e) {s with heap:=h' }):Ic (Ie prog w) A (Builtin.SmallTypes.nextOf (.ref it)) R E s:=by
 cases b with
 |false=>exact JG quiet at_ sq (WE hi) end'
 |true=>exact uP quiet at_ sq hi end'
end
noncomputable def c0(b:Bool)(l:Addr):Obj:=match b with
 |false=>{cls:=.type "list_iterator",data:=.fields #[.ref l,.int 0 0]}
 |true=>{cls:=.type "tuple_iterator",data:=.fields #[.ref l,.int 0 0]}
section
variable{prog:HJ}{w:HL}{A:HY}{E:Value->HK->Prop}{s:HK}
def pG (b:Bool)(sq:bW b s.heap l its)(end':R (.ref s.heap.objs.size) {s with heap:=s.heap.push (c0 b l)}):Ic (Ie prog w) A (pyIter (.ref l)) R E s:=by
 cases b with
 |false=>exact ID sq end'
 |true=>exact wpAny_pyIter_tuple sq end'
def k9(b:Bool)(l:Addr):(c0 b l).isFreed=false:=by cases b<;>rfl
def pX (b:Bool)(g:h.get? it=some (c0 b l)):bL b h it l 0:=by
 cases b with
 |false=>exact⟨_,g,rfl,rfl⟩
 |true=>exact⟨_,g,rfl,rfl⟩
noncomputable def zH(b1 b2:Bool)(h:HQ)(l1 l2:Addr):HQ:=((((h.push (c0 b1 l1)).push (c0 b2 l2)).push {cls:=.type "tuple",data:=.seq #[.ref h.objs.size,.ref (h.push (c0 b1 l1)).objs.size]}).push {cls:=.type "tuple",data:=.seq #[.none,.none]})
noncomputable def zF(b1 b2:Bool)(h:HQ)(l1 l2:Addr):HQ:=(zH b1 b2 h l1 l2).push {cls:=.type "zip",data:=.fields #[.none,.bool false,.bool false,.ref ((h.push (c0 b1 l1)).push (c0 b2 l2)).objs.size,.ref (((h.push (c0 b1 l1)).push (c0 b2 l2)).push {cls:=.type "tuple",data:=.seq #[.ref h.objs.size,.ref (h.push (c0 b1 l1)).objs.size]}).objs.size]}
def qp(b1 b2:Bool)(l1 l2:Addr)(xs ys:Array Value):
  Meets (Builtin.«zip.__new__» ⟨[.type "zip",.ref l1,.ref l2],[]⟩) (λ_ R s=>bW b1 s.heap l1 xs/\bW b2 s.heap l2 ys/\R (.ok (.ret (.ref (zH b1 b2 s.heap l1 l2).objs.size))) {s with heap:=zF b1 b2 s.heap l1 l2}):=
 .of_wp λprog w A R s h=>by
  obtain⟨hp,g,d,tk,os⟩:=s;obtain⟨q1,q2,h⟩:=h;have sb:=sub_zip;have k1:bW b1 (Shared.heap ⟨hp,g,d,tk,os⟩) l1 xs:=q1;have k2:bW b2 (Shared.heap ⟨hp.push (c0 b1 l1),g,d,tk,os⟩) l2 ys:=q2.at λo e=>Qc _ e
  wp_walk using pG b1 k1,pG b2 k2
  exact⟨_,rfl,h⟩
def ET (b1 b2:Bool)(q1:bW b1 s.heap l1 xs)(q2:bW b2 s.heap l2 ys)(end':∀h',JP h' (s.heap.objs.size+4) (s.heap.objs.size+2) (s.heap.objs.size+3) .none->JQ h' (s.heap.objs.size+2) (.ref s.heap.objs.size) (.ref (s.heap.objs.size+1))->JQ h' (s.heap.objs.size+3) .none .none ->
   bL b1 h' s.heap.objs.size l1 0->bL b2 h' (s.heap.objs.size+1) l2 0->(∀c o,s.heap.get? c=some o->h'.get? c=some o)->R (.ref (s.heap.objs.size+4)) {s with heap:=h' }):
  Ic (Ie prog w) A (call (.type "zip") [.ref l1,.ref l2]) R E s:=by
 refine callType_new F.called_zip (by decide) (F.typeCall_zip_2 _ _) (F.newCall_zip_2 _ _) (λobj=>F.args_object_init_3 obj _ _) F.entry_zip_new (qp b1 b2 l1 l2 xs ys) ⟨q1,q2,?_⟩;obtain⟨a1,e1⟩:∃a,a=s.heap.push (c0 b1 l1):=⟨_,rfl⟩;obtain⟨a2,e2⟩:∃a,a=a1.push (c0 b2 l2):=⟨_,rfl⟩;obtain⟨a3,e3⟩:∃a,a=a2.push {cls:=.type "tuple",data:=.seq #[.ref s.heap.objs.size,.ref a1.objs.size]}:=⟨_,rfl⟩;obtain⟨a4,e4⟩:∃a,a=a3.push {cls:=.type "tuple",data:=.seq #[.none,.none]}:=⟨_,rfl⟩;obtain⟨a5,e5⟩:∃a,a=a4.push {cls:=.type "zip",data:=.fields #[.none,.bool false,.bool false,.ref a2.objs.size,.ref a3.objs.size]}:=⟨_,rfl⟩;have f4:zH b1 b2 s.heap l1 l2=a4:=by rw[e4,e3,e2,e1];rfl
 have f5:zF b1 b2 s.heap l1 l2=a5:=by rw[e5,e4,e3,e2,e1];rfl
 rw[f4,f5];have z1:a1.objs.size=s.heap.objs.size+1:=by rw[e1,We]
 have z2:a2.objs.size=s.heap.objs.size+2:=by rw[e2,We,z1]
 have z3:a3.objs.size=s.heap.objs.size+3:=by rw[e3,We,z2]
 have z4:a4.objs.size=s.heap.objs.size+4:=by rw[e4,We,z3]
 have u5:∀c o,a4.get? c=some o->a5.get? c=some o:=λc o e=>by rw[e5];exact Qc _ e
 have u4:∀c o,a3.get? c=some o->a5.get? c=some o:=λc o e=>u5 c o (by rw[e4];exact Qc _ e);have u3:∀c o,a2.get? c=some o->a5.get? c=some o:=λc o e=>u4 c o (by rw[e3];exact Qc _ e);have u2:∀c o,a1.get? c=some o->a5.get? c=some o:=λc o e=>u3 c o (by rw[e2];exact Qc _ e);have u1:∀c o,s.heap.get? c=some o->a5.get? c=some o:=λc o e=>u2 c o (by rw[e1];exact Qc _ e);have g5:a5.get? a4.objs.size=some {cls:=.type "zip",data:=.fields #[.none,.bool false,.bool false,.ref a2.objs.size,.ref a3.objs.size]}:=by rw[e5];exact Qk _ rfl
 have g4:a5.get? a3.objs.size=some {cls:=.type "tuple",data:=.seq #[.none,.none]}:=u5 _ _ (by rw[e4];exact Qk _ rfl);have g3:a5.get? a2.objs.size=some {cls:=.type "tuple",data:=.seq #[.ref s.heap.objs.size,.ref a1.objs.size]}:=u4 _ _ (by rw[e3];exact Qk _ rfl);have g2:a5.get? a1.objs.size=some (c0 b2 l2):=u3 _ _ (by rw[e2];exact Qk _ (k9 b2 l2));have g1:a5.get? s.heap.objs.size=some (c0 b1 l1):=u2 _ _ (by rw[e1];exact Qk _ (k9 b1 l1));rw[z1,z2]at g3;rw[z2,z3,z4]at g5;rw[z3]at g4;rw[z1]at g2;rw[z4];exact⟨⟨_,g5,rfl⟩,end' a5 g5 g3 g4 (pX b1 g1) (pX b2 g2) u1⟩
end
section
variable{prog:HJ}{w:HL}{A:HY}{E:Value->HK->Prop}{s:HK}{z TI TO i1 i2 l1 l2:Addr}{i:Nat}{xs ys:Array Value}{a b:Value}
def CZ(b1 b2:Bool){R:Value->HK->Prop}(D:ZipApart z TI TO i1 i2 l1 l2)(hz:JP s.heap z TI TO .none)(hI:JQ s.heap TI (.ref i1) (.ref i2))(hO:JQ s.heap TO a b)
  (h1:bL b1 s.heap i1 l1 i) (h2:bL b2 s.heap i2 l2 i) (q1:bW b1 s.heap l1 xs) (q2:bW b2 s.heap l2 ys) (hx:i<xs.size) (hy:i<ys.size)
  (end':∀h',JP h' z TI TO (IC s.heap.objs.size)->JQ h' TO xs[i] ys[i]->bL b1 h' i1 l1 (i+1)->bL b2 h' i2 l2 (i+1)->JQ h' s.heap.objs.size xs[i] ys[i] ->
   (∀c o,c≠z->c≠TO->c≠i1->c≠i2->s.heap.get? c=some o->h'.get? c=some o)->R (.ref s.heap.objs.size) {s with heap:=h' }) :
  Ic (Ie prog w) A (Builtin.«zip.__next__» ⟨[.ref z],[]⟩) (λfin s'=>∃v,fin=.done (.ret v)/\R v s') E s:=by
 apply Iv (m:=JN (.ref z) 2);apply IY hz rfl (x:=.bool false) rfl;apply Iv (m:=JN (.ref z) 3);apply IY hz rfl (x:=.ref TI) rfl;apply Iv;apply JO hI rfl;apply Iv (m:=Builtin.SmallTypes.ownedTupleIsFree (.ref z));unfold Builtin.SmallTypes.ownedTupleIsFree;refine Iv (IY hz rfl (x:=.none) rfl (IB ?_));simp only[if_true];refine Iv (Js (Iv (IY hz rfl (x:=.ref TO) rfl ?_)));refine Iv (JR hz (by simp) λm1 z1 c1=>?_);have z1:JP m1 z TI TO .ellipsis:=z1;apply Iv;simp only[List.zipIdx_cons,List.zipIdx_nil,W3,WN];apply Iv;apply Iv;apply JS;apply Iv (m:=Builtin.SmallTypes.nextOf (.ref i1));refine ly b1 (h1.at λo e=>c1.extBut _ o D.i1z e) (q1.at λo e=>c1.extBut _ o D.l1z e) hx λm2 j1 c2=>IB ?_;have o2:JQ m2 TO a b:=c2.extBut _ _ D.TOi1 (c1.extBut _ _ D.TOz hO);refine Iv (JO o2 rfl (Iv (JT o2 λm3 o3 c3=>?_)));have o3:JQ m3 TO xs[i] b:=o3;refine Iv (JU (IB ?_));apply Iv;apply Iv;apply JS;apply Iv (m:=Builtin.SmallTypes.nextOf (.ref i2));refine ly b2 (h2.at λo e=>c3.extBut _ o D.TOi2.symm (c2.extBut _ o D.i12.symm (c1.extBut _ o D.i2z e))) (q2.at λo e=>c3.extBut _ o D.l2TO (c2.extBut _ o D.l2i1 (c1.extBut _ o D.l2z e))) hy λm4 j2 c4=>IB ?_;have o4:JQ m4 TO xs[i] b:=c4.extBut _ _ D.TOi2 o3;refine Iv (JO o4 rfl (Iv (JT o4 λm5 o5 c5=>?_)));have o5:JQ m5 TO xs[i] ys[i]:=o5;refine Iv (JU (IB (IB ?_)));refine Iv (JO o5 rfl (Iv (wpAny_newTuple ?_)));have sz:m5.objs.size=s.heap.objs.size:=by rw[c5.1,c4.1,c3.1,c2.1,c1.1]
 have z5:JP m5 z TI TO .ellipsis:=c5.extBut _ _ D.TOz.symm (c4.extBut _ _ D.i2z.symm (c3.extBut _ _ D.TOz.symm (c2.extBut _ _ D.i1z.symm z1)));have up5:∀c o,c≠z->c≠TO->c≠i1->c≠i2->s.heap.get? c=some o->m5.get? c=some o:=λc o y1 y2 y3 y4 e=>c5.extBut _ _ y2 (c4.extBut _ _ y4 (c3.extBut _ _ y2 (c2.extBut _ _ y3 (c1.extBut _ _ y1 e))));have k1:bL b1 m5 i1 l1 (i+1):=j1.at λo e=>c5.extBut _ o D.TOi1.symm (c4.extBut _ o D.i12 (c3.extBut _ o D.TOi1.symm e));have k2:bL b2 m5 i2 l2 (i+1):=j2.at λo e=>c5.extBut _ o D.TOi2.symm e;have zl:z<m5.objs.size:=Qg z5;apply Iv (m:=Builtin.SmallTypes.ownedTupleHandOut (.ref z) (.ref m5.objs.size));unfold Builtin.SmallTypes.ownedTupleHandOut;have z6:JP (m5.push {cls:=.type "tuple",data:=.seq #[xs[i],ys[i]]}) z TI TO .ellipsis:=Qc _ z5;refine Iv (JR z6 (by simp) λm7 z7 c7=>?_);have z7:JP m7 z TI TO (IC m5.objs.size):=z7;refine JR z7 (by simp) λm8 z8 c8=>?_;have z8:JP m8 z TI TO (IC m5.objs.size):=z8;have up:∀c o,c≠z->m5.get? c=some o->m8.get? c=some o:=λc o y e=>c8.extBut _ _ y (c7.extBut _ _ y (Qc _ e));have t8:JQ m8 m5.objs.size xs[i] ys[i]:=c8.extBut _ _ (Wh zl) (c7.extBut _ _ (Wh zl) (Qk _ rfl));rw[sz]at z8 t8;refine IB ⟨_,rfl,?_⟩;change R (.ref m5.objs.size) _;rw[sz];exact end' m8 z8 (up _ _ D.TOz o5) (k1.at λo e=>up _ o D.i1z e) (k2.at λo e=>up _ o D.i2z e) t8 λc o y1 y2 y3 y4 e=>up c o y1 (up5 c o y1 y2 y3 y4 e)
def CY (b1 b2:Bool)(quiet:A.handled=none)(D:ZipApart z TI TO i1 i2 l1 l2)(hz:JP s.heap z TI TO .none)(hI:JQ s.heap TI (.ref i1) (.ref i2))(hO:JQ s.heap TO a b)(h1:bL b1 s.heap i1 l1 i)(h2:bL b2 s.heap i2 l2 i)(q1:bW b1 s.heap l1 xs)(q2:bW b2 s.heap l2 ys)(hn:xs.size<=i\/ys.size<=i)(end':∀h' e,(∀c o,c≠z->c≠TO->c≠i1->c≠i2->s.heap.get? c=some o->h'.get? c=some o)->(∃o,h'.get? e=some o/\o.cls=.type "StopIteration")->E (.ref e) {s with heap:=h' }):
  Ic (Ie prog w) A (Builtin.«zip.__next__» ⟨[.ref z],[]⟩) R E s:=by
 apply Iv (m:=JN (.ref z) 2);apply IY hz rfl (x:=.bool false) rfl;apply Iv (m:=JN (.ref z) 3);apply IY hz rfl (x:=.ref TI) rfl;apply Iv;apply JO hI rfl;apply Iv (m:=Builtin.SmallTypes.ownedTupleIsFree (.ref z));unfold Builtin.SmallTypes.ownedTupleIsFree;refine Iv (IY hz rfl (x:=.none) rfl (IB ?_));simp only[if_true];refine Iv (Js (Iv (IY hz rfl (x:=.ref TO) rfl ?_)));refine Iv (JR hz (by simp) λm1 z1 c1=>?_);have z1:JP m1 z TI TO .ellipsis:=z1;apply Iv;simp only[List.zipIdx_cons,List.zipIdx_nil,W3,WN];apply Iv;apply Iv;apply JS;apply Iv (m:=Builtin.SmallTypes.nextOf (.ref i1));by_cases hx:i<xs.size
 .have hy:ys.size<=i:=by lia
  refine ly b1 (h1.at λo e=>c1.extBut _ o D.i1z e) (q1.at λo e=>c1.extBut _ o D.l1z e) hx λm2 j1 c2=>IB ?_;have o2:JQ m2 TO a b:=c2.extBut _ _ D.TOi1 (c1.extBut _ _ D.TOz hO);refine Iv (JO o2 rfl (Iv (JT o2 λm3 o3 c3=>?_)));refine Iv (JU (IB ?_));apply Iv;apply Iv;apply JS;apply Iv (m:=Builtin.SmallTypes.nextOf (.ref i2));refine pH b2 quiet (h2.at λo e=>c3.extBut _ o D.TOi2.symm (c2.extBut _ o D.i12.symm (c1.extBut _ o D.i2z e))) (q2.at λo e=>c3.extBut _ o D.l2TO (c2.extBut _ o D.l2i1 (c1.extBut _ o D.l2z e))) hy λm4 e c4 he=>?_;obtain⟨oe,ge,ce⟩:=he;have z4:JP m4 z TI TO .ellipsis:=c4 _ _ D.i2z.symm (c3.extBut _ _ D.TOz.symm (c2.extBut _ _ D.i1z.symm z1));have ez:e≠z:=λx=>by subst x;rw[z4]at ge;cases ge;simp at ce
  exact JR z4 (by simp) λm5 _ c5=>end' m5 e (λc o y1 y2 y3 y4 x=>c5.extBut _ _ y1 (c4 _ _ y4 (c3.extBut _ _ y2 (c2.extBut _ _ y3 (c1.extBut _ _ y1 x))))) ⟨oe,c5.extBut _ _ ez ge,ce⟩
 .refine pH b1 quiet (h1.at λo e=>c1.extBut _ o D.i1z e) (q1.at λo e=>c1.extBut _ o D.l1z e) (by lia) λm2 e c2 he=>?_;obtain⟨oe,ge,ce⟩:=he;have z2:JP m2 z TI TO .ellipsis:=c2 _ _ D.i1z.symm z1;have ez:e≠z:=λx=>by subst x;rw[z2]at ge;cases ge;simp at ce
  exact JR z2 (by simp) λm3 _ c3=>end' m3 e (λc o y1 y2 y3 y4 x=>c3.extBut _ _ y1 (c2 _ _ y3 (c1.extBut _ _ y1 x))) ⟨oe,c3.extBut _ _ ez ge,ce⟩
end
noncomputable def dC(b:Bool)(K:Qa)(H:Hp)(l:Addr)(xs:List V):Prop:=match b with
 |false=>bt K H l xs
 |true=>bJ K H l xs
def Inv.sqB (I:Inv X pins σ H s)(b:Bool)(h:dC b X.K H l xs):∃its:List Value,av xs its/\bW b s.heap l its.toArray:=by
 cases b with
 |false=>obtain⟨its,r,p,_⟩:=I.list h;exact⟨its,r,p.isList⟩
 |true=>obtain⟨its,r,p,_⟩:=I.tuple h;exact⟨its,r,p⟩
def Inv.sqB_inj (I:Inv X pins σ H s)(b:Bool)(h:dC b X.K H l xs)(h':dC b X.K H l ys):xs=ys:=by
 cases b with
 |false=>exact I.list_inj h h'
 |true=>exact I.tuple_inj h h'
noncomputable def lf(b1 b2:Bool)(K:Qa)(l1 l2:Addr):It:=
 ⟨λi H=>∃xs ys x y,dC b1 K H l1 xs/\dC b2 K H l2 ys/\xs[i]?=some x/\ys[i]?=some y,
  λi H v H'=>∃x y,Yp H v H' x y/\(∀xs,dC b1 K H l1 xs->xs[i]?=some x)/\∀ys,dC b2 K H l2 ys->ys[i]?=some y,
  λi H=>∃xs ys,dC b1 K H l1 xs/\dC b2 K H l2 ys/\(xs.length<=i\/ys.length<=i)⟩
def ES (b1 b2:Bool){K:Qa}(z TI TO i1 i2 l1 l2:Addr)(D:ZipApart z TI TO i1 i2 l1 l2):
  cP P w K (.Tuple elts k pt) (lf b1 b2 K l1 l2) [z,TI,TO,i1,i2] z (λi h=>JP h z TI TO .none/\JQ h TI (.ref i1) (.ref i2)/\(∃a b,JQ h TO a b)/\bL b1 h i1 l1 i/\bL b2 h i2 l2 i) where
 mem:=by simp
 obj:=λi h st b hb=>by
  obtain⟨hz,hI,⟨a,c,hO⟩,h1,h2⟩:=st;simp only[Qj,QV,or_false]at hb;rcases hb with rfl|rfl|rfl|rfl|rfl
  .exact ⟨_,hz,λv z=>by cases z⟩
  .exact ⟨_,hI,λv z=>by cases z⟩
  .exact ⟨_,hO,λv z=>by cases z⟩
  .exact h1.there
  .exact h2.there
 keep:=λi h h' st k=>by
  obtain⟨hz,hI,⟨a,c,hO⟩,h1,h2⟩:=st;exact⟨k z (by simp) _ hz,k TI (by simp) _ hI,⟨a,c,k TO (by simp) _ hO⟩,h1.at λo e=>k i1 (by simp) o e,h2.at λo e=>k i2 (by simp) o e⟩
 item:=by
  intro X hP hw hK hc i pins s σ H E I hf st hg;subst hP hw hK;obtain⟨xs,ys,x,y,s1,s2,hx,hy⟩:=hg;obtain⟨t1,r1,p1⟩:=I.sqB b1 s1;obtain⟨t2,r2,p2⟩:=I.sqB b2 s2;obtain⟨u,hu,ru⟩:=r1.get hx;obtain⟨v,hv,rv⟩:=r2.get hy;obtain⟨hz,hI,⟨a,b,hO⟩,h1,h2⟩:=st;have n1:i<t1.length:=(Qb.mp hu).1;have n2:i<t2.length:=(Qb.mp hv).1;have eu:t1.toArray[i]'(by simpa using n1)=u:=by simpa using (Qb.mp hu).2
  have ev:t2.toArray[i]'(by simpa using n2)=v:=by simpa using (Qb.mp hv).2
  have ty:s.TypeIs (.ref z) "zip":=⟨_,hz,rfl⟩;unfold Iz;apply Iv;apply JK;apply I0 ty F.slot_zip_next;refine Ja F.slot_zip_next ty F.entry_zip_next (CZ b1 b2 D hz hI hO h1 h2 p1 p2 (by simpa using n1) (by simpa using n2) λh' a1 a2 a3 a4 a5 hk=>?_) (F.args_zip_next_1 _);rw[eu,ev]at a2 a5;refine IB ⟨_,rfl,wpAny_letOwnedTupleGo_zip (s:={s with heap:=h' }) a1 λh'' hz' hs'=>?_⟩;have sT:z<s.heap.objs.size:=Qg hz;have kk:∀b o,b∉[z,TI,TO,i1,i2]->s.heap.get? b=some o->h''.get? b=some o:=λb o hb e=>
   (hs'.2 b λq=>hb (by simp[q])).trans (hk b o (λq=>hb (by simp[q])) (λq=>hb (by simp[q])) (λq=>hb (by simp[q])) (λq=>hb (by simp[q])) e)
  refine⟨.ref s.heap.objs.size,aG H s.heap.objs.size (.tup [x,y]),?_,rfl,⟨x,y,⟨_,I.hok.fresh (Qf _),rfl,rfl⟩,λzs hz=>by rw[I.sqB_inj b1 hz s1];exact hx,λzs hz=>by rw[I.sqB_inj b2 hz s2];exact hy⟩,?_,?_⟩
  .exact oT (s:=s) (t':=s.toks) (its:=[u,v]) I hf kk (Qf _) (show(2:Nat)<=sizeLine by decide) (.cons ru (.cons rv .nil)) ⟨_,(hs'.2 _ (Wh sT)).trans a5,rfl,_,rfl⟩
  .refine ⟨hz',?_,⟨u,v,?_⟩,?_,?_⟩
   .exact (hs'.2 TI D.TIz).trans (hk TI _ D.TIz D.TITO D.TIi1 D.TIi2 hI)
   .exact (hs'.2 TO D.TOz).trans a2
   .exact a3.at λo e=>(hs'.2 i1 D.i1z).trans e
   .exact a4.at λo e=>(hs'.2 i2 D.i2z).trans e
  .intro b hb;have hlt:b<s.heap.objs.size:=by
    simp only[Qj,QV,or_false]at hb;obtain⟨_,e1,_⟩:=h1.there;obtain⟨_,e2,_⟩:=h2.there;rcases hb with rfl|rfl|rfl|rfl|rfl
    .exact sT
    .exact Qg hI
    .exact Qg hO
    .exact Qg e1
    .exact Qg e2
   rw[ze (Qx hlt)];exact(hf b hb).1
 done:=by
  intro X hP hw hK hc i pins s σ H E I hf st hg;subst hP hw hK;obtain⟨xs,ys,s1,s2,hx⟩:=hg;obtain⟨t1,r1,p1⟩:=I.sqB b1 s1;obtain⟨t2,r2,p2⟩:=I.sqB b2 s2;obtain⟨hz,hI,⟨a,b,hO⟩,h1,h2⟩:=st;have e1:=r1.length;have e2:=r2.length;have ty:s.TypeIs (.ref z) "zip":=⟨_,hz,rfl⟩;unfold Iz;apply Iv;apply JK;apply I0 ty F.slot_zip_next;refine Ja F.slot_zip_next ty F.entry_zip_next (CY b1 b2 (I.ok.hd hc) D hz hI hO h1 h2 p1 p2 ?_ λh' e hk he=>?_) (F.args_zip_next_1 _)
  .rcases hx with hx|hx
   .exact .inl (by simp;lia)
   .exact .inr (by simp;lia)
  .obtain ⟨o,ho,hc⟩:=he;apply Iv;refine wpAny_isInstance (T:="StopIteration") (b:=true) ⟨o,ho,hc⟩ isSubtype_stop ?_;exact IB ⟨rfl,I.turnedL (t':=s.toks) hf λb o hb e=>hk b o (λq=>hb (by simp[q])) (λq=>hb (by simp[q])) (λq=>hb (by simp[q])) (λq=>hb (by simp[q])) e⟩
 self:=λ_ _ _ _ _ st h=>wpAny_pyIter_zip st.1 h
section
variable{X:Cx}{elts:List Expr}{k:Nat}{pt:Pos}
noncomputable def lh(K:Qa)(ta:TA):TI:=λσ H R=>ta σ H λvs H1=>∃b1 b2 l1 l2 xs ys,vs=[.ref l1,.ref l2]/\dC b1 K H1 l1 xs/\dC b2 K H1 l2 ys/\R (lf b1 b2 K l1 l2) H1
def jD (hg:Gl X "zip")(hm:X.mg "zip"=none)(ha:PA X [a,b] ta)(hs:Ih [a,b] X.env=[(false,eval a X.env),(false,eval b X.env)]:=by rfl)(hs2:Ih [b] X.env=[(false,eval b X.env)]:=by rfl):
  PI X (.Tuple elts k pt) (.Call (.Name "zip" p) [a,b] [] pos) (lh X.K ta):=by
 intro pins s σ H R I h;refine Call_ (yZ I hg hm PyProof.Rows.boot_zip (PyProof.Rows.callWith_type1 (aP (ha pos pins s σ H _ I h) λus s1 ⟨vs,H1,I1,r1,q1⟩=>?_) (by rw[hs,hs2]) (by rw[hs2];rfl)));obtain⟨b1,b2,l1,l2,xs,ys,e,g1,g2,q⟩:=q1;subst e;cases r1 with
 |cons r rr=>
  cases rr with
  |cons r' rr=>
   cases rr;cases r;cases r';obtain⟨its1,rv1,p1⟩:=I1.sqB b1 g1;obtain⟨its2,rv2,p2⟩:=I1.sqB b2 g2;have lt:∀b l its,bW b s1.heap l its->l<s1.heap.objs.size:=λb l its p=>by
    cases b with
    |false=>obtain⟨o,e,_⟩:=p;exact Qg e
    |true=>obtain⟨o,e,_⟩:=p;exact Qg e
   refine ET b1 b2 p1 p2 λh' hz hTI hTO hi1 hi2 hk=>?_;refine wpAny_pyIter_zip (s:={s1 with heap:=h' }) hz ?_;refine⟨_,_,_,_,H1,rfl,I1.kept (t':=s1.toks) hk,ES b1 b2 (s1.heap.objs.size+4) (s1.heap.objs.size+2) (s1.heap.objs.size+3) s1.heap.objs.size (s1.heap.objs.size+1) l1 l2 (zipApart_new (lt b1 l1 _ p1) (lt b2 l2 _ p2)),⟨hz,hTI,⟨_,_,hTO⟩,hi1,hi2⟩,λb hb=>?_,q⟩;have hb':s1.heap.objs.size<=b:=by
    simp only[Qj,QV,or_false]at hb;rcases hb with rfl|rfl|rfl|rfl|rfl<;>first|exact Nat.le_add_right _ _|exact Qf _
   exact I1.fpOk hb' (I1.hok.fresh hb')
end
end L2
namespace Mini
open PySem PySem.Spec PyProof.Rows L2
section
variable{cl:Nat->List Wd->Me->Rz}{K:Qa}
def aJ.updD{as:List Addr}{m:Me}{H:Hp}{D:Addr}{ys:List V}{o:HO}(S:aJ K as m H)(hD:H D=some (.lst ys))(hn:D∉as):aJ K as m (aG H D o):=by
 refine⟨S.len,S.nd,λl b ob h1 h2=>?_⟩;have q:=S.obj l b ob h1 h2;have hb:b≠D:=by rintro rfl;exact hn (Ql h1)
 cases ob with
 |lst zs=>
  obtain⟨us,e,r⟩:=q;exact⟨us,by rw[ze hb];exact e,r.kp (Kp.upd hD)⟩
 |dct ks ws=>exact bh.mono (ob:=.dct ks ws) (Kp.upd hD) (λ_ _ e=>e) (λo e=>by rw[ze hb];exact e) q
def aJ.join{as:List Addr}{m:Me}{H:Hp}{D:Addr}{ys:List V}{acc:List Wd}(S:aJ K as m H)(hD:H D=some (.lst ys))(hn:D∉as)(R:ae K as H acc ys):aJ K (as++[D]) (m++[.lst acc]) H:=by
 have g:∀(l:Nat) (a:Addr),as[l]?=some a->(as++[D])[l]?=some a:=λl a e=>by
  rw[Qh (Qb.mp e).1];exact e
 have kp:Kp K H H:=⟨λ_ _ h=>h,λ_ _ h=>h⟩;refine⟨by simp[S.len],?_,λl b o h1 h2=>?_⟩
 .refine QB.mpr ⟨S.nd,by simp,λx hx y hy=>?_⟩;rw[QK.mp hy];rintro rfl;exact hn hx
 .by_cases hl:l<as.length
  .rw[Qh hl]at h1;rw[Qh (by rw[<-S.len];exact hl)]at h2;have q:=S.obj l b o h1 h2;cases o with
   |lst zs=>
    obtain⟨us,e,r⟩:=q;exact⟨us,e,aY kp g _ _ r⟩
   |dct ks ws=>exact bh.mono (ob:=.dct ks ws) kp g (λo e=>e) q
  .rw[Qi (by lia)]at h1;rw[Qi (by rw[<-S.len];lia)]at h2;have hz:l-as.length=0:=by
    cases hq:l-as.length with
    |zero=>rfl
    |succ k=>rw[hq]at h1;simp at h1
   rw[hz]at h1;rw[<-S.len,hz]at h2;simp at h1 h2;subst h1;subst h2;exact⟨ys,hD,aY kp g _ _ R⟩
def Step.updD{as as':List Addr}{H H':Hp}{D:Addr}{o:HO}(T:Step as H as' H')(hD:H D=none):Step as H as' (aG H' D o):=
 ⟨T.pre,λb ob h hb=>by rw[ze (zo h hD)];exact T.frame b ob h hb,T.fresh⟩
def Step.join{as as':List Addr}{H H':Hp}{D:Addr}(T:Step as H as' H')(hD:H D=none):Step as H (as'++[D]) H':=by
 refine⟨?_,T.frame,λa ha=>?_⟩
 .obtain ⟨t,rfl⟩:=T.pre;exact⟨t++[D],by simp⟩
 .rcases QN.mp ha with z|z
  .exact T.fresh a z
  .rw[QK.mp z];exact .inr hD
def y9 (S:aJ K as' m H')(T:Step as H as' H')(h0:H D=none)(hD:H' D=some (.lst ys))(hn:D∉as')(R:ae K as' H' acc ys)(h:ak K as H Q (alloc m acc)):Q (.ref D) H':=by
 unfold Mini.alloc at h;split at h
 .refine h (as'++[D]) H' (.ref D) (T.join h0) (S.join hD hn R) (aE.mpr ⟨D,?_,rfl⟩);rw[<-S.len,Qi (Qf _)];simp
 .exact h.elim
structure cI(K:Qa)(as:List Addr)(H:Hp)(D:Addr)(env:En)(σ:St)(as':List Addr)(m':Me)(acc:List Wd)(ys:List V)(H':Hp):Prop where
 T:Step as H as' H'
 S:aJ K as' m' H'
 hD:H' D=some (.lst ys)
 n:D∉as'
 R:ae K as' H' acc ys
 G:aC K as' H' env σ
def cI.go{as:List Addr}{H:Hp}{D:Addr}{env:En}{σ:St}{as' as2:List Addr}{m' m2:Me}{acc:List Wd}{ys:List V}{H' H2:Hp}(M:cI K as H D env σ as' m' acc ys H')(U:Step as' H' as2 H2)(S2:aJ K as2 m2 H2):cI K as H D env σ as2 m2 acc ys H2:=
 ⟨M.T.trans U,S2,U.frame _ _ M.hD M.n,U.out M.hD M.n,M.R.mono M.S U,M.G.mono M.S U⟩
def cI.push{as:List Addr}{H:Hp}{D:Addr}{env:En}{σ:St}{as':List Addr}{m':Me}{acc:List Wd}{ys:List V}{H':Hp}{w:Wd}{v:V}(M:cI K as H D env σ as' m' acc ys H')(h0:H D=none)(R:ai K as' H' w v):
  cI K as H D env σ as' m' (acc++[w]) (ys++[v]) (aG H' D (.lst (ys++[v]))):=by
 have kp:Kp K H' (aG H' D (.lst (ys++[v]))):=Kp.upd M.hD;exact⟨M.T.updD h0,M.S.updD M.hD M.n,zf,M.n,(M.R.append (.one R)).kp kp,M.G.kp kp⟩
set_option tactic.hygienic true in
def wS{elt cond:Ex}{tc:TT}(htc:∀σ H Q,yO K (af cl cond) σ H Q->tc σ H Q){as1 as':List Addr}{H1 H':Hp}{D:Addr}{env ex:En}{σ sx:St}{m':Me}{acc:List Wd}{ys:List V}{Q:VK}{next:List Wd->Me->Rz}{N:List V->Hp->Prop}
  (h0:H1 D=none) (M:cI K as1 H1 D env σ as' m' acc ys H') (G:aC K as' H' (env++ex) (σ++sx))
  (Pt:ak K as1 H1 Q ((af cl cond (env++ex) m').bind λb m1=>match b with
     |.bl true=>(af cl elt (env++ex) m1).bind λy m2=>if acc.length<aF then next (acc++[y]) m2 else .no
     |.bl false=>next acc m1
     |_=>.no))
  (hN:∀as2 m2 acc' ys' H2,Kp K H' H2->(∀(l:Nat) (a:Addr),as'[l]?=some a->as2[l]?=some a)->cI K as1 H1 D env σ as2 m2 acc' ys' H2->ak K as1 H1 Q (next acc' m2)->N ys' H2) :
  tc (σ++sx) H' λb H2=>if b=true then aH K (af cl elt) (σ++sx) H2 λy H3=>H3 D=some (.lst ys)/\ys.length<sizeLine/\N (ys++[y]) (aG H3 D (.lst (ys++[y])))else N ys H2:=by
 refine htc _ _ _ ⟨as',env++ex,m',M.S,G,eD Pt M.T λwb m2 as2 H2 vb T2 S2 R2 P2=>?_⟩;have M2:=M.go T2 S2;cases wb with
 |bl k=>
  obtain rfl:=aj.mp R2;refine⟨k,rfl,?_⟩;cases k with
  |false=>exact ju (hN as2 m2 acc ys H2 (M.S.kp T2) (λ_ _ e=>T2.get e) M2 P2)
  |true=>
   refine kH ⟨as2,env++ex,m2,S2,G.mono M.S T2,eD P2 M2.T λwy m3 as3 H3 vy T3 S3 R3 P3=>?_⟩;have M3:=M2.go T3 S3;have P3':ak K as1 H1 Q (if acc.length<aF then next (acc++[wy]) m3 else .no):=P3;by_cases hl:acc.length<aF
   .rw[J7 hl]at P3';refine⟨M3.hD,by rw[<-M3.R.length];exact Qe hl yq,hN as3 m3 (acc++[wy]) (ys++[vy]) _ ?_ (λ_ _ e=>T3.get (T2.get e)) (M3.push h0 R3) P3'⟩;have k1:=M.S.kp T2;have k2:=S2.kp T3;have k3:Kp K H3 (aG H3 D (.lst (ys++[vy]))):=Kp.upd M3.hD;exact⟨λa vs q=>k3.t _ _ (k2.t _ _ (k1.t _ _ q)),λa vs q=>k3.f _ _ (k2.f _ _ (k1.f _ _ q))⟩
   .rw[J8 hl]at P3';exact P3'.elim
 |_=>exact P2.elim
def cI.start{as as1:List Addr}{H H1:Hp}{D:Addr}{env:En}{σ:St}{m1:Me}(S1:aJ K as1 m1 H1)(G1:aC K as1 H1 env σ)(hD:H1 D=none):cI K as1 H1 D env σ as1 m1 [] [] (aG H1 D (.lst [])):=by
 have T:Step as1 H1 as1 (aG H1 D (.lst [])):=Step.updD .refl hD;exact⟨T,S1.keep T λb _ o e=>by rw[ze (zo e hD)];exact e,zf,S1.new hD,aA.mpr rfl,G1.mono S1 T⟩
noncomputable def jE(K:Qa)(as:List Addr)(H:Hp)(J:It)(g:Nat->Me->Option (Option (Wd×Wd))):Prop:=
 ∀(as':List Addr) (m':Me) (H':Hp),(∀(l:Nat) (a:Addr),as[l]?=some a->as'[l]?=some a)->Step as H as' H'->aJ K as' m' H'->∀i,
  (g i m'=some none->J.stop i H')/\∀x y,g i m'=some (some (x,y))->J.go i H'/\∀v H'',J.yld i H' v H''->∃x' y',Yp H' v H'' x' y'/\ai K as' H' x x'/\ai K as' H' y y'
def kf {cond:Ex}{tc:TT}(htc:∀σ H Q,yO K (af cl cond) σ H Q->tc σ H Q)(hJ:jE K as1 H1 J g)(S1:aJ K as1 m1 H1)(G1:aC K as1 H1 env σ)(P:ak K as1 H1 Q (zL (λu v m=>af cl cond (env++[some u]++[some v]) m) (λu v m=>af cl elt (env++[some u]++[some v]) m) g (aF+1) 0 [] m1)):
  ∀D,H1 D=none->∃W:Nat->Nat->List V->Hp->Prop,(∃m,W 0 m [] (aG H1 D (.lst [])))/\∀i m ys H,W i m ys H ->
   (J.stop i H/\Q (.ref D) H)\/(J.go i H/\∀v H',J.yld i H v H'->∃vs,iI K v H' vs/\tc (σ++vs.map some) H' λb H2=>if b=true then aH K (af cl elt) (σ++vs.map some) H2 λy H3=>H3 D=some (.lst ys)/\ys.length<sizeLine/\∃m',m'<m/\W (i+1) m' (ys++[y]) (aG H3 D (.lst (ys++[y])))
    else ∃m',m'<m/\W (i+1) m' ys H2):=by
 intro D hD;refine⟨λi n ys H'=>∃as' m' acc,(∀(l:Nat) (a:Addr),as1[l]?=some a->as'[l]?=some a)/\cI K as1 H1 D env σ as' m' acc ys H' /\
  ak K as1 H1 Q (zL (λu v m=>af cl cond (env++[some u]++[some v]) m) (λu v m=>af cl elt (env++[some u]++[some v]) m) g n i acc m'),⟨aF+1,as1,m1,[],λ_ _ e=>e,cI.start (as:=as1) (H:=H1) S1 G1 hD,P⟩,?_⟩
 rintro i n ys H' ⟨as',m',acc,hl,M,Pi⟩;cases n with
 |zero=>exact Pi.elim
 |succ n=>
  unfold zL at Pi;obtain⟨q1,q2⟩:=hJ as' m' H' hl M.T M.S i;cases e:g i m' with
  |none=>rw[e]at Pi;exact Pi.elim
  |some o=>
   rw[e]at Pi;cases o with
   |none=>exact .inl ⟨q1 e,y9 M.S M.T hD M.hD M.n M.R Pi⟩
   |some p=>
    obtain⟨x,y⟩:=p;simp only[]at Pi;obtain⟨go,yl⟩:=q2 x y e;refine .inr ⟨go,λv H'' hy=>?_⟩;obtain⟨x',y',⟨T,hT,rfl,rfl⟩,Rx,Ry⟩:=yl v H'' hy;refine⟨[x',y'],⟨T,rfl,bJ.of zf,rfl⟩,?_⟩;have U:Step as' H' as' (aG H' T (.tup [x',y'])):=Step.updD .refl hT;have S2:aJ K as' m' (aG H' T (.tup [x',y'])):=M.S.keep U λb _ o e=>by rw[ze (zo e hT)];exact e
    have M2:=M.go U S2;have G2:aC K as' (aG H' T (.tup [x',y'])) (env++[some x,some y]) (σ++[x',y'].map some):=by
     have:=(M2.G.push (Rx.mono M.S U)).push (Ry.mono M.S U);simpa using this
    refine wS htc (ex:=[some x,some y]) (next:=λacc m=>zL (λu v m=>af cl cond (env++[some u]++[some v]) m) (λu v m=>af cl elt (env++[some u]++[some v]) m) g n (i+1) acc m)
     (N:=λzs H2=>∃n',n'<n+1/\∃as' m' acc,(∀(l:Nat) (a:Addr),as1[l]?=some a->as'[l]?=some a)/\cI K as1 H1 D env σ as' m' acc zs H2/\ak K as1 H1 Q (zL (λu v m=>af cl cond (env++[some u]++[some v]) m) (λu v m=>af cl elt (env++[some u]++[some v]) m) g n' (i+1) acc m')) hD M2 G2 (by rw[show env++[some x]++[some y]=env++[some x,some y]from by simp]at Pi;exact Pi) ?_
    intro as2 m2 acc' ys' H2 kp gg M3 P3;exact⟨n,Q4 _,as2,m2,acc',λl a e=>gg _ _ (hl l a e),M3,P3⟩
noncomputable def cH(b:Bool)(K:Qa)(as:List Addr)(H:Hp)(w:Wd)(l:Addr):Prop:=match b with
 |false=>∃la,w=.ref la/\as[la]?=some l
 |true=>∃xs vs,w=.tup xs/\bJ K H l vs/\ae K as H xs vs
def cH.now (h:cH b K as H w l)(S:aJ K as m H)(T:Step as H as' H')(S':aJ K as' m' H')(e:xZ m' w=some xs):∃vs,dC b K H' l vs/\ae K as' H' xs vs:=by
 cases b with
 |false=>
  obtain⟨la,rfl,ha⟩:=h;obtain⟨a',us,ha',eH,RL⟩:=zI S' (zw e);rw[T.get ha]at ha';cases ha';exact⟨us,bt.of eH,RL⟩
 |true=>
  obtain⟨ys,vs,rfl,q,r⟩:=h;cases e;exact⟨vs,(S.kp T).t _ _ q,r.mono S T⟩
theorem cH.of (S:aJ K as m H)(R:ai K as H w v)(e:xZ m w=some xs):∃b l vs,v=.ref l/\cH b K as H w l/\dC b K H l vs:=by
 cases w with
 |tup ys=>
  obtain⟨l,vs,rfl,q,r⟩:=ah.mp R;exact⟨true,l,vs,rfl,⟨ys,vs,rfl,q,r⟩,q⟩
 |ref la=>
  obtain⟨l,ha,rfl⟩:=aE.mp R;obtain⟨a',us,ha',eH,RL⟩:=zI S (zw e);rw[ha]at ha';cases ha';exact⟨false,l,us,rfl,⟨la,rfl,ha⟩,bt.of eH⟩
 |_=>cases e
def kg (S0:aJ K as m H)(h1:cH b1 K as H w1 l1)(h2:cH b2 K as H w2 l2):jE K as H (lf b1 b2 K l1 l2) (zp .zip w1 w2):=by
 intro as' m' H' hl T S i;simp only[zp];cases e1:xZ m' w1 with
 |none=>exact⟨λz=>by simp at z,λx y z=>by simp at z⟩
 |some xs=>
  cases e2:xZ m' w2 with
  |none=>exact⟨λz=>by simp at z,λx y z=>by simp at z⟩
  |some ys=>
   obtain⟨us,q1,RL⟩:=h1.now S0 T S e1;obtain⟨vs,q2,RL2⟩:=h2.now S0 T S e2;simp only;cases ex:xs[i]? with
   |none=>
    refine⟨λ_=>⟨us,vs,q1,q2,.inl ?_⟩,λx y z=>by simp at z⟩;rw[<-RL.length];exact QR.mp ex
   |some x=>
    cases ey:ys[i]? with
    |none=>
     refine⟨λ_=>⟨us,vs,q1,q2,.inr ?_⟩,λx y z=>by simp at z⟩;rw[<-RL2.length];exact QR.mp ey
    |some y=>
     refine⟨λz=>by simp at z,λx2 y2 z=>?_⟩;simp only[Option.some.injEq,Prod.mk.injEq]at z;obtain⟨rfl,rfl⟩:=z;obtain⟨u0,hu0,Ru⟩:=RL.get ex;obtain⟨v0,hv0,Rv⟩:=RL2.get ey;refine⟨⟨us,vs,u0,v0,q1,q2,hu0,hv0⟩,λv H'' hy=>?_⟩;obtain⟨p,q,yp,k1,k2⟩:=hy;have:=k1 us q1;rw[hu0]at this;cases this;have:=k2 vs q2;rw[hv0]at this;cases this;exact⟨_,_,yp,Ru,Rv⟩
def gE (ha:as[la]?=some a):jE K as H (oM K c a) (zp .enum (.ref la) (.int (c:Int))):=by
 intro as' m' H' hl T S i;simp only[zp];cases e1:zn m' la with
 |none=>exact⟨λz=>by simp at z,λx y z=>by simp at z⟩
 |some xs=>
  obtain⟨a',us,ha',eH,RL⟩:=zI S (zw e1);rw[hl _ _ ha]at ha';cases ha';simp only;cases ex:xs[i]? with
  |none=>
   refine⟨λ_=>⟨us,bt.of eH,?_⟩,λx y z=>by simp at z⟩;rw[<-RL.length];exact QR.mp ex
  |some x=>
   refine⟨λz=>by simp at z,λx2 y2 z=>?_⟩;simp only[QM,Option.some.injEq,Prod.mk.injEq]at z;obtain⟨rfl,rfl⟩:=z;obtain⟨u0,hu0,Ru⟩:=RL.get ex;refine⟨⟨us,u0,bt.of eH,hu0⟩,λv H'' hy=>?_⟩;obtain⟨p,yp,k1⟩:=hy;have:=k1 us (bt.of eH);rw[hu0]at this;cases this;exact⟨_,_,yp,aa.mpr (by congr 1;lia),Ru⟩
def ei:(Rz.ok w m).bind f=f w m:=rfl
def kh (h:g i m=none):zL c e g (k+1) i acc m=.no:=by
 unfold zL;rw[h]
set_option tactic.hygienic true in
def ki (e:zp .zip w w2 i m=some o):∃xs ys,xZ m w=some xs/\xZ m w2=some ys:=by
 simp only[zp]at e;cases e1:xZ m w with
 |none=>rw[e1]at e;cases e
 |some xs=>
  cases e2:xZ m w2 with
  |none=>rw[e1,e2]at e;cases e
  |some ys=>exact⟨xs,ys,rfl,rfl⟩
set_option tactic.hygienic true in
def gF (e:zp .enum w w2 i m=some o):∃la xs,w=.ref la/\zn m la=some xs:=by
 unfold zp at e;split at e
 .next h=>cases h
 .next la s _=>
  split at e
  .next xs e1=>exact⟨la,xs,rfl,e1⟩
  .cases e
 .contradiction
 .contradiction
 .cases e
def kj {cond:Ex}(htc:∀σ H Q,yO K (af cl cond) σ H Q->tc σ H Q)(h:aH K (af cl (.compP .zip elt a b cond)) σ H Q):
  vO (iI K) (lh K (vL (aH K (af cl a)) (vL (aH K (af cl b)) fI))) tc (aH K (af cl elt)) σ H Q:=by
 obtain⟨as,env,m,S,G,P⟩:=h;have P':ak K as H Q ((af cl a env m).bind λx m1=>(af cl b env m1).bind λy m2=>
  zL (λu v m=>af cl cond (env++[some u]++[some v]) m) (λu v m=>af cl elt (env++[some u]++[some v]) m) (zp .zip x y) (aF+1) 0 [] m2):=P
 refine⟨as,env,m,S,G,eD P' .refl λw m1 as1 H1 v T1 S1 R1 P1=>?_⟩;refine⟨as1,env,m1,S1,G.mono S T1,eD P1 T1 λw2 m2 as2 H2 v2 T2 S2 R2 P2=>?_⟩;have P3:=ak.step P2 (T1.trans T2);have G2:=(G.mono S T1).mono S1 T2;have cD:∃xs ys,xZ m2 w=some xs/\xZ m2 w2=some ys:=by
  cases e:zp .zip w w2 0 m2 with
  |none=>rw[kh e]at P3;exact P3.elim
  |some o=>exact ki e
 obtain⟨xs,ys,e1,e2⟩:=cD;obtain⟨b1,l1,us,rfl,s1,q1⟩:=cH.of S2 (R1.mono S1 T2) e1;obtain⟨b2,l2,vs,rfl,s2,q2⟩:=cH.of S2 R2 e2;exact⟨b1,b2,l1,l2,us,vs,rfl,q1,q2,kf htc (kg S2 s1 s2) S2 G2 P3⟩
def qr {c:Nat}(hz:z=(c:Int)){cond:Ex}(htc:∀σ H Q,yO K (af cl cond) σ H Q->tc σ H Q)(h:aH K (af cl (.compP .enum elt a (.lit (.int z)) cond)) σ H Q):
  vO (iI K) (pJ K c (vL (aH K (af cl a)) fI)) tc (aH K (af cl elt)) σ H Q:=by
 subst hz;obtain⟨as,env,m,S,G,P⟩:=h;have hl:∀m1,af cl (.lit (.int (c:Int))) env m1=.ok (.int (c:Int)) m1:=λ_=>rfl;have P':ak K as H Q ((af cl a env m).bind λx m1=>(af cl (.lit (.int (c:Int))) env m1).bind λy m2=>
  zL (λu v m=>af cl cond (env++[some u]++[some v]) m) (λu v m=>af cl elt (env++[some u]++[some v]) m) (zp .enum x y) (aF+1) 0 [] m2):=P
 refine⟨as,env,m,S,G,eD P' .refl λw m1 as1 H1 v T1 S1 R1 P1=>?_⟩;rw[hl,ei]at P1;have P3:=ak.step P1 T1;have cD:∃la xs,w=.ref la/\zn m1 la=some xs:=by
  cases e:zp .enum w (.int (c:Int)) 0 m1 with
  |none=>rw[kh e]at P3;exact P3.elim
  |some o=>exact gF e
 obtain⟨la,xs,rfl,e1⟩:=cD;obtain⟨a1,ha1,rfl⟩:=aE.mp R1;obtain⟨a',us,ha',eH,RL⟩:=zI S1 (zw e1);rw[ha1]at ha';cases ha';exact⟨a1,us,rfl,bt.of eH,kf htc (gE ha1) S1 (G.mono S T1) P3⟩
def wT {cond:Ex}(htc:∀σ H Q,yO K (af cl cond) σ H Q->tc σ H Q)(h:aH K (af cl (.comp elt it cond)) σ H Q):
  vO iJ (fB K (af cl it)) tc (aH K (af cl elt)) σ H Q:=by
 obtain⟨as,env,m,S,G,P⟩:=h;refine⟨as,env,m,S,G,?_⟩;have P':ak K as H Q ((af cl it env m).bind λx m1=>match x with
  |.tup xs=>yE (λx m=>af cl cond (env++[some x]) m) (λx m=>af cl elt (env++[some x]) m) xs [] m1
  |.rol xs=>yE (λx m=>af cl cond (env++[some x]) m) (λx m=>af cl elt (env++[some x]) m) xs [] m1
  |.ref l=>yF (λx m=>af cl cond (env++[some x]) m) (λx m=>af cl elt (env++[some x]) m) l (aF+1) 0 [] m1
  |_=>.no):=P
 clear P;cases hr:af cl it env m with
 |no=>rw[hr]at P';exact P'
 |ok w m1=>
  rw[hr]at P';have start:∀{as1:List Addr}{H1:Hp}{D:Addr},Step as H as1 H1->aJ K as1 m1 H1->H1 D=none->cI K as1 H1 D env σ as1 m1 [] [] (aG H1 D (.lst [])):=λ{as1 H1 D} T1 S1 hD=>cI.start (as:=as) (H:=H) S1 (G.mono S T1) hD
  -- over items that stay
  have seqs:∀(xs:List Wd),ak K as H Q (yE (λx m=>af cl cond (env++[some x]) m) (λx m=>af cl elt (env++[some x]) m) xs [] m1) ->
    ∀as1 H1 J,Step as H as1 H1->aJ K as1 m1 H1->qZ K as1 H1 J xs->∀D,H1 D=none->∃W:Nat->Nat->List V->Hp->Prop,(∃m,W 0 m [] (aG H1 D (.lst [])))/\∀i m ys H,W i m ys H ->
     (J.stop i H/\Q (.ref D) H)\/(J.go i H/\∀v H',J.yld i H v H'->∃vs,iJ v H' vs/\tc (σ++vs.map some) H' λb H2=>if b=true then aH K (af cl elt) (σ++vs.map some) H2 λy H3=>H3 D=some (.lst ys)/\ys.length<sizeLine/\∃m',m'<m/\W (i+1) m' (ys++[y]) (aG H3 D (.lst (ys++[y])))
      else ∃m',m'<m/\W (i+1) m' ys H2):=by
   intro xs Pc as1 H1 J T1 S1 hI D hD;obtain⟨vs,ok,hJ,fQ,RL,stab⟩:=hI;have Pc1:=ak.step Pc T1;have hlen:=RL.length;refine⟨λi n ys H'=>∃as' m' acc,i<=xs.length/\n=xs.length-i/\cI K as1 H1 D env σ as' m' acc ys H'/\ok H'/\ae K as' H' xs vs /\
    ak K as1 H1 Q (yE (λx m=>af cl cond (env++[some x]) m) (λx m=>af cl elt (env++[some x]) m) (xs.drop i) acc m'),
    ⟨xs.length,as1,m1,[],WO _,rfl,start T1 S1 hD,stab _ _ (S1.kp (start T1 S1 hD).T) fQ,RL.mono S1 (start T1 S1 hD).T,Pc1⟩,?_⟩
   rintro i n ys H' ⟨as',m',acc,hi,rfl,M,okH,RL',Pi⟩;by_cases hlt:i<xs.length
   .refine .inr ⟨hJ.go i H' okH (by rw[<-hlen];exact hlt),λv H'' hy=>?_⟩;obtain⟨rfl,hv⟩:=hJ.yld i H' v H'' okH (by rw[<-hlen];exact hlt) hy;obtain⟨v',hv',Rx⟩:=RL'.get (i:=i) (x:=xs[i]) (by simp[hlt]);rw[hv]at hv';cases hv';rw[W8 hlt]at Pi;refine⟨[v],rfl,wS htc (sx:=[some v]) (next:=λacc m=>yE (λx m=>af cl cond (env++[some x]) m) (λx m=>af cl elt (env++[some x]) m) (xs.drop (i+1)) acc m) (N:=λzs H2=>∃n',n'<xs.length-i/\∃as' m' acc,i+1<=xs.length/\n'=xs.length-(i+1)/\cI K as1 H1 D env σ as' m' acc zs H2/\ok H2/\ae K as' H2 xs vs/\ak K as1 H1 Q (yE (λx m=>af cl cond (env++[some x]) m) (λx m=>af cl elt (env++[some x]) m) (xs.drop (i+1)) acc m')) hD M (M.G.push Rx) Pi ?_⟩;intro as2 m2 acc' ys' H2 kp g M2 P2;exact⟨xs.length-(i+1),by lia,as2,m2,acc',hlt,rfl,M2,stab _ _ kp okH,aY kp g _ _ RL',P2⟩
   .have e:i=xs.length:=by lia
    subst e;rw[List.drop_length]at Pi;exact .inl ⟨hJ.stop _ H' okH (by lia),y9 M.S M.T hD M.hD M.n M.R Pi⟩
  cases w with
  |tup xs=>exact⟨rfl,λas1 H1 J T1 S1 hI=>seqs xs P' as1 H1 J T1 S1 hI⟩
  |rol xs=>exact⟨rfl,λas1 H1 J T1 S1 hI=>seqs xs P' as1 H1 J T1 S1 hI⟩
  |ref l=>
   have P2:ak K as H Q (yF (λx m=>af cl cond (env++[some x]) m) (λx m=>af cl elt (env++[some x]) m) l (aF+1) 0 [] m1):=P';refine⟨?_,λas1 H1 J T1 S1 hI D hD=>?_⟩
   .show (zn m1 l).isSome=true;cases e:zn m1 l with
    |some xs=>rfl
    |none=>
     unfold yF at P2;rw[e]at P2;exact P2.elim
   .obtain ⟨a,ha,rfl⟩:=hI;have Pc1:=ak.step P2 T1;refine⟨λi n ys H'=>∃as' m' acc,as'[l]?=some a/\cI K as1 H1 D env σ as' m' acc ys H' /\
     ak K as1 H1 Q (yF (λx m=>af cl cond (env++[some x]) m) (λx m=>af cl elt (env++[some x]) m) l n i acc m'),⟨aF+1,as1,m1,[],ha,start T1 S1 hD,Pc1⟩,?_⟩
    rintro i n ys H' ⟨as',m',acc,hl,M,Pi⟩;cases n with
    |zero=>exact Pi.elim
    |succ n=>
     unfold yF at Pi;cases e:zn m' l with
     |none=>rw[e]at Pi;exact Pi.elim
     |some xs=>
      rw[e]at Pi;simp only[]at Pi;obtain⟨a',vs,ha',eH,RL⟩:=zI M.S (zw e);rw[hl]at ha';cases ha';cases ex:xs[i]? with
      |none=>
       rw[ex]at Pi;have hle:vs.length<=i:=by rw[<-RL.length];exact QR.mp ex
       exact .inl ⟨⟨vs,bt.of eH,hle⟩,y9 M.S M.T hD M.hD M.n M.R Pi⟩
      |some x=>
       rw[ex]at Pi;obtain⟨v0,hv0,Rx⟩:=RL.get ex;refine .inr ⟨⟨vs,v0,bt.of eH,hv0⟩,λv H'' hy=>?_⟩;obtain⟨rfl,hy⟩:=hy;have:=hy vs (bt.of eH);rw[hv0]at this;cases this;refine⟨[v0],rfl,wS htc (sx:=[some v0]) (next:=λacc m=>yF (λx m=>af cl cond (env++[some x]) m) (λx m=>af cl elt (env++[some x]) m) l n (i+1) acc m) (N:=λzs H2=>∃n',n'<n+1/\∃as' m' acc,as'[l]?=some a/\cI K as1 H1 D env σ as' m' acc zs H2/\ak K as1 H1 Q (yF (λx m=>af cl cond (env++[some x]) m) (λx m=>af cl elt (env++[some x]) m) l n' (i+1) acc m')) hD M (M.G.push Rx) Pi ?_⟩;intro as2 m2 acc' ys' H2 kp g M2 P2;exact⟨n,Q4 _,as2,m2,acc',g _ _ hl,M2,P2⟩
  |non=>exact P'.elim
  |bl k=>exact P'.elim
  |int i=>exact P'.elim
  |str s=>exact P'.elim
end
section
variable{K:Qa}{as:List Addr}{H H':Hp}{m:Me}{Q:VK}
def kl (h:jx y=some k)(R:ai K as H y v):∃a,v=.ref a/\bJ K H a (k.map V.int):=by
 cases y with
 |tup ws=>
  obtain⟨a,vs,rfl,q,r⟩:=ah.mp R;rw[wO h r]at q;exact⟨a,rfl,q⟩
 |_=>cases h
theorem km:∀{xs:List TK}{ws:List Wd}{vs:List V}{q:List Int}{w:Wd},ae K as H ws vs->av vs (xs.map (·.2.2))->b9 (xs.map (·.1)) ws q=some w->∃p v,Jw xs q=some p/\RelV v p.2/\ai K as H w v
 |[],ws,vs,q,w,r,rv,h=>by cases ws<;>cases h
 |x::xs,ws,vs,q,w,r,rv,h=>by
  cases ws with
  |nil=>cases h
  |cons y ws=>
   obtain⟨v,vs',rfl,r1,r2⟩:=ao.mp r;cases rv with
   |cons p1 p2=>
    have h':(if x.1=q then some y else b9 (xs.map (·.1)) ws q)=some w:=h;by_cases e:x.1=q
    .rw[J7 e]at h';cases h';exact⟨x.2,v,by simp[Jw,e],p1,r1⟩
    .rw[J8 e]at h';obtain⟨p,v',h1,h2,h3⟩:=km r2 p2 h';exact⟨p,v',by simpa [Jw,Wk,e]using h1,h2,h3⟩
def Dv (S:aJ K as m H)(R:ai K as H x v)(R':ai K as H y u)(h:ak K as H Q (vS x y m)):pN K v u H Q:=by
 unfold vS at h;cases x with
 |ref l=>
  obtain⟨a,ha,rfl⟩:=aE.mp R;dsimp only at h;cases e:m[l]? with
  |none=>rw[e]at h;exact h.elim
  |some o=>
   cases o with
   |lst ys=>rw[e]at h;exact h.elim
   |dct ks ws=>
    rw[e]at h;dsimp only at h;obtain⟨a',xs,vs,ha',td,rfl,r,rv,nd⟩:=vY S e;rw[ha]at ha';cases ha';cases ek:jx y with
    |none=>rw[ek]at h;exact h.elim
    |some k=>
     rw[ek]at h;obtain⟨b,rfl,qb⟩:=kl ek R';cases ew:b9 (xs.map (·.1)) ws k with
     |none=>simp only[Vc,ew]at h;exact h.elim
     |some w=>
      simp only[Vc,ew]at h;obtain⟨p,z,h1,h2,h3⟩:=km r rv ew;exact⟨a,b,k,xs,p,rfl,rfl,qb,td,h1,z,h2,h.ok S h3⟩
 |_=>exact h.elim
def gG:(storedH xs q a u).map (·.1)=xg (xs.map (·.1)) q:=by
 unfold storedH xg;by_cases h:q∈xs.map (·.1)
 .rw[J7 (bN.mpr h),J7 h,keys_map_putAt]
 .rw[J8 (λz=>h (bN.mp z)),J8 h,WI];rfl
def gH (h:ks.Nodup):(xg ks q).Nodup:=by
 unfold xg;by_cases z:q∈ks
 .rw[J7 z];exact h
 .rw[J8 z];refine QB.mpr ⟨h,by simp,λx hx y hy e=>?_⟩;rw[QK.mp hy]at e;exact z (e▸hx)
theorem sD (Rw:ai K as H w v):∀{ks:List (List Int)}{ws:List Wd}{vs:List V},ae K as H ws vs->ae K as H (zK ks ws q w) (zK ks vs q v)
 |[],ws,vs,r=>r.append (.one Rw)
 |k::ks,ws,vs,r=>by
  cases ws with
  |nil=>obtain rfl:=aA.mp r;exact ae.one Rw
  |cons x ws=>
   obtain⟨y,vs',rfl,r1,r2⟩:=ao.mp r;show ae K as H (if k=q then w::ws else x::zK ks ws q w) (if k=q then v::vs' else y::zK ks vs' q v);by_cases e:k=q
   .rw[J7 e,J7 e];exact ao.mpr ⟨v,vs',rfl,Rw,r2⟩
   .rw[J8 e,J8 e];exact ao.mpr ⟨y,_,rfl,r1,sD Rw r2⟩
theorem sC:∀{ks:List (List Int)}{vs:List V},q∉ks->ks.length=vs.length->zK ks vs q v=vs++[v]
 |[],vs,_,_=>rfl
 |k::ks,[],_,h=>by cases h
 |k::ks,x::vs,hq,h=>by
  show(if k=q then v::vs else x::zK ks vs q v)=_;rw[J8 (λe=>hq (by simp[e])),sC (λz=>hq (by simp[z])) (by simpa using h)];rfl
theorem sB (ru:RelV v u):∀{xs:List TK}{vs:List V},(xs.map (·.1)).Nodup->q∈xs.map (·.1)->av vs (xs.map (·.2.2))->av (zK (xs.map (·.1)) vs q v) ((xs.map (Jt q u)).map (·.2.2))
 |[],vs,_,h,_=>by simp at h
 |x::xs,vs,nd,h,r=>by
  rw[QO,Qw]at nd;cases r with
  |@cons y _ vs' _ p1 p2=>
   show av (if x.1=q then v::vs' else y::zK (xs.map (·.1)) vs' q v) ((Jt q u x).2.2::(xs.map (Jt q u)).map (·.2.2));by_cases e:x.1=q
   .rw[J7 e,map_putAt_of_not_mem xs q u (e▸nd.1)];unfold Jt;rw[J7 e];exact .cons ru p2
   .rw[J8 e];unfold Jt;rw[J8 e];exact .cons p1 (sB ru nd.2 (by simpa [Ne.symm e]using h) p2)
def gJ (ru:RelV v u)(nd:(xs.map (·.1)).Nodup)(r:av vs (xs.map (·.2.2))):av (zK (xs.map (·.1)) vs q v) ((storedH xs q a u).map (·.2.2)):=by
 unfold storedH;by_cases h:q∈xs.map (·.1)
 .rw[J7 (bN.mpr h)];exact sB ru nd h r
 .rw[J8 (λz=>h (bN.mp z)),WI];rw[sC h (by have:=r.length;simp at this ⊢;lia)];exact r.append (.cons ru .nil)
def qt {q:List Int}:∀x∈storedH xs q a u,(∃y∈xs,y.1=x.1/\y.2.1=x.2.1)\/(x.1=q/\x.2.1=a):=λx hx=>by
 unfold storedH at hx;split at hx
 .obtain ⟨y,hy,rfl⟩:=WG.mp hx;refine .inl ⟨y,hy,?_⟩;unfold Jt;split<;>exact⟨rfl,rfl⟩
 .rcases QN.mp hx with z|z
  .exact .inl ⟨x,z,rfl,rfl⟩
  .rw[QK.mp z];exact .inr ⟨rfl,rfl⟩
def aJ.setD (S:aJ K as m H)(ha:as[l]?=some a)(hm:m[l]?=some (.dct ks ws))(td:yC K H a xs)(ek:xs.map (·.1)=ks)(r:ae K as H ws vs)(rv:av vs (xs.map (·.2.2)))(nd:ks.Nodup)(qb:bJ K H b (q.map V.int))(Rw:ai K as H w v)(ru:RelV v u):
  Step as H as (aG H a (xf a (storedH xs q b u)))/\aJ K as (m.set l (.dct (xg ks q) (zK ks ws q w))) (aG H a (xf a (storedH xs q b u))):=by
 have hin:a∈as:=Ql ha;have T:Step as H as (aG H a (xf a (storedH xs q b u))):=⟨⟨[],by simp⟩,λc o h hb=>by
  rw[ze (by rintro rfl;exact hb hin)];exact h,λc hb=>.inl hb⟩
 have kp:Kp K H (aG H a (xf a (storedH xs q b u))):=Kp.updL td.1 trivial;refine⟨T,⟨by simp[S.len],S.nd,λk c o h1 h2=>?_⟩⟩;by_cases hk:k=l
 .subst hk;rw[ha]at h1;cases h1;rw[QW (Qb.mp hm).1]at h2;cases h2;subst ek;refine⟨storedH xs q b u,zK (xs.map (·.1)) vs q v,⟨zf,λx hx=>?_⟩,gG,(sD Rw r).kp kp,gJ ru nd rv,gH nd⟩;rcases qt x hx with⟨y,hy,e1,e2⟩|⟨e1,e2⟩
  .rw[<-e1,<-e2];exact kp.t _ _ (td.2 y hy)
  .rw[e1,e2];exact kp.t _ _ qb
 .rw[Qo (Ne.symm hk)]at h2;have q':=S.obj k c o h1 h2;have hb:c≠a:=by
   rintro rfl;obtain⟨i1,e1⟩:=Qb.mp h1;obtain⟨i2,e2⟩:=Qb.mp ha;exact hk ((Wo S.nd).mp (e1.trans e2.symm))
  exact bh.mono kp (λ_ _ e=>e) (λo e=>by rw[ze hb];exact e) q'
def aJ.updK(S:aJ K as m H)(k:Kp K H H')(e:∀a∈as,∀o,H a=some o->H' a=some o):aJ K as m H':=
 ⟨S.len,S.nd,λl b o h1 h2=>bh.mono k (λ_ _ e=>e) (e b (Ql h1)) (S.obj l b o h1 h2)⟩
def aJ.newD (S:aJ K as m H)(hp:H p=none):Step as H (as++[p]) (aG H p (xf p []))/\aJ K (as++[p]) (m++[.dct [] []]) (aG H p (xf p [])):=by
 have hn:=S.new hp;have T:Step as H (as++[p]) (aG H p (xf p [])):=⟨⟨[p],rfl⟩,λb o h _=>by rw[ze (zo h hp)];exact h,λb hb=>by
  rcases QN.mp hb with z|z
  .exact .inl z
  .exact .inr (by rw[QK.mp z];exact hp)⟩
 refine⟨T,⟨by simp[S.len],?_,λl b o h1 h2=>?_⟩⟩
 .refine QB.mpr ⟨S.nd,by simp,λx hx y hy=>?_⟩;rw[QK.mp hy];rintro rfl;exact hn hx
 .by_cases hl:l<as.length
  .rw[Qh hl]at h1;rw[Qh (by rw[<-S.len];exact hl)]at h2;exact bh.mono (S.kp T) (λ_ _ e=>T.get e) (λo e=>by rw[ze (zo e hp)];exact e) (S.obj l b o h1 h2)
  .rw[Qi (by lia)]at h1;rw[Qi (by rw[<-S.len];lia)]at h2;have hz:l-as.length=0:=by
    cases hq:l-as.length with
    |zero=>rfl
    |succ k=>rw[hq]at h1;simp at h1
   rw[hz]at h1;rw[<-S.len,hz]at h2;simp at h1 h2;subst h1;subst h2;exact⟨[],[],⟨zf,λx hx=>by simp at hx⟩,rfl,aA.mpr rfl,.nil,Qu⟩
end
section
variable{cl:Nat->List Wd->Me->Rz}{X:Cx}{a b:Ex}{x y:Expr}{pos:Pos}
def DP:PE X (.Dict [] [] pos) (aH X.K (af cl .dict0)):=by
 refine PE.imp EY λσ H Q h d hd=>?_;obtain⟨as,env,m,S,G,P⟩:=h;obtain⟨T,S'⟩:=S.newD hd;have P':ak X.K as H Q (.ok (.ref m.length) (m++[.dct [] []])):=P;refine P' _ _ _ T S' (aE.mpr ⟨d,?_,rfl⟩);rw[<-S.len,Qi (Qf _)];simp
def Du(hu:X.A.units+64<IJ)(ha:PE X x (aH X.K (af cl a)))(hb:PE X y (aH X.K (af cl b)))(hs:yz y=true):PE X (.Subscript x y pos) (aH X.K (af cl (.dget a b))):=by
 have hp:jq y:=λo i=>by cases y<;>first|rfl|cases hs
 refine PE.imp (qQ (nn hu) ha hb hp) λσ H Q h=>?_;obtain⟨as,env,m,S,G,P⟩:=h;refine⟨as,env,m,S,G,ak.bind P λx m1 as1 H1 v T1 S1 R1 P1=>?_⟩;refine⟨as1,env,m1,S1,G.mono S T1,ak.bind P1 λy m2 as2 H2 u T2 S2 R2 P2=>?_⟩;exact Dv S2 (R1.mono S1 T2) R2 P2
end
section
variable{cl:Nat->List Wd->Me->Rz}
def cN {r:Rz}(h:r.bind f=.ok w m):∃x m1,r=.ok x m1/\f x m1=.ok w m:=by
 cases r with
 |ok x m1=>exact⟨x,m1,rfl,h⟩
 |no=>cases h
def Dt (hw:env[i]?=some (some w))(hs:∀s,w≠.str s):af cl (.cmp .eq (.var i) (.lit (.str k))) env m=.ok (.bl false) m\/af cl (.cmp .eq (.var i) (.lit (.str k))) env m=.no:=by
 show((match env[i]? with|some (some w)=>Rz.ok w m|_=>.no).bind λx m1=>(Rz.ok (.str k) m1).bind λy m2=>cL .eq x y m2)=_\/((match env[i]? with|some (some w)=>Rz.ok w m|_=>.no).bind λx m1=>(Rz.ok (.str k) m1).bind λy m2=>cL .eq x y m2)=_;rw[hw];cases w with
 |str s=>exact J9 rfl (hs s)
 |rol xs=>exact .inr rfl
 |ref l=>
  show dw (if aK m l&&true then some false else none) m=_\/dw (if aK m l&&true then some false else none) m=_;cases aK m l
  .exact .inr rfl
  .exact .inl rfl
 |_=>exact .inl rfl
def gK (h:af cl c env m=.ok (.bl false) m1):af cl (.ife c a b) env m=af cl b env m1:=by
 show(af cl c env m).bind _=_;rw[h];rfl
def iq (h:af cl c env m=.ok (.bl true) m1):af cl (.ife c a b) env m=af cl a env m1:=by
 show(af cl c env m).bind _=_;rw[h];rfl
def lg (h:af cl c env m=.no):af cl (.ife c a b) env m=.no:=by
 show(af cl c env m).bind _=_;rw[h];rfl
def vm (hw:env[i]?=some (some (.str s))):af cl (.cmp .eq (.var i) (.lit (.str k))) env m=.ok (.bl (decide (s=k))) m:=by
 show((match env[i]? with|some (some w)=>Rz.ok w m|_=>.no).bind λx m1=>(Rz.ok (.str k) m1).bind λy m2=>cL .eq x y m2)=_;rw[hw];rfl
def Ds (h:af cl (gj i k1 k2 k3 k4) env m=.ok w m'):m'=m/\(w=.non\/∃s j,env[i]?=some (some (.str s))/\w=.int j/\vV s k1 k2 k3 k4 (0:Int) 1 2 3=some j):=by
 unfold gj at h;cases e:env[i]? with
 |none=>
  have:af cl (.cmp .eq (.var i) (.lit (.str k1))) env m=.no:=by
   show((match env[i]? with|some (some w)=>Rz.ok w m|_=>.no).bind _)=_;rw[e];rfl
  rw[lg this]at h;cases h
 |some o=>
  cases o with
  |none=>
   have:af cl (.cmp .eq (.var i) (.lit (.str k1))) env m=.no:=by
    show((match env[i]? with|some (some w)=>Rz.ok w m|_=>.no).bind _)=_;rw[e];rfl
   rw[lg this]at h;cases h
  |some x=>
   by_cases hs:∃s,x=.str s
   .obtain ⟨s,rfl⟩:=hs;unfold vV;by_cases q1:s=k1
    .rw[iq (by rw[vm e,Ka q1])]at h;cases h;exact⟨rfl,.inr ⟨s,0,rfl,rfl,by rw[J7 q1]⟩⟩
    rw[gK (by rw[vm e,J6 q1])]at h;by_cases q2:s=k2
    .rw[iq (by rw[vm e,Ka q2])]at h;cases h;exact⟨rfl,.inr ⟨s,1,rfl,rfl,by rw[J8 q1,J7 q2]⟩⟩
    rw[gK (by rw[vm e,J6 q2])]at h;by_cases q3:s=k3
    .rw[iq (by rw[vm e,Ka q3])]at h;cases h;exact⟨rfl,.inr ⟨s,2,rfl,rfl,by rw[J8 q1,J8 q2,J7 q3]⟩⟩
    rw[gK (by rw[vm e,J6 q3])]at h;by_cases q4:s=k4
    .rw[iq (by rw[vm e,Ka q4])]at h;cases h;exact⟨rfl,.inr ⟨s,3,rfl,rfl,by rw[J8 q1,J8 q2,J8 q3,J7 q4]⟩⟩
    rw[gK (by rw[vm e,J6 q4])]at h;cases h;exact⟨rfl,.inl rfl⟩
   .have hs':∀s,x≠.str s:=λs z=>hs ⟨s,z⟩;have go:∀{k:List Nat}{a b:Ex}{r:Rz},af cl (.ife (.cmp .eq (.var i) (.lit (.str k))) a b) env m=.ok w m'->af cl b env m=.ok w m':=λ{k a b r} h=>by
     rcases Dt (cl:=cl) (k:=k) (m:=m) e hs' with z|z
     .rw[gK z]at h;exact h
     .rw[lg z]at h;cases h
    have h:=go (r:=.no) (go (r:=.no) (go (r:=.no) (go (r:=.no) h)));cases h;exact⟨rfl,.inl rfl⟩
set_option tactic.hygienic true in
def DO (h:af cl (.idx (kI a b c d) (gj i k1 k2 k3 k4)) env m=.ok w m'):
  ∃wa m1 wb m2 wc m3 wd s,af cl a env m=.ok wa m1/\af cl b env m1=.ok wb m2/\af cl c env m2=.ok wc m3/\af cl d env m3=.ok wd m'/\env[i]?=some (some (.str s))/\vV s k1 k2 k3 k4 wa wb wc wd=some w:=by
 obtain⟨x,mx,h1,h2⟩:=cN (show(af cl (kI a b c d) env m).bind (λx m1=>(af cl (gj i k1 k2 k3 k4) env m1).bind λy m2=>xY x y m2)=_ from h);obtain⟨y,my,h3,h4⟩:=cN h2;obtain⟨rfl,hy⟩:=Ds h3;obtain⟨z,mz,g1,g2⟩:=cN (show(af cl (.pair a (.pair b (.pair c (.pair d .unit)))) env m).bind (λx m1=>if(zh x).length<=aF then Rz.ok (.tup (zh x)) m1 else .no)=_ from h1);obtain⟨wa,m1,p1,q1⟩:=cN (show(af cl a env m).bind (λx m1=>(af cl (.pair b (.pair c (.pair d .unit))) env m1).bind λy m2=>Rz.ok (.tup (x::zh y)) m2)=_ from g1);obtain⟨yb,n1,p2,q2⟩:=cN q1;obtain⟨wb,m2,p3,q3⟩:=cN (show(af cl b env m1).bind (λx m1=>(af cl (.pair c (.pair d .unit)) env m1).bind λy m2=>Rz.ok (.tup (x::zh y)) m2)=_ from p2);obtain⟨yc,n2,p4,q4⟩:=cN q3;obtain⟨wc,m3,p5,q5⟩:=cN (show(af cl c env m2).bind (λx m1=>(af cl (.pair d .unit) env m1).bind λy m2=>Rz.ok (.tup (x::zh y)) m2)=_ from p4);obtain⟨yd,n3,p6,q6⟩:=cN q5;obtain⟨wd,m4,p7,q7⟩:=cN (show(af cl d env m3).bind (λx m1=>(Rz.ok (.tup []) m1).bind λy m2=>Rz.ok (.tup (x::zh y)) m2)=_ from p6);cases q7;cases q6;cases q4;cases q2
 replace g2:(if([wa,wb,wc,wd]:List Wd).length<=aF then Rz.ok (.tup [wa,wb,wc,wd]) mz else .no)=.ok x my:=g2
 rw[J7 (show([wa,wb,wc,wd]:List Wd).length<=aF by show 4<=aF;decide)]at g2;cases g2;rcases hy with rfl|⟨s,j,e,rfl,hj⟩
 .cases h4
 .refine ⟨wa,m1,wb,m2,wc,m3,wd,s,p1,p3,p5,?_,e,?_⟩
  .unfold vV at hj;split at hj
   .cases hj;cases h4;exact p7
   .split at hj
    .cases hj;cases h4;exact p7
    .split at hj
     .cases hj;cases h4;exact p7
     .split at hj
      .cases hj;cases h4;exact p7
      .cases hj
  .unfold vV at hj ⊢;split at hj
   .next z=>rw[J7 z];cases hj;cases h4;rfl
   .next z=>
    rw[J8 z];split at hj
    .next z=>rw[J7 z];cases hj;cases h4;rfl
    .next z=>
     rw[J8 z];split at hj
     .next z=>rw[J7 z];cases hj;cases h4;rfl
     .next z=>
      rw[J8 z];split at hj
      .next z=>rw[J7 z];cases hj;cases h4;rfl
      .cases hj
end
section
def jF {s:Str}(h:s.cps.toList=k):s=⟨k.toArray⟩:=by subst h;simp
set_option tactic.hygienic true in
def DN {R:Wd->V->Prop}(h:vV s k1 k2 k3 k4 w1 w2 w3 w4=some w)(r1:R w1 v1)(r2:R w2 v2)(r3:R w3 v3)(r4:R w4 v4)(n12:k1≠k2)(n13:k1≠k3)(n14:k1≠k4)(n23:k2≠k3)(n24:k2≠k4)(n34:k3≠k4):
  ∃v,y8 (wg [] [((Sum.inr ⟨k1.toArray⟩:bB),v1),(Sum.inr ⟨k2.toArray⟩,v2),(Sum.inr ⟨k3.toArray⟩,v3),(Sum.inr ⟨k4.toArray⟩,v4)]) (Sum.inr ⟨s.toArray⟩)=some v/\R w v:=by
 have inj:∀{p q:List Nat},p≠q->¬((Sum.inr ⟨p.toArray⟩:bB)=Sum.inr ⟨q.toArray⟩):=λh e=>by
  injection e with e;injection e with e
  exact h (by simpa using J5 Wm e)
 have e:wg [] [((Sum.inr ⟨k1.toArray⟩:bB),v1),(Sum.inr ⟨k2.toArray⟩,v2),(Sum.inr ⟨k3.toArray⟩,v3),(Sum.inr ⟨k4.toArray⟩,v4)]=[((Sum.inr ⟨k1.toArray⟩:bB),v1),(Sum.inr ⟨k2.toArray⟩,v2),(Sum.inr ⟨k3.toArray⟩,v3),(Sum.inr ⟨k4.toArray⟩,v4)]:=by
  simp only[wg,W7,gw,List.any_nil,WA,W2,List.cons_append,J6 (inj n12),J6 (inj n13),J6 (inj n14),J6 (inj n23),J6 (inj n24),J6 (inj n34),Bool.or_self,QU,if_false]
 rw[e];unfold vV at h;split at h
 .next z=>subst z;cases h;exact⟨v1,yY rfl,r1⟩
 .next z1=>
  rw[xp (inj (Ne.symm z1))];split at h
  .next z=>subst z;cases h;exact⟨v2,yY rfl,r2⟩
  .next z2=>
   rw[xp (inj (Ne.symm z2))];split at h
   .next z=>subst z;cases h;exact⟨v3,yY rfl,r3⟩
   .next z3=>
    rw[xp (inj (Ne.symm z3))];split at h
    .next z=>subst z;cases h;exact⟨v4,yY rfl,r4⟩
    .cases h
end
section
variable{cl:Nat->List Wd->Me->Rz}{X:Cx}
def BG(x y:Int)(env:En)(m:Me):af cl (cV x y) env m=.ok (.tup [.int x,.int y]) m:=
 J7 (e:=Rz.no) (c:=([Wd.int x,.int y]:List Wd).length<=aF) (show 2<=aF by decide)
def wC {K:Qa}(h:il K b [.int x,.int y])(as:List Addr)(H:Hp):ai K as H (.tup [.int x,.int y]) (.ref b):=
 ah.mpr ⟨b,[.int x,.int y],rfl,.inr h,ao.mpr ⟨_,_,rfl,aa.mpr rfl,ao.mpr ⟨_,_,rfl,aa.mpr rfl,aA.mpr rfl⟩⟩⟩
def Dr (n12:k1≠k2)(n13:k1≠k3)(n14:k1≠k4)(n23:k2≠k3)(n24:k2≠k4)(n34:k3≠k4)(hd:PE X (.Name dn pd) (tC (.ref a)))(D:fJ X.K X.w a [(k1,x1,y1),(k2,x2,y2),(k3,x3,y3),(k4,x4,y4)])(hv:PE X (.Name nm pn) (vH i)):
  PE X (.Subscript (.Name dn pd) (.Name nm pn) pos) (aH X.K (af cl (.idx (kI (cV x1 y1) (cV x2 y2) (cV x3 y3) (cV x4 y4)) (gj i k1 k2 k3 k4)))):=by
 refine PE.imp (qQ nq hd hv (λ_ _=>rfl)) λσ H Q h=>?_;obtain⟨as,env,m,S,G,P⟩:=h;cases hr:af cl (.idx (kI (cV x1 y1) (cV x2 y2) (cV x3 y3) (cV x4 y4)) (gj i k1 k2 k3 k4)) env m with
 |no=>rw[hr]at P;exact P.elim
 |ok w m'=>
  rw[hr]at P;obtain⟨wa,m1,wb,m2,wc,m3,wd,s,ea,eb,ec,ed,es,hp⟩:=DO hr;rw[BG]at ea eb ec ed;cases ea;cases eb;cases ec;cases ed;obtain⟨vs,hvs,rs⟩:=G.get i _ es;obtain rfl:=az.mp rs;obtain⟨o,ep,kvs,hK,f,dv⟩:=uw (P:=X.prog) D (by simp[n12,n13,n14,n23,n24,n34])
  match kvs,f,dv with
  |[],f,dv=>cases(show _=_ from dv)
  |u1::[],f,dv=>obtain⟨_,_,_,_,b1,e,rfl,t1,dv⟩:=dv;cases e;cases(show _=_ from dv)
  |u1::u2::[],f,dv=>
   obtain⟨_,_,_,_,b1,e,rfl,t1,dv⟩:=dv;cases e;obtain⟨_,_,_,_,b2,e,rfl,t2,dv⟩:=dv;cases e;cases(show _=_ from dv)
  |u1::u2::u3::[],f,dv=>
   obtain⟨_,_,_,_,b1,e,rfl,t1,dv⟩:=dv;cases e;obtain⟨_,_,_,_,b2,e,rfl,t2,dv⟩:=dv;cases e;obtain⟨_,_,_,_,b3,e,rfl,t3,dv⟩:=dv;cases e;cases(show _=_ from dv)
  |u1::u2::u3::u4::r,f,dv=>
   obtain⟨_,_,_,_,b1,e,rfl,t1,dv⟩:=dv;cases e;obtain⟨_,_,_,_,b2,e,rfl,t2,dv⟩:=dv;cases e;obtain⟨_,_,_,_,b3,e,rfl,t3,dv⟩:=dv;cases e;obtain⟨_,_,_,_,b4,e,rfl,t4,dv⟩:=dv;cases e;cases r with
   |cons _ _=>obtain⟨_,_,_,_,_,e,_⟩:=dv;cases e
   |nil=>
    obtain⟨v,hv1,hv2⟩:=DN (R:=ai X.K as H) hp (wC t1 as H) (wC t2 as H) (wC t3 as H) (wC t4 as H) n12 n13 n14 n23 n24 n34;have nd:([((Sum.inr ⟨k1.toArray⟩:bB),V.ref b1),(Sum.inr ⟨k2.toArray⟩,.ref b2),(Sum.inr ⟨k3.toArray⟩,.ref b3),(Sum.inr ⟨k4.toArray⟩,.ref b4)].map (·.1)).Nodup:=by simp[n12,n13,n14,n23,n24,n34]
    rw[k8 nd (ps:=[]) (by simpa using nd),W2]at hv1;exact⟨.str ⟨s.toArray⟩,hvs,a,o,ep,_,Sum.inr ⟨s.toArray⟩,v,rfl,rfl,f,hK,hv1,P as H v Step.refl S hv2⟩
end
end Mini
namespace Mini
open PySem L2
def FG (h0:(a==HR)=false)(h1:K.lookup a=some ⟨.type "dict",none,.dict #[⟨e1,.str ⟨⟨k1⟩⟩ t1,.ref b1⟩,⟨e2,.str ⟨⟨k2⟩⟩ t2,.ref b2⟩,⟨e3,.str ⟨⟨k3⟩⟩ t3,.ref b3⟩,⟨e4,.str ⟨⟨k4⟩⟩ t4,.ref b4⟩] ep,#[]⟩)(u1:K.lookup b1=some ⟨.type "tuple",o1,.seq #[.int x1 r1,.int y1 z1] n1,l1⟩)(u2:K.lookup b2=some ⟨.type "tuple",o2,.seq #[.int x2 r2,.int y2 z2] n2,l2⟩)(u3:K.lookup b3=some ⟨.type "tuple",o3,.seq #[.int x3 r3,.int y3 z3] n3,l3⟩)(u4:K.lookup b4=some ⟨.type "tuple",o4,.seq #[.int x4 r4,.int y4 z4] n4,l4⟩)(q1:e1=HN w ⟨⟨k1⟩⟩)(q2:e2=HN w ⟨⟨k2⟩⟩)(q3:e3=HN w ⟨⟨k3⟩⟩)(q4:e4=HN w ⟨⟨k4⟩⟩):fJ K w a [(k1,x1,y1),(k2,x2,y2),(k3,x3,y3),(k4,x4,y4)]:=by
 have tk:∀{b:Addr}{o:Option Addr}{l:Array (Option Value)}{x y:Int}{r z:Tok}{n:Nat},K.lookup b=some ⟨.type "tuple",o,.seq #[.int x r,.int y z] n,l⟩->il K b [.int x,.int y]:=λh=>
  ⟨_,_,_,h,rfl,rfl,(show 2<=sizeLine by decide),.cons ⟨_,rfl⟩ (.cons ⟨_,rfl⟩ .nil)⟩
 exact⟨h0,_,_,_,h1,⟨rfl,rfl,rfl⟩,rfl,_,_,_,_,_,_,rfl,rfl,q1,rfl,tk u1,_,_,_,_,_,_,rfl,rfl,q2,rfl,tk u2,_,_,_,_,_,_,rfl,rfl,q3,rfl,tk u3,_,_,_,_,_,_,rfl,rfl,q4,rfl,tk u4,rfl⟩
end Mini
namespace Mini
open PySem PySem.Spec PyProof.Rows L2
section
noncomputable def HG(t u:Tg)(w:Wd)(m:Me):Rz:=(dw (df t w m) m).bind λx m1=>match x with
 |.bl false=>dw (df u w m1) m1
 |.bl true=>.ok (.bl true) m1
 |_=>.no
end
end Mini
namespace L2
open PySem PySem.Spec PyProof.Rows
section
variable{X:Cx}
noncomputable def pF(K:Qa):V->List V->Hp->VK->Prop:=λx vs H Q=>∃d a ks xs z,x=.ref d/\vs=[.ref a,z]/\bJ K H a (ks.map V.int)/\yC K H d xs/\(∀p v,Jw xs ks=some p->RelV v p.2->Q v H)/\(Jw xs ks=none->Q z H)/\∀p,Jw xs ks=some p->∃v,RelV v p.2
def Dq(hu:X.A.units+64<IJ):iW X "dict.get" (pF X.K):=by
 intro pins s σ H x vs v us Q I rx rv h;obtain⟨d,a,ks,xs,z,rfl,rfl,hk,td,q1,q2,q3⟩:=h;cases rx;obtain⟨_,ra,⟨uz,rz,rfl⟩⟩:∃u1,RelV (.ref a) u1/\∃u2,RelV z u2/\us=[u1,u2]:=by
  cases rv with
  |cons p r=>cases r with
   |cons p' r'=>cases r';exact⟨_,p,_,p',rfl⟩
 cases ra;obtain⟨d0,dm⟩:=xk I td;refine Ja F.slot_dict_get dm.typeIs F.entry_dict_get ?_ (F.args_dict_get_3 _ _ _);apply Iv (m:=dictGet d (.ref a));apply wpAny_dictGet_heap (knd:=HU (HV X.prog X.w)) (by show X.A.units+1<IJ;lia) (xH I hk) dm;cases e:Jw xs ks with
 |some p=>
  obtain⟨y,ry⟩:=q3 p e;exact IB ⟨p.2,rfl,y,H,I.tok _,ry,q1 p y e ry⟩
 |none=>
  apply Iv (m:=Builtin.Dict.missed d (.ref a));exact wpAny_missed_other d0 (IB ⟨uz,rfl,z,H,I.tok _,rz,q2 e⟩)
def DM (I:Inv X pins σ H s)(h:yC X.K H d xs):s.TypeIs (.ref d) "dict" /\ ∀a,Value.ref d=.ref a->∃ob,s.heap.get? a=some ob/\ob.dict=none:=by
 obtain⟨_,o,es,g,ex,_⟩:=yK I h;exact⟨⟨o,g,ex.1⟩,λa e=>by cases e;exact⟨o,g,ex.2.1⟩⟩
noncomputable def Fq(K:Qa)(r:V->List V->Hp->VK->Prop)(to:TE)(t:TA):TE:=λσ H Q=>to σ H λx H1=>(∃d xs,x=.ref d/\yC K H1 d xs)/\t σ H1 λvs H2=>r x vs H2 Q
def uO {id:String}(slot:Slot "dict" name id)(hty:typeOf (.builtin id)=pure (.type "method_descriptor"))(hm:iW X id r)(ho:PE X o to)(ha:PA X (e::es) t)(hbase:Je o name X.env (eval o X.env)=eval o X.env)(hfew:((Ig cpos (Ih (e::es) X.env)).all (λx=>! x.1)&&(Jf cpos (Jg [] X.env)).all (λx=>x.1.isSome)&&decide ((e::es).length+([]:List Jh).length+(if([]:List Jh).isEmpty then 0 else 1)<30))=true)(hline:(apos.endLine==cpos.line)=true)(hs:Ih (e::es) X.env=(false,eval e X.env)::Ih es X.env)(hplain:(Ig cpos (Ih es X.env)).any (·.1)=false):
  PE X (.Call (.Attribute o name apos) (e::es) [] cpos) (Fq X.K r to t):=by
 intro pins s σ H Q I h;refine Ji hbase hfew hline rfl (aP (ho pins s σ H _ I h) λv s1 ⟨x,H1,I1,r1,⟨d,xs,hx,td⟩,q1⟩=>?_);subst hx;cases r1;obtain⟨h1,h2⟩:=DM I1 td;have hA:=ha cpos pins s1 σ H1 _ I1 q1;rw[hs]at hA;refine⟨"dict",id,PySem.F.plainAttrs_dict,slot,hty,h1,h2,?_⟩;rw[hs];refine Calls.callWith_builtin (show(false || (Ig cpos (Ih es X.env)).any (·.1))=false by rw[hplain];rfl) (Calls.evalArgs_plain (aP hA λus s2 ⟨vs,H2,I2,r2,q2⟩=>?_));exact hm pins s2 σ H2 (.ref d) vs (.ref d) us Q I2 rfl r2 q2
end
end L2
namespace PySem
open Sem (wp)
open AutoSeq1 (wpAny_loadPart')
section
variable{prog:HJ}{w:HL}{A:HY}{E:Value->HK->Prop}{s:HK}
def xQ {n:Nat}(hh:A.handled=none)(hr:IsRange s.heap r a b c t u v)(hsmall:Builtin.Range.small a b c=true)(hn:Builtin.Range.rangeSize a b c=n)(hlen:n<=2^24)(hQ:∀(h':HQ) (tk:Nat) (acc:Array Value),(∀b o,s.heap.get? b=some o->h'.get? b=some o)->JV (λi v=>∃t,v=.int (a+i*c) t) acc n->Q acc.toList {s with heap:=h',toks:=tk}):
  Ic (Ie prog w) A (collect (.ref r)) Q E s:=by
 unfold collect;refine Iv (wpAny_runValue (JW F.entry_proto_collect ?_));rw[Around.under_plainId F.plain_proto_collect _];show Ic _ A.in1 (newList [] >>= λl=>again (.builtin "list.__iadd__" ⟨[l,.ref r],[]⟩)) _ _ s;refine Iv (Jb ?_);refine IB ⟨plainId_quiet F.plain_list_iadd _,JW F.entry_list_iadd ?_⟩;rw[Around.under_plainId F.plain_list_iadd _];show Ic _ A.in1 (Builtin.List.listExtendWith (.ref s.heap.objs.size) (.ref r) (.ref s.heap.objs.size)) _ _ _;have hS:(s.heap.push {cls:=.type "list",data:=.seq ([]:List Value).toArray}).get? s.heap.objs.size=some {cls:=.type "list",data:=.seq #[] 0}:=Qk _ rfl;refine Ii (wpAny_extend_range (A:=A) (R:=λq s'=>q=.ok (.ret (.ref s.heap.objs.size))/\∃(h':HQ) (tk:Nat) (acc:Array Value) (c':Nat),s'={s with heap:=h',toks:=tk}/\(∀b o,s.heap.get? b=some o->h'.get? b=some o)/\h'.get? s.heap.objs.size=some {cls:=.type "list",dict:=none,data:=.seq acc c',slots:=#[]}/\JV (λi v=>∃t,v=.int (a+i*c) t) acc n)
  (s:={s with heap:=s.heap.push {cls:=.type "list",data:=.seq ([]:List Value).toArray} }) hh (Qc _ hr) hsmall hn hlen _ _ 0 hS
  λh' tk acc c' kp e ia=>⟨rfl,h',tk,acc,c',rfl,λb o e=>kp b o (Qx (Qg e)) (Qc _ e),e,ia⟩) (λfin s' h=>?_) (λe s' h=>?_)
 .have fin':∀(h':HQ) (tk:Nat) (acc:Array Value) (c':Nat),(∀b o,s.heap.get? b=some o->h'.get? b=some o)->h'.get? s.heap.objs.size=some {cls:=.type "list",dict:=none,data:=.seq acc c',slots:=#[]}->JV (λi v=>∃t,v=.int (a+i*c) t) acc n->Ic (Ie prog w) A (match Value.ref s.heap.objs.size with
   |Value.ref a=>do
    match (<-load a).data with
     |Data.seq xs _=>pure xs.toList
     |_=>unsupported "internal:collect"
   |_=>unsupported "internal:collect") Q E {s with heap:=h',toks:=tk}:=λh' tk acc c' kp e ia=>by
   show Ic _ A (load s.heap.objs.size >>= _) _ _ _;refine Iv (wpAny_load e ?_);refine IB ?_;exact hQ h' tk acc kp ia
  cases fin with
  |done f=>
   obtain⟨e,h',tk,acc,c',rfl,kp,eh,ia⟩:=h;cases e;exact fin' h' tk acc c' kp eh ia
  |again c'=>exact⟨h.1,IN h.2 λq s'' hq=>by obtain⟨rfl,h',tk,acc,c',rfl,kp,eh,ia⟩:=hq;exact fin' h' tk acc c' kp eh ia⟩
 .exact J9 h.1 (by simp)
def xq {n:Nat}(hh:A.handled=none)(hr:IsRange s.heap r a b c t u v)(hsmall:Builtin.Range.small a b c=true)(hn:Builtin.Range.rangeSize a b c=n)(hlen:n<=2^24)(hsz:n<=sizeLine)(h:∀(h':HQ) (tk:Nat) (acc:Array Value),(∀b o,s.heap.get? b=some o->h'.get? b=some o)->JV (λi v=>∃t,v=.int (a+i*c) t) acc n->Q₁ (.ref h'.objs.size) {s with heap:=h'.push {cls:=.type "tuple",data:=.seq acc},toks:=tk}):
  IM (Ie prog w) A (.call (.builtin "tuple.__new__") ⟨[.type "tuple",.ref r],[]⟩) (wants Q₁ E) s:=by
 refine codeAny_of_tree ?_;show Ic _ A.in1 (do JX "tuple.__new__" ⟨[.type "tuple",.ref r],[]⟩;again (.builtin "tuple.__new__" ⟨[.type "tuple",.ref r],[]⟩)) _ _ s;refine Iv (JJ (F.newCall_tuple_1 _) (IB ⟨plainId_quiet (by decide +kernel:plainId "tuple.__new__"=true) _,JW F.entry_tuple_new ?_⟩));rw[Around.under_plainId (by decide +kernel:plainId "tuple.__new__"=true) _];have hsub:=sub_tuple_self;have hinit:=init_tuple_lookup;have hmh:=madeHere_tuple;have hTI:s.TypeIs (.ref r) "range":=⟨_,hr,rfl⟩;have hh':A.in1.handled=none:=hh;have col:∀{Q:List Value->HK->Prop}{E:Value->HK->Prop},(∀(h':HQ) (tk:Nat) (acc:Array Value),(∀b o,s.heap.get? b=some o->h'.get? b=some o)->JV (λi v=>∃t,v=.int (a+i*c) t) acc n->Q acc.toList {s with heap:=h',toks:=tk})->Ic (Ie prog w) A.in1 (collect (.ref r)) Q E s:=λhQ=>xQ hh' hr hsmall hn hlen hQ
 wp_walk using wpAny_typeOf hTI,col
 intro h' tk acc hm hacc;show Ic _ _ (Builtin.Tuple.tupleExact acc.toList.toArray >>= λv=>ret v) _ _ _;unfold Builtin.Tuple.tupleExact;refine Iv (Jb ?_ (by show acc.toList.toArray.size<=sizeLine;simp only[Array.toArray_toList];rw[hacc.1];exact hsz));refine IB ?_;have e:acc.toList.toArray=acc:=by simp
 rw[e];exact h h' tk acc hm hacc
def wU {n:Nat}(hh:A.handled=none)(hr:IsRange s.heap r a b c t u v)(hsmall:Builtin.Range.small a b c=true)(hn:Builtin.Range.rangeSize a b c=n)(hlen:n<=2^24)(hsz:n<=sizeLine)(hQ:∀(h':HQ) (tk:Nat) (acc:Array Value),(∀b o,s.heap.get? b=some o->h'.get? b=some o)->JV (λi v=>∃t,v=.int (a+i*c) t) acc n->Q (.ref h'.objs.size) {s with heap:=h'.push {cls:=.type "tuple",data:=.seq acc},toks:=tk}):
  Ic (Ie prog w) A (call (.type "tuple") [.ref r]) Q E s:=by
 refine callType_codes (Q₁:=λobj s₁=>s₁.TypeIs obj "tuple" /\ Q obj s₁) F.called_tuple (F.typeCall_tuple_1 _) F.entry_object_init
  (xq (A:=A.in1) hh hr hsmall hn hlen hsz λh' tk acc hm hacc=>⟨⟨_,Qk _ rfl,rfl⟩,hQ h' tk acc hm hacc⟩) λobj s₁ h₁=>?_
 exact⟨h₁.1,F.args_object_init_2 obj _,object_init_meets F.called_tuple.init.lookup F.called_tuple.made (by decide) prog w A.in1 _ s₁ ⟨h₁.1,rfl,h₁.2⟩⟩
end
end PySem
namespace L2
open PySem PySem.Spec PyProof.Rows
section
variable{X:Cx}
def DL (hacc:JV (λi v=>∃t,v=Value.int ((0:Int)+i*1) t) acc n):av ((Q2 n).map λ(i:Nat)=>V.int ((0:Int)+1*(i:Int))) acc.toList:=by
 have gen:∀(us:List Value) (n:Nat),us.length=n->∀m:Nat,(∀i v,us[i]?=some v->∃t,v=Value.int ((0:Int)+((m+i:Nat):Int)*1) t)->av ((List.range' m n).map λ(i:Nat)=>V.int ((0:Int)+1*(i:Int))) us:=by
  intro us
  induction us with
  |nil=>intro n hn m _;simp at hn;subst hn;exact .nil
  |cons u us ih=>
   intro n hn m hu;cases n with
   |zero=>simp at hn
   |succ n=>
    rw[List.range'_succ,QO];obtain⟨t,rfl⟩:=hu 0 u rfl;refine .cons ⟨t,?_⟩ (ih n (by simpa using hn) (m+1) λi v hv=>?_)
    .congr 1;simp
    .obtain ⟨t,e⟩:=hu (i+1) v (by simpa using hv);exact⟨t,by rw[e];congr 2;congr 1;lia⟩
 have:=gen acc.toList n (by rw[Wi];exact hacc.1) 0 (λi v hv=>by
  obtain⟨t,e⟩:=hacc.2 i v (by simpa using hv);exact⟨t,by rw[e];simp⟩)
 rw[<-List.range_eq_range']at this;exact this
noncomputable def uN(ta:TA):TE:=λσ H Q=>ta σ H λvs H1=>∃j:Int,vs=[.int j]/\-(2^30)<=j/\j<2^24/\j.toNat<=sizeLine/\∀l,H1 l=none->Q (.ref l) (aG H1 l (.tup ((Q2 j.toNat).map λ(i:Nat)=>V.int ((0:Int)+1*(i:Int)))))
def Dp (hc:X.calm=true)(hgl:Gl X "tuple")(hml:X.mg "tuple"=none)(hg:Gl X "range")(hm:X.mg "range"=none)(ha:PA X [a] ta)(hs:Ih [a] X.env=[(false,eval a X.env)]:=by rfl):
  PE X (.Call (.Name "tuple" p) [.Call (.Name "range" p') [a] [] pos'] [] pos) (uN ta):=by
 intro pins s σ H Q I h;refine IP (yZ I hgl hml PyProof.Rows.boot_tuple ?_ (by decide) (by decide));refine PyProof.Rows.callWith_type1 ?_ rfl rfl;refine Calls.spliced_cons ?_;refine Call_ (yZ I hg hm boot_range (PyProof.Rows.callWith_type1 (aP (ha pos' pins s σ H _ I h) λus s1 ⟨vs,H1,I1,r1,q1⟩=>?_) hs rfl));obtain⟨j,e,q1,q2,q3,q⟩:=q1;subst e;cases r1 with
 |cons r rr=>
  cases rr;obtain⟨t,rfl⟩:=r;refine call_range_1 (Calls.spliced_nil ?_);have hn:Builtin.Range.rangeSize 0 j 1=(j.toNat:Int):=by rw[rangeSize_one];split<;>lia
  refine wU (n:=j.toNat) (I1.ok.hd hc) (IsRange.new ..) (small_one (by lia) (by lia) (by lia) (by lia)) hn (by lia) q3 λh' tk acc kp hacc=>?_;have I2:Inv X pins σ H1 {s1 with heap:=s1.heap.push {cls:=.type "range",data:=.fields #[.int 0 s1.toks,.int j t,.int 1 (s1.toks+1)]},toks:=s1.toks+1+1}:=I1.kept λb o e=>Qc _ e;have I3:Inv X pins σ H1 {s1 with heap:=h',toks:=tk}:=I2.kept (t':=tk) kp;have hv:=DL hacc;have I4:Inv X pins σ (aG H1 h'.objs.size (.tup ((Q2 j.toNat).map λ(i:Nat)=>V.int ((0:Int)+1*(i:Int))))) {s1 with heap:=h'.push {cls:=.type "tuple",data:=.seq acc},toks:=tk} :=
   I3.laid (t':=tk) (λb o e=>Qc _ e) (Qf _) (show aR X.prog X.w _ _ _ (.tup ((Q2 j.toNat).map λ(i:Nat)=>V.int ((0:Int)+1*(i:Int))))from⟨by simpa using q3,acc.toList,hv,by simpa using IsTup.new _ _⟩)
  exact⟨.ref h'.objs.size,_,I4,rfl,q _ (I3.hok.fresh (Qf _))⟩
end
end L2
namespace Mini
open PySem PySem.Spec PyProof.Rows L2
section
variable{K:Qa}{as:List Addr}{H:Hp}{m:Me}{Q:VK}
def qu{b:Bool}{r:Rz}(h:ak K as H Q (match b with|true=>r|false=>.no)):b=true/\ak K as H Q r:=by
 cases b with
 |true=>exact⟨rfl,h⟩
 |false=>exact h.elim
def DK (hk:k=.get\/k=.get)(h:fL k w m=true):∃l ks ws,w=.ref l/\m[l]?=some (.dct ks ws):=by
 have go:∀{w:Wd},(match w with |.ref l=>(match m[l]? with|some (.dct _ _)=>true|_=>false)|_=>false)=true->∃l ks ws,w=.ref l/\m[l]?=some (.dct ks ws):=λ{w} h=>by
  cases w with
  |ref l=>
   cases e:m[l]? with
   |none=>simp[e]at h
   |some o=>
    cases o with
    |lst xs=>simp[e]at h
    |dct ks ws=>exact⟨l,ks,ws,rfl,e⟩
  |_=>cases h
 cases k with
 |get=>exact go h
 |_=>rcases hk with e|e<;>cases e
def jG (S:aJ K as m H)(hm:m[l]?=some (.dct ks ws))(R:ai K as H (.ref l) v):∃a xs vs,v=.ref a/\as[l]?=some a/\yC K H a xs/\xs.map (·.1)=ks/\ae K as H ws vs/\av vs (xs.map (·.2.2)):=by
 obtain⟨a,ha,rfl⟩:=aE.mp R;obtain⟨a',xs,vs,ha',td,e,r,rv,_⟩:=vY S hm;rw[ha]at ha';cases ha';exact⟨a,xs,vs,rfl,ha,td,e,r,rv⟩
theorem jH:∀{xs:List TK}{ws:List Wd}{q:List Int},xs.length=ws.length->b9 (xs.map (·.1)) ws q=none->Jw xs q=none
 |[],_,_,_,_=>rfl
 |x::xs,[],q,h,_=>by cases h
 |x::xs,w::ws,q,h,e=>by
  have e':(if x.1=q then some w else b9 (xs.map (·.1)) ws q)=none:=e;by_cases c:x.1=q
  .rw[J7 c]at e';cases e'
  .rw[J8 c]at e';have:=jH (by simpa using h) e';simpa [Jw,Wk,c]using this
def DJ (S:aJ K as m H)(R:ai K as H x v)(R':ai K as H y u)(R2:ai K as H z t)(h:ak K as H Q (vT .get x y z m)):pF K v [u,t] H Q:=by
 unfold vT at h;cases x with
 |ref l=>
  dsimp only at h;cases e:m[l]? with
  |none=>rw[e]at h;exact h.elim
  |some o=>
   cases o with
   |lst ys=>rw[e]at h;exact h.elim
   |dct ks ws=>
    rw[e]at h;dsimp only at h;obtain⟨a,xs,vs,rfl,ha,td,rfl,r,rv⟩:=jG S e R;cases ek:jx y with
    |none=>rw[ek]at h;exact h.elim
    |some k=>
     rw[ek]at h;dsimp only at h;obtain⟨b,rfl,qb⟩:=kl ek R';have hl:xs.length=ws.length:=by have h1:=r.length;have h2:=rv.length;simp at h2;lia
     refine⟨a,b,k,xs,t,rfl,rfl,qb,td,λp z1 hp rz=>?_,λhn=>?_,λp hp=>?_⟩
     .cases ew:b9 (xs.map (·.1)) ws k with
      |none=>rw[jH hl ew]at hp;cases hp
      |some w=>
       rw[ew]at h;obtain⟨p',z',h1,h2,h3⟩:=km r rv ew;rw[hp]at h1;cases h1;rw[rz.inj h2];exact h.ok S h3
     .cases ew:b9 (xs.map (·.1)) ws k with
      |none=>rw[ew]at h;exact h.ok S R2
      |some w=>
       obtain⟨p',z',h1,h2,h3⟩:=km r rv ew;rw[hn]at h1;cases h1
     .cases ew:b9 (xs.map (·.1)) ws k with
      |none=>rw[jH hl ew]at hp;cases hp
      |some w=>
       obtain⟨p',z',h1,h2,h3⟩:=km r rv ew;rw[hp]at h1;cases h1;exact⟨z',h2⟩
 |_=>exact h.elim
end
section
variable{cl:Nat->List Wd->Me->Rz}{X:Cx}{a b c:Ex}{x y z:Expr}{pos:Pos}
def DI (hu:X.A.units+64<IJ)(ha:PE X x (aH X.K (af cl a)))(hb:PE X y (aH X.K (af cl b)))(hc:PE X z (aH X.K (af cl c)))(hx:yG x=true)(hl:(ap.endLine==pos.line)=true)(hs:zg y=true)(hs':zg z=true):
  PE X (.Call (.Attribute x "get" ap) [y,z] [] pos) (aH X.K (af cl (.dop .get a b c))):=by
 have hall:[y,z].all zg=true:=by simp[hs,hs']
 refine PE.imp (uO PySem.F.slot_dict_get PySem.F.type_dict_get (Dq hu) ha (zq hb (zq hc zP (zd hs')) (zd hs)) (bR hx) (jC hall (by simp)) hl (zd hs) (zz (by simp[hs']))) λσ H Q h=>?_;obtain⟨as,env,m,S,G,P⟩:=h;refine⟨as,env,m,S,G,ak.bind P λw m1 as1 H1 v T1 S1 R1 P1=>?_⟩;obtain⟨hd,P1⟩:=qu P1;obtain⟨l,ks,ws,rfl,hm⟩:=DK (by simp) hd;obtain⟨a1,xs,vs,rfl,_,td,_⟩:=jG S1 hm R1;refine⟨⟨a1,xs,rfl,td⟩,as1,env,m1,S1,G.mono S T1,ak.bind P1 λy m2 as2 H2 u T2 S2 R2 P2=>?_⟩;refine⟨as2,env,m2,S2,(G.mono S T1).mono S1 T2,ak.bind P2 λz m3 as3 H3 t T3 S3 R3 P3=>?_⟩;exact DJ S3 ((R1.mono S1 T2).mono S2 T3) (R2.mono S2 T3) R3 P3
def BF (hcm:X.calm=true)(hgl:Gl X "tuple")(hml:X.mg "tuple"=none)(hg:Gl X "range")(hm:X.mg "range"=none)(hs:zg x=true)(ha:PE X x (aH X.K (af cl a))):
  PE X (.Call (.Name "tuple" p) [.Call (.Name "range" p') [x] [] pos'] [] pos) (aH X.K (af cl (.dop .trg a .unit .unit))):=by
 refine PE.imp (Dp hcm hgl hml hg hm (zq ha zP (zd hs)) (zd hs)) λσ H Q h=>?_;obtain⟨as,env,m,S,G,P⟩:=h;refine⟨as,env,m,S,G,ak.bind P λw m1 as1 H1 v T1 S1 R1 P1=>?_⟩;have P2:ak X.K as1 H1 Q (vT .trg w (.tup []) (.tup []) m1):=P1;cases w with
 |int j=>
  obtain rfl:=aa.mp R1;have hlim:(aF:Int)=100000:=rfl;have P3:ak X.K as1 H1 Q (if -(aF:Int)<=j/\j<=aF then .ok (.tup (qh 0 1 j.toNat)) m1 else .no):=P2;by_cases hc:-(aF:Int)<=j/\j<=aF
  .rw[J7 hc]at P3;have hz:j.toNat<=sizeLine:=Qm (by have:aF=100000:=rfl;lia) yq;refine⟨j,rfl,by lia,by lia,hz,λl hl=>?_⟩;obtain⟨T,S2,R2⟩:=S1.tup hl (v7 1 j.toNat 0);exact P3 _ _ _ T S2 R2
  .rw[J8 hc]at P3;exact P3.elim
 |_=>exact P2.elim
end
end Mini
namespace L2
open PySem PySem.Spec PyProof.Rows
section
variable{X:Cx}
noncomputable def fA(k:Int):Value->Bool
 |.int i _=>i==k
 |_=>false
def qw(k:Int)(t:Tok):∀{ks:List Int}{its:List Value},av (ks.map V.int) its->(∀y∈its,MeetsSeq.EqGives y (.int k t) (fA k y))/\its.map (fA k)=ks.map λx=>x==k:=by
 intro ks
 induction ks with
 |nil=>intro its r;cases r;exact⟨λy hy=>(by cases hy),rfl⟩
 |cons z ks ih=>
  intro its r;cases r with
  |cons p q=>
   obtain⟨u,rfl⟩:=p;obtain⟨h1,h2⟩:=ih q;refine⟨λy hy=>?_,by rw[QO,QO,h2];rfl⟩;rcases Qj.mp hy with rfl|hy
   .exact MeetsSeq.EqGives.int z k u t
   .exact h1 y hy
noncomputable def lU:V->List V->Hp->VK->Prop:=λx vs H Q=>∃(l:Addr) (ks:List Int) (k:Int),x=.ref l/\vs=[.int k]/\H l=some (.lst (ks.map V.int))/\Q (.int (ks.countP (· == k):Nat)) H
def BE:fX X "list.count" lU:=by
 intro pins s σ H x vs v us Q I rx rv h;obtain⟨l,ks,k,rfl,rfl,hH,q⟩:=h;cases rx;obtain⟨u,rfl,ru⟩:=rv.one;obtain⟨t,rfl⟩:=ru;obtain⟨z,its,n,r,hl,e⟩:=I.lstM hH;obtain⟨g1,g2⟩:=qw k t r;refine Jj F.slot_list_count ⟨_,e,rfl⟩ F.entry_list_count (F.args_list_count_2 _ _) (MeetsSeq.list_count l its.toArray n _ (fA k) λy hy=>g1 y (by simpa using hy)) ⟨e,?_⟩;have hc:its.countP (fA k)=ks.countP (· == k):=by
  have h1:its.countP (fA k)=(its.map (fA k)).countP id:=by rw[List.countP_map];rfl
  have h2:ks.countP (· == k)=(ks.map λx=>x==k).countP id:=by rw[List.countP_map];rfl
  rw[h1,h2,g2]
 exact⟨.int (ks.countP (· == k):Nat),H,I.tok _,⟨s.toks,by rw[<-hc]⟩,q⟩
end
end L2
namespace Mini
open PySem PySem.Spec PyProof.Rows L2
section
variable{cl:Nat->List Wd->Me->Rz}{X:Cx}{a b c:Ex}{x y z:Expr}{pos:Pos}
theorem sA [DecidableEq α]:∀{ks:List α}{i j:Nat},gi k ks i=some j->i<=j/\ks[j-i]?=some k/\∀p,p<j-i->ks[p]?≠some k
 |[],i,j,h=>by cases h
 |x::ks,i,j,h=>by
  have h':(if x=k then some i else gi k ks (i+1))=some j:=h;by_cases e:x=k
  .rw[J7 e]at h';cases h';refine⟨Qf _,by simp[e],λp hp=>by lia⟩
  .rw[J8 e]at h';obtain⟨h1,h2,h3⟩:=sA h';obtain⟨q,hq⟩:∃q,j-i=q+1:=⟨j-(i+1),by lia⟩;have hq':j-(i+1)=q:=by lia
   rw[hq']at h2 h3;refine⟨by lia,by rw[hq];simpa using h2,λp hp=>?_⟩;cases p with
   |zero=>simpa using e
   |succ p=>simpa using h3 p (by lia)
def DH {K:Qa}(S:aJ K as m H)(R:ai K as H w v)(h:fj w m=some ks):∃l,v=.ref l/\H l=some (.lst (ks.map V.int)):=by
 cases w with
 |ref l=>
  have h':(zn m l).bind zX=some ks:=h;obtain⟨xs,h1,h2⟩:=QE.mp h';obtain⟨p,hp,rfl⟩:=aE.mp R;obtain⟨p',us,hp',e,r⟩:=zI S (zw h1);rw[hp]at hp';cases hp';have:=xo r h2;subst this;exact⟨p,rfl,e⟩
 |_=>cases h
noncomputable def uM(K:Qa):V->List V->Hp->VK->Prop:=λv vs H Q=>∃(as:List Addr) (m:Me) (l:Nat) (ws:List Wd) (y:Wd) (u:V) (bs:List Bool) (j:Nat),aJ K as m H/\ai K as H (.ref l) v/\m[l]?=some (.lst ws)/\vs=[u]/\ai K as H y u/\dz (λw=>b8 m zV w y) ws=some bs/\bs[j]?=some true/\(∀i,i<j->bs[i]?≠some true)/\Q (.int j) H
theorem sy:∀{ws:List α}{bs:List Bool},dz p ws=some bs->bs.length=ws.length/\∀(i:Nat) w,ws[i]?=some w->∃b,bs[i]?=some b/\p w=some b
 |[],bs,h=>by cases h;exact⟨rfl,λi w h=>by simp at h⟩
 |x::r,bs,h=>by
  unfold dz at h;cases h1:p x with
  |none=>simp[h1]at h
  |some c=>
   cases h2:dz p r with
   |none=>simp[h1,h2]at h
   |some cs=>
    rw[h1,h2]at h;cases h;obtain⟨q1,q2⟩:=sy h2;refine⟨by simp[q1],λi w hw=>?_⟩;cases i with
    |zero=>cases hw;exact⟨c,rfl,h1⟩
    |succ i=>simpa using q2 i w (by simpa using hw)
def Do(hu:X.A.units+64<IJ):fX X "list.index" (uM X.K):=by
 intro pins s σ H x vs v us Q I rx rv h;obtain⟨as,m,l,ws,y,u,bs,j,S,R,hm,rfl,R',hb,hj,hno,q⟩:=h;obtain⟨a,ha,rfl⟩:=aE.mp R;obtain⟨a',sG,ha',eH,RL⟩:=zI S hm;rw[ha]at ha';cases ha';cases rx;obtain⟨u',rfl,ru⟩:=rv.one;obtain⟨z,its,n,r,hl,e⟩:=I.lstM eH;obtain⟨q1,q2⟩:=sy hb;have hlen:=RL.length;have hz:(sizeLine:Int)<2^63-1:=by decide
 have each:∀i (hi:i<its.length),∃w b v,ws[i]?=some w/\sG[i]?=some v/\RelV v its[i]/\ai X.K as H w v/\bs[i]?=some b/\b8 m zV w y=some b:=λi hi=>by
  have h1:i<ws.length:=by lia
  obtain⟨v,e1,r1⟩:=RL.get (i:=i) (x:=ws[i]) (by simp[h1]);obtain⟨b,e2,e3⟩:=q2 i ws[i] (by simp[h1]);obtain⟨u1,e4,e5⟩:=r.get e1;rw[Qv hi]at e4;cases e4;exact⟨ws[i],b,v,by simp[h1],e1,e5,r1,e2,e3⟩
 have jl:j<its.length:=by
  have:=(Qb.mp hj).1;lia
 let f:Value->Bool:=λy=>@decide (∃i:Nat,its[i]?=some y/\bs[i]?=some true) (Classical.propDecidable _)
 have hf:∀i (hi:i<its.length) b,bs[i]?=some b->f its[i]=b:=λi hi b hb'=>by
  cases b with
  |true=>exact @Ka _ (Classical.propDecidable _) ⟨i,by simp[hi],hb'⟩
  |false=>
   refine @J6 _ (Classical.propDecidable _) ?_;rintro⟨i',h1,h2⟩;obtain⟨hi',h1⟩:=Qb.mp h1;obtain⟨w1,b1,v1,c1,c2,c3,c4,c5,c6⟩:=each i hi;obtain⟨w2,b2,v2,d1,d2,d3,d4,d5,d6⟩:=each i' hi';rw[h1]at d3;have ev:=c3.inj d3;subst ev;have ew:=wA I S _ _ _ c4 d4;subst ew;rw[c6]at d6;cases d6;rw[hb']at c5;cases c5;rw[h2]at d5;cases d5
 refine Jj F.slot_list_index ⟨_,e,rfl⟩ F.entry_list_index (F.args_list_index_2 _ _) (PySem.SeqAt.list_indexAt a its.toArray n none #[] u' f j (by simpa using jl) (by lia) (by simpa using hf j jl true hj) (λi hi hij=>?_)) ⟨e,λy' hy=>?_,?_⟩
 .obtain ⟨w1,b1,v1,c1,c2,c3,c4,c5,c6⟩:=each i (by simpa using hi);have:=hf i (by simpa using hi) b1 c5;have hb1:b1=false:=by
   cases b1 with
   |false=>rfl
   |true=>exact J9 c5 (hno i hij)
  rw[hb1]at this;simpa using this
 .obtain ⟨i,hi,rfl⟩:=Wq.mp (show y'∈its by simpa using hy);obtain⟨w1,b1,v1,c1,c2,c3,c4,c5,c6⟩:=each i hi;rw[hf i hi b1 c5];exact(gm I S zV X.A.in1 _ _ _ _ _ _ _ (by show X.A.units+1+12<IJ;lia) c6 c4 R' c3 ru).it
 .exact ⟨.int j,H,I.tok _,⟨_,rfl⟩,q⟩
def BD (hu:X.A.units+64<IJ)(ha:PE X x (aH X.K (af cl a)))(hb:PE X y (aH X.K (af cl b)))(hx:yG x=true)(hl:(ap.endLine==pos.line)=true)(hs:zg y=true):
  PE X (.Call (.Attribute x "index" ap) [y] [] pos) (aH X.K (af cl (.dop .lix a b .unit))):=by
 have hall:[y].all zg=true:=by simp[hs]
 refine PE.imp (lq PySem.F.plainAttrs_list PySem.F.slot_list_index PySem.F.type_list_index (Do hu) ha (zq hb zP (zd hs)) (bR hx) (jC hall (by simp)) hl (zd hs) (zz (by simp))) λσ H Q h=>?_;obtain⟨as,env,m,S,G,P⟩:=h;refine⟨as,env,m,S,G,ak.bind P λw m1 as1 H1 v T1 S1 R1 P1=>?_⟩;obtain⟨hd,P1⟩:=qu P1;refine⟨qm S1 R1 (ql hd),as1,env,m1,S1,G.mono S T1,ak.bind P1 λy m2 as2 H2 u T2 S2 R2 P2=>?_⟩;have P3:ak X.K as2 H2 Q (vT .lix w y (.tup []) m2):=P2;cases w with
 |ref l=>
  have P4:ak X.K as2 H2 Q (match ((zn m2 l).bind (dz λw=>b8 m2 zV w y)).bind λbs=>gi true bs 0 with
   |some j=>.ok (.int (j:Nat)) m2
   |none=>.no):=P3
  cases hr:zn m2 l with
  |none=>rw[hr]at P4;exact P4.elim
  |some ws=>
   rw[hr]at P4;simp only[QQ]at P4;cases he:dz (λw=>b8 m2 zV w y) ws with
   |none=>rw[he]at P4;exact P4.elim
   |some bs=>
    rw[he]at P4;simp only[QQ]at P4;cases hi:gi true bs 0 with
    |none=>rw[hi]at P4;exact P4.elim
    |some j=>
     rw[hi]at P4;obtain⟨_,h2,h3⟩:=sA hi;rw[Nat.sub_zero]at h2 h3;exact⟨as2,m2,l,ws,y,u,bs,j,S2,R1.mono S1 T2,zw hr,rfl,R2,he,h2,h3,P4.ok S2 (aa.mpr rfl)⟩
 |_=>exact P3.elim
def BC (ha:PE X x (aH X.K (af cl a)))(hb:PE X y (aH X.K (af cl b)))(hx:yG x=true)(hl:(ap.endLine==pos.line)=true)(hs:zg y=true):
  PE X (.Call (.Attribute x "count" ap) [y] [] pos) (aH X.K (af cl (.dop .lct a b .unit))):=by
 have hall:[y].all zg=true:=by simp[hs]
 refine PE.imp (lq PySem.F.plainAttrs_list PySem.F.slot_list_count PySem.F.type_list_count BE ha (zq hb zP (zd hs)) (bR hx) (jC hall (by simp)) hl (zd hs) (zz (by simp))) λσ H Q h=>?_;obtain⟨as,env,m,S,G,P⟩:=h;refine⟨as,env,m,S,G,ak.bind P λw m1 as1 H1 v T1 S1 R1 P1=>?_⟩;obtain⟨hd,P1⟩:=qu P1;refine⟨qm S1 R1 (ql hd),as1,env,m1,S1,G.mono S T1,ak.bind P1 λy m2 as2 H2 u T2 S2 R2 P2=>?_⟩;have P3:ak X.K as2 H2 Q (vT .lct w y (.tup []) m2):=P2;cases y with
 |int k=>
  obtain rfl:=aa.mp R2;have P4:ak X.K as2 H2 Q (match fj w m2 with
   |some ks=>.ok (.int (ks.countP (· == k):Nat)) m2
   |none=>.no):=P3
  cases hr:fj w m2 with
  |none=>rw[hr]at P4;exact P4.elim
  |some ks=>
   rw[hr]at P4;obtain⟨l,rfl,hl⟩:=DH S2 (R1.mono S1 T2) hr;exact⟨l,ks,k,rfl,rfl,hl,P4.ok S2 (aa.mpr rfl)⟩
 |_=>exact P3.elim
end
end Mini
namespace L2
open PySem PySem.Spec PyProof.Rows
open PySem.W (KatTups KatLex KatGo kat_lt kat_cons kat_nil kat_go kat_yes kat_no kat_kind)
end L2
namespace L2
open PySem PySem.Spec PyProof.Rows
open PySem.SeqAt PySem.MeetsSeq PySem.MeetsSeq2 PySem.MeetsSeq3
open PySem.W (KatTups KatLex KatGo kat_lt kat_cons kat_nil kat_go kat_yes kat_no)
end L2
namespace L2
open PySem PySem.Spec PyProof.Rows
end L2
namespace PySem
end PySem
namespace L2
open PySem PySem.Spec PyProof.Rows
end L2
namespace Mini
open PySem PySem.Spec PyProof.Rows L2
end Mini
namespace L2
open PySem PySem.Spec PyProof.Rows
end L2
namespace L2
open PySem PySem.Spec PyProof.Rows
open PySem.W (KatTups KatLex KatGo kat_lt kat_cons kat_nil kat_go kat_yes kat_no kat_kind)
end L2
namespace L2
open PySem PySem.Spec PyProof.Rows
end L2
namespace Mini
open PySem PySem.Spec PyProof.Rows L2
section
variable{cl:Nat->List Wd->Me->Rz}
def bT.pe (h:bT cl X e (.e x))(hr:zi e=false):PE X x (aH X.K (af cl e)):=(h.1 hr).1
def bT.pt (h:bT cl X e (.e x))(hr:zi e=false)(hi:wQ e=false):PT X x (yO X.K (af cl e)):=(h.1 hr).2.1 hi
def bT.pa (h:bT cl X e (.a xs)):PA X xs (wl X.K (af cl e)):=h
def wV (h:jB sc x=true):eK sc x:=by
 unfold jB at h;simp only[Ws,Kc]at h;exact h
def zO (h:bZ sc x=true):sc.names.lookup x=some .globalImplicit:=Kb h
def wD {K:Qa}(hv:∀as H,ai K as H w v):∀σ H Q,aH K (af cl (.lit w)) σ H Q->tC v σ H Q:=λσ H Q h=>by
 obtain⟨as,env,m,S,G,P⟩:=h;exact ak.ok (m:=m) P S (hv as H)
def yL (hs:yj y=true):∀v,IE y env v=pure v:=λv=>by
 cases y<;>first|rfl|cases hs
structure ay(C:Ctx)(sc:HH)(N:List Str)(e:Ex)(n:Nd):Prop where
 h:∀(cl:Nat → List Wd → Me → Rz) (d:Nat) (X:Cx),bj C X cl d → X.env.scope=sc → X.N=N → bT cl X e n
def zB (h:ay C sc N e n):∀X:Cx,bj C X cl d->X.env.scope=sc->X.N=N->bT cl X e n:=h.h cl d
def ay.«var»{C:Ctx}{sc:HH}{N:List Str}{i:Nat}{x:Str}{p:Pos}(h1:N[i]?=some x)(h2:jB sc x=true)(h3:zr x=true):ay C sc N (.var i) (.e (.Name x p)):=by
 constructor;intro cl d;intro X hC es eN;subst es;subst eN;obtain⟨n1,n2,_⟩:=yw h3;refine bT.of (PE.imp (xT h1 (wV h2) n1 n2) λσ H Q q=>?_);obtain⟨as,env,m,S,G,P⟩:=q;cases hw:env[i]? with
 |none=>have P':ak X.K as H Q (match env[i]? with|some (some w)=>.ok w m|_=>.no):=P;rw[hw]at P';exact P'.elim
 |some o=>
  cases o with
  |none=>have P':ak X.K as H Q (match env[i]? with|some (some w)=>.ok w m|_=>.no):=P;rw[hw]at P';exact P'.elim
  |some w=>
   have P':ak X.K as H Q (match env[i]? with|some (some w)=>.ok w m|_=>.no):=P;rw[hw]at P';obtain⟨v,hv,R⟩:=G.get i w hw;exact⟨v,hv,ak.ok (m:=m) P' S R⟩
def ay.«non»{C:Ctx}{sc:HH}{N:List Str}{k}{p:Pos}:ay C sc N (.lit .non) (.e (.Constant .none k p)):=by
 constructor;intro cl d;intro X hC es eN;exact bT.of (PE.imp Cs (wD λ_ _=>am.mpr rfl))
def ay.«bl»{C:Ctx}{sc:HH}{N:List Str}{b:Bool}{k}{p:Pos}:ay C sc N (.lit (.bl b)) (.e (.Constant (.bool b) k p)):=by
 constructor;intro cl d;intro X hC es eN;exact bT.of (PE.imp pS (wD λ_ _=>aj.mpr rfl))
def ay.«int»{C:Ctx}{sc:HH}{N:List Str}{i:Int}{k}{p:Pos}:ay C sc N (.lit (.int i)) (.e (.Constant (.int i) k p)):=by
 constructor;intro cl d;intro X hC es eN;exact bT.of (PE.imp Ct (wD λ_ _=>aa.mpr rfl))
def ay.«str»{C:Ctx}{sc:HH}{N:List Str}{s:Str}{t:List Nat}{k}{p:Pos}(h:s.cps.toList=t):ay C sc N (.lit (.str t)) (.e (.Constant (.str s) k p)):=by
 constructor;intro cl d;intro X hC es eN;subst h;exact bT.of (PE.imp wJ (wD λ_ _=>az.mpr (by simp)))
def ay.«con»{C:Ctx}{sc:HH}{N:List Str}{x:Str}{i:Int}{p:Pos}(h1:bZ sc x=true)(h2:C.cons.lookup x=some i)(h3:zr x=true):ay C sc N (.lit (.int i)) (.e (.Name x p)):=by
 constructor;intro cl d;intro X hC es eN;subst es;obtain⟨n1,n2,_⟩:=yw h3;obtain⟨t,ht⟩:=hC.con.1 x i h2;exact bT.of (PE.imp (vA (zO h1) ht (v:=.int i) ⟨t,rfl⟩ n1) (wD λ_ _=>aa.mpr rfl))
def ay.«bin»{C:Ctx}{sc:HH}{N:List Str}{op:Bo}{a b:Ex}{x y:Expr}{p:Pos}(ra:zi a=false)(ha:ay C sc N a (.e x))(rb:zi b=false)(hb:ay C sc N b (.e y)):ay C sc N (.bin op a b) (.e (.BinOp x (fx op) y p)):=by
 constructor;intro cl d;have iha:=ha.h cl d;have ihb:=hb.h cl d;intro X hC es eN;exact bT.of (Bh ((iha X hC es eN).pe ra) ((ihb X hC es eN).pe rb))
def ay.«neg»{C:Ctx}{sc:HH}{N:List Str}{a:Ex}{x:Expr}{p:Pos}(ra:zi a=false)(ha:ay C sc N a (.e x)):ay C sc N (.neg a) (.e (.UnaryOp .USub x p)):=by
 constructor;intro cl d;have iha:=ha.h cl d;intro X hC es eN;exact bT.of (Bg ((iha X hC es eN).pe ra))
def ay.«not»{C:Ctx}{sc:HH}{N:List Str}{a:Ex}{x:Expr}{p:Pos}(ra:zi a=false)(ia:wQ a=false)(ha:ay C sc N a (.e x)):ay C sc N (.not a) (.e (.UnaryOp .Not x p)):=by
 constructor;intro cl d;have iha:=ha.h cl d;intro X hC es eN;have s1:=iha X hC es eN;exact⟨λ_=>⟨rV (s1.pe ra),λ_=>Bf (s1.pt ra ia),λop vs pos z=>by cases z⟩,λtg=>v6 (rV (s1.pe ra))⟩
def ay.«and2»{C:Ctx}{sc:HH}{N:List Str}{a b:Ex}{x y:Expr}{p:Pos}(ra:zi a=false)(ia:wQ a=false)(ha:ay C sc N a (.e x))(rb:zi b=false)(ib:wQ b=false)(hb:ay C sc N b (.e y)):ay C sc N (.and a b) (.e (.BoolOp .And [x,y] p)):=by
 constructor;intro cl d;have iha:=ha.h cl d;have ihb:=hb.h cl d;intro X hC es eN;have sa:=iha X hC es eN;have sb:=ihb X hC es eN;have e:=λ(p:Pos)=>Be (pos:=p) (sa.pe ra) (gY (sb.pe rb));have w:=λ(p:Pos)=>Bc (pos:=p) (sa.pt ra ia) (CO (sb.pt rb ib));exact⟨λ_=>⟨e _,λ_=>(w _).pt,λop vs pos z=>by cases z;exact w _⟩,λtg=>v6 (e _)⟩
def ay.«or2»{C:Ctx}{sc:HH}{N:List Str}{a b:Ex}{x y:Expr}{p:Pos}(ra:zi a=false)(ia:wQ a=false)(ha:ay C sc N a (.e x))(rb:zi b=false)(ib:wQ b=false)(hb:ay C sc N b (.e y)):ay C sc N (.or a b) (.e (.BoolOp .Or [x,y] p)):=by
 constructor;intro cl d;have iha:=ha.h cl d;have ihb:=hb.h cl d;intro X hC es eN;have sa:=iha X hC es eN;have sb:=ihb X hC es eN;have e:=λ(p:Pos)=>uu (pos:=p) (sa.pe ra) (gY (sb.pe rb));have w:=λ(p:Pos)=>ut (pos:=p) (sa.pt ra ia) (Cr (sb.pt rb ib));exact⟨λ_=>⟨e _,λ_=>(w _).pt,λop vs pos z=>by cases z;exact w _⟩,λtg=>v6 (e _)⟩
def ay.«cmp»{C:Ctx}{sc:HH}{N:List Str}{op:Co}{a b:Ex}{x y:Expr}{p:Pos}(hs:yj y=true)(ra:zi a=false)(ha:ay C sc N a (.e x))(rb:zi b=false)(hb:ay C sc N b (.e y)):ay C sc N (.cmp op a b) (.e (.Compare x [cK op] [y] p)):=by
 constructor;intro cl d;have iha:=ha.h cl d;have ihb:=hb.h cl d;intro X hC es eN;have ea:=(iha X hC es eN).pe ra;have eb:=(ihb X hC es eN).pe rb;exact⟨λ_=>⟨rT hC.room.units ea eb hs,λ_=>Bb hC.room.units ea eb hs,λop vs pos z=>by cases z⟩,λtg=>v6 (rT hC.room.units ea eb hs)⟩
def ay.«chain»{C:Ctx}{sc:HH}{N:List Str}{o q:Co}{a b c:Ex}{x y z:Expr}{p:Pos}(hs:yj z=true)(ra:zi a=false)(ha:ay C sc N a (.e x))(rb:zi b=false)(hb:ay C sc N b (.e y))(rc:zi c=false)(hc:ay C sc N c (.e z)):ay C sc N (.chain o q a b c) (.e (.Compare x [cK o,cK q] [y,z] p)):=by
 constructor;intro cl d;have iha:=ha.h cl d;have ihb:=hb.h cl d;have ihc:=hc.h cl d;intro X hC es eN;have ea:=(iha X hC es eN).pe ra;have eb:=(ihb X hC es eN).pe rb;have ec:=(ihc X hC es eN).pe rc;exact⟨λ_=>⟨gC hC.room.units ea eb ec hs,λ_=>EL hC.room.units ea eb ec hs,λop vs pos z=>by cases z⟩,λtg=>v6 (gC hC.room.units ea eb ec hs)⟩
def ay.«ife»{C:Ctx}{sc:HH}{N:List Str}{a b c:Ex}{x y z:Expr}{p:Pos}(rc:zi c=false)(ic:wQ c=false)(hc:ay C sc N c (.e x))(ra:zi a=false)(ha:ay C sc N a (.e y))(rb:zi b=false)(hb:ay C sc N b (.e z)):ay C sc N (.ife c a b) (.e (.IfExp x y z p)):=by
 constructor;intro cl d;have ihc:=hc.h cl d;have iha:=ha.h cl d;have ihb:=hb.h cl d;intro X hC es eN;have e:=λ(p:Pos)=>Ba (pos:=p) ((ihc X hC es eN).pt rc ic) ((iha X hC es eN).pe ra) ((ihb X hC es eN).pe rb);exact⟨λ_=>⟨e _,λz=>(by cases z),λop vs pos z=>(by cases z)⟩,λtg=>v6 (e _)⟩
def ay.«unit»{C:Ctx}{sc:HH}{N:List Str}:ay C sc N .unit (.a []):=by
 constructor;intro cl d;intro X hC es eN;exact C8
def ay.«pair»{C:Ctx}{sc:HH}{N:List Str}{a b:Ex}{x:Expr}{xs:List Expr}(hs:zg x=true)(ra:zi a=false)(ha:ay C sc N a (.e x))(hb:ay C sc N b (.a xs)):ay C sc N (.pair a b) (.a (x::xs)):=by
 constructor;intro cl d;have iha:=ha.h cl d;have ihb:=hb.h cl d;intro X hC es eN;exact C7 ((iha X hC es eN).pe ra) (ihb X hC es eN).pa hs
def ay.«call»{C:Ctx}{sc:HH}{N:List Str}{k:Nat}{a:Ex}{f:Str}{y:Expr}{ys:List Expr}{p p':Pos}(h1:C.fns[k]?=some f)(h2:bZ sc f=true)(h3:zr f=true)(hs:(y::ys).all zg=true)(ha:ay C sc N a (.a (y::ys))):ay C sc N (.call k a) (.e (.Call (.Name f p) (y::ys) [] p')):=by
 constructor;intro cl d;have iha:=ha.h cl d;intro X hC es eN;subst es;exact bT.of (C6 hC h1 (zO h2) h3 hs (iha X hC rfl eN).pa)
def ay.«blt»{C:Ctx}{sc:HH}{N:List Str}{b:dM}{a:Ex}{nm:Str}{f:Value}{y:Expr}{ys:List Expr}{p p':Pos}(h1:im b=some (nm,f))(h2:bZ sc nm=true)(h3:zr nm=true)(hs:(y::ys).all zg=true)(ha:ay C sc N a (.a (y::ys))):ay C sc N (.blt b a) (.e (.Call (.Name nm p) (y::ys) [] p')):=by
 constructor;intro cl d;have iha:=ha.h cl d;intro X hC es eN;subst es;exact bT.of (A9 hC h1 (zO h2) h3 hs (iha X hC rfl eN).pa)
def ay.«isi»{C:Ctx}{sc:HH}{N:List Str}{t:Tg}{a:Ex}{y:Expr}{p p' p'':Pos}(h1:bZ sc "isinstance"=true)(h2:bZ sc (Str.ofString (cU t))=true)(hs:zg y=true)(ra:zi a=false)(ha:ay C sc N a (.e y)):ay C sc N (.isi t a) (.e (.Call (.Name "isinstance" p) [y,.Name (Str.ofString (cU t)) p'] [] p'')):=by
 constructor;intro cl d;have iha:=ha.h cl d;intro X hC es eN;subst es;exact bT.of (A8 hC (zO h1) (zO h2) hs ((iha X hC rfl eN).pe ra))
def ay.«lst»{C:Ctx}{sc:HH}{N:List Str}{a:Ex}{xs:List Expr}{p:Pos}(ha:ay C sc N a (.a xs)):ay C sc N (.lst a) (.e (.List xs p)):=by
 constructor;intro cl d;have iha:=ha.h cl d;intro X hC es eN;exact bT.of (A7 (iha X hC es eN).pa)
def ay.«tup»{C:Ctx}{sc:HH}{N:List Str}{a:Ex}{xs:List Expr}{k}{p:Pos}(ha:ay C sc N a (.a xs)):ay C sc N (.tup a) (.e (.Tuple xs k p)):=by
 constructor;intro cl d;have iha:=ha.h cl d;intro X hC es eN;exact bT.of (A6 (iha X hC es eN).pa)
def ay.«idx»{C:Ctx}{sc:HH}{N:List Str}{a b:Ex}{x y:Expr}{p:Pos}(hs:yz y=true)(ra:zi a=false)(ha:ay C sc N a (.e x))(rb:zi b=false)(hb:ay C sc N b (.e y)):ay C sc N (.idx a b) (.e (.Subscript x y p)):=by
 constructor;intro cl d;have iha:=ha.h cl d;have ihb:=hb.h cl d;intro X hC es eN;exact bT.of (A5 ((iha X hC es eN).pe ra) ((ihb X hC es eN).pe rb) hs)
def ay.«dict0»{C:Ctx}{sc:HH}{N:List Str}{p:Pos}:ay C sc N .dict0 (.e (.Dict [] [] p)):=by
 constructor;intro cl d;intro X hC es eN;exact bT.of DP
def ay.«dget»{C:Ctx}{sc:HH}{N:List Str}{a b:Ex}{x y:Expr}{p:Pos}(hs:yz y=true)(ra:zi a=false)(ha:ay C sc N a (.e x))(rb:zi b=false)(hb:ay C sc N b (.e y)):ay C sc N (.dget a b) (.e (.Subscript x y p)):=by
 constructor;intro cl d;have iha:=ha.h cl d;have ihb:=hb.h cl d;intro X hC es eN;exact bT.of (Du hC.room.units ((iha X hC es eN).pe ra) ((ihb X hC es eN).pe rb) hs)
def ay.«dcon»{C:Ctx}{sc:HH}{N:List Str}{x1 y1 x2 y2 x3 y3 x4 y4:Int}{dn nm:Str}{p pd pn:Pos}{i:Nat}{k1 k2 k3 k4:List Nat}(nd:[k1,k2,k3,k4].Nodup)(g1:bZ sc dn=true)(g2:C.dcs.lookup dn=some [(k1,x1,y1),(k2,x2,y2),(k3,x3,y3),(k4,x4,y4)])(g3:zr dn=true)(h1:N[i]?=some nm)(h2:jB sc nm=true)(h3:zr nm=true):
   ay C sc N (.idx (kI (cV x1 y1) (cV x2 y2) (cV x3 y3) (cV x4 y4)) (gj i k1 k2 k3 k4)) (.e (.Subscript (.Name dn pd) (.Name nm pn) p)):=by
 constructor;intro cl d;intro X hC es eN;subst es;subst eN;obtain⟨n1,n2,_⟩:=yw h3;obtain⟨m1,_,_⟩:=yw g3;simp only[Qw,Qj,QV,not_or,or_false]at nd;obtain⟨⟨m12,m13,m14⟩,⟨m23,m24⟩,m34,_⟩:=nd;obtain⟨a,ha,hD⟩:=hC.con.2 _ _ g2;exact bT.of (Dr m12 m13 m14 m23 m24 m34 (vA (zO g1) ha (v:=.ref a) rfl m1) hD (xT h1 (wV h2) n1 n2))
def ay.«slL»{C:Ctx}{sc:HH}{N:List Str}{a b:Ex}{x y:Expr}{p p':Pos}(ra:zi a=false)(ha:ay C sc N a (.e x))(rb:zi b=false)(hb:ay C sc N b (.e y)):ay C sc N (.slL a b) (.e (.Subscript x (.Slice (some y) none none p') p)):=by
 constructor;intro cl d;have iha:=ha.h cl d;have ihb:=hb.h cl d;intro X hC es eN;exact bT.of (BH ((iha X hC es eN).pe ra) ((ihb X hC es eN).pe rb))
def ay.«dgetM»{C:Ctx}{sc:HH}{N:List Str}{a b c:Ex}{x y z:Expr}{ap cp:Pos}(hx:yG x=true)(hl:(ap.endLine==cp.line)=true)(hs:zg y=true)(hs':zg z=true)(ra:zi a=false)(ha:ay C sc N a (.e x))(rb:zi b=false)(hb:ay C sc N b (.e y))(rc:zi c=false)(hc:ay C sc N c (.e z)):ay C sc N (.dop .get a b c) (.e (.Call (.Attribute x "get" ap) [y,z] [] cp)):=by
 constructor;intro cl d;have iha:=ha.h cl d;have ihb:=hb.h cl d;have ihc:=hc.h cl d;intro X hC es eN;exact bT.of (DI hC.room.units ((iha X hC es eN).pe ra) ((ihb X hC es eN).pe rb) ((ihc X hC es eN).pe rc) hx hl hs hs')
def ay.«dtrg»{C:Ctx}{sc:HH}{N:List Str}{a:Ex}{x:Expr}{p p1 p2 p3:Pos}(hg:bZ sc "tuple"=true)(hg':bZ sc "range"=true)(hs:zg x=true)(ra:zi a=false)(ha:ay C sc N a (.e x)):ay C sc N (.dop .trg a .unit .unit) (.e (.Call (.Name "tuple" p1) [.Call (.Name "range" p2) [x] [] p3] [] p)):=by
 constructor;intro cl d;have iha:=ha.h cl d;intro X hC es eN;exact bT.of (BF hC.calm (by rw[<-es]at hg;exact zO hg) (hC.blt _ (by simp[zm])) (by rw[<-es]at hg';exact zO hg') (hC.blt _ (by simp[zm])) hs ((iha X hC es eN).pe ra))
def ay.«dlix»{C:Ctx}{sc:HH}{N:List Str}{a b:Ex}{x y:Expr}{ap cp:Pos}(hx:yG x=true)(hl:(ap.endLine==cp.line)=true)(hs:zg y=true)(ra:zi a=false)(ha:ay C sc N a (.e x))(rb:zi b=false)(hb:ay C sc N b (.e y)):ay C sc N (.dop .lix a b .unit) (.e (.Call (.Attribute x "index" ap) [y] [] cp)):=by
 constructor;intro cl d;have iha:=ha.h cl d;have ihb:=hb.h cl d;intro X hC es eN;exact bT.of (BD hC.room.units ((iha X hC es eN).pe ra) ((ihb X hC es eN).pe rb) hx hl hs)
def ay.«dlct»{C:Ctx}{sc:HH}{N:List Str}{a b:Ex}{x y:Expr}{ap cp:Pos}(hx:yG x=true)(hl:(ap.endLine==cp.line)=true)(hs:zg y=true)(ra:zi a=false)(ha:ay C sc N a (.e x))(rb:zi b=false)(hb:ay C sc N b (.e y)):ay C sc N (.dop .lct a b .unit) (.e (.Call (.Attribute x "count" ap) [y] [] cp)):=by
 constructor;intro cl d;have iha:=ha.h cl d;have ihb:=hb.h cl d;intro X hC es eN;exact bT.of (BC ((iha X hC es eN).pe ra) ((ihb X hC es eN).pe rb) hx hl hs)
def ay.«meth»{C:Ctx}{sc:HH}{N:List Str}{k:dO}{o a:Ex}{x y:Expr}{ys:List Expr}{ap cp:Pos}(hx:yG x=true)(hl:(ap.endLine==cp.line)=true)(hn:(y::ys).length<29)(hs:(y::ys).all zg=true)(ro:zi o=false)(ho:ay C sc N o (.e x))(ha:ay C sc N a (.a (y::ys))):ay C sc N (.meth k o a) (.e (.Call (.Attribute x (fy k).1 ap) (y::ys) [] cp)):=by
 constructor;intro cl d;have iho:=ho.h cl d;have iha:=ha.h cl d;intro X hC es eN;exact bT.of (C3 ((iho X hC es eN).pe ro) (iha X hC es eN).pa hx hl hn hs)
def ay.«rng1»{C:Ctx}{sc:HH}{N:List Str}{b:Ex}{y:Expr}{p p':Pos}(hg:bZ sc "range"=true)(hs:zg y=true)(rb:zi b=false)(hb:ay C sc N b (.e y)):ay C sc N (.rng (.lit (.int 0)) b (.lit (.int 1))) (.e (.Call (.Name "range" p) [y] [] p')):=by
 constructor;intro cl d;have ihb:=hb.h cl d;intro X hC es eN;subst es;exact⟨λz=>(by cases z),λtg=>C2 hC (zO hg) hs ((ihb X hC rfl eN).pe rb)⟩
def ay.«rng2»{C:Ctx}{sc:HH}{N:List Str}{a b:Ex}{x y:Expr}{p p':Pos}(hg:bZ sc "range"=true)(hs:zg x=true)(hs':zg y=true)(ra:zi a=false)(ha:ay C sc N a (.e x))(rb:zi b=false)(hb:ay C sc N b (.e y)):ay C sc N (.rng a b (.lit (.int 1))) (.e (.Call (.Name "range" p) [x,y] [] p')):=by
 constructor;intro cl d;have iha:=ha.h cl d;have ihb:=hb.h cl d;intro X hC es eN;subst es;exact⟨λz=>(by cases z),λtg=>C1 hC (zO hg) hs hs' ((iha X hC rfl eN).pe ra) ((ihb X hC rfl eN).pe rb)⟩
def ay.«comp0»{C:Ctx}{sc scope:HH}{N:List Str}{elt it:Ex}{x i:Expr}{y:Str}{p p':Pos}(hs:yj i=true)(hB:yU sc N scope [y]=true)(hi:ay C sc N it (.e i))(re:zi elt=false)(he:ay C (zR scope sc) (zW N [y]) elt (.e x)):ay C sc N (.comp elt it (.lit (.bl true))) (.e (.ListComp x [⟨.Name y p,i,[],0⟩] scope p')):=by
 constructor;intro cl d;have ihi:=hi.h cl d;have ihe:=he.h cl d;intro X hC es eN;subst es;subst eN;have B:=zC hB;have hI:=(ihi X hC rfl rfl).2 (.Name y p);have hset:∀v,IE i X.env v=pure v:=yL hs;have body:∀Xc,bp X scope [y] Xc->PE Xc x (aH X.K (af cl elt)):=λXc c=>by
  have q:=(ihe Xc (hC.comp c) c.sc c.N).pe re;rw[c.K]at q;exact q
 refine bT.of (PE.imp (xF B hC.calm (xD B) hI (λXc c=>⟨xC,body Xc c⟩) hset) λσ H Q q=>wT (λσ H Q q=>?_) q);obtain⟨as,env,m,S,G,P⟩:=q;obtain⟨b,e,q⟩:=ak.ok (m:=m) P S (aj.mpr rfl);cases e;exact q
def ay.«comp1»{C:Ctx}{sc scope:HH}{N:List Str}{elt it cond:Ex}{x i f:Expr}{y:Str}{p p':Pos}(hs:yj i=true)(hB:yU sc N scope [y]=true)(hi:ay C sc N it (.e i))(rc:zi cond=false)(ic:wQ cond=false)(hc:ay C (zR scope sc) (zW N [y]) cond (.e f))(re:zi elt=false)(he:ay C (zR scope sc) (zW N [y]) elt (.e x)):ay C sc N (.comp elt it cond) (.e (.ListComp x [⟨.Name y p,i,[f],0⟩] scope p')):=by
 constructor;intro cl d;have ihi:=hi.h cl d;have ihc:=hc.h cl d;have ihe:=he.h cl d;intro X hC es eN;subst es;subst eN;have B:=zC hB;have hI:=(ihi X hC rfl rfl).2 (.Name y p);have hset:∀v,IE i X.env v=pure v:=yL hs;have body:∀Xc,bp X scope [y] Xc->PE Xc x (aH X.K (af cl elt)):=λXc c=>by
  have q:=(ihe Xc (hC.comp c) c.sc c.N).pe re;rw[c.K]at q;exact q
 refine bT.of (PE.imp (xF B hC.calm (xD B) hI (λXc c=>⟨qS ?_,body Xc c⟩) hset) λσ H Q q=>wT (λσ H Q q=>q) q);have q:=(ihc Xc (hC.comp c) c.sc c.N).pt rc ic;rw[c.K]at q;exact q
def ay.«compZ0»{C:Ctx}{sc scope:HH}{N:List Str}{elt a b:Ex}{x i j:Expr}{y z:Str}{p p' q q' q2 pt:Pos}{kt:Nat}(hg:bZ sc "zip"=true)(hB:yU sc N scope [y,z]=true)(hs:zg i=true)(hs':zg j=true)(ra:zi a=false)(ha:ay C sc N a (.e i))(rb:zi b=false)(hb:ay C sc N b (.e j))(re:zi elt=false)(he:ay C (zR scope sc) (zW N [y,z]) elt (.e x)):
   ay C sc N (.compP .zip elt a b (.lit (.bl true))) (.e (.ListComp x [⟨.Tuple [.Name y p,.Name z q] kt pt,.Call (.Name "zip" q') [i,j] [] q2,[],0⟩] scope p')):=by
 constructor;intro cl d;have iha:=ha.h cl d;have ihb:=hb.h cl d;have ihe:=he.h cl d;intro X hC es eN;subst es;subst eN;have B:=zC hB;have hI:PI X (.Tuple [.Name y p,.Name z q] kt pt) (.Call (.Name "zip" q') [i,j] [] q2) _:=jD (zO hg) (hC.blt _ (by simp[zm])) (zq ((iha X hC rfl rfl).pe ra) (zq ((ihb X hC rfl rfl).pe rb) zP (zd hs')) (zd hs)) (by rw[zd hs,zd hs'];rfl) (zd hs');have body:∀Xc,bp X scope [y,z] Xc->PE Xc x (aH X.K (af cl elt)):=λXc c=>by
  have q:=(ihe Xc (hC.comp c) c.sc c.N).pe re;rw[c.K]at q;exact q
 refine bT.of (PE.imp (xF B hC.calm (jw hC.calm B) hI (λXc c=>⟨xC,body Xc c⟩) (λ_=>rfl)) λσ H Q q=>kj (λσ H Q q=>?_) q);obtain⟨as,env,m,S,G,P⟩:=q;obtain⟨b,e,q⟩:=ak.ok (m:=m) P S (aj.mpr rfl);cases e;exact q
def ay.«compE0»{C:Ctx}{sc scope:HH}{N:List Str}{elt a:Ex}{x i:Expr}{y z:Str}{p p' q q' q2 pt:Pos}{kt:Nat}(hg:bZ sc "enumerate"=true)(hB:yU sc N scope [y,z]=true)(hs:zg i=true)(ra:zi a=false)(ha:ay C sc N a (.e i))(re:zi elt=false)(he:ay C (zR scope sc) (zW N [y,z]) elt (.e x)):
   ay C sc N (.compP .enum elt a (.lit (.int 0)) (.lit (.bl true))) (.e (.ListComp x [⟨.Tuple [.Name y p,.Name z q] kt pt,.Call (.Name "enumerate" q') [i] [] q2,[],0⟩] scope p')):=by
 constructor;intro cl d;have iha:=ha.h cl d;have ihe:=he.h cl d;intro X hC es eN;subst es;subst eN;have B:=zC hB;have hI:PI X (.Tuple [.Name y p,.Name z q] kt pt) (.Call (.Name "enumerate" q') [i] [] q2) _:=C0 (zO hg) (hC.blt _ (by simp[zm])) (zq ((iha X hC rfl rfl).pe ra) zP (zd hs)) (zd hs);have body:∀Xc,bp X scope [y,z] Xc->PE Xc x (aH X.K (af cl elt)):=λXc c=>by
  have q:=(ihe Xc (hC.comp c) c.sc c.N).pe re;rw[c.K]at q;exact q
 refine bT.of (PE.imp (xF B hC.calm (jw hC.calm B) hI (λXc c=>⟨xC,body Xc c⟩) (λ_=>rfl)) λσ H Q q=>qr (c:=0) rfl (λσ H Q q=>?_) q);obtain⟨as,env,m,S,G,P⟩:=q;obtain⟨b,e,q⟩:=ak.ok (m:=m) P S (aj.mpr rfl);cases e;exact q
end
def BB:swappedStores [.Subscript o i p1] v env=pure none:=rfl
def Dn (h:∀x p,tg≠.Name x p):swapsWithSole [tg] v line env=pure false:=by
 cases v<;>first|rfl|(cases tg<;>first|rfl|exact J9 rfl (h _ _))
noncomputable def kn:Expr->Bool
 |.ListComp _ _ _ _=>true
 |.SetComp _ _ _ _=>true
 |.DictComp _ _ _ _ _=>true
 |_=>false
def ko (h:kn v=false):Ip v t line env=pure false:=by
 cases v<;>first|rfl|cases h
noncomputable def aq(K:Qa)(as:List Addr)(H:Hp)(D:bQ)(r:Rs):Prop:=match r with
 |.next e m'=>∀as' H' σ',Step as H as' H'->aJ K as' m' H'->aC K as' H' e σ'->D.nx σ' H'
 |.ret w m'=>∀as' H' v,Step as H as' H'->aJ K as' m' H'->ai K as' H' w v->D.rt v H'
 |_=>False
noncomputable def zZ(K:Qa)(g:En->Me->Rs):TS:=λD σ H=>∃as env m,aJ K as m H/\aC K as H env σ/\aq K as H D (g env m)
section
variable{K:Qa}{as as':List Addr}{H H':Hp}{m:Me}{D:bQ}
set_option tactic.hygienic true in
def aq.step{r:Rs}(h:aq K as H D r)(T:Step as H as' H'):aq K as' H' D r:=by
 cases r with
 |next e m'=>exact λas2 H2 σ' U S G=>h as2 H2 σ' (T.trans U) S G
 |ret w m'=>exact λas2 H2 v U S R=>h as2 H2 v (T.trans U) S R
 |no=>exact h
def aq.bind (h:aq K as H D (r.bindS env f))(k:∀w m' as' H' v,Step as H as' H'->aJ K as' m' H'->ai K as' H' w v->aq K as' H' D (f w m')->Q1 v H'):ak K as H Q1 r:=by
 cases r with
 |ok w m'=>exact λas2 H2 v U S R=>k w m' as2 H2 v U S R (aq.step (r:=f w m') h U)
 |no=>exact h
def aq.bindI (h:aq K as H D (r.bindS env f))(k:∀w m',aq K as H D (f w m')->(yD m' w).isSome=true/\∀as' H' J,Step as H as' H'->aJ K as' m' H'->oW K as' H' w J->R1 J H'):bO K as H R1 r:=by
 cases r with
 |ok w m'=>exact k w m' h
 |no=>exact h
theorem aq.next (h:aq K as H D (.next env m))(S:aJ K as m H)(G:aC K as H env σ):D.nx σ H:=h as H σ .refl S G
end
section
variable{cl:Nat->List Wd->Me->Rz}{X:Cx}{e o i:Ex}{x y z:Expr}{pos:Pos}
def Dm:cb X [] (zZ X.K (aT cl .skip)):=cb.imp jm λD σ H h=>by
 obtain⟨as,env,m,S,G,P⟩:=h;exact aq.next (m:=m) P S G
set_option tactic.hygienic true in
def BA {st:Stmt}(ha:PS X st (zZ X.K (aT cl a)))(hb:cb X sts (zZ X.K (aT cl b))):cb X (st::sts) (zZ X.K (aT cl (.seq a b))):=
 cb.imp (ya ha hb) λD σ H h=>by
  obtain⟨as,env,m,S,G,P⟩:=h;refine⟨as,env,m,S,G,?_⟩;have P':aq X.K as H D (match aT cl a env m with |.next e1 m1=>aT cl b e1 m1|r=>r):=P;cases hr:aT cl a env m with
  |next e1 m1=>
   rw[hr]at P';exact λas' H' σ' T S' G'=>⟨as',e1,m1,S',G',aq.step P' T⟩
  |ret w m1=>rw[hr]at P';exact P'
  |no=>rw[hr]at P';exact P'
def kq {K:Qa}{i:Nat}(h:zZ K (aT cl (.asg i e)) D σ H):ii (aH K (af cl e)) (yV i) D σ H:=by
 obtain⟨as,env,m,S,G,P⟩:=h;refine⟨as,env,m,S,G,aq.bind P λw m1 as1 H1 v T1 S1 R1 P1=>?_⟩;exact aq.next (m:=m1) P1 S1 ((G.mono S T1).set R1 i)
def Bz(he:PE X x (aH X.K (af cl e))):PS X (.Return (some x) pos) (zZ X.K (aT cl (.ret e))):=PS.imp (vI he) λD σ H h=>by
 obtain⟨as,env,m,S,G,P⟩:=h;refine⟨as,env,m,S,G,aq.bind P λw m1 as1 H1 v T1 S1 R1 P1=>?_⟩;exact P1 as1 H1 v .refl S1 R1
def B9(he:PE X x (aH X.K (af cl e)))(hc:kn x=false):PS X (.Expr x pos) (zZ X.K (aT cl (.expr e))):=PS.imp (CN he (ko hc)) λD σ H h=>by
 obtain⟨as,env,m,S,G,P⟩:=h;refine⟨as,env,m,S,G,aq.bind P λw m1 as1 H1 v T1 S1 R1 P1=>?_⟩;exact aq.next (m:=m1) P1 S1 (G.mono S T1)
def DG{st:Stmt}:PS X st (zZ X.K (aT cl .never)):=PS.imp Ee λD σ H h=>by
 obtain⟨as,env,m,S,G,P⟩:=h;exact P
def uK (hc:PT X x (yO X.K (af cl e)))(ha:cb X xs (zZ X.K (aT cl a)))(hb:cb X ys (zZ X.K (aT cl b))):PS X (.If x xs ys pos) (zZ X.K (aT cl (.ite e a b))):=
 PS.imp (qL hc ha hb) λD σ H h=>by
  obtain⟨as,env,m,S,G,P⟩:=h;refine⟨as,env,m,S,G,aq.bind P λw m1 as1 H1 v T1 S1 R1 P1=>?_⟩;cases w with
  |bl k=>
   obtain rfl:=aj.mp R1;refine⟨k,rfl,?_⟩;cases k with
   |true=>exact kH ⟨as1,env,m1,S1,G.mono S T1,P1⟩
   |false=>exact ju ⟨as1,env,m1,S1,G.mono S T1,P1⟩
  |_=>exact P1.elim
def ER {K:Qa}{o i:Wd}(S:aJ K as m H)(Ro:ai K as H o vo)(Ri:ai K as H i vi)(Rw:ai K as H w v)(h:aq K as H D ((wv o i w m).bindS env f))(k:∀m' H',Step as H as H'->aJ K as m' H'->aq K as H' D (f .non m')->Q H'):pO K vo vi v H Q:=by
 unfold wv at h;cases o with
 |ref l=>
  obtain⟨a,ha,rfl⟩:=aE.mp Ro;dsimp only at h;cases e:m[l]? with
  |none=>rw[e]at h;exact h.elim
  |some ob=>
   cases ob with
   |lst ys=>rw[e]at h;exact h.elim
   |dct ks ws=>
    rw[e]at h;dsimp only at h;obtain⟨a',xs,vs,ha',td,ek,r,rv,nd⟩:=vY S e;rw[ha]at ha';cases ha';cases eq:jx i with
    |none=>rw[eq]at h;exact h.elim
    |some q=>
     rw[eq]at h;dsimp only at h;obtain⟨b,rfl,qb⟩:=kl eq Ri;by_cases hl:ks.length<aF
     .rw[J7 hl]at h;refine⟨a,b,q,xs,rfl,rfl,qb,td,?_,λu ru=>?_⟩
      .rw[<-ek,QF]at hl;exact Wv hl
      .obtain ⟨T,S'⟩:=S.setD ha e td ek r rv nd qb Rw ru;exact k _ _ T S' (aq.step (r:=f .non _) h T)
     .rw[J8 hl]at h;exact h.elim
 |_=>exact h.elim
def qx {o i:Expr}(hs:yz i=true):∀v,assign (.Subscript o i p) env v=(do
   let ov <-holding [v] (eval o env)
   let iv <-holding [v,ov] (eval i env)
   standAt p
   holding [v,ov,iv] (Is ov iv v)
   release [v,ov,iv] []):=λv=>by
 cases i<;>first|rfl|cases hs
def B8 (hu:X.A.units+64<IJ)(ho:PE X x (aH X.K (af cl (.var j))))(hi:PE X y (aH X.K (af cl i)))(he:PE X z (aH X.K (af cl e)))(hs:yz y=true):PS X (.Assign [.Subscript x y p1] z pos) (zZ X.K (aT cl (.dput j i e))):=
 PS.imp (AZ he (A0 ho hi (uC hu) (qx hs)) (Dn (by intros;intro q;cases q)) BB) λD σ H h=>by
  obtain⟨as,env,m,S,G,P⟩:=h;refine⟨as,env,m,S,G,aq.bind P λw m1 as1 H1 v T1 S1 R1 P1=>?_⟩;refine⟨as1,env,m1,S1,G.mono S T1,aq.bind P1 λwo m2 as2 H2 vo T2 S2 R2 P2=>?_⟩;refine⟨as2,env,m2,S2,(G.mono S T1).mono S1 T2,aq.bind P2 λwi m3 as3 H3 vi T3 S3 R3 P3=>?_⟩;refine ER S3 (R2.mono S2 T3) R3 ((R1.mono S1 T2).mono S2 T3) P3 λm4 H4 T4 S4 P4=>?_;exact aq.next (m:=m4) P4 S4 ((((G.mono S T1).mono S1 T2).mono S2 T3).mono S3 T4)
end
section
variable{cl:Nat->List Wd->Me->Rz}{X:Cx}{e i j:Ex}{x y z u v:Expr}{pos:Pos}
noncomputable def fF:Bo->Bool
 |.add=>true
 |.sub=>true
 |.mulB=>true
 |_=>false
noncomputable def pA:Bo->Int->Int->Int
 |.sub=>λi j=>i-j
 |.mulB=>λi j=>i*j
 |_=>λi j=>i+j
noncomputable def pz:Bo->Int->Int->Prop
 |.mulB=>cy
 |_=>λ_ _=>True
noncomputable def pw(op:Bo):fV:=λx y H Q=>∃i j,x=.int i/\y=.int j/\pz op i j/\Q (.int (pA op i j)) H
def uJ (h:fF op=true):iU X (fx op) (pw op):=by
 intro pins s σ H x y v u Q I r1 r2 q;obtain⟨i,j,e1,e2,c,q⟩:=q;cases op with
 |add=>exact AX pins s σ H x y v u Q I r1 r2 ⟨i,j,e1,e2,q⟩
 |sub=>exact AW pins s σ H x y v u Q I r1 r2 ⟨i,j,e1,e2,q⟩
 |mulB=>exact EB pins s σ H x y v u Q I r1 r2 ⟨i,j,e1,e2,c,q⟩
 |_=>cases h
def B7 (h:fF op=true){i j:Int}:(pz op i j/\cE op (.int i) (.int j) m=.ok (.int (pA op i j)) m)\/cE op (.int i) (.int j) m=.no:=by
 cases op with
 |add=>exact .inl ⟨trivial,rfl⟩
 |sub=>exact .inl ⟨trivial,rfl⟩
 |mulB=>
  show(cy i j/\(if i.natAbs.log2<100000/\j.natAbs.log2<100000 then Rz.ok (.int (i*j)) m else .no)=_)\/(if i.natAbs.log2<100000/\j.natAbs.log2<100000 then Rz.ok (.int (i*j)) m else .no)=_;by_cases c:i.natAbs.log2<100000/\j.natAbs.log2<100000
  .rw[J7 c];exact .inl ⟨c,rfl⟩
  .rw[J8 c];exact .inr rfl
 |_=>cases h
def B6 {K:Qa}(hop:fF op=true)(Rx:ai K as H wx vx)(Ry:ai K as H wy vy)(h:aq K as H D (fK op wx wy m env f))(k:∀z,aq K as H D (f (.int z) m)->Q (.int z) H):pw op vx vy H Q:=by
 cases wx with
 |int i=>
  cases wy with
  |int j=>
   have h':aq K as H D ((cE op (.int i) (.int j) m).bindS env f):=h;rcases B7 hop (i:=i) (j:=j) (m:=m)with⟨c,e⟩|e
   .rw[e]at h';exact⟨i,j,aa.mp Rx,aa.mp Ry,c,k _ h'⟩
   .rw[e]at h';exact h'.elim
  |_=>exact h.elim
 |_=>exact h.elim
set_option tactic.hygienic true in
def Al (hop:fF op=true)(hN:X.N.Nodup)(hi:X.N[n]?=some nm)(hx:Loc X.env.scope nm)(hf:X.fn nm=true\/X.env.scope.names.lookup nm=some .local)(he:PE X x (aH X.K (af cl e))):
  PS X (.AugAssign (.Name nm p1) (fx op) x pos) (zZ X.K (aT cl (.aug n op e))):=PS.imp (AY hN hi hx he (uJ hop) hf) λD σ H h=>by
 obtain⟨as,env,m,S,G,P⟩:=h;have P':aq X.K as H D (match env[n]? with
  |some (some x)=>(af cl e env m).bindS env λy m1=>fK op x y m1 env λz m2=>.next (env.set n (some z)) m2
  |_=>.no):=P
 split at P'
 .rename_i wx hw;obtain⟨vx,hv,Rx⟩:=G.get n wx hw;refine⟨vx,hv,as,env,m,S,G,aq.bind P' λwy m1 as1 H1 vy T1 S1 R1 P1=>?_⟩;refine B6 hop (Rx.mono S T1) R1 P1 λz P2=>?_;exact aq.next (m:=m1) P2 S1 ((G.mono S T1).set (aa.mpr rfl) n)
 .exact P'.elim
end
section
variable{cl:Nat->List Wd->Me->Rz}{K:Qa}
structure cY(K:Qa)(g:TG)(st:Wd->En->Option En):Prop where
 ok:∀{as:List Addr}{H:Hp}{m:Me}{env env':En}{σ:St}{w:Wd}{v:V}{Q:L2.St->Hp->Prop},aJ K as m H->aC K as H env σ->ai K as H w v->st w env=some env'->(∀σ',aC K as H env' σ'->Q σ' H)->g v σ H Q
def gL(i:Nat):cY K (yV i) (λw env=>some (env.set i (some w))):=
 ⟨λS G R e k=>by cases e;exact k _ (G.set R i)⟩
set_option tactic.hygienic true in
def DF(i j:Nat):cY K (ij K 2 (vJ (yV i) (vJ (yV j) ik))) (cW i j):=by
 refine⟨λ{as H m env env' σ w v Q} S G R e k=>?_⟩;unfold cW at e;split at e
 .rename_i a b;cases e;obtain⟨p,vs,rfl,hq,rr⟩:=ah.mp R;obtain⟨va,vb,rfl,ra,rb⟩:=Br rr;exact⟨p,[va,vb],rfl,hq,rfl,va,[vb],rfl,vb,[],rfl,rfl,k _ ((G.set ra i).set rb j)⟩
 .cases e
set_option tactic.hygienic true in
def wE{g:TG}{st:Wd->En->Option En}{b:En->Me->Rs}(hg:cY K g st){D:bQ}{as1 as':List Addr}{H1 H':Hp}{m':Me}{env':En}{σ':St}{x:Wd}{v:V}{next:En->Me->Rs}{N:L2.St->Hp->Prop}(T:Step as1 H1 as' H')(S':aJ K as' m' H')(G':aC K as' H' env' σ')(Rx:ai K as' H' x v)
  (Pt:aq K as1 H1 D (match zM st b x env' m' with
    |.next e1 m1=>next e1 m1
    |r=>r))
  (hN:∀as2 m2 e2 σ2 H2,Step as' H' as2 H2->aJ K as2 m2 H2->aC K as2 H2 e2 σ2->aq K as1 H1 D (next e2 m2)->N σ2 H2) :
  g v σ' H' λσ2 H2=>zZ K b {D with nx:=N,ct:=N,bk:=D.nx} σ2 H2:=by
 unfold zM at Pt;cases hs:st x env' with
 |none=>rw[hs]at Pt;exact Pt.elim
 |some e2=>
  rw[hs]at Pt;simp only[]at Pt;refine hg.ok S' G' Rx hs λσ2 G2=>⟨as',e2,m',S',G2,?_⟩;cases hr:b e2 m' with
  |next e3 m3=>rw[hr]at Pt;exact λas3 H3 σ3 U S3 G3=>hN as3 m3 e3 σ3 H3 U S3 G3 Pt
  |ret w' m3=>rw[hr]at Pt;exact λas3 H3 v3 U S3 R3=>Pt as3 H3 v3 (T.trans U) S3 R3
  |no=>rw[hr]at Pt;exact Pt.elim
def DE {st:Wd->En->Option En}(hg:cY K g st)(h:zZ K (λenv m=>(it env m).bindS env λw m1=>io (zM st b) w env m1) D σ H):ig (fB K it) g (zZ K b) D σ H:=by
 obtain⟨as,env,m,S,G,P⟩:=h;refine⟨as,env,m,S,G,aq.bindI P λw m1 P1=>?_⟩;have seqs:∀(xs:List Wd),aq K as H D (ww (zM st b) xs env m1)->∀as1 H1 J,Step as H as1 H1->aJ K as1 m1 H1->qZ K as1 H1 J xs ->
   ∃W:Nat->Nat->L2.St->Hp->Prop,(∃m,W 0 m σ H1)/\∀i m σ H,W i m σ H ->
    (J.stop i H/\D.nx σ H)\/(J.go i H/\∃N:L2.St->Hp->Prop,(∀σ' H',N σ' H'->∃m',m'<m/\W (i+1) m' σ' H')/\∀x H',J.yld i H x H'->g x σ H' λσ2 H2=>zZ K b {D with nx:=N,ct:=N,bk:=D.nx} σ2 H2):=by
  intro xs Pc as1 H1 J T1 S1 hI;obtain⟨vs,ok,hJ,fQ,RL,stab⟩:=hI;have hlen:=RL.length;have Pc1:=aq.step Pc T1;refine⟨λi n σ' H'=>∃as' m' env',i<=xs.length/\n=xs.length-i/\Step as1 H1 as' H'/\aJ K as' m' H'/\aC K as' H' env' σ'/\ok H'/\ae K as' H' xs vs/\aq K as1 H1 D (ww (zM st b) (xs.drop i) env' m'),
   ⟨xs.length,as1,m1,env,WO _,rfl,.refl,S1,G.mono S T1,fQ,RL,Pc1⟩,?_⟩
  rintro i n σ' H' ⟨as',m',env',hi,rfl,T',S',G',okH,RL',Pi⟩;by_cases hlt:i<xs.length
  .refine .inr ⟨hJ.go i H' okH (by rw[<-hlen];exact hlt),λσ2 H2=>∃as2 m2 env2,i+1<=xs.length/\Step as1 H1 as2 H2/\aJ K as2 m2 H2/\aC K as2 H2 env2 σ2/\ok H2/\ae K as2 H2 xs vs/\aq K as1 H1 D (ww (zM st b) (xs.drop (i+1)) env2 m2),?_,λv H'' hy=>?_⟩
   .rintro σ2 H2 ⟨as2,m2,env2,q⟩;exact⟨xs.length-(i+1),by lia,as2,m2,env2,q.1,rfl,q.2⟩
   .obtain ⟨rfl,hv⟩:=hJ.yld i H' v H'' okH (by rw[<-hlen];exact hlt) hy;obtain⟨v',hv',Rx⟩:=RL'.get (i:=i) (x:=xs[i]) (by simp[hlt]);rw[hv]at hv';cases hv';rw[W8 hlt]at Pi;refine wE hg (next:=λe m=>ww (zM st b) (xs.drop (i+1)) e m) T' S' G' Rx Pi ?_;intro as2 m2 e2 σ2 H2 U S2 G2 P2;exact⟨as2,m2,e2,hlt,T'.trans U,S2,G2,stab _ _ (S'.kp U) okH,RL'.mono S' U,P2⟩
  .have e:i=xs.length:=by lia
   subst e;rw[List.drop_length]at Pi;exact .inl ⟨hJ.stop _ H' okH (by lia),Pi as' H' σ' T' S' G'⟩
 cases w with
 |tup xs=>exact⟨rfl,λas1 H1 J T1 S1 hI=>seqs xs P1 as1 H1 J T1 S1 hI⟩
 |rol xs=>exact⟨rfl,λas1 H1 J T1 S1 hI=>seqs xs P1 as1 H1 J T1 S1 hI⟩
 |ref l=>
  have P2:aq K as H D (xl (zM st b) l (aF+1) 0 env m1):=P1;refine⟨?_,λas1 H1 J T1 S1 hI=>?_⟩
  .show (zn m1 l).isSome=true;cases e:zn m1 l with
   |some xs=>rfl
   |none=>
    unfold xl at P2;rw[e]at P2;exact P2.elim
  .obtain ⟨a,ha,rfl⟩:=hI;have Pc1:=aq.step P2 T1;refine⟨λi n σ' H'=>∃as' m' env',as'[l]?=some a/\Step as1 H1 as' H'/\aJ K as' m' H'/\aC K as' H' env' σ'/\aq K as1 H1 D (xl (zM st b) l n i env' m'),⟨aF+1,as1,m1,env,ha,.refl,S1,G.mono S T1,Pc1⟩,?_⟩;rintro i n σ' H' ⟨as',m',env',hl,T',S',G',Pi⟩;cases n with
   |zero=>exact Pi.elim
   |succ n=>
    unfold xl at Pi;cases e:zn m' l with
    |none=>rw[e]at Pi;exact Pi.elim
    |some xs=>
     rw[e]at Pi;simp only[]at Pi;obtain⟨a',vs,ha',eH,RL⟩:=zI S' (zw e);rw[hl]at ha';cases ha';cases ex:xs[i]? with
     |none=>
      rw[ex]at Pi;have hle:vs.length<=i:=by rw[<-RL.length];exact QR.mp ex
      exact .inl ⟨⟨vs,bt.of eH,hle⟩,Pi as' H' σ' T' S' G'⟩
     |some x=>
      rw[ex]at Pi;obtain⟨v0,hv0,Rx⟩:=RL.get ex;refine .inr ⟨⟨vs,v0,bt.of eH,hv0⟩,λσ2 H2=>∃as2 m2 env2,as2[l]?=some a/\Step as1 H1 as2 H2/\aJ K as2 m2 H2/\aC K as2 H2 env2 σ2/\aq K as1 H1 D (xl (zM st b) l n (i+1) env2 m2),?_,λv H'' hy=>?_⟩
      .rintro σ2 H2 q;exact⟨n,Q4 _,q⟩
      .obtain ⟨rfl,hy⟩:=hy;have:=hy vs (bt.of eH);rw[hv0]at this;cases this;refine wE hg (next:=λe m=>xl (zM st b) l n (i+1) e m) T' S' G' Rx Pi ?_;intro as2 m2 e2 σ2 H2 U S2 G2 P2;exact⟨as2,m2,e2,U.get hl,T'.trans U,S2,G2,P2⟩
 |non=>exact P1.elim
 |bl k=>exact P1.elim
 |int i=>exact P1.elim
 |str s=>exact P1.elim
def EQ (hg:cY K g (cW i j))(hJ:jE K as1 H1 J gz)(S1:aJ K as1 m1 H1)(G1:aC K as1 H1 env σ)(P:aq K as1 H1 D (yX (zM (cW i j) b) gz (aF+1) 0 env m1)):
  ∃W:Nat->Nat->L2.St->Hp->Prop,(∃m,W 0 m σ H1)/\∀i m σ H,W i m σ H ->
   (J.stop i H/\D.nx σ H)\/(J.go i H/\∃N:L2.St->Hp->Prop,(∀σ' H',N σ' H'->∃m',m'<m/\W (i+1) m' σ' H')/\∀x H',J.yld i H x H'->g x σ H' λσ2 H2=>zZ K b {D with nx:=N,ct:=N,bk:=D.nx} σ2 H2):=by
 refine⟨λi0 n σ' H'=>∃as' m' env',(∀(l:Nat) (a:Addr),as1[l]?=some a->as'[l]?=some a)/\Step as1 H1 as' H'/\aJ K as' m' H'/\aC K as' H' env' σ'/\aq K as1 H1 D (yX (zM (cW i j) b) gz n i0 env' m'),⟨aF+1,as1,m1,env,λ_ _ e=>e,.refl,S1,G1,P⟩,?_⟩;rintro i0 n σ' H' ⟨as',m',env',hl,T',S',G',Pi⟩;cases n with
 |zero=>exact Pi.elim
 |succ n=>
  unfold yX at Pi;obtain⟨q1,q2⟩:=hJ as' m' H' hl T' S' i0;cases e:gz i0 m' with
  |none=>rw[e]at Pi;exact Pi.elim
  |some o=>
   rw[e]at Pi;cases o with
   |none=>exact .inl ⟨q1 e,Pi as' H' σ' T' S' G'⟩
   |some p=>
    obtain⟨x,y⟩:=p;simp only[]at Pi;obtain⟨go,yl⟩:=q2 x y e;refine .inr ⟨go,λσ2 H2=>∃as2 m2 env2,(∀(l:Nat) (a:Addr),as1[l]?=some a->as2[l]?=some a)/\Step as1 H1 as2 H2/\aJ K as2 m2 H2/\aC K as2 H2 env2 σ2/\aq K as1 H1 D (yX (zM (cW i j) b) gz n (i0+1) env2 m2),?_,λv H'' hy=>?_⟩
    .rintro σ2 H2 q;exact⟨n,Q4 _,q⟩
    .obtain ⟨x',y',⟨T,hT,rfl,rfl⟩,Rx,Ry⟩:=yl v H'' hy;have U:Step as' H' as' (aG H' T (.tup [x',y'])):=Step.updD .refl hT;have S2:aJ K as' m' (aG H' T (.tup [x',y'])):=S'.keep U λb _ o e=>by rw[ze (zo e hT)];exact e
     have Rp:ai K as' (aG H' T (.tup [x',y'])) (.tup [x,y]) (.ref T):=ah.mpr ⟨T,[x',y'],rfl,bJ.of zf,(ae.one (Rx.mono S' U)).append (.one (Ry.mono S' U))⟩;refine wE hg (next:=λe m=>yX (zM (cW i j) b) gz n (i0+1) e m) (T'.trans U) S2 (G'.mono S' U) Rp Pi ?_;intro as2 m2 e2 σ2 H2 U2 S3 G3 P2;exact⟨as2,m2,e2,λl a q=>U2.get (hl l a q),(T'.trans U).trans U2,S3,G3,P2⟩
def qy (h:g i m=none):yX b g (k+1) i env m=.no:=by
 unfold yX;rw[h]
def EO (h:zZ K (aT cl (.forZ i j a b body)) D σ H):
  ig (lh K (vL (aH K (af cl a)) (vL (aH K (af cl b)) fI))) (ij K 2 (vJ (yV i) (vJ (yV j) ik))) (zZ K (aT cl body)) D σ H:=by
 obtain⟨as,env,m,S,G,P⟩:=h;refine⟨as,env,m,S,G,aq.bind P λw m1 as1 H1 v T1 S1 R1 P1=>?_⟩;refine⟨as1,env,m1,S1,G.mono S T1,aq.bind P1 λw2 m2 as2 H2 v2 T2 S2 R2 P2=>?_⟩;have G2:=(G.mono S T1).mono S1 T2;have cD:∃xs ys,xZ m2 w=some xs/\xZ m2 w2=some ys:=by
  cases e:zp .zip w w2 0 m2 with
  |none=>rw[qy e]at P2;exact P2.elim
  |some o=>exact ki e
 obtain⟨xs,ys,e1,e2⟩:=cD;obtain⟨b1,l1,us,rfl,s1,q1⟩:=cH.of S2 (R1.mono S1 T2) e1;obtain⟨b2,l2,vs,rfl,s2,q2⟩:=cH.of S2 R2 e2;exact⟨b1,b2,l1,l2,us,vs,rfl,q1,q2,EQ (DF i j) (kg S2 s1 s2) S2 G2 P2⟩
set_option tactic.hygienic true in
def qz (h:zZ K (aT cl (.while c b)) D σ H):rJ (yO K (af cl c)) (zZ K (aT cl b)) D σ H:=by
 obtain⟨as,env,m,S,G,P⟩:=h;refine⟨λn σ' H'=>∃as' m' env',Step as H as' H'/\aJ K as' m' H'/\aC K as' H' env' σ'/\aq K as H D (vU (af cl c) (aT cl b) n env' m'),⟨1000000,as,m,env,.refl,S,G,P⟩,?_⟩;rintro n σ' H' ⟨as',m',env',T',S',G',Pi⟩;cases n with
 |zero=>exact Pi.elim
 |succ n=>
  unfold vU at Pi;refine⟨as',env',m',S',G',?_⟩;cases hr:af cl c env' m' with
  |no=>rw[hr]at Pi;exact Pi.elim
  |ok w m1=>
   rw[hr]at Pi;intro as1 H1 v T1 S1 R1;cases w with
   |bl k=>
    obtain rfl:=aj.mp R1;refine⟨k,rfl,?_⟩;cases k with
    |false=>exact ju (Pi as1 H1 σ' (T'.trans T1) S1 (G'.mono S' T1))
    |true=>
     refine kH ⟨λσ2 H2=>∃as2 m2 env2,Step as H as2 H2/\aJ K as2 m2 H2/\aC K as2 H2 env2 σ2/\aq K as H D (vU (af cl c) (aT cl b) n env2 m2),λσ2 H2 q=>⟨n,Q4 _,q⟩,as1,env',m1,S1,G'.mono S' T1,?_⟩;simp only[]at Pi;have T2:=T'.trans T1;cases hb:aT cl b env' m1 with
     |next e3 m3=>rw[hb]at Pi;exact λas3 H3 σ3 U S3 G3=>⟨as3,m3,e3,T2.trans U,S3,G3,Pi⟩
     |ret w' m3=>rw[hb]at Pi;exact λas3 H3 v3 U S3 R3=>Pi as3 H3 v3 (T2.trans U) S3 R3
     |no=>rw[hb]at Pi;exact Pi.elim
   |_=>exact Pi.elim
end
section
variable{X:Cx}{cl:Nat->List Wd->Me->Rz}
noncomputable def xr(n j:Nat):Ex->Bool
 |.var i=>decide (i<n) && ! decide (i=j)
 |.lit _=>true
 |.unit=>true
 |.pair a b=>xr n j a&&xr n j b
 |.call _ a=>xr n j a
 |.blt _ a=>xr n j a
 |.idx a b=>xr n j a&&xr n j b
 |_=>false
def pW (h:∀i,i<n->i≠j->e1[i]?=e2[i]?)(e:Ex):∀(m:Me),xr n j e=true->af cl e e1 m=af cl e e2 m:=by
 induction e with
 |var i=>
  intro m q;have q:=Qs.mp (show(decide (i<n) && ! decide (i=j))=true from q);show(match e1[i]? with|some (some w)=>Rz.ok w m|_=>.no)=(match e2[i]? with|some (some w)=>Rz.ok w m|_=>.no);rw[h i (Kb q.1) (by simpa using q.2)]
 |lit _=>exact λ_ _=>rfl
 |unit=>exact λ_ _=>rfl
 |pair a b ia ib=>
  intro m q;have q:=Qs.mp (show(xr n j a&&xr n j b)=true from q);show(af cl a e1 m).bind (λx m1=>(af cl b e1 m1).bind λy m2=>.ok (.tup (x::zh y)) m2)=(af cl a e2 m).bind (λx m1=>(af cl b e2 m1).bind λy m2=>.ok (.tup (x::zh y)) m2);rw[ia m q.1];congr 1;funext x m1;rw[ib m1 q.2]
 |call k a ia=>
  intro m q;show(af cl a e1 m).bind _=(af cl a e2 m).bind _;rw[ia m q]
 |blt k a ia=>
  intro m q;show(af cl a e1 m).bind _=(af cl a e2 m).bind _;rw[ia m q]
 |idx a b ia ib=>
  intro m q;have q:=Qs.mp (show(xr n j a&&xr n j b)=true from q);show(af cl a e1 m).bind (λx m1=>(af cl b e1 m1).bind λy m2=>xY x y m2)=(af cl a e2 m).bind (λx m1=>(af cl b e2 m1).bind λy m2=>xY x y m2);rw[ia m q.1];congr 1;funext x m1;rw[ib m1 q.2]
 |_=>exact λ_ q=>J9 (show false=true from q) (by decide)
noncomputable def dF(p:List Nat×Wd):Wd:=.tup [.str p.1,p.2]
def Ak(ws:List (List Nat×Wd))(i:Nat)(m:Me):zp .ptp (.tup (ws.map dF)) (.int 0) i m=some (ws[i]?.map λp=>(.str p.1,p.2)):=by
 show(match (ws.map dF)[i]? with
  |none=>some none
  |some w=>(ls w).map some)=_
 rw[QD];cases ws[i]?<;>rfl
def DD {ws:List (List Nat×Wd)}(hj:j<env.length)(le:xr (env.length+1) j elt=true)(lm:xr (env.length+1) j mx=true)(S:aJ X.K as m H)(G:aC X.K as H (env.set j none) σ)(hs:σ[j]?=some (some (.ref p)))(hp:H p=some (xh p o))(np:p∉as)(f:FO X.prog X.w p o ep kvs)(hl:kvs.length=ws.length)(hk:∀(i:Nat) (k:List Nat) (w:Wd),ws[i]?=some (k,w)->∃v,kvs[i]?=some ((Sum.inr ⟨k.toArray⟩:bB),v)/\y8 kvs (Sum.inr ⟨k.toArray⟩)=some v/\ai X.K as H w v)(P:ak X.K as H Q (zL (λu v m=>af cl (.cmp .eq (.var (env.length+1)) mx) (env++[some u]++[some v]) m) (λu v m=>af cl elt (env++[some u]++[some v]) m) (zp .ptp (.tup (ws.map dF)) (.int 0)) (aF+1) 0 [] m)):
  vO iJ (sP X (vH j)) (qN (dQ (rC X.K .eq) (dQ (kZ X) (vH j) (vH env.length)) (aH X.K (af cl mx)))) (aH X.K (af cl elt)) σ H Q:=by
 have hjs:j<σ.length:=(Qb.mp hs).1;have hls:env.length=σ.length:=by have:=G.len;simpa using this
 refine⟨.ref p,hs,p,o,ep,kvs,rfl,f,hp,λD hD=>?_⟩;refine⟨λi n ys H'=>∃as' m' acc,cI X.K as H D (env.set j none) σ as' m' acc ys H' /\
  ak X.K as H Q (zL (λu v m=>af cl (.cmp .eq (.var (env.length+1)) mx) (env++[some u]++[some v]) m) (λu v m=>af cl elt (env++[some u]++[some v]) m) (zp .ptp (.tup (ws.map dF)) (.int 0)) n i acc m'),⟨aF+1,as,m,[],cI.start (as:=as) (H:=H) S G hD,P⟩,?_⟩
 rintro i n ys H' ⟨as',m',acc,M,Pi⟩;have hp':=M.T.frame _ _ hp np;cases n with
 |zero=>exact Pi.elim
 |succ n=>
  unfold zL at Pi;rw[Ak]at Pi;cases hw:ws[i]? with
  |none=>
   rw[hw]at Pi;have hi:=QR.mp hw;exact .inl ⟨⟨hp',by lia⟩,y9 M.S M.T hD M.hD M.n M.R Pi⟩
  |some kw=>
   obtain⟨k,w⟩:=kw;rw[hw]at Pi;obtain⟨v,hv1,hv2,R⟩:=hk i k w hw;have hi:=(Qb.mp hv1).1;refine .inr ⟨⟨hp',hi⟩,λx H'' hy=>?_⟩;obtain⟨rfl,kv,hkv,rfl⟩:=hy;rw[hv1]at hkv;cases hkv;have hlow:∀i',i'<env.length+1->i'≠j->(env++[some (Wd.str k)]++[some w])[i']?=(env.set j none++[some (Wd.str k)])[i']?:=λi' h1 h2=>by
    rw[Qh (by simp;lia)];by_cases z:i'<env.length
    .rw[Qh z,Qh (by simpa using z),Qo (λe=>h2 e.symm)]
    .rw[Qi (by lia),Qi (by simp;lia),Wr]
   have hvar:∀m,af cl (.var (env.length+1)) (env++[some (Wd.str k)]++[some w]) m=.ok w m:=λm=>by
    show(match (env++[some (Wd.str k)]++[some w])[env.length+1]? with|some (some w)=>Rz.ok w m|_=>.no)=_;rw[Qi (by simp)];simp
   have e1:∀m,af cl (.cmp .eq (.var (env.length+1)) mx) (env++[some (Wd.str k)]++[some w]) m=(af cl mx (env.set j none++[some (Wd.str k)]) m).bind λy m2=>cL .eq w y m2:=λm=>by
    show(af cl (.var (env.length+1)) _ m).bind (λx m1=>(af cl mx _ m1).bind λy m2=>cL .eq x y m2)=_;rw[hvar m];show(af cl mx (env++[some (Wd.str k)]++[some w]) m).bind (λy m2=>cL .eq w y m2)=_;rw[pW hlow mx m lm]
   have Pi:ak X.K as H Q (((af cl mx (env.set j none++[some (Wd.str k)]) m').bind λy m2=>cL .eq w y m2).bind λb m1=>match b with
     |.bl true=>(af cl elt (env++[some (Wd.str k)]++[some w]) m1).bind λz m2=>if acc.length<aF then zL (λu v m=>af cl (.cmp .eq (.var (env.length+1)) mx) (env++[some u]++[some v]) m) (λu v m=>af cl elt (env++[some u]++[some v]) m) (zp .ptp (.tup (ws.map dF)) (.int 0)) n (i+1) (acc++[z]) m2 else .no
     |.bl false=>zL (λu v m=>af cl (.cmp .eq (.var (env.length+1)) mx) (env++[some u]++[some v]) m) (λu v m=>af cl elt (env++[some u]++[some v]) m) (zp .ptp (.tup (ws.map dF)) (.int 0)) n (i+1) acc m1
     |_=>.no):=by
    have:=Pi;simp only[QM]at this;rw[e1]at this;exact this
   have G1:aC X.K as' H'' (env.set j none++[some (Wd.str k)]) (σ++[some (V.str ⟨k.toArray⟩)]):=M.G.push (az.mpr rfl);refine⟨[V.str ⟨k.toArray⟩],rfl,?_⟩;refine⟨.ref p,by rw[Qh hjs];exact hs,.str ⟨k.toArray⟩,by rw[hls,Qi (Qf _)];simp,p,o,ep,kvs,Sum.inr ⟨k.toArray⟩,v,rfl,rfl,f,hp',hv2,?_⟩;have Pi':ak X.K as H Q ((af cl mx (env.set j none++[some (Wd.str k)]) m').bind λy m2=>(cL .eq w y m2).bind λb m1=>match b with
     |.bl true=>(af cl elt (env++[some (Wd.str k)]++[some w]) m1).bind λz m2=>if acc.length<aF then zL (λu v m=>af cl (.cmp .eq (.var (env.length+1)) mx) (env++[some u]++[some v]) m) (λu v m=>af cl elt (env++[some u]++[some v]) m) (zp .ptp (.tup (ws.map dF)) (.int 0)) n (i+1) (acc++[z]) m2 else .no
     |.bl false=>zL (λu v m=>af cl (.cmp .eq (.var (env.length+1)) mx) (env++[some u]++[some v]) m) (λu v m=>af cl elt (env++[some u]++[some v]) m) (zp .ptp (.tup (ws.map dF)) (.int 0)) n (i+1) acc m1
     |_=>.no):=by
    cases z:af cl mx (env.set j none++[some (Wd.str k)]) m' with
    |ok y m2=>rw[z]at Pi;exact Pi
    |no=>rw[z]at Pi;exact Pi
   refine⟨as',_,m',M.S,G1,eD Pi' M.T λy m2 as2 H2 u T2 S2 R2 P2=>?_⟩;have M2:=M.go T2 S2;refine⟨as2,m2,w,y,S2,(R.mono S M.T).mono M.S T2,R2,eD P2 M2.T λwb m3 as3 H3 vb T3 S3 R3 P3=>?_⟩;have M3:=M2.go T3 S3;cases wb with
   |bl b=>
    obtain rfl:=aj.mp R3;refine⟨b,rfl,?_⟩;cases b with
    |false=>exact ju ⟨n,Q4 _,as3,m3,acc,M3,P3⟩
    |true=>
     have P3:ak X.K as H Q ((af cl elt (env++[some (Wd.str k)]++[some w]) m3).bind λz m2=>if acc.length<aF then zL (λu v m=>af cl (.cmp .eq (.var (env.length+1)) mx) (env++[some u]++[some v]) m) (λu v m=>af cl elt (env++[some u]++[some v]) m) (zp .ptp (.tup (ws.map dF)) (.int 0)) n (i+1) (acc++[z]) m2 else .no):=P3;rw[pW hlow elt m3 le]at P3;refine kH ⟨as3,_,m3,S3,(G1.mono M.S T2).mono S2 T3,eD P3 M3.T λwy m4 as4 H4 vy T4 S4 R4 P4=>?_⟩;have M4:=M3.go T4 S4;by_cases hlm:acc.length<aF
     .rw[J7 hlm]at P4;exact⟨M4.hD,by rw[<-M4.R.length];exact Qe hlm yq,n,Q4 _,as4,m4,acc++[wy],M4.push hD R4,P4⟩
     .rw[J8 hlm]at P4;exact P4.elim
   |_=>exact P3.elim
def Aj(k:List Nat)(a:Ex)(env:En)(m:Me):af cl (du k a) env m=(af cl a env m).bind λw m1=>.ok (dF (k,w)) m1:=by
 show((((af cl a env m).bind λy m2=>(Rz.ok (.tup []) m2).bind λz m3=>.ok (.tup (y::zh z)) m3).bind λy m2=>.ok (.tup (Wd.str k::zh y)) m2).bind λx m1=>if(zh x).length<=aF then .ok (.tup (zh x)) m1 else .no)=_;cases af cl a env m with
 |ok w m1=>
  show(if([Wd.str k,w]:List Wd).length<=aF then Rz.ok (.tup [.str k,w]) m1 else .no)=_;rw[J7 (show([Wd.str k,w]:List Wd).length<=aF by show 2<=aF;decide)];rfl
 |no=>rfl
def DC (h1:af cl (kI a b c d) env m=.ok w m'):
  ∃wa m1 wb m2 wc m3 wd,af cl a env m=.ok wa m1/\af cl b env m1=.ok wb m2/\af cl c env m2=.ok wc m3/\af cl d env m3=.ok wd m'/\w=.tup [wa,wb,wc,wd]:=by
 obtain⟨z,mz,g1,g2⟩:=cN (show(af cl (.pair a (.pair b (.pair c (.pair d .unit)))) env m).bind (λx m1=>if(zh x).length<=aF then Rz.ok (.tup (zh x)) m1 else .no)=_ from h1);obtain⟨wa,m1,p1,q1⟩:=cN (show(af cl a env m).bind (λx m1=>(af cl (.pair b (.pair c (.pair d .unit))) env m1).bind λy m2=>Rz.ok (.tup (x::zh y)) m2)=_ from g1);obtain⟨yb,n1,p2,q2⟩:=cN q1;obtain⟨wb,m2,p3,q3⟩:=cN (show(af cl b env m1).bind (λx m1=>(af cl (.pair c (.pair d .unit)) env m1).bind λy m2=>Rz.ok (.tup (x::zh y)) m2)=_ from p2);obtain⟨yc,n2,p4,q4⟩:=cN q3;obtain⟨wc,m3,p5,q5⟩:=cN (show(af cl c env m2).bind (λx m1=>(af cl (.pair d .unit) env m1).bind λy m2=>Rz.ok (.tup (x::zh y)) m2)=_ from p4);obtain⟨yd,n3,p6,q6⟩:=cN q5;obtain⟨wd,m4,p7,q7⟩:=cN (show(af cl d env m3).bind (λx m1=>(Rz.ok (.tup []) m1).bind λy m2=>Rz.ok (.tup (x::zh y)) m2)=_ from p6);cases q7;cases q6;cases q4;cases q2
 replace g2:(if([wa,wb,wc,wd]:List Wd).length<=aF then Rz.ok (.tup [wa,wb,wc,wd]) mz else .no)=.ok w m':=g2
 rw[J7 (show([wa,wb,wc,wd]:List Wd).length<=aF by show 4<=aF;decide)]at g2;cases g2;exact⟨wa,m1,wb,m2,wc,m3,wd,p1,p3,p5,p7,rfl⟩
def vC (h:af cl (du k a) env m=.ok w m'):∃u,af cl a env m=.ok u m'/\w=dF (k,u):=by
 rw[Aj]at h;obtain⟨u,m1,h1,h2⟩:=cN h;cases h2;exact⟨u,h1,rfl⟩
def DB {K:Qa}(h:aq K as H D (r.bindS env λw m1=>.ret w m1)):ak K as H D.rt r:=by
 cases r with
 |ok w m'=>exact h
 |no=>exact h
def Ai {c1 c2 c3 c4}(hu:X.A.units+64<IJ)(hc:X.calm=true)(hN:X.N.Nodup)(hj:X.N[j]?=some mkn)(hl:Loc X.env.scope mkn)(hf:X.fn mkn=true)(e1:s1.cps.toList=k1)(e2:s2.cps.toList=k2)(e3:s3.cps.toList=k3)(e4:s4.cps.toList=k4)(n12:k1≠k2)(n13:k1≠k3)(n14:k1≠k4)(n23:k2≠k3)(n24:k2≠k4)(n34:k3≠k4)(hsw:Ip (.Dict [some (.Constant (.str s1) c1 p1),some (.Constant (.str s2) c2 p2),some (.Constant (.str s3) c3 p3),some (.Constant (.str s4) c4 p4)] [x1,x2,x3,x4] pd) (some (.Name mkn p0)) pa.line X.env=pure false)(ha:PE X x1 (aH X.K (af cl a)))(hb:PE X x2 (aH X.K (af cl b)))(hcc:PE X x3 (aH X.K (af cl c)))(hd:PE X x4 (aH X.K (af cl d)))(hv:PE X (.Name mkn pi) (vH j))(B:bD X scope [side])(hm:∀Xc,bp X scope [side] Xc->PE Xc (.Name mkn pm) (vH j)/\PE Xc (.Name side ps) (vH X.N.length)/\PE Xc xm (aH X.K (af cl mx))/\PE Xc xe (aH X.K (af cl elt)))(hmk:II .Eq xm=false)(le:xr (X.N.length+1) j elt=true)(lm:xr (X.N.length+1) j mx=true):
  cb X [.Assign [.Name mkn p0] (.Dict [some (.Constant (.str s1) c1 p1),some (.Constant (.str s2) c2 p2),some (.Constant (.str s3) c3 p3),some (.Constant (.str s4) c4 p4)] [x1,x2,x3,x4] pd) pa,
   .Return (some (.ListComp xe [⟨.Name side pt,.Name mkn pi,[.Compare (.Subscript (.Name mkn pm) (.Name side ps) pq) [.Eq] [xm] pc],0⟩] scope pl)) pr] (zZ X.K (aT cl (.ret (lc X.N.length k1 k2 k3 k4 a b c d mx elt)))):=by
 obtain rfl:=jF e1;obtain rfl:=jF e2;obtain rfl:=jF e3;obtain rfl:=jF e4;intro pins s σ H D I h;have hlen:=I.len;have body:∀Xc,bp X scope [side] Xc->eM Xc [.Compare (.Subscript (.Name mkn pm) (.Name side ps) pq) [.Eq] [xm] pc] (qN (dQ (rC X.K .eq) (dQ (kZ X) (vH j) (vH X.N.length)) (aH X.K (af cl mx))))/\PE Xc xe (aH X.K (af cl elt)):=λXc c=>by
  obtain⟨h1,h2,h3,h4⟩:=hm Xc c;refine⟨qS ?_,h4⟩;have q:=qO (pos:=pc) (v5 (X:=Xc) (by rw[c.A];exact hu) .eq) (qQ (pos:=pq) nr h1 h2 (λ_ _=>rfl)) h3 hmk;have er:kZ Xc=kZ X:=by unfold kZ;rw[c.prog,c.w]
  rw[c.K,er]at q;exact q
 refine(ya (jn hN hj hl (Es (wB wJ ha (wB wJ hb (wB wJ hcc (wB wJ hd Da)))) rfl rfl (by simp) (by show 4<=15;decide)) hsw (.inl hf)) (wr (vI (xF B hc (xD B) (Et hv) body)))) pins s σ H D I ?_;obtain⟨as,env,m,S,G,P⟩:=h;have hle:env.length=X.N.length:=by rw[G.len,hlen]
 have P:ak X.K as H D.rt ((af cl (kI (du k1 a) (du k2 b) (du k3 c) (du k4 d)) env m).bind λx m1=>(Rz.ok (.int 0) m1).bind λy m2=>
   zL (λu v m=>af cl (.cmp .eq (.var (X.N.length+1)) mx) (env++[some u]++[some v]) m) (λu v m=>af cl elt (env++[some u]++[some v]) m) (zp .ptp x y) (aF+1) 0 [] m2):=DB P
 cases hr:af cl (kI (du k1 a) (du k2 b) (du k3 c) (du k4 d)) env m with
 |no=>rw[hr]at P;exact P.elim
 |ok w m4=>
  rw[hr]at P;obtain⟨ta,m1,tb,m2,tc,m3,td,ea,eb,ec,ed,rfl⟩:=DC hr;obtain⟨wa,fa,rfl⟩:=vC ea;obtain⟨wb,fb,rfl⟩:=vC eb;obtain⟨wc,fc,rfl⟩:=vC ec;obtain⟨wd,fd,rfl⟩:=vC ed;intro p hpn;have T0:Step as H as (aG H p (.dK [])):=⟨⟨[],by simp⟩,λb o h _=>by rw[ze (zo h hpn)];exact h,λb hb=>.inl hb⟩;have S0:aJ X.K as m (aG H p (.dK [])):=S.keep T0 λb _ o e=>by rw[ze (zo e hpn)];exact e
  have G0:=G.mono S T0;have h0:aG H p (.dK []) p=some (.dK []):=zf;have n0:p∉as:=S.new hpn;refine⟨as,env,m,S0,G0,?_⟩;rw[fa];intro as1 H1 va T1 S1 R1;have h1:=T1.frame _ _ h0 n0;have n1:=T1.out h0 n0;have G1:=G0.mono S0 T1;refine⟨as1,env,m1,S1,G1,?_⟩;rw[fb];intro as2 H2 vb T2 S2 R2;have h2:=T2.frame _ _ h1 n1;have n2:=T2.out h1 n1;have G2:=G1.mono S1 T2;refine⟨as2,env,m2,S2,G2,?_⟩;rw[fc];intro as3 H3 vc T3 S3 R3;have h3:=T3.frame _ _ h2 n2;have n3:=T3.out h2 n2;have G3:=G2.mono S2 T3;refine⟨as3,env,m3,S3,G3,?_⟩;rw[fd];intro as4 H4 vd T4 S4 R4;have h4:=T4.frame _ _ h3 n3;have n4:=T4.out h3 n3;have G4:=G3.mono S3 T4;have ne:∀{u v:List Nat},u≠v->(Sum.inr ⟨u.toArray⟩:bB)≠Sum.inr ⟨v.toArray⟩:=λ{u v} h e=>h (by
   have e:=Sum.inr.inj e;have e:u.toArray=v.toArray:=Str.mk.inj e;simpa using J5 Wm e)
  refine⟨h4,[((Sum.inr ⟨k1.toArray⟩:bB),va),(Sum.inr ⟨k2.toArray⟩,vb),(Sum.inr ⟨k3.toArray⟩,vc),(Sum.inr ⟨k4.toArray⟩,vd)],rfl,(by show 4<=15;decide),by simp[n12,n13,n14,n23,n24,n34],λo ep f=>?_⟩;have T04:=((T0.trans T1).trans T2).trans (T3.trans T4);have T5:Step as H as4 (aG H4 p (xh p o)):=⟨T04.pre,λb o h hb=>by rw[ze (zo h hpn)];exact T04.frame b o h hb,T04.fresh⟩;have k6:Kp X.K H4 (aG H4 p (xh p o)):=Kp.updL h4 trivial;have S5:aJ X.K as4 m4 (aG H4 p (xh p o)):=S4.updK k6 λb hb o e=>by rw[ze (by rintro rfl;exact n4 hb)];exact e
  have G5:aC X.K as4 (aG H4 p (xh p o)) (env.set j none) (σ.set j (some (.ref p))):=by
   have Gk:=G4.kp k6;refine⟨by simp[Gk.len],λi w e=>?_⟩;by_cases z:i=j
   .subst z;rw[List.getElem?_set_self' ]at e;cases hz:env[i]? with
    |none=>rw[hz]at e;cases e
    |some q=>rw[hz]at e;cases e
   .rw[Qo (λq=>z q.symm)]at e ⊢;exact Gk.get i w e
  have hjn:j<X.N.length:=(Qb.mp hj).1;have res:=DD (X:=X) (cl:=cl) (elt:=elt) (mx:=mx) (env:=env) (σ:=σ.set j (some (.ref p))) (m:=m4) (H:=aG H4 p (xh p o)) (Q:=D.rt) (p:=p) (o:=o) (ep:=ep) (j:=j) (ws:=[(k1,wa),(k2,wb),(k3,wc),(k4,wd)])
   (by lia) (by rw[hle];exact le) (by rw[hle];exact lm) S5 G5 (by rw[QW (by lia)]) zf n4 f rfl (λi k w hw=>by
    match i,hw with
    |0,hw=>cases hw;exact⟨va,rfl,by simp[y8],((((R1.mono S1 T2).mono S2 T3).mono S3 T4).kp k6)⟩
    |1,hw=>cases hw;exact⟨vb,rfl,by simp[y8,n12],(((R2.mono S2 T3).mono S3 T4).kp k6)⟩
    |2,hw=>cases hw;exact⟨vc,rfl,by simp[y8,n13,n23],((R3.mono S3 T4).kp k6)⟩
    |3,hw=>cases hw;exact⟨vd,rfl,by simp[y8,n14,n24,n34],(R4.kp k6)⟩
    |i+4,hw=>simp at hw) (by
    rw[hle];exact ak.step P T5)
  rw[hle]at res;exact res
end
section
variable{K:Qa}{cl:Nat->List Wd->Me->Rz}
def DA (e:m[l]?=some (.dct ks ws)):wz m l=ks.length:=by
 unfold wz;rw[e]
def B5 {xs:List TK}{i:Nat}(h:xs[i]?=some k):(xs.map (·.1))[i]?=some k.1:=by rw[QD,h];rfl
def Fj (hK:X.K=K)(h:zZ K (aT cl (.forD i x body)) D σ H):
  ig (sO X (aH K (af cl (.var x)))) (yV i) (zZ K (aT cl body)) D σ H:=by
 subst hK;obtain⟨as,env,m,S,G,P⟩:=h;refine⟨as,env,m,S,G,aq.bind P λw m1 as1 H1 v T1 S1 R1 P1=>?_⟩;cases w with
 |ref l=>
  have P2:aq X.K as1 H1 D (yS (zM (λw env=>some (env.set i (some w))) (aT cl body)) l (wz m1 l) (aF+1) 0 env m1):=P1;cases e:m1[l]? with
  |none=>unfold yS at P2;rw[e]at P2;exact P2.elim
  |some o=>
   cases o with
   |lst ys=>unfold yS at P2;rw[e]at P2;exact P2.elim
   |dct ks ws=>
    obtain⟨a,xs,vs,rfl,ha,td,ek,_,_⟩:=jG S1 e R1;have hn:wz m1 l=xs.length:=by rw[DA e,<-ek,QF]
    rw[hn]at P2;refine⟨a,xs,rfl,td,λi0 n σ' H'=>∃as' m' env',as'[l]?=some a/\Step as1 H1 as' H'/\aJ X.K as' m' H'/\aC X.K as' H' env' σ'/\aq X.K as1 H1 D (yS (zM (λw env=>some (env.set i (some w))) (aT cl body)) l xs.length n i0 env' m'),⟨aF+1,as1,m1,env,ha,.refl,S1,G.mono S T1,P2⟩,?_⟩;rintro i0 n σ' H' ⟨as',m',env',hl,T',S',G',Pi⟩;cases n with
    |zero=>exact Pi.elim
    |succ n=>
     unfold yS at Pi;cases e':m'[l]? with
     |none=>rw[e']at Pi;exact Pi.elim
     |some o=>
      cases o with
      |lst ys=>rw[e']at Pi;exact Pi.elim
      |dct ks' ws'=>
       rw[e']at Pi;dsimp only at Pi;obtain⟨a',xs',vs',ha',td',ek',r',rv',_⟩:=vY S' e';rw[hl]at ha';cases ha';have lk:ks'.length=xs'.length:=by rw[<-ek',QF]
       by_cases hc:ks'.length=xs.length
       .rw[J7 hc]at Pi;cases ex:ks'[i0]? with
        |none=>
         rw[ex]at Pi;have:=QR.mp ex;exact .inl ⟨⟨xs',td',by lia,by lia⟩,Pi as' H' σ' T' S' G'⟩
        |some q=>
         rw[ex]at Pi;have hi:i0<ks'.length:=(Qb.mp ex).1;refine .inr ⟨⟨xs',td',by lia,by lia⟩,λσ2 H2=>∃as2 m2 env2,as2[l]?=some a/\Step as1 H1 as2 H2/\aJ X.K as2 m2 H2/\aC X.K as2 H2 env2 σ2/\aq X.K as1 H1 D (yS (zM (λw env=>some (env.set i (some w))) (aT cl body)) l xs.length n (i0+1) env2 m2),?_,λv H'' hy=>?_⟩
         .rintro σ2 H2 q;exact⟨n,Q4 _,q⟩
         .obtain ⟨rfl,hy⟩:=hy;obtain⟨k,hk,rfl⟩:=hy xs' td';have eq:k.1=q:=by
           have:=B5 hk;rw[ek',ex]at this;exact(Option.some.inj this).symm
          have Rk:ai X.K as' H'' (.tup (q.map Wd.int)) (.ref k.2.1):=ah.mpr ⟨k.2.1,q.map V.int,rfl,eq▸td'.2 k (Ql hk),wP q⟩;refine wE (gL i) (next:=λe m=>yS (zM (λw env=>some (env.set i (some w))) (aT cl body)) l xs.length n (i0+1) e m) T' S' G' Rk Pi ?_;intro as2 m2 e2 σ2 H2 U S2 G2 P2;exact⟨as2,m2,e2,U.get hl,T'.trans U,S2,G2,P2⟩
       .rw[J8 hc]at Pi;exact Pi.elim
 |_=>exact P1.elim
end
set_option genInjectivity false in
inductive Ns where
 |s (st:Stmt)|b (sts:List Stmt)
noncomputable def wW(sc:HH)(x:Str):Bool:=decide (sc.names.lookup x=some .local) || decide (sc.names.lookup x=some .cell)
noncomputable def pv(cl:Nat->List Wd->Me->Rz)(X:Cx)(s:Sm):Ns->Prop
 |.s st=>PS X st (zZ X.K (aT cl s))
 |.b sts=>cb X sts (zZ X.K (aT cl s))
structure dI(X:Cx):Prop where
 nd:X.N.Nodup
 fn:∀x,X.fn x=true
 hp:PassesOwn (Ie X.prog X.w) X.A X.env X.xe
section
variable{cl:Nat->List Wd->Me->Rz}
def yM (h:wW sc x=true):Loc sc x:=by
 unfold wW at h;simp only[Ws,Kc]at h;exact h
def sw (hc:X.calm=true)(hX:dI X)(hi:X.N[i]?=some nm)(hl:Loc X.env.scope nm)(B:bD X scope xs)(hT:fU X scope xs tg g un)(hI:PI X tg w wi)(body:∀Xc,bp X scope xs Xc->eM Xc fs tc/\PE Xc x te)(hset:∀v,IE w X.env v=pure v)(hbind:∀σ H Q,aH X.K (af cl ce) σ H Q->vO un wi tc te σ H Q)(he:PE X (.ListComp x [⟨tg,w,fs,0⟩] scope pos') (aH X.K (af cl ce))):
  PS X (.Assign [.Name nm p1] (.ListComp x [⟨tg,w,fs,0⟩] scope pos') pos) (zZ X.K (aT cl (.asg i ce))):=by
 have hsw:∃b:Bool,Ip (.ListComp x [⟨tg,w,fs,0⟩] scope pos') (some (.Name nm p1)) pos.line X.env=pure b:=⟨_,rfl⟩;obtain⟨b,hb⟩:=hsw;cases b with
 |false=>exact PS.imp (jn hX.nd hi hl he hb (.inl (hX.fn nm))) λD σ H q=>kq q
 |true=>
  refine PS.imp (vQ B hc hT hI body hX.nd hi hl (.inl (hX.fn nm)) hb hset) λD σ H q=>?_;exact hbind _ _ _ (kq q)
structure bC(C:Ctx)(sc:HH)(N:List Str)(s:Sm)(n:Ns):Prop where
 h:∀(cl:Nat → List Wd → Me → Rz) (d:Nat) (X:Cx),bj C X cl d → dI X → X.env.scope=sc → X.N=N → pv cl X s n
def pV (hC:bj C X cl d)(hX:dI X)(h:bC C X.env.scope X.N s n):pv cl X s n:=h.h cl d X hC hX rfl rfl
def bC.«skip0»{C:Ctx}{sc:HH}{N:List Str}:bC C sc N .skip (.b []):=by
 constructor;intro cl d X hC hX es eN;subst es;subst eN;exact Dm
def bC.«one»{C:Ctx}{sc:HH}{N:List Str}{s:Sm}{st:Stmt}(h:bC C sc N s (.s st)):bC C sc N s (.b [st]):=by
 constructor;intro cl d X hC hX es eN;subst es;subst eN;have ih:=h.h cl d X hC hX rfl rfl;exact wr ih
def bC.«seq»{C:Ctx}{sc:HH}{N:List Str}{a b:Sm}{st st':Stmt}{r:List Stmt}(ha:bC C sc N a (.s st))(hb:bC C sc N b (.b (st'::r))):bC C sc N (.seq a b) (.b (st::st'::r)):=by
 constructor;intro cl d X hC hX es eN;subst es;subst eN;have iha:=ha.h cl d X hC hX rfl rfl;have ihb:=hb.h cl d X hC hX rfl rfl;exact BA iha ihb
def bC.«asg»{C:Ctx}{sc:HH}{N:List Str}{i:Nat}{e:Ex}{x:Str}{v:Expr}{p p':Pos}(hc:kn v=false)(h1:N[i]?=some x)(h2:wW sc x=true)(hr:zi e=false)(he:ay C sc N e (.e v)):bC C sc N (.asg i e) (.s (.Assign [.Name x p] v p')):=by
 constructor;intro cl d X hC hX es eN;subst es;subst eN;exact PS.imp (jn hX.nd h1 (yM h2) ((zB he X hC rfl rfl).pe hr) (ko hc) (.inl (hX.fn _))) λD σ H q=>kq q
def bC.«asgC0»{C:Ctx}{sc:HH}{N:List Str}{i:Nat}{elt it:Ex}{x y:Str}{z w:Expr}{scope:HH}{p p' q q':Pos}(h1:N[i]?=some x)(h2:wW sc x=true)(hs:yj w=true)(hB:yU sc N scope [y]=true)(hi:ay C sc N it (.e w))(re:zi elt=false)(he:ay C (zR scope sc) (zW N [y]) elt (.e z)):
   bC C sc N (.asg i (.comp elt it (.lit (.bl true)))) (.s (.Assign [.Name x p] (.ListComp z [⟨.Name y q,w,[],0⟩] scope q') p')):=by
 constructor;intro cl d X hC hX es eN;subst es;subst eN;have hset:∀v,IE w X.env v=pure v:=yL hs;refine sw (fs:=[]) (tc:=_) hC.calm hX h1 (yM h2) (zC hB) (xD (zC hB)) ((zB hi X hC rfl rfl).2 _) (te:=aH X.K (af cl elt)) (λXc c=>⟨xC,?_⟩) hset (λσ H Q q=>wT (λσ H Q q=>?_) q) ((zB (ay.comp0 hs hB hi re he) X hC rfl rfl).pe rfl)
 .have q:=(zB he Xc (hC.comp c) c.sc c.N).pe re;rw[c.K]at q;exact q
 .obtain ⟨as,env,m,S,G,P⟩:=q;obtain⟨b,e,q⟩:=ak.ok (m:=m) P S (aj.mpr rfl);cases e;exact q
def bC.«asgCZ0»{C:Ctx}{sc:HH}{N:List Str}{i:Nat}{elt a b:Ex}{x y y':Str}{z w w':Expr}{scope:HH}{p p' q q' q2 q3 q4 pt:Pos}{kt:Nat}(h1:N[i]?=some x)(h2:wW sc x=true)(hg:bZ sc "zip"=true)(hB:yU sc N scope [y,y']=true)(hs:zg w=true)(hs':zg w'=true)(ra:zi a=false)(ha:ay C sc N a (.e w))(rb:zi b=false)(hb:ay C sc N b (.e w'))(re:zi elt=false)(he:ay C (zR scope sc) (zW N [y,y']) elt (.e z)):
   bC C sc N (.asg i (.compP .zip elt a b (.lit (.bl true)))) (.s (.Assign [.Name x p] (.ListComp z [⟨.Tuple [.Name y q,.Name y' q2] kt pt,.Call (.Name "zip" q3) [w,w'] [] q4,[],0⟩] scope q') p')):=by
 constructor;intro cl d X hC hX es eN;subst es;subst eN;refine sw (fs:=[]) (tc:=_) hC.calm hX h1 (yM h2) (zC hB) (jw hC.calm (zC hB)) (jD (zO hg) (hC.blt _ (by simp[zm])) (zq ((zB ha X hC rfl rfl).pe ra) (zq ((zB hb X hC rfl rfl).pe rb) zP (zd hs')) (zd hs)) (by rw[zd hs,zd hs'];rfl) (zd hs')) (te:=aH X.K (af cl elt)) (λXc c=>⟨xC,?_⟩) (λ_=>rfl) (λσ H Q q=>kj (λσ H Q q=>?_) q) ((zB (ay.compZ0 hg hB hs hs' ra ha rb hb re he) X hC rfl rfl).pe rfl)
 .have q:=(zB he Xc (hC.comp c) c.sc c.N).pe re;rw[c.K]at q;exact q
 .obtain ⟨as,env,m,S,G,P⟩:=q;obtain⟨b,e,q⟩:=ak.ok (m:=m) P S (aj.mpr rfl);cases e;exact q
def bC.«sel»{C:Ctx}{sc:HH}{N:List Str}{a b c d elt mx:Ex}{k1 k2 k3 k4:List Nat}{s1 s2 s3 s4 mkn side:Str}{j:Nat}{x1 x2 x3 x4 xe xm:Expr}{scope:HH}{c1 c2 c3 c4}{p0 p1 p2 p3 p4 pd pa pt pi pm ps pq pc pl pr:Pos}(e1:s1.cps.toList=k1)(e2:s2.cps.toList=k2)(e3:s3.cps.toList=k3)(e4:s4.cps.toList=k4)(nd:[k1,k2,k3,k4].Nodup)
   (h1:N[j]?=some mkn) (h2:wW sc mkn=true) (h3:zr mkn=true) (v1:jB sc mkn=true) (g1:(zW N [side])[j]?=some mkn) (v2:jB (zR scope sc) mkn=true) (g2:(zW N [side])[N.length]?=some side) (v3:jB (zR scope sc) side=true) (g3:zr side=true) (hB:yU sc N scope [side]=true)
   (ra:zi a=false) (ha:ay C sc N a (.e x1)) (rb:zi b=false) (hb:ay C sc N b (.e x2)) (rc:zi c=false) (hc:ay C sc N c (.e x3)) (rd:zi d=false) (hd:ay C sc N d (.e x4))
   (rm:zi mx=false) (hm:ay C (zR scope sc) (zW N [side]) mx (.e xm)) (re:zi elt=false) (he:ay C (zR scope sc) (zW N [side]) elt (.e xe)) (hs:yj xm=true) (le:xr (N.length+1) j elt=true) (lm:xr (N.length+1) j mx=true) :
   bC C sc N (.ret (lc N.length k1 k2 k3 k4 a b c d mx elt)) (.b [.Assign [.Name mkn p0] (.Dict [some (.Constant (.str s1) c1 p1),some (.Constant (.str s2) c2 p2),some (.Constant (.str s3) c3 p3),some (.Constant (.str s4) c4 p4)] [x1,x2,x3,x4] pd) pa,
    .Return (some (.ListComp xe [⟨.Name side pt,.Name mkn pi,[.Compare (.Subscript (.Name mkn pm) (.Name side ps) pq) [.Eq] [xm] pc],0⟩] scope pl)) pr]):=by
 constructor;intro cl d X hC hX es eN;subst es;subst eN;simp only[Qw,Qj,QV,not_or,or_false]at nd;obtain⟨⟨n12,n13,n14⟩,⟨n23,n24⟩,n34,_⟩:=nd;obtain⟨o1,o2,_⟩:=yw h3;obtain⟨o3,o4,_⟩:=yw g3;refine Ai hC.room.units hC.calm hX.nd h1 (yM h2) (hX.fn _) e1 e2 e3 e4 n12 n13 n14 n23 n24 n34 (ko rfl) ((zB ha X hC rfl rfl).pe ra) ((zB hb X hC rfl rfl).pe rb) ((zB hc X hC rfl rfl).pe rc) ((zB hd X hC rfl rfl).pe rd) (xT h1 (wV v1) o1 o2) (zC hB) (λXc c=>⟨xT (by rw[c.N];exact g1) (by rw[c.sc];exact wV v2) o1 o2,xT (by rw[c.N];exact g2) (by rw[c.sc];exact wV v3) o3 o4,?_,?_⟩) (q9 hs) le lm
 .have q:=(zB hm Xc (hC.comp c) c.sc c.N).pe rm;rw[c.K]at q;exact q
 .have q:=(zB he Xc (hC.comp c) c.sc c.N).pe re;rw[c.K]at q;exact q
def bC.«dput»{C:Ctx}{sc:HH}{N:List Str}{j:Nat}{i e:Ex}{x y z:Expr}{p p':Pos}(hs:yz y=true)(ho:ay C sc N (.var j) (.e x))(ri:zi i=false)(hi:ay C sc N i (.e y))(re:zi e=false)(he:ay C sc N e (.e z)):bC C sc N (.dput j i e) (.s (.Assign [.Subscript x y p] z p')):=by
 constructor;intro cl d X hC hX es eN;subst es;subst eN;exact B8 hC.room.units ((zB ho X hC rfl rfl).pe rfl) ((zB hi X hC rfl rfl).pe ri) ((zB he X hC rfl rfl).pe re) hs
def bC.«aug»{C:Ctx}{sc:HH}{N:List Str}{i:Nat}{op:Bo}{e:Ex}{x:Str}{v:Expr}{p p':Pos}(h1:N[i]?=some x)(h2:wW sc x=true)(h3:fF op=true)(hr:zi e=false)(he:ay C sc N e (.e v)):bC C sc N (.aug i op e) (.s (.AugAssign (.Name x p) (fx op) v p')):=by
 constructor;intro cl d X hC hX es eN;subst es;subst eN;exact Al h3 hX.nd h1 (yM h2) (.inl (hX.fn _)) ((zB he X hC rfl rfl).pe hr)
def bC.«ite»{C:Ctx}{sc:HH}{N:List Str}{c:Ex}{a b:Sm}{x:Expr}{xs ys:List Stmt}{p:Pos}(rc:zi c=false)(ic:wQ c=false)(hc:ay C sc N c (.e x))(ha:bC C sc N a (.b xs))(hb:bC C sc N b (.b ys)):bC C sc N (.ite c a b) (.s (.If x xs ys p)):=by
 constructor;intro cl d X hC hX es eN;subst es;subst eN;have iha:=ha.h cl d X hC hX rfl rfl;have ihb:=hb.h cl d X hC hX rfl rfl;exact uK ((zB hc X hC rfl rfl).pt rc ic) iha ihb
def bC.«forv»{C:Ctx}{sc:HH}{N:List Str}{i:Nat}{it:Ex}{body:Sm}{x:Str}{y:Expr}{sts:List Stmt}{p p':Pos}(h1:N[i]?=some x)(h2:wW sc x=true)(hs:yj y=true)(hi:ay C sc N it (.e y))(hb:bC C sc N body (.b sts)):bC C sc N (.forv i it body) (.s (.For (.Name x p) y sts [] p')):=by
 constructor;intro cl d X hC hX es eN;subst es;subst eN;have ihb:=hb.h cl d X hC hX rfl rfl;have hset:∀v,IE y X.env v=pure v:=yL hs;refine PS.imp (g6 hX.hp hC.calm ((zB hi X hC rfl rfl).2 _) (y0 hX.nd h1 (yM h2) (.inl (hX.fn _))) ihb hset) λD σ H q=>?_;exact DE (gL i) q
def bC.«forZ»{C:Ctx}{sc:HH}{N:List Str}{i j:Nat}{a b:Ex}{body:Sm}{x x':Str}{w w':Expr}{sts:List Stmt}{k}{p p' p2 p3 q q':Pos}(h1:N[i]?=some x)(h2:wW sc x=true)(h3:N[j]?=some x')(h4:wW sc x'=true)(hg:bZ sc "zip"=true)(hs:zg w=true)(hs':zg w'=true)(ra:zi a=false)(ha:ay C sc N a (.e w))(rb:zi b=false)(hb:ay C sc N b (.e w'))(hd:bC C sc N body (.b sts)):bC C sc N (.forZ i j a b body) (.s (.For (.Tuple [.Name x p,.Name x' p2] k p3) (.Call (.Name "zip" q) [w,w'] [] q') sts [] p')):=by
 constructor;intro cl d X hC hX es eN;subst es;subst eN;have ihd:=hd.h cl d X hC hX rfl rfl;refine PS.imp (g6 hX.hp hC.calm (jD (zO hg) (hC.blt _ (by simp[zm])) (zq ((zB ha X hC rfl rfl).pe ra) (zq ((zB hb X hC rfl rfl).pe rb) zP (zd hs')) (zd hs)) (by rw[zd hs,zd hs'];rfl) (zd hs')) (rK hC.calm (wt (y0 hX.nd h1 (yM h2) (.inl (hX.fn _))) (wt (y0 hX.nd h3 (yM h4) (.inl (hX.fn _))) qM))) ihd (λ_=>rfl)) λD σ H q=>?_;exact EO q
def bC.«forD»{C:Ctx}{sc:HH}{N:List Str}{i x:Nat}{body:Sm}{nm nx:Str}{sts:List Stmt}{p p' p2:Pos}(h1:N[i]?=some nm)(h2:wW sc nm=true)(hi:ay C sc N (.var x) (.e (.Name nx p2)))(hb:bC C sc N body (.b sts)):bC C sc N (.forD i x body) (.s (.For (.Name nm p) (.Name nx p2) sts [] p')):=by
 constructor;intro cl d X hC hX es eN;subst es;subst eN;have ihb:=hb.h cl d X hC hX rfl rfl;refine PS.imp (g6 hX.hp hC.calm (EH ((zB hi X hC rfl rfl).pe rfl)) (y0 hX.nd h1 (yM h2) (.inl (hX.fn _))) ihb (yL rfl)) λD σ H q=>?_;exact Fj rfl q
def bC.«while»{C:Ctx}{sc:HH}{N:List Str}{c:Ex}{body:Sm}{x:Expr}{sts:List Stmt}{p:Pos}(rc:zi c=false)(ic:wQ c=false)(hc:ay C sc N c (.e x))(hb:bC C sc N body (.b sts)):bC C sc N (.while c body) (.s (.While x sts [] p)):=by
 constructor;intro cl d X hC hX es eN;subst es;subst eN;have ihb:=hb.h cl d X hC hX rfl rfl;exact PS.imp (Ed hX.hp ((zB hc X hC rfl rfl).pt rc ic) ihb) λD σ H q=>qz q
def bC.«ret»{C:Ctx}{sc:HH}{N:List Str}{e:Ex}{x:Expr}{p:Pos}(hr:zi e=false)(he:ay C sc N e (.e x)):bC C sc N (.ret e) (.s (.Return (some x) p)):=by
 constructor;intro cl d X hC hX es eN;subst es;subst eN;exact Bz ((zB he X hC rfl rfl).pe hr)
def bC.«expr»{C:Ctx}{sc:HH}{N:List Str}{e:Ex}{x:Expr}{p:Pos}(hc:kn x=false)(hr:zi e=false)(he:ay C sc N e (.e x)):bC C sc N (.expr e) (.s (.Expr x p)):=by
 constructor;intro cl d X hC hX es eN;subst es;subst eN;exact B9 ((zB he X hC rfl rfl).pe hr) hc
def bC.«never»{C:Ctx}{sc:HH}{N:List Str}{st:Stmt}:bC C sc N .never (.s st):=by
 constructor;intro cl d X hC hX es eN;subst es;subst eN;exact DG
end
set_option genInjectivity false in
structure aM where
 nm:Str
 st:Stmt
 N:List Str
 ps:List Str
 fn:Fn
 on:Str
noncomputable def kr(N ps:List Str)(sc:HH):Bool:=
 decide (sc.kind=.function)&&(decide (sc.isCoroutine=false)&&(decide (sc.isGenerator=false)&&(decide N.Nodup&&(decide (N.take ps.length=ps) &&
  (ps.all (λx=>decide (sc.names.lookup x=some .local) || decide (sc.names.lookup x=some .cell))&&sc.names.all (λy=>!(decide (y.2=.free))))))))
def wX (h:kr N ps sc=true):cq N ps sc:=by
 unfold kr at h;simp only[Qp,Ws,Kc,Wf,Q9,decide_eq_false_iff_not]at h;obtain⟨h1,h2,h3,h4,h5,h6,h7⟩:=h;exact⟨h1,h2,h3,h4,h5,h6,h7⟩
structure aN(C:Ctx)(d:aM):Prop where
 sc:kr d.N d.ps (zt d.st)=true
 ar:d.ps.length=d.fn.ar
 sz:d.N.length=d.fn.sz
 body:bC C (zt d.st) d.N d.fn.body (.b (yh d.st))
section
variable{P:HJ}{w:HL}{K:Qa}{mg:Str->Option Value}{base:HQ}{C:Ctx}{cl:Nat->List Wd->Me->Rz}
def wY (R:ae K as H ws vs)(hl:ws.length=fn.ar)(hN:N.length=fn.sz):aC K as H (yi fn ws) (L2.start N vs):=by
 have hv:=R.length;refine⟨by simp[yi,L2.start,hN,hv],λi w e=>?_⟩;unfold yi at e;by_cases hi:i<ws.length
 .rw[Qh (by simpa using hi),QD]at e;cases hx:ws[i]? with
  |none=>rw[hx]at e;cases e
  |some x=>
   rw[hx]at e;cases e;obtain⟨v,h1,h2⟩:=R.get hx;refine⟨v,?_,h2⟩;unfold L2.start;rw[Qh (by simp;lia),QD,h1];rfl
 .rw[Qi (by simpa using hi),Wl]at e;split at e<;>cases e
set_option tactic.hygienic true in
def Dz (F:dP K d.on d.on d.st f fd)(hd:aN C d)(hfn:∀(i:Nat) (nm:Str),C.fns[i]?=some nm->∃f fd ps,mg nm=some (.ref f)/\QY K (.ref f)=true/\Binds K fd ps []/\bX P w K mg base dt k f fd ps (wR K (cl i)))(hcon:kc K w mg C)(hblt:∀nm∈zm,mg nm=none):
  bX P w K mg base dt (k+1) f fd d.ps (wR K (y7 cl d.fn)):=by
 obtain⟨h1,h2,h3,h4⟩:=hd;have Sc:=wX h1;have cv:∀{as:List Addr}{H:Hp}{Q:VK}{ws:List Wd}{m:Me},ak K as H Q (y7 cl d.fn ws m)->ws.length=d.fn.ar:=λ{as H Q ws m} h=>by
  unfold y7 at h;split at h
  .assumption
  .exact h.elim
 refine F.ok Sc (λvs H Q E h=>?_) (λcdv A outer s H vs Q E hr h=>?_)
 .obtain ⟨as,m,ws,S,R,q⟩:=h;rw[<-R.length,cv q,h2]
 .obtain ⟨as,m,ws,S,R,q⟩:=h;have ha:=cv q;have hC:bj C (vq dt P w K mg base d.N d.on (zt d.st) f cdv A outer s H E).nox cl k:=⟨hr,rfl,hfn,hcon,hblt⟩;have hX:dI (vq dt P w K mg base d.N d.on (zt d.st) f cdv A outer s H E).nox:=⟨Sc.nd,λ_=>rfl,PassesOwn.never⟩;refine⟨_,pV hC hX h4,as,yi d.fn ws,m,S,wY R ha h3,?_⟩;unfold y7 at q;rw[J7 ha]at q;cases hr:aT cl d.fn.body (yi d.fn ws) m with
  |next e m1=>rw[hr]at q;exact λas' H' σ' T S' G=>q as' H' .non T S' (am.mpr rfl)
  |ret w m1=>rw[hr]at q;exact λas' H' v T S' R'=>q as' H' v T S' R'
  |no=>rw[hr]at q;exact q.elim
noncomputable def xt(K:Qa)(mg:Str->Option Value)(d:aM):Prop:=∃f fd,dP K d.on d.on d.st f fd/\mg d.nm=some (.ref f)
noncomputable def dh(d:aM):Prop:=∀(kV doc pm:Value) (an:Option Addr) (cdv ct:Value) (us:List Value),us.length=d.ps.length->bindArgs (Wb d.on d.on (yR d.st) (yh d.st) (zt d.st) .none kV doc pm an cdv ct) ⟨us,[]⟩=pure (d.ps.zip us)
end
def Dy {K:Qa}{D:List aM}{ns:List Int}(hO:fM H)(hS:bt K H a (ns.map V.int))(h:∃m,ye (D.map (·.fn)) k i [.rol (ns.map Wd.int)] []=.ok (.bl true) m):
  wR K (ye (D.map (·.fn)) k i) [.ref a] H (λv _=>v=.bl true) E:=by
 obtain⟨m,h⟩:=h;refine⟨[],[],[.rol (ns.map Wd.int)],⟨rfl,Qu,λl a o e=>by simp at e⟩,ao.mpr ⟨.ref a,[],rfl,ba.mpr ⟨a,ns.map V.int,rfl,?_,?_⟩,aA.mpr rfl⟩,?_⟩
 .rcases hS with (hS|⟨o,hS⟩)|hS
  .rcases hO a with z|⟨o,xs,z⟩
   .rw[z]at hS;cases hS
   .rw[z]at hS;cases hS
  .exact .inl ⟨o,hS⟩
  .exact .inr hS
 .have all:∀l:List Int,ae K [] H (l.map Wd.int) (l.map V.int):=by
   intro l
   induction l with
   |nil=>exact aA.mpr rfl
   |cons n l ih=>exact ao.mpr ⟨_,_,rfl,aa.mpr rfl,ih⟩
  exact all ns
 .rw[h];exact λas' H' v T S R=>aj.mp R
theorem ay.v{C:Ctx}{sc:HH}{N:List Str}{i:Nat}{x:Str}{p:Pos}(h1:N[i]?=some x:=by rfl)(h2:jB sc x=true:=by kernel_rfl)(h3:zr x=true:=by kernel_rfl):ay C sc N (.var i) (.e (.Name x p)):=.var h1 h2 h3
def sG{P:List Value->Prop}(h:P []):∀us:List Value,us.length=0->P us
 |[],_=>h
def cf{P:List Value->Prop}(h:∀a,P [a]):∀us:List Value,us.length=1->P us
 |[a],_=>h a
def lC {P:List Value->Prop}(h:∀a (us:List Value),us.length=n->P (a::us)):∀us:List Value,us.length=n+1->P us
 |a::us,e=>h a us (Nat.succ.inj e)
def cB{P:List Value->Prop}(h:∀a b,P [a,b]):∀us:List Value,us.length=2->P us:=lC λa=>cf (P:=λus=>P (a::us)) (h a)
def fN{P:List Value->Prop}(h:∀a b c,P [a,b,c]):∀us:List Value,us.length=3->P us:=lC λa=>cB (P:=λus=>P (a::us)) (h a)
def iH{P:List Value->Prop}(h:∀a b c d,P [a,b,c,d]):∀us:List Value,us.length=4->P us:=lC λa=>fN (P:=λus=>P (a::us)) (h a)
end Mini
namespace L2
open PySem PySem.Spec PyProof.Rows
noncomputable def cm(fs:List Addr)(H':Hp)(h h' B:HQ):Prop:=∀b o,h'.get? b=some o->(H' b≠none\/∃o₀,h.get? b=some o₀)->b∉fs->B.get? b=some o
noncomputable def dE(P:HJ)(w:HL):dL:=λouter H s E ev s'=>∃(C e t:Addr) (B:HQ) (H':Hp),ev=.ref e/\s'.os=s.os/\HZ s'.gens/\Un (bG outer) [] H H' s.heap s'.heap/\b7 P w H' s'.heap /\
 Heap.FlyingW B outer e (.ref C) (.ref t) s'.heap/\cm (bG outer) H' s.heap s'.heap B/\E (.ref C) none H'
def gM (hf:env.frame=some L):bG (env::l)=L::bG l:=by
 unfold bG;rw[Wu,hf]
def ja (hl:h.FunFrames base l)(hn:∀b∈bG l,H b=none)(u:Un fs [] H H' h h'):∀b∈bG l,H' b=none:=λb hb=>by
 obtain⟨_,o,ho,_⟩:=hl.mem hb;exact u.free b o ho (hn b hb) (by simp)
theorem aR.ob (x:aR P w H h a o):∃u,h.get? a=some u:=by
 cases o with
 |lst xs=>obtain⟨_,_,_,_,e⟩:=x;exact⟨_,e⟩
 |tup xs=>obtain⟨_,_,_,o,e,_⟩:=x;exact⟨_,e⟩
 |dK kvs=>obtain⟨_,_,_,_,o,_,_,e,_⟩:=x;exact⟨_,e⟩
 |dT kvs=>obtain⟨_,_,_,_,o,_,_,e,_⟩:=x;exact⟨_,e⟩
 |set S n=>obtain⟨o,_,_,_,e,_⟩:=x;exact⟨_,e⟩
 |ins C dx fs=>obtain⟨_,_,_,e,_⟩:=x;exact⟨_,e⟩
 |own y=>exact x
 |xd fs=>obtain⟨_,⟨_,_,_,e,_⟩,_⟩:=x;exact⟨_,e⟩
 |rng lo hi=>obtain⟨_,_,_,e⟩:=x;exact⟨_,e⟩
 |frz ob u=>exact⟨_,x.1⟩
 |tbl ps=>exact⟨_,show h.get? a=some _ from x⟩
 |met f y=>exact⟨_,show h.get? a=some _ from x⟩
 |ext φ=>exact x.2.1
section
variable{P:HJ}{w:HL}{H':Hp}{h1 h2 B:HQ}
def ku (ok:b7 P w H' h1)(hfs:∀b∈fs,H' b=none)(hB:cm fs H' h h1 B)(st:B.StaysIn h2):b7 P w H' h2:=λa o e=>
 (ok a o e).stay (λb u hb q=>st b u (hB b u q (.inl (by
  rcases hb with rfl|hb
  .rw[e];simp
  .rw[hb];simp)) λhm=>by
   have:=hfs b hm;rcases hb with rfl|hb
   .rw[e]at this;cases this
   .rw[hb]at this;cases this)) (λ_ q=>q) λ_ _ q=>q
def cm.next{fs:List Addr}{h:HQ}(ok:b7 P w H' h1)(hB:cm fs H' h h1 B)(st:B.StaysIn h2)(th:∀b o,h.get? b=some o->∃o',h1.get? b=some o'):cm fs H' h h2 B:=λb o e hq hn=>by
 have ex:∃o',h1.get? b=some o':=by
  rcases hq with z|⟨o₀,z⟩
  .cases q:H' b with
   |none=>exact J9 q z
   |some u=>
    exact(ok b u q).ob
  .exact th b o₀ z
 obtain⟨o',e1⟩:=ex;have e2:=hB b o' e1 hq hn;have e3:=st b o' e2;rw[e]at e3;cases e3;exact e2
end
def sv (hL:h₀.objs.size<=L)(hfo:h₀.FunFrames base outer)(hf0:∀b∈bG outer,H₀ b=none)(u0:Un (bG outer) [] H₀ H h₀ h)(u1:Un (L::bG outer) [] H H' h h1)(hB:cm (L::bG outer) H' h h1 B)(st:B.StaysIn h2)(up:h1.UpToSlots h2):Un (bG outer) [] H₀ H' h₀ h2:=by
 have no:∀b:Addr,b∉([]:List Addr):=λb=>by simp
 have nL:∀{b:Addr}{o:Obj},h₀.get? b=some o->b≠L:=λ{b o} e z=>by
  subst z;exact J9 (Qe (Qg e) hL) (QZ _)
 have kp:∀b o,h₀.get? b=some o->H₀ b=none->b∉bG outer->h2.get? b=some o:=λb o e n hb=>by
  have e1:=u0.keep b o e n hb (no b);have hb':b∉L::bG outer:=λhm=>(Qj.mp hm).elim (nL e) hb;have e2:=u1.keep b o e1 (u0.free b o e n (no b)) hb' (no b);exact st b o (hB b o e2 (.inr ⟨o,e1⟩) hb')
 have sl:∀b o,h₀.get? b=some o->H₀ b=none->b∈bG outer->∃sl,h2.get? b=some {o with slots:=sl}:=λb o e n hb=>by
  obtain⟨s1,e1⟩:=u0.slot b o e n hb (no b);obtain⟨s2,e2⟩:=u1.slot b _ e1 (u0.free b o e n (no b)) (Qd _ hb) (no b);obtain⟨_,o',ho',hd⟩:=hfo.mem hb;rw[e]at ho';cases ho';obtain⟨s3,e3⟩:=up b _ e2 hd;exact⟨s3,e3⟩
 refine⟨λb o e n hb _=>kp b o e n hb,λb o e n hb _=>sl b o e n hb,λb o e n _=>?_,λb o e _=>?_,λb xs q=>u1.tups b xs (u0.tups b xs q),λb o u q=>u1.frzs b o u (u0.frzs b o u q),λb ps q=>?_⟩
 .obtain ⟨o1,e1⟩:=u0.there b o e (no b);exact u1.free b o1 e1 (u0.free b o e n (no b)) (no b)
 .by_cases hb:b∈bG outer
  .obtain ⟨s1,e1⟩:=sl b o e (hf0 b hb) hb;exact⟨_,e1⟩
  .obtain ⟨o1,e1⟩:=u0.there b o e (no b);obtain⟨o2,e2⟩:=u1.there b o1 e1 (no b);have hb':b∉L::bG outer:=λhm=>(Qj.mp hm).elim (nL e) hb;exact⟨o2,st b o2 (hB b o2 e2 (.inr ⟨o1,e1⟩) hb')⟩
 .obtain ⟨m1,e1⟩:=u0.tbls b ps q;obtain⟨m2,e2⟩:=u1.tbls b _ e1;exact⟨m1++m2,by rw[e2,Array.append_assoc]⟩
section
variable{P:HJ}{w:HL}{K:Qa}{mg:Str->Option Value}{base:HQ}{N:List Str}{qual:Str}{scope:HH}{f:Addr}{cd:Value}{A:HY}{outer:List Env}{s:HK}{H:Hp}{E:XK}
def jb (hL:h₀.objs.size<=L)(hLn:H' L=none)(u0:Un fs [] H₀ H h₀ h)(ok:b7 P w H' h1)(th:∀b o,h.get? b=some o->∃o',h1.get? b=some o')(hB:cm (L::fs) H' h h1 B)(st:B.StaysIn h2):cm fs H' h₀ h2 B:=λb o e hq hn=>by
 have hb':b∉L::fs:=λhm=>(Qj.mp hm).elim (λz=>by
  subst z;rcases hq with q|⟨o₀,q⟩
  .exact q hLn
  .exact J9 (Qe (Qg q) hL) (QZ _)) hn
 refine cm.next ok hB st th b o e (hq.imp id λ⟨o₀,q⟩=>?_) hb';exact u0.there b o₀ q (by simp)
def B4:xU (dE P w) (vq (dE P w) P w K mg base N qual scope f cd A outer s H E) E:=by
 intro pins σ H1 s1 ev s2 I h;obtain⟨C,e,t,B,H2,rfl,os,bare,un,hok,fl,hB,hE⟩:=h;have hfr:(envOfC qual scope s.heap.objs.size f cd).frame=some s.heap.objs.size:=rfl;have un':Un (s.heap.objs.size::bG outer) [] H1 H2 s1.heap s2.heap:=un;have hB':cm (s.heap.objs.size::bG outer) H2 s1.heap s2.heap B:=hB;have fz:=ja I.stack I.stkFree un;refine wpAny_leaves_onW I.ok.frames hfr fl λh' fl' up=>?_;refine⟨C,e,t,B,H2,rfl,os.trans I.os,bare,?_,?_,fl',?_,hE⟩
 .exact sv (Qf _) I.ok.funs I.ok.frf I.base un' hB' fl'.1 up
 .exact ku hok fz hB fl'.1
 .exact jb (Qf _) (fz _ (by show _∈s.heap.objs.size::bG outer;exact QA)) I.base hok (λb o q=>un.there b o q (by simp)) hB' fl'.1
end
noncomputable def qA(X:Cx)(E:XK):Prop:=∀(pins:List (Addr×Obj)) (σ:St) (H:Hp) (s:HK) (h':HQ) (e C:Addr) (vs:List Value),Inv X pins σ H s->Heap.MadeExcOf s.heap h' e (.ref C) vs->E (.ref C) none H->X.xe (.ref e) {s with heap:=h' }
section
variable{P:HJ}{w:HL}{K:Qa}{mg:Str->Option Value}{base:HQ}{N:List Str}{qual:Str}{scope:HH}{f:Addr}{cd:Value}{A:HY}{outer:List Env}{s:HK}{H:Hp}{E:XK}
def Dx:qA (vq (dE P w) P w K mg base N qual scope f cd A outer s H E) E:=by
 intro pins σ H1 s1 h' e C vs I mk hE;have hfr:(envOfC qual scope s.heap.objs.size f cd).frame=some s.heap.objs.size:=rfl;have hin:∀env∈(envOfC qual scope s.heap.objs.size f cd::outer),∀b,env.frame=some b->b∈bG (envOfC qual scope s.heap.objs.size f cd::outer):=λenv he b hb=>Ww.mpr ⟨env,he,hb⟩;have hst:s1.heap.FunFrames base (envOfC qual scope s.heap.objs.size f cd::outer):=I.stack;have hfz:∀b∈bG (envOfC qual scope s.heap.objs.size f cd::outer),H1 b=none:=I.stkFree;have hB:cm (s.heap.objs.size::bG outer) H1 s1.heap s1.heap (PySem.W.hideAll s1.heap (bG (envOfC qual scope s.heap.objs.size f cd::outer))):=λb o q _ hn=>Vb _ q hn;refine wpAny_leaves_madeW (h:=s1.heap) I.ok.frames hfr (λb o q=>PySem.W.of_hideAll _ q) (PySem.W.funFrames_hide hst hin) mk λh2 t fl _ _ up=>?_;have up':s1.heap.UpToSlots h2:=(Heap.UpToSlots.of_keeps mk.keeps).trans up;refine⟨C,e,t,_,H1,rfl,I.os,I.bare,?_,?_,fl,?_,hE⟩
 .exact sv (Qf _) I.ok.funs I.ok.frf I.base Un.refl hB fl.1 up'
 .exact ku I.hok hfz hB fl.1
 .exact jb (Qf _) (hfz _ (by show _∈s.heap.objs.size::bG outer;exact QA)) I.base I.hok (λb o q=>⟨o,q⟩) hB fl.1
end
noncomputable def Ah(C:Addr)(E:XK)(t:TA):TS:=λD σ H=>t σ H λvs H1=>vs.length<=sizeLine/\E (.ref C) none H1
section
variable{X:Cx}{x:Str}{C:Addr}{bm:List Value}{Bn newId initId:String}{E:XK}{t:TA}{np cpos pos:Pos}{e₀:Expr}{rest:List Expr}
def Dw(O:OwnCls x C bm newId X.mg X.base)(FB:ExcBaseFacts Bn newId initId bm)(hc:X.calm=true)(hg:Gl X x)(hx:qA X E)(ha:PA X (e₀::rest) t)(hdb:(x==("__debug__":Str))=false:=by decide)
  (he:Ih (e₀::rest) X.env=(false,eval e₀ X.env)::Ih rest X.env:=by rfl) (hpl:(Ig cpos (Ih rest X.env)).any (·.1)=false:=by rfl) :
  PS X (.Raise (some (.Call (.Name x np) (e₀::rest) [] cpos)) none pos) (Ah C E t):=by
 intro pins s σ H D I h;obtain⟨tl,N,nm,q,bs,hdct,sn,sub,ab,col,dd,k0,k1,k2,k3,k5,mN,hC,hN,hni,T⟩:=O.obj;refine wpAny_Raise_call_subT (k0:=k0) (k1:=k1) (k2:=k2) (k3:=k3) (k5:=k5) (dd:=dd) (col:=col) (ab:=ab) (sub:=sub) (sn:=sn) (hdct:=hdct) (bs:=bs) (q:=q) (nm:=nm) (C:=C) (N:=N) (bm:=tl) (mN:=mN) FB (T.hasType FB.hasBase) (I.ok.hd hc) (by rw[he];exact hpl) hni (vw I hg O.bound ⟨rfl,?_⟩ hdb);have h1:=ha cpos pins s σ H _ I h;rw[he]at h1 ⊢;refine Calls.evalArgs_plain (Ii h1 (λus s2 h2=>?_) λ_ _ y=>y);obtain⟨vs,H1,I1,r,hz,hE⟩:=h2;exact⟨rfl,by rw[<-r.length];exact hz,I1.bk _ _ hC,hN.keeps I1.bk,T.keeps I1.bk,λh' e mk=>hx pins σ H1 s2 h' e C us I1 mk hE⟩
end
end L2
namespace L2
open PySem PySem.Spec PySem.Calls PyProof.Rows PySem.W Builtin Builtin.ObjectAttr Builtin.Getset_descriptor
section
variable{prog:HJ}{w:HL}{A:HY}{E:Value->HK->Prop}{K:Qa}{x C:Addr}{ox:Obj}{h:HQ}{g:Array Ia}{d:Drawn}{t:Nat}{os:OsState}
def kx(M:Ib)(hx:h.get? x=some ox)(hc:ox.cls=.ref C):Looks M h (typeOf (.ref x)) (.ref C):=hc▸(Looks.ld hx).andThen .now
def B3 (X:K.In h)(hx:h.get? x=some ox)(hc:ox.cls=.ref C)(hm:JY K C (.type "object")=some true)(hq:R (.ok (.ret (.ref C))) ⟨h,g,d,t,os⟩):
  IM (Ie prog w) A (.call (.builtin "getset_descriptor.__get__") ⟨[.builtin "object.__class__",.ref x,tp],[]⟩) R ⟨h,g,d,t,os⟩:=by
 have L0:=kx (Ie prog w) hx hc;have L1:=looks_mroIn (M:=Ie prog w) X hm;refine JZ KF.slot_gs.plain KF.entry_gs ?_;refine KF.slot_gs.check _ _ _ _ _ _ _ _ KF.type_class (KF.args_gs _ _ _) ?_;unfold Builtin.«getset_descriptor.__get__» descrGet;rw[dga_obj];refine Iv (IB ?_);unfold descrGetter descrCheckInstance descrNameAndClass isInstance;simp only[KF.owner_class]
 repeat lk
 have z1:Code.quiet (.builtin "object.__class__" ⟨[.ref x],[]⟩)=true:=Code.quiet_builtin _ (by decide +kernel);refine⟨z1,?_⟩;refine JW KF.entry_class ?_;unfold Builtin.«object.__class__» shownTypeOf
 repeat lk
 exact hq
def Fi (X:K.In h)(hx:h.get? x=some ox)(hc:ox.cls=.ref C)(hcl:J0 K (.ref C) "__class__"=some (some (.builtin "object.__class__")))(hm:JY K C (.type "object")=some true)(hq:Q (.done (.ret (.ref C))) ⟨h,g,d,t,os⟩):Ic (Ie prog w) A (Builtin.«object.__getattribute__» ⟨[.ref x,.str "__class__" tk],[]⟩) Q E ⟨h,g,d,t,os⟩:=by
 have L0:=kx (Ie prog w) hx hc;have L1:=J1 (M:=Ie prog w) X hcl;have hT5:(⟨h,g,d,t,os⟩:HK).TypeIs (.builtin "object.__class__") "getset_descriptor":=F.typeOf_object_class;have f5:=F.typeOf_object_class;have f6:=F.slot_gs_get.lookup;have f7:=F.slot_gs_set.lookup;unfold Builtin.«object.__getattribute__»
 repeat (any_goals (first|assumption|(with_reducible refine J2 hx ?_;rw[hc])|with_reducible refine Looks.at (by assumption) ?_|wp_step))
 refine B3 X hx hc hm ?_
 repeat (any_goals (first|assumption|wp_step))
def Fh (X:K.In h)(hx:h.get? x=some ox)(hc:ox.cls=.ref C)(hb:JY K C (.type "BaseException")=some true)(hq:Q () ⟨h,g,d,t,os⟩):
  Ic (Ie prog w) A (JX "BaseException.__getattribute__" ⟨[.ref x,nameV],[]⟩) Q E ⟨h,g,d,t,os⟩:=by
 have L0:=kx (Ie prog w) hx hc;have L1:=looks_mroIn (M:=Ie prog w) X hb;have z1:builtinKind "BaseException.__getattribute__"=some .slot:=by decide +kernel
 have z2:splitId "BaseException.__getattribute__"=some ("BaseException","__getattribute__"):=by decide +kernel
 have z3:=F.args_bexc_ga (.ref x) nameV;simp only[JX,z1,z2];refine Iv ?_;unfold isInstance
 repeat (first|with_reducible refine Looks.at (by assumption) ?_|wp_step)
 exact hq
def D2 (X:K.In h)(hx:h.get? x=some ox)(hc:ox.cls=.ref C)(hb:JY K C (.type "BaseException")=some true)(hcl:J0 K (.ref C) "__class__"=some (some (.builtin "object.__class__")))(hm:JY K C (.type "object")=some true)(hq:R (.ok (.ret (.ref C))) ⟨h,g,d,t,os⟩):IM (Ie prog w) A (.call (.builtin "BaseException.__getattribute__") ⟨[.ref x,.str "__class__" tk],[]⟩) R ⟨h,g,d,t,os⟩ :=
 JZ F.attr_ValueError.ga.plain F.entry_bexc_ga (Fh X hx hc hb (Fi X hx hc hcl hm hq))
def BZ (X:K.In s.heap)(hx:s.heap.get? x=some ox)(hc:ox.cls=.ref C)(hga:J0 K (.ref C) "__getattribute__"=some (some (.builtin "BaseException.__getattribute__")))(hgt:J0 K (.ref C) "__getattr__"=some none)(hb:JY K C (.type "BaseException")=some true)(hcl:J0 K (.ref C) "__class__"=some (some (.builtin "object.__class__")))(hm:JY K C (.type "object")=some true)(hq:Q (some (.ref C)) {s with toks:=s.toks+1}):Ic (Ie prog w) A (getAttr? (.ref x) "__class__") Q E s:=by
 obtain⟨h,g,d,t,os⟩:=s;have L0:=kx (Ie prog w) hx hc;have L1:=J1 (M:=Ie prog w) X hga;have L2:=J1 (M:=Ie prog w) X hgt;have f3:=F.attr_ValueError.ga.bind (.ref x);have y2:(Value.builtin "BaseException.__getattribute__" == Value.builtin "object.__getattribute__")=false:=by decide +kernel
 have y1:(onTheHeap (Value.ref C)&&Value.builtin "BaseException.__getattribute__" == Value.builtin "object.__getattribute__")=false:=by rw[y2];rfl
 unfold getAttr? getAttrBy? getAttrBy;refine Iv (wpAny_mkText (Iv (JK (Iw (Iv (L0.at (Iv (L1.at ?_))))))));dsimp only;rw[J8 (by rw[y1];decide)];unfold getAttrByItsOwn hookBefore callGetattribute
 repeat (any_goals (first|assumption|with_reducible refine Looks.at (by assumption) ?_|wp_step))
 refine D2 (h:=h) X hx hc hb hcl hm ?_
 repeat (any_goals (first|assumption|wp_step))
end
end L2
namespace L2
open PySem PySem.Spec PySem.Calls PyProof.Rows PySem.W
structure dr(K:Qa)(C:Addr):Prop where
 ga:J0 K (.ref C) "__getattribute__"=some (some (.builtin "BaseException.__getattribute__"))
 gt:J0 K (.ref C) "__getattr__"=some none
 be:JY K C (.type "BaseException")=some true
 cl:J0 K (.ref C) "__class__"=some (some (.builtin "object.__class__"))
 mo:JY K C (.type "object")=some true
set_option tactic.hygienic true in
def rq {K:Qa}(h:(clsIn K C).isSome=true):∃c d cd sl,K.lookup C=some ⟨c,d,.cls cd,sl⟩:=by
 unfold clsIn at h;split at h
 .rename_i c d cd sl ho;exact⟨c,d,cd,sl,ho⟩
 .cases h
def dr.ci {K:Qa}(Z:dr K C):(clsIn K C).isSome=true:=by
 obtain⟨cd,a,_⟩:=QE.mp Z.be;rw[a];rfl
def gN {K:Qa}(Z:dr K C)(hc:ox.cls=.ref C):KitX K (.ref x) (.ref C) (λh=>h.get? x=some ox) where
 ty:=λM h _ p=>kx M p hc
 it:=λM h X _=>by
  obtain⟨c,d,cd,sl,ho⟩:=rq Z.ci;intro A' Q' E' s' k q;unfold isType loadHead;refine Iv (wpAny_loadPart (k _ _ (X _ _ ho)) ?_);exact IB q
 ne:=λh tp dd its n sl X htp=>by
  obtain⟨c,d,cd,sl',ho⟩:=rq Z.ci;refine Bool.eq_false_iff.mpr λq=>?_;cases Value.ref.inj (beq_iff_eq.mp q);have z:=(X _ _ ho).symm.trans htp;cases z
 ca:=λX p k=>BZ X p hc Z.ga Z.gt Z.be Z.cl Z.mo k
noncomputable def lW(K:Qa)(x C:Addr):List V->Hp->VK->Prop:=λvs H Q=>
 (∃c u b,vs=[.ref x,c]/\RelV c u/\(∀u',RelV c u'->u'=u)/\kitOne K (.ref C) u=some b/\Q (.bl b) H) \/
 (∃tp ts b,vs=[.ref x,.ref tp]/\H tp=some (.tup ts)/\(∀us,av ts us->kitAny K (.ref C) us=some b)/\Q (.bl b) H)
def rp (r:av [v,w] us):∃a b,us=[a,b]/\RelV v a/\RelV w b:=by
 cases r with
 |cons p q=>
  cases q with
  |cons p' q'=>
   cases q' with
   |nil=>exact⟨_,_,rfl,p,p'⟩
def D1 (Z:dr X.K C)(hp:(x,ox)∈X.pn)(hc:ox.cls=.ref C):bv X (.builtin "isinstance") (lW X.K x C):=by
 intro pins s σ H xs us Q I r h;have hx:s.heap.get? x=some ox:=(I.pin (x,ox) (QL _ hp)).1;rcases h with⟨c,u,b,rfl,ru,uq,k,q⟩|⟨tp,ts,b,rfl,ht,k,q⟩
 .obtain ⟨a,a',rfl,ra,ra'⟩:=rp r;obtain rfl:a=.ref x:=ra;obtain rfl:=uq a' ra';exact kia_one (gN Z hc) I.kIn hx k (λz=>nomatch z) λtk=>⟨.bl b,H,I.tok tk,rfl,q⟩
 .obtain ⟨a,a',rfl,ra,ra'⟩:=rp r;obtain rfl:a=.ref x:=ra;obtain rfl:a'=.ref tp:=ra';obtain⟨z,its,rv,⟨oc,od,dat,sl⟩,ho,h1,n,hd⟩:=I.hok tp _ ht;obtain rfl:oc=.type "tuple":=h1;obtain rfl:dat=.seq its.toArray n:=hd;exact kia_tup (gN Z hc) I.kIn hx ho (k its rv) (λz=>nomatch z) λtk=>⟨.bl b,H,I.tok tk,rfl,q⟩
abbrev Cx.held(X:Cx)(e:Addr)(oe:Obj)(E:Value->HK->Prop):Cx:={X with A:=X.A.mark (some (.ref e)),calm:=false,pn:=(e,oe)::X.pn,xe:=E}
section
variable{X:Cx}{pins:List (Addr×Obj)}{σ:St}{H:Hp}{s:HK}{e:Addr}{oe:Obj}{E:Value->HK->Prop}
theorem Cx.Ok.held(ok:X.Ok):(X.held e oe E).Ok:=
 ⟨ok.mod,ok.kind,ok.glob,ok.blt,ok.above,ok.inj,ok.has,ok.cab,(λz=>by cases z),ok.frames,ok.stk,ok.exf,ok.bs,ok.bsz,ok.noex,ok.exfs,ok.funs,ok.frf⟩
def Inv.unheld(ok:X.Ok)(I:Inv (X.held e oe E) pins σ H s):Inv X pins σ H s:=
 ⟨ok,I.os,I.bare,I.base,I.loc,I.cell,I.free,I.freeC,(λp hp=>I.pin p (Qd _ hp)),I.hok,I.len⟩
end
def BY (hl:h.FunFrames base l)(hn:∀b∈bG l,H b=none)(u:Un (bG l) [] H H' h h1)(hB:cm (bG l) H' h h1 B)(st:B.StaysIn h2)(up:h1.UpToSlots h2):Un (bG l) [] H H' h h2:=by
 have no:∀b:Addr,b∉([]:List Addr):=λb=>by simp
 have sl:∀b o,h.get? b=some o->b∈bG l->∃sl,h2.get? b=some {o with slots:=sl}:=λb o e hb=>by
  obtain⟨s1,e1⟩:=u.slot b o e (hn b hb) hb (no b);obtain⟨_,o',ho',hd⟩:=hl.mem hb;rw[e]at ho';cases ho';obtain⟨s2,e2⟩:=up b _ e1 hd;exact⟨s2,e2⟩
 refine⟨λb o e n hb _=>?_,λb o e n hb _=>sl b o e hb,u.free,λb o e _=>?_,u.tups,u.frzs,u.tbls⟩
 .have e1:=u.keep b o e n hb (no b);exact st b o (hB b o e1 (.inr ⟨o,e⟩) hb)
 .by_cases hb:b∈bG l
  .obtain ⟨s1,e1⟩:=sl b o e hb;exact⟨_,e1⟩
  .obtain ⟨o1,e1⟩:=u.there b o e (no b);exact⟨o1,st b o1 (hB b o1 e1 (.inr ⟨o,e⟩) hb)⟩
section
variable{M:Ib}{A:HY}{E:Value->HK->Prop}{bs bs' bm bm':List Value}{nm nm' q q':Str}{C G N N':Addr}{hdct hdct':Bool}{sn sn':List Str}{sub sub':List Value}{ab ab':Bool}{col col':Option Bool}{dd dd':Option Addr}{k0 k1 k2 k3 k5 j0 j1 j2 j3 j5:Option Value}{newId newId':String}
def D0 {os:OsState}(hC:h.get? C=some (J3 nm q C N bs bm hdct sn sub ab col dd k0 k1 k2 k3 k5 newId))(hG:h.get? G=some (J3 nm' q' G N' bs' bm' hdct' sn' sub' ab' col' dd' j0 j1 j2 j3 j5 newId'))(he:h.get? e=some oe)(hcls:oe.cls=.ref C)(y1:(Value.ref G::bm').contains (.type "BaseException")=true)(y2:(Value.ref C::bm).contains (.ref G)=true)(hq:Q true ⟨h,g,d,t,os⟩):Ic M A (excMatches (.ref e) (.ref G)) Q E ⟨h,g,d,t,os⟩:=by
 have f:=tc_notTuple;unfold excMatches
 repeat (first|(with_reducible refine J2 he ?_;rw[hcls])|with_reducible refine J2 hG ?_|(with_reducible refine J4 hG ?_;rw[y1])|(with_reducible refine J4 hC ?_;rw[y2])|wp_step)
 exact hq
end
section
variable{X:Cx}{pins:List (Addr×Obj)}{σ:St}{H:Hp}{s:HK}
def Inv.lost{h':HQ}{m':Str->Option Value}{t':Nat}(I:Inv X pins σ H s)(hn:h'.Ns X.env.locals m')(hs:QT X.env.locals s.heap h'):Inv X pins (Qt X.N.length none) H {s with heap:=h',toks:=t' }:=by
 have lo:∀{b:Addr}{o:Obj},X.s₀.heap.get? b=some o->b≠X.env.locals:=λ{b o} e z=>by
  subst z;exact J9 (Qe (Qg e) I.ok.above) (QZ _)
 refine⟨I.ok,I.os,I.bare,⟨λb o e n hb hx=>?_,λb o e n hb hx=>?_,I.base.free,λb o e hx=>?_,I.base.tups,I.base.frzs,I.base.tbls⟩,⟨m',hn,λj y v e1 e2 _=>?_⟩,λy c e=>?_,I.free,I.freeC,λp hp=>?_,λb ob e=>?_,by simp⟩
 .rw[hs.2 b (lo e)];exact I.base.keep b o e n hb hx
 .obtain ⟨sl,e1⟩:=I.base.slot b o e n hb hx;exact⟨sl,by rw[hs.2 b (lo e)];exact e1⟩
 .obtain ⟨o',e1⟩:=I.base.there b o e hx;exact⟨o',by rw[hs.2 b (lo e)];exact e1⟩
 .rw[Wl]at e2;split at e2<;>cases e2
 .obtain ⟨w',z⟩:=I.cell y c e;exact⟨w',z.sameBut hs (I.cne y c e)⟩
 .obtain ⟨e,n,ne,nf,d⟩:=I.pin p hp;exact⟨by rw[hs.2 p.1 ne];exact e,n,ne,nf,d⟩
 .have hL:=I.free;refine(I.hok b ob e).stay (λc w' hc q=>?_) (λ_ q=>q) λ_ _ q=>q;rw[hs.2 c (λz=>by
   subst z;rcases hc with z|z
   .rw[<-z,hL]at e;cases e
   .rw[hL]at z;cases z)]
  exact q
def Inv.pinE{e:Addr}{oe:Obj}(I:Inv X pins σ H s)(he:s.heap.get? e=some oe)(hn:H e=none)(hl:e≠X.env.locals)(hf:e∉X.fs)(hc:∀v,oe.data≠.cell v):Inv X ((e,oe)::pins) σ H s:=
 I.pins_of λp hp=>by
  rcases Qj.mp hp with rfl|hp
  .exact ⟨he,hn,hl,hf,hc⟩
  .exact I.pin p (Qn _ hp)
def Inv.heldE{e:Addr}{oe:Obj}{E:Value->HK->Prop}(I:Inv X ((e,oe)::pins) σ H s):Inv (X.held e oe E) pins σ H s:=
 ⟨I.ok.held,I.os,I.bare,I.base,I.loc,I.cell,I.free,I.freeC,(λp hp=>I.pin p (by
  rcases Qj.mp (show p∈(e,oe)::(X.pn++pins)from hp)with rfl|hp
  .exact Qn _ QA
  .rcases QN.mp hp with z|z
   .exact QL _ z
   .exact Qn _ (Qd _ z))),I.hok,I.len⟩
end
noncomputable def jc(h:HQ)(C:Addr)(v:Value):Prop:=∃nm q N bs bm hdct sn sub ab col dd k0 k1 k2 k3 k5 newId,h.get? C=some (J3 nm q C N bs bm hdct sn sub ab col dd k0 k1 k2 k3 k5 newId)/\(Value.ref C::bm).contains v=true
def Fg (hst:X.stack=X.env::X.outer)(hfr:X.env.frame=some X.env.locals)(I:Inv X pins σ H1 s1)(os:s2.os=s1.os)(bare:HZ s2.gens)(un:Un (bG X.stack) [] H1 H2 s1.heap s2.heap)(hok:b7 X.prog X.w H2 s2.heap)(fl:Heap.FlyingW B X.stack e (.ref C) (.ref t) s2.heap)(hB:cm (bG X.stack) H2 s1.heap s2.heap B)(cC:jc X.base C (.ref G))(cG:jc X.base G (.type "BaseException"))(hg:Gl X gn)(hm:X.mg gn=some (.ref G))(hdb:(gn==("__debug__":Str))=false)(hN:X.N.Nodup)(hi:X.N[i]?=some n)(hn:X.env.scope.names.lookup n=some .local)(hsuite:∀(oe:Obj) (E':Value->HK->Prop),oe.cls=.ref C->∃tt,cb (X.held e oe E') (b₀::suite) tt/\tt {nx:=λ_ _=>False,rt:=D.rt} (σ.set i (some (.ref e))) H2):
  Ic (Ie X.prog X.w) X.A (noteFrame (.ref e) X.env) (λ_ s₂=>Ic (Ie X.prog X.w) X.A (setFlight (.ref e) none)
   (λ_ s₃=>Ic (Ie X.prog X.w) X.A (handleBy (.ref e) X.env [.ExceptHandler (some (.Name gn np)) (some n) (b₀::suite) pos]) (SP X pins D) X.xe s₃) X.xe s₂) X.xe s2:=by
 have frames:X.A.frames=some (X.env::X.outer):=by rw[<-hst];exact I.ok.frames
 have fz:=ja I.stack I.stkFree un;have inv:∀{h5:HQ},B.StaysIn h5->s2.heap.UpToSlots h5->Inv X pins σ H2 {s2 with heap:=h5}:=λ{h5} st up=>
  I.call' (s':={s2 with heap:=h5}) (ch:=[]) os (BY I.stack I.stkFree un hB st up) (ku hok fz hB st) bare (λb z=>J9 z (by simp))
 rw[hst]at fl;refine wpAny_looks_onW frames hfr fl λh4 hd4 up4=>?_;refine wpAny_landsW hd4 λh5 fl5 up5=>?_;have I5:=inv fl5.1 (up4.trans up5);obtain⟨oe5,he5,hc5⟩:=fl5.there;obtain⟨nm,q,N,bs,bm,hdct,sn,sub,ab,col,dd,k0,k1,k2,k3,k5,ni,hC,hCG⟩:=cC;obtain⟨nm',q',N',bs',bm',hdct',sn',sub',ab',col',dd',j0,j1,j2,j3,j5,ni',hG,hGB⟩:=cG;refine wpAny_handleBy_cons (codeAny_handlers_test ?_) (by intro z;cases z);refine Calls.Name_function_global I.ok.kind hg (Calls.loadGlobal_global (by rw[I.ok.glob];exact I5.mod.glob.keeps I5.bk) hm ?_) hdb;refine D0 (I5.bk _ _ hC) (I5.bk _ _ hG) he5 hc5 hGB hCG (codeAny_handlers_suite_as ?_);refine lands_againW fl5 λh6 fl6 up6=>?_;have I6:=inv fl6.1 ((up4.trans up5).trans up6);obtain⟨oe,ws,he6,hc6,hd6,_⟩:=fl6.first;have hBe:B.get? e=none:=fl6.2.1;have hHe:H2 e=none:=by
  cases z:H2 e with
  |none=>rfl
  |some u=>
   obtain⟨o,ho⟩:=(hok e u z).ob;have:=hB e o ho (.inl (by rw[z];simp)) (λhm=>by rw[fz e hm]at z;cases z);rw[hBe]at this;cases this
 have hen:∀b∈bG X.stack,b≠e:=λb hb z=>by
  subst z;obtain⟨_,o,ho,hnf⟩:=I6.stack.mem hb;rw[he6]at ho;cases ho;exact hnf ws hd6
 have hL:e≠X.env.locals:=λz=>hen X.env.locals (by rw[hst,gM hfr];exact QA) z.symm;have hF:e∉X.fs:=λz=>hen e (by rw[hst,gM hfr];exact Qd _ z) rfl;refine wq (I6.pinE he6 hHe hL hF (λv z=>by rw[hd6]at z;cases z)) hN hi (.inl hn) (v:=.ref e) rfl (λs7 I7=>?_) (.inr hn);obtain⟨tt,hp,ht⟩:=hsuite oe _ hc6;refine Ii (hp pins s7 _ H2 _ I7.heldE ht) (λf s8 h8=>?_) (λx s8 hx=>hx);cases f with
 |next=>obtain⟨_,_,_,z⟩:=h8;exact z.elim
 |brk=>obtain⟨_,_,_,z⟩:=h8;exact z.elim
 |cont=>obtain⟨_,_,_,z⟩:=h8;exact z.elim
 |ret u=>
  obtain⟨v,σ',H',I8,rv,qq⟩:=h8;have I8':=Inv.unheld I.ok I8;obtain⟨m,hm8,_⟩:=I8'.loc;refine wpAny_nameGoes hn hm8 (by rw[I.ok.kind];rfl) λh' m' hn' hs'=>?_;exact⟨v,_,H',I8'.lost hn' hs',rv,qq⟩
noncomputable def lL:List Addr->TA
 |[]=>fI
 |a::r=>vL (tC (.ref a)) (lL r)
def Ag (h:Q (as.map V.ref) H):lL as σ H Q:=by
 induction as generalizing Q with
 |nil=>exact h
 |cons a r ih=>exact ih (Q:=λxs H2=>Q (.ref a::xs) H2) h
theorem su:∀{as:List Addr}{us:List Value},av (as.map V.ref) us->us=as.map Value.ref
 |[],_,.nil=>rfl
 |a::r,_,.cons p q=>by
  obtain rfl:_=Value.ref a:=p;rw[su q];rfl
inductive cx(env:Env)(mg:Str->Option Value):List Expr->List Addr->Prop
 |nil:cx env mg [] []
 |cons {x:Str}{p:Pos}{es:List Expr}{a:Addr}{as:List Addr}(hg:env.kindOf x=some .globalImplicit) (hm:mg x=some (.ref a)) (hd:(x==("__debug__":Str))=false) (h:cx env mg es as):cx env mg (.Name x p::es) (a::as)
def Af (h:cx X.env X.mg es as):PA X es (lL as):=by
 induction h with
 |nil=>exact zP
 |cons hg hm hd _ ih=>exact zq (vA (v:=.ref _) hg hm rfl hd) ih rfl
noncomputable def qB(n y:Str)(es:List Expr)(p1 p2 p3 p4 p5 p6 p7 p8 p9 pa pb pc pd pe pf pg ph:Pos)(k1 k2:Nat):List Stmt:=
 [.If (.Call (.Name "isinstance" p1) [.Name n p2,.Tuple es k1 p3] [] p4) [.Return (some (.Constant (.bool false) k2 p5)) p6] [] p7,
  .Return (some (.BoolOp .And [.Call (.Name "isinstance" p8) [.Name n p9,.Name y pa] [] pb,.Call (.Name "isinstance" pc) [.Name n pd,.Name "ValueError" pe] [] pf] pg)) ph]
structure eO(X:Cx)(C G:Addr)(ts:List Addr)(Y:Addr)(r:Bool):Prop where
 ex:jc X.base C (.ref G)
 kk:dr X.K C
 va:kitOne X.K (.ref C) (.type "ValueError")=some true
 re:∃b1 b2,kitAny X.K (.ref C) (ts.map Value.ref)=some b1/\kitOne X.K (.ref C) (.ref Y)=some b2/\r=(! b1&&b2)
def DZ {σ:St}{D:bQ}(hk:eO X C G ts Y r)(hc:oe.cls=.ref C)(hts:cx X.env X.mg es ts)(hz:ts.length<=1000)(hY:Gl X y)(hmY:X.mg y=some (.ref Y))(hdY:(y==("__debug__":Str))=false)(hI:Gl X "isinstance")(hmI:X.mg "isinstance"=none)(hV:Gl X "ValueError")(hmV:X.mg "ValueError"=none)(hN:X.N[i]?=some n)(hn:X.env.scope.names.lookup n=some .local)(hd1:(n==("__debug__":Str))=false)(hd2:(n==("__classdict__":Str))=false)(hi:i<σ.length)(q:∀p ts',H p=none->D.rt (.bl r) (aG H p (.tup ts'))):
  ∃tt,cb (X.held e oe E') (qB n y es p1 p2 p3 p4 p5 p6 p7 p8 p9 pa pb pc pd pe pf pg ph k1 k2) tt/\tt {nx:=λ_ _=>False,rt:=D.rt} (σ.set i (some (.ref e))) H:=by
 have Z:dr (X.held e oe E').K C:=hk.kk;have hp:(e,oe)∈(X.held e oe E').pn:=QA;have cR:=D1 (X:=X.held e oe E') Z hp hc;have bI:HX "isinstance"=some (.builtin "isinstance"):=by rfl
 have bV:HX "ValueError"=some (.type "ValueError"):=by rfl
 have hnm:∀{p:Pos},PE (X.held e oe E') (.Name n p) (vH i):=λ{p}=>xT hN (.inl hn) hd1 hd2;have c1:PE (X.held e oe E') (.Call (.Name "isinstance" p1) [.Name n p2,.Tuple es k1 p3] [] p4) _:=yo cR hI hmI bI (zq hnm (zq (rH (Af hts)) zP));have c2:PE (X.held e oe E') (.Call (.Name "isinstance" p8) [.Name n p9,.Name y pa] [] pb) _:=yo cR hI hmI bI (zq hnm (zq (vA (v:=.ref Y) hY hmY rfl hdY) zP));have c3:PE (X.held e oe E') (.Call (.Name "isinstance" pc) [.Name n pd,.Name "ValueError" pe] [] pf) _:=yo cR hI hmI bI (zq hnm (zq (qK (v:=.ty "ValueError") hV hmV bV rfl) zP));have s1:=qL (pos:=p7) (rN c1) (wr (vI (pos:=p6) (pS (X:=X.held e oe E') (b:=false) (j:=k2) (pos:=p5)))) jm;have s2:=vI (pos:=ph) (rM (pos:=pg) c2 (gY c3));refine⟨_,ya s1 (wr s2),?_⟩;have hv:(σ.set i (some (V.ref e)))[i]?=some (some (V.ref e)):=QW hi;obtain⟨b1,b2,k1',k2',hr⟩:=hk.re;have sz:(ts.map V.ref).length<=sizeLine:=by
  rw[QF];exact Wv (E2 hz)
 refine⟨.ref e,hv,Ag ⟨sz,λp hp'=>.inr ⟨p,ts.map V.ref,b1,rfl,zf,λus hu=>by rw[su hu];exact k1',b1,rfl,?_⟩⟩⟩;cases b1 with
 |true=>
  rw[J7 rfl];have e1:r=false:=by rw[hr];rfl
  rw[e1]at q;exact q p _ hp'
 |false=>
  rw[J8 QJ];refine⟨.ref e,hv,.inl ⟨.ref Y,.ref Y,b2,rfl,rfl,λ_ z=>z,k2',b2,rfl,?_⟩⟩;cases b2 with
  |true=>
   rw[J7 rfl];refine⟨.ref e,hv,.inl ⟨.ty "ValueError",.type "ValueError",true,rfl,rfl,λ_ z=>z,hk.va,?_⟩⟩;have e1:r=true:=by rw[hr];rfl
   rw[e1]at q;exact q p _ hp'
  |false=>
   rw[J8 QJ];have e1:r=false:=by rw[hr];rfl
   rw[e1]at q;exact q p _ hp'
def wF (F:bX X.prog X.w X.K X.mg X.base (dE X.prog X.w) k f fd ps sp)(hr:bU k X.A)(hgf:Gl X fnm)(hmf:X.mg fnm=some (.ref f))(hkf:QY X.K (.ref f)=true)(hb:Binds X.K fd ps [])(hdf:(fnm==("__debug__":Str))=false)(ha:PA (X.wish Eh) (e0::es) t)(he:Ih (e0::es) X.env=(false,eval e0 X.env)::Ih es X.env)(hpl:(Ig q (Ih es X.env)).any (·.1)=false)(I:Inv X pins σ H s)(h:t σ H λvs H1=>sp vs H1 (λ_ _=>False) E)(hx:∀(H1:Hp) (s1:HK) (ev:Value) (s':HK),Inv X pins σ H1 s1->dE X.prog X.w X.stack H1 s1 E ev s'->Eh ev s'):Ic (Ie X.prog X.w) X.A (eval (.Call (.Name fnm p) (e0::es) [] q) X.env) Q Eh s:=by
 refine IP (vw I hgf hmf ?_ hdf);refine PySem.W.callWith_K (h₀:=X.base) I.ok.mod.kin hkf (aP (ha q pins s σ H _ (I.wish Eh) h) λus s1 ⟨vs,H1,I1,r,hsp⟩=>⟨I1.kIn,?_⟩) he hpl;have J:Inv X pins σ H1 s1:=I1.unwish;have hl:us.length=ps.length:=by rw[<-r.length];exact F.len _ _ _ _ hsp
 have hbb:IL s1 fd ⟨us,[]⟩ (ps.zip us):=by
  have z:=hb s1 us J.kIn (by rw[QS];exact hl);rw[QS]at z;exact z
 refine wpAny_call (IN (F.run X.A X.stack s1 H1 ⟨us,[]⟩ us vs _ _ hr J.env0 hbb r hsp) λres s' hq=>?_);cases res with
 |error ev=>exact hx H1 s1 ev s' J hq
 |ok fl=>
  cases fl with
  |ret u=>obtain⟨_,_,_,_,_,_,_,z⟩:=hq;exact z.elim
  |next=>exact False.elim hq
  |brk=>exact False.elim hq
  |cont=>exact False.elim hq
def BX {i:Nat}(hst:X.stack=X.env::X.outer)(hfr:X.env.frame=some X.env.locals)(F:bX X.prog X.w X.K X.mg X.base (dE X.prog X.w) k f fd ps sp)(hr:bU k X.A)(hgf:Gl X fnm)(hmf:X.mg fnm=some (.ref f))(hkf:QY X.K (.ref f)=true)(hb:Binds X.K fd ps [])(hdf:(fnm==("__debug__":Str))=false)(ha:∀E,PA (X.wish E) (e0::es) t)(hG:jc X.base G (.type "BaseException"))(hgG:Gl X gn)(hmG:X.mg gn=some (.ref G))(hdG:(gn==("__debug__":Str))=false)(hN:X.N.Nodup)(hi:X.N[i]?=some n)(hn:X.env.scope.names.lookup n=some .local)(hd1:(n==("__debug__":Str))=false)(hd2:(n==("__classdict__":Str))=false)(hts:cx X.env X.mg ns ts)(hz:ts.length<=1000)(hY:Gl X y)(hmY:X.mg y=some (.ref Y))(hdY:(y==("__debug__":Str))=false)(hI:Gl X "isinstance")(hmI:X.mg "isinstance"=none)(hV:Gl X "ValueError")(hmV:X.mg "ValueError"=none)(he:Ih (e0::es) X.env=(false,eval e0 X.env)::Ih es X.env:=by rfl)(hpl:(Ig q (Ih es X.env)).any (·.1)=false:=by rfl)(hs:Ip (.Call (.Name fnm p) (e0::es) [] q) none p'.line X.env=pure false:=by rfl):
  PS X (.Try [.Expr (.Call (.Name fnm p) (e0::es) [] q) p'] [.ExceptHandler (some (.Name gn np)) (some n) (qB n y ns p1 p2 p3 p4 p5 p6 p7 p8 p9 pa pb pc pd pe pf pg ph k1 k2) hp] [] [] pos)
   (λD σ H=>t σ H λvs H1=>sp vs H1 (λ_ _=>False) λcls _ H2=>∃C r,cls=.ref C/\eO X C G ts Y r/\∀p ts',H2 p=none->D.rt (.bl r) (aG H2 p (.tup ts'))):=by
 intro pins s σ H D I h;have hiσ:i<σ.length:=by rw[I.len];exact(Qb.mp hi).1
 refine wpAny_Try_except (Io (Iq (wF F hr hgf hmf hkf hb hdf (ha _) he hpl I h λH1 s1 ev s' J hq=>?_) I.quiet hs));obtain⟨C,e,tt,B,H2,rfl,os,bare,un,hok,fl,hB,C',rr,eC,hk,hD⟩:=hq;cases eC;exact Fg (D:=D) hst hfr J os bare un hok fl hB hk.ex hG hgG hmG hdG hN hi hn λoe E' hc=>DZ hk hc hts hz hY hmY hdY hI hmI hV hmV hi hn hd1 hd2 hiσ hD
end L2
namespace L2
open PySem PySem.Spec PySem.Calls PyProof.Rows
def BW {i:Nat}(hi:X.N[i]?=some v)(hv:eK X.env.scope v)(hd:(v==("__debug__":Str))=false)(hcd:(v==("__classdict__":Str))=false)(hb:b.natAbs.log2<1920)(hz1:(Str.empty++msg).length<=sizeLine)(hz2:(Str.empty++msg++(toString b:Str)).length<=sizeLine):
  PE X (.JoinedStr [.Constant (.str msg) k p1,.FormattedValue (.Name v p3) (-1) none p4] p5) (λσ H Q=>σ[i]?=some (some (.int b))/\∀z,Q (.str z) H):=by
 intro pins s σ H Q I ⟨hσ,h⟩;refine JoinedStr_many (joinParts_cons ?_);refine aP (wJ (X:=X) (x:=msg) (j:=k) (pos:=p1) pins s σ H (λw H'=>w=.str msg/\H'=H) I ⟨rfl,rfl⟩) λu s1 ⟨x,H1,I1,r1,q1⟩=>?_;obtain⟨rfl,rfl⟩:=q1;obtain⟨t,rfl⟩:=r1;refine⟨hz1,joinParts_cons (FormattedValue_plain ?_)⟩;refine aP (xT (X:=X) hi hv hd hcd pins s1 σ H1 (λw H'=>w=.int b/\H'=H1) I1 ⟨.int b,hσ,rfl,rfl⟩) λu s2 ⟨x,H2,I2,r2,q2⟩=>?_;obtain⟨rfl,rfl⟩:=q2;obtain⟨t2,rfl⟩:=r2;refine wpAny_formatField_int hb ?_;refine⟨hz2,joinParts_nil ?_ hz2⟩;exact⟨.str _,H2,(I2.tok _).tok _,⟨_,rfl⟩,h _⟩
def DY {i:Nat}{bs:List Int}(hi:X.N[i]?=some v)(hv:eK X.env.scope v)(hd:(v==("__debug__":Str))=false)(hcd:(v==("__classdict__":Str))=false)(hb:bs.all (λb=>decide (b.natAbs.log2<1920)&&(decide ((Str.empty++msg).length<=sizeLine)&&decide ((Str.empty++msg++(toString b:Str)).length<=sizeLine)))=true):
  PE X (.JoinedStr [.Constant (.str msg) k p1,.FormattedValue (.Name v p3) (-1) none p4] p5) (λσ H Q=>(∃b∈bs,σ[i]?=some (some (.int b)))/\∀z,Q (.str z) H):=by
 intro pins s σ H Q I ⟨⟨b,hm,hσ⟩,h⟩;have q:=Wf.mp hb b hm;simp only[Qp,Kc]at q;exact BW hi hv hd hcd q.1 q.2.1 q.2.2 pins s σ H Q I ⟨hσ,h⟩
end L2
namespace Mini
open PySem PySem.Spec PyProof.Rows L2
set_option genInjectivity false in
structure Xc where
 g:Str
 rs:List Str
 os:List Str
noncomputable def Xc.xs(Q:Xc):List Str:=Q.rs++Q.os
def Xc.at {Q:Xc}{c:Nat}(h:Q.rs[c]?=some x):Q.xs[c]?=some x:=by
 unfold Xc.xs;rw[Qh (Qb.mp h).1];exact h
noncomputable def eS:List Value:=[.type "ValueError",.type "Exception",.type "BaseException",.type "object"]
set_option tactic.hygienic true in
def rn {K:Qa}(X:K.In h)(q:Q8 K C eS "ValueError.__new__"=true):(∀(x:Str) (mg:Str->Option Value),mg x=some (.ref C)->OwnCls x C eS "ValueError.__new__" mg h)/\(Q0 K C v=some true->jc h C v):=by
 unfold Q8 at q;split at q
 .rename_i dd cd sl ho;split at q
  .rename_i C' bm k0 k1 k2 k3 n k5 hm hs;simp only[Qp,beq_iff_eq,Q9]at q;obtain⟨⟨⟨⟨⟨rfl,rfl⟩,q1⟩,q2⟩,q3⟩,q4⟩:=q;have eo:=X _ _ ho;have em:Q0 K C' v=some (cd.mro.contains v):=by
    unfold Q0 PySem.W.clsIn;rw[ho];simp only[QQ];rw[hm];rfl
   obtain⟨a1,a2,a3,a4,a5,a6,a7,a8,a9,b1,b2⟩:=cd;dsimp only at hm q1 q3 q4 em;subst hm q1;have es:sl=#[k0,k1,k2,k3,some (.builtin "ValueError.__new__"),k5]:=by
    obtain⟨l⟩:=sl;simp only at hs;rw[hs]
   subst es;have T:=PySem.W.tail_of_in X q2;refine⟨λx mg hb=>⟨hb,bm,a4,a1,a5,a2,a6,a7,a8,a9,b1,dd,k0,k1,k2,k3,k5,_,eo,.of_isNs (PySem.W.isNs_of_in X q3),PySem.W.nsMap_none_of_in X q3 q4,T⟩,λz=>?_⟩;rw[em]at z;exact⟨a1,a5,a4,a2,bm,a6,a7,a8,a9,b1,dd,k0,k1,k2,k3,k5,_,eo,Option.some.inj z⟩
  .cases q
 .cases q
structure eJ(K:Qa)(mg:Str->Option Value)(Q:Xc)(G:Addr):Prop where
 g:mg Q.g=some (.ref G)
 ge:Q8 K G eS "ValueError.__new__"=true
 gb:Q0 K G (.type "BaseException")=some true
 v:mg "ValueError"=none
 y:∀(c:Nat) (x:Str),Q.xs[c]?=some x->∃A,mg x=some (.ref A)
 x:∀(c:Nat) (x:Str),Q.rs[c]?=some x->∃A,mg x=some (.ref A)/\Q8 K A eS "ValueError.__new__"=true/\dr K A/\Q0 K A (.ref G)=some true/\QG K (.ref A) (.type "ValueError")=some true /\
  ∀(c':Nat) (x':Str) (A':Addr),Q.xs[c']?=some x'->mg x'=some (.ref A')->QG K (.ref A) (.ref A')=some (decide (c=c'))
noncomputable def RX(mg:Str->Option Value)(Q:Xc)(E:XK):VK:=λv H=>∃(c:Nat) (x:Str) (A:Addr),v=.int c/\Q.rs[c]?=some x/\mg x=some (.ref A)/\E (.ref A) none H
noncomputable def sI(K:Qa)(mg:Str->Option Value)(Q:Xc)(g:List Wd->Me->Rz):Sp:=λvs H _ E=>wR K g vs H (RX mg Q E) E0
noncomputable def iL(sc:HH)(Q:Xc):List Expr->List Nat->Bool
 |[],[]=>true
 |.Name x _::es,c::cs=>bZ sc x&&(zr x&&(decide (Q.xs[c]?=some x)&&iL sc Q es cs))
 |_,_=>false
noncomputable def rl:Sm->Bool
 |.expr _=>true
 |.asg _ _=>true
 |_=>false
def jd (h:rl a=true)(env:En)(m:Me):(∃e1 m1,aT cl a env m=.next e1 m1)\/aT cl a env m=.no:=by
 cases a with
 |expr e=>
  show(∃e1 m1,(af cl e env m).bindS env _=.next e1 m1)\/(af cl e env m).bindS env _=.no;cases af cl e env m with
  |ok w m1=>exact .inl ⟨_,_,rfl⟩
  |no=>exact .inr rfl
 |asg i e=>
  show(∃e1 m1,(af cl e env m).bindS env _=.next e1 m1)\/(af cl e env m).bindS env _=.no;cases af cl e env m with
  |ok w m1=>exact .inl ⟨_,_,rfl⟩
  |no=>exact .inr rfl
 |_=>cases h
noncomputable def fC(i j:Nat):List Int->Sm
 |[]=>.never
 |b::bs=>.ite (.cmp .eq (.bin .sub (.var i) (.lit (.int b))) (.lit (.int 0))) (.ret (.lit (.int j))) (fC i j bs)
theorem gO {K:Qa}:∀{bs:List Int},aq K as H D (aT cl (fC i j bs) env m)->∃a∈bs,env[i]?=some (some (.int a))/\aq K as H D (.ret (.int j) m)
 |[],P=>P.elim
 |b::bs,P=>by
  have P2:aq K as H D ((((match env[i]? with|some (some w)=>Rz.ok w m|_=>.no).bind λx m2=>(Rz.ok (.int b) m2).bind λy m3=>cE .sub x y m3).bind λx m2=>(Rz.ok (.int 0) m2).bind λy m3=>cL .eq x y m3).bindS env λx m2=>match x with
   |.bl true=>aT cl (.ret (.lit (.int j))) env m2
   |.bl false=>aT cl (fC i j bs) env m2
   |_=>.no):=P
  cases hw:env[i]? with
  |none=>rw[hw]at P2;exact P2.elim
  |some o=>
   cases o with
   |none=>rw[hw]at P2;exact P2.elim
   |some w=>
    rw[hw]at P2;cases w with
    |int a=>
     have P3:aq K as H D (match Wd.bl (decide (a-b=0))with
      |.bl true=>aT cl (.ret (.lit (.int j))) env m
      |.bl false=>aT cl (fC i j bs) env m
      |_=>.no):=P2
     cases z:decide (a-b=0)with
     |false=>
      rw[z]at P3;obtain⟨a',h1,h2,h3⟩:=gO (bs:=bs) P3;rw[hw]at h2;exact⟨a',Qd _ h1,h2,h3⟩
     |true=>
      rw[z]at P3;have ab:a=b:=by have:=Kb z;lia
      exact⟨a,by simp[ab],rfl,P3⟩
    |_=>exact P2.elim
inductive cc(C:Ctx)(Q:Xc)(xn:List (Nat×Str))(sc:HH)(N:List Str):Sm->List Stmt->Prop
 |iteFs {c:Ex}{y:Expr}{x msg v:Str}{i j k:Nat}{bs:List Int}{np cp p p1 p2 p3 p4 p5:Pos}{rest:List Stmt}(rc:zi c=false) (ic:wQ c=false) (hc:ay C sc N c (.e y)) (hx:Q.rs[j]?=some x) (hg:bZ sc x=true) (ok:zr x=true) (hi:N[i]?=some v) (hv:jB sc v=true) (ov:zr v=true)
   (hb:bs.all (λb=>decide (b.natAbs.log2<1920)&&(decide ((Str.empty++msg).length<=sizeLine)&&decide ((Str.empty++msg++(toString b:Str)).length<=sizeLine)))=true) :
   cc C Q xn sc N (.ite c (fC i j bs) .never) (.If y [.Raise (some (.Call (.Name x np) [.JoinedStr [.Constant (.str msg) k p1,.FormattedValue (.Name v p3) (-1) none p4] p5] [] cp)) none p2] [] p::rest)
 |retB {k:Nat}{a:Ex}{nm bn:Str}{id:String}{y:Expr}{ys:List Expr}{p p' p2 pb pq:Pos}{rest:List Stmt}(hk:xn.lookup k=some nm) (hg:bZ sc nm=true) (ok:zr nm=true) (hs:(y::ys).all zg=true) (ha:ay C sc N a (.a (y::ys))) (gb:bZ sc bn=true) (hn:bn∈zm) (hv:HX bn=some (.builtin id)) (h1:bn ≠ "__name__") (h2:(bn==("__debug__":Str))=false) :
   cc C Q xn sc N (.ret (.call k a)) (.Return (some (.Call (.Name bn pb) [.Call (.Name nm p) (y::ys) [] p'] [] pq)) p2::rest)
 |forC {k:Nat}{a:Ex}{nm:Str}{y tg:Expr}{ys:List Expr}{body:List Stmt}{p p' p2:Pos}{rest:List Stmt}(hk:xn.lookup k=some nm) (hg:bZ sc nm=true) (ok:zr nm=true) (hs:(y::ys).all zg=true) (ha:ay C sc N a (.a (y::ys))) :
   cc C Q xn sc N (.ret (.call k a)) (.For tg (.Call (.Name nm p) (y::ys) [] p') body [] p2::rest)
 |asgC {k i:Nat}{a:Ex}{nm x v:Str}{y z:Expr}{ys:List Expr}{scope:HH}{p p' p2 q q' q2:Pos}{rest:List Stmt}(hk:xn.lookup k=some nm) (hg:bZ sc nm=true) (ok:zr nm=true) (hs:(y::ys).all zg=true) (ha:ay C sc N a (.a (y::ys))) (h1:N[i]?=some x) (h2:wW sc x=true) (hB:yU sc N scope [v]=true) :
   cc C Q xn sc N (.ret (.call k a)) (.Assign [.Name x q] (.ListComp z [⟨.Name v q2,.Call (.Name nm p) (y::ys) [] p',[],0⟩] scope q') p2::rest)
 |br {c:Ex}{y:Expr}{k:Nat}{a:Ex}{b:Sm}{nm:Str}{z:Expr}{zs:List Expr}{p p' p2 p3:Pos}{rest:List Stmt}(rc:zi c=false) (ic:wQ c=false) (hc:ay C sc N c (.e y)) (hk:xn.lookup k=some nm) (hg:bZ sc nm=true) (ok:zr nm=true) (hs:(z::zs).all zg=true) (ha:ay C sc N a (.a (z::zs))) (hb:cc C Q xn sc N b rest) :
   cc C Q xn sc N (.ite c (.ret (.call k a)) b) (.If y [.Return (some (.Call (.Name nm p) (z::zs) [] p')) p2] [] p3::rest)
 |seqS {a b:Sm}{st st':Stmt}{r:List Stmt}(hn:rl a=true) (ha:bC C sc N a (.s st)) (hb:cc C Q xn sc N b (st'::r)):cc C Q xn sc N (.seq a b) (st::st'::r)
 |call {k:Nat}{a:Ex}{nm:Str}{y:Expr}{ys:List Expr}{p p' p2:Pos}{rest:List Stmt}(hk:xn.lookup k=some nm) (hg:bZ sc nm=true) (ok:zr nm=true) (hs:(y::ys).all zg=true) (ha:ay C sc N a (.a (y::ys))) :
   cc C Q xn sc N (.ret (.call k a)) (.Expr (.Call (.Name nm p) (y::ys) [] p') p2::rest)
 |ret {k:Nat}{a:Ex}{nm:Str}{y:Expr}{ys:List Expr}{p p' p2:Pos}{rest:List Stmt}(hk:xn.lookup k=some nm) (hg:bZ sc nm=true) (ok:zr nm=true) (hs:(y::ys).all zg=true) (ha:ay C sc N a (.a (y::ys))) :
   cc C Q xn sc N (.ret (.call k a)) (.Return (some (.Call (.Name nm p) (y::ys) [] p')) p2::rest)
theorem bj.wish{C:Ctx}{X:Cx}{cl:Nat->List Wd->Me->Rz}{d:Nat}(h:bj C X cl d)(E:Value->HK->Prop):bj C (X.wish E) cl d:=⟨h.room,h.calm,h.fn,h.con,h.blt⟩
def xi (h:zr x=true):(x==("__debug__":Str))=false/\(x==("__classdict__":Str))=false:=by
 unfold zr at h;simp only[Qp,Q9]at h;exact⟨h.1.1,h.1.2⟩
noncomputable def eZ(P:HJ)(w:HL)(K:Qa)(mg:Str->Option Value)(base:HQ)(Q:Xc)(xn:List (Nat×Str))(cl:Nat->List Wd->Me->Rz)(d:Nat):Prop:=∀(k:Nat) (nm:Str),xn.lookup k=some nm ->
 (∃f fd ps,mg nm=some (.ref f)/\QY K (.ref f)=true/\Binds K fd ps []/\bX P w K mg base (dE P w) d f fd ps (sI K mg Q (cl k))) /\
 ∀ws m v m',cl k ws m=.ok v m'->∃(c:Nat) (x:Str),v=.int c/\Q.rs[c]?=some x
section
variable{C:Ctx}{Q:Xc}{xn:List (Nat×Str)}{cl:Nat->List Wd->Me->Rz}{d:Nat}{X:Cx}{G:Addr}
def Ae {st:Stmt}(h:PS X.nox st t):PS X st t:=λpins s σ H D I hw=>
 Ii (h pins s σ H D (I.wish _) hw) (λ_ _ q=>q.unwish) λ_ _ z=>False.elim z
def BV {K:Qa}(S:aJ K as m H)(hp:H p=none)(us:List V):Step as H as (aG H p (.tup us))/\aJ K as m (aG H p (.tup us)):=by
 have T:Step as H as (aG H p (.tup us)):=⟨⟨[],by simp⟩,λb o h _=>by rw[ze (zo h hp)];exact h,λb hb=>.inl hb⟩;refine⟨T,S.keep T λb _ o e=>?_⟩;rw[ze (zo e hp)];exact e
def iY (hC:bj C X cl d)(hp:xU (dE X.prog X.w) X E)(hF:eZ X.prog X.w X.K X.mg X.base Q xn cl d)(hk:xn.lookup k=some nm)(hg:bZ X.env.scope nm=true)(ok:zr nm=true)(hs:(y::ys).all zg=true)(ha:ay C X.env.scope X.N a (.a (y::ys))):
  PE X (.Call (.Name nm p) (y::ys) [] p') (λσ H _=>zZ X.K (aT cl (.ret (.call k a))) {nx:=λ_ _=>False,rt:=RX X.mg Q E} σ H):=by
 obtain⟨⟨f,fd,ps,h1,h2,h3,h4⟩,_⟩:=hF k nm hk;have hs':=hs;rw[Q7,Qp]at hs';intro pins s σ H R I q;have pa:PA (X.wish X.xe) (y::ys) (wl X.K (af cl a)):=zB ha X hC rfl rfl;refine wF (E:=E) h4 hC.room (zO hg) h1 h2 h3 (xi ok).1 pa (zd hs'.1) (zz hs'.2) I ?_ λH1 s1 ev s' J z=>hp pins σ H1 s1 ev s' J z;obtain⟨as,env,m,S,G',P⟩:=q;have P0:ak X.K as H (RX X.mg Q E) ((af cl a env m).bind λw m1=>cl k (zh w) m1):=aq.bind (r:=(af cl a env m).bind λw m1=>cl k (zh w) m1) P λw m1 as1 H1 v T1 S1 R1 P1=>P1 as1 H1 v .refl S1 R1;exact⟨as,env,m,S,G',bP.bind P0 λw m1 as1 H1 vs T1 S1 R1 P1=>⟨as1,m1,zh w,S1,R1,P1⟩⟩
def lY {T:St->Hp->Prop}(h:PE X e (λσ H _=>T σ H)):PI X tg e (λσ H _=>T σ H):=λpins s σ H R I q=>by
 refine Ii (h pins s σ H (λ_ _=>False) I q) (λv s1 z=>?_) λ_ _ z=>z;obtain⟨_,_,_,_,z⟩:=z;exact z.elim
def pE (hC:bj C X cl d)(hp:xU (dE X.prog X.w) X E)(hF:eZ X.prog X.w X.K X.mg X.base Q xn cl d)(hk:xn.lookup k=some nm)(hg:bZ X.env.scope nm=true)(ok:zr nm=true)(hs:(y::ys).all zg=true)(ha:ay C X.env.scope X.N a (.a (y::ys))):
  cb X (.Return (some (.Call (.Name nm p) (y::ys) [] p')) p2::rest) (λ_ σ H=>zZ X.K (aT cl (.ret (.call k a))) {nx:=λ_ _=>False,rt:=RX X.mg Q E} σ H):=by
 obtain⟨⟨f,fd,ps,h1,h2,h3,h4⟩,_⟩:=hF k nm hk;have hs':=hs;rw[Q7,Qp]at hs';intro pins s σ H D I q;have pa:PA (X.wish X.xe) (y::ys) (wl X.K (af cl a)):=zB ha X hC rfl rfl;have go:Ic (Ie X.prog X.w) X.A (eval (.Call (.Name nm p) (y::ys) [] p') X.env) (λ_ s1=>SP X pins {nx:=λ_ _=>False,rt:=D.rt} .next s1) X.xe s:=by
  refine wF (E:=E) h4 hC.room (zO hg) h1 h2 h3 (xi ok).1 pa (zd hs'.1) (zz hs'.2) I ?_ λH1 s1 ev s' J z=>hp pins σ H1 s1 ev s' J z;obtain⟨as,env,m,S,G',P⟩:=q;have P0:ak X.K as H (RX X.mg Q E) ((af cl a env m).bind λw m1=>cl k (zh w) m1):=aq.bind (r:=(af cl a env m).bind λw m1=>cl k (zh w) m1) P λw m1 as1 H1 v T1 S1 R1 P1=>P1 as1 H1 v .refl S1 R1;exact⟨as,env,m,S,G',bP.bind P0 λw m1 as1 H1 vs T1 S1 R1 P1=>⟨as1,m1,zh w,S1,R1,P1⟩⟩
 refine Io (wpAny_Return_some (Ii go (λv s1 z=>?_) λ_ _ z=>z));obtain⟨_,_,_,z⟩:=z;exact z.elim
def Ad (hC:bj C X cl d)(hX:dI X.nox)(hO:eJ X.K X.mg Q G)(hx:∀x A,X.mg x=some (.ref A)->Q8 X.K A eS "ValueError.__new__"=true->OwnCls x A eS "ValueError.__new__" X.mg X.base)(hp:xU (dE X.prog X.w) X E)(hr:qA X E)(hF:eZ X.prog X.w X.K X.mg X.base Q xn cl d)(h:cc C Q xn X.env.scope X.N s sts):cb X sts (λ_ σ H=>zZ X.K (aT cl s) {nx:=λ_ _=>False,rt:=RX X.mg Q E} σ H):=by
 induction h with
 |@seqS a b st st' r hn ha hb ih=>
  have p1:PS X st (zZ X.K (aT cl a)):=Ae (pV (hC.wish _) hX ha);intro pins s σ H D I q;refine ya p1 ih pins s σ H D I ?_;obtain⟨as,env,m,S,G',P⟩:=q;refine⟨as,env,m,S,G',?_⟩;have P':aq X.K as H {nx:=λ_ _=>False,rt:=RX X.mg Q E} (match aT cl a env m with
   |.next e1 m1=>aT cl b e1 m1
   |r=>r):=P
  rcases jd (cl:=cl) hn env m with⟨e1,m1,e⟩|e
  .rw[e]at P' ⊢;exact λas' H' σ' T S' G2=>⟨as',e1,m1,S',G2,aq.step (r:=aT cl b e1 m1) P' T⟩
  .rw[e]at P';exact P'.elim
 |@call k a nm y ys p p' p2 rest hk hg ok hs ha=>
  obtain⟨⟨f,fd,ps,h1,h2,h3,h4⟩,_⟩:=hF k nm hk;have hs':=hs;rw[Q7,Qp]at hs';intro pins s σ H D I q;have pa:PA (X.wish X.xe) (y::ys) (wl X.K (af cl a)):=zB ha X hC rfl rfl;have go:Ic (Ie X.prog X.w) X.A (eval (.Call (.Name nm p) (y::ys) [] p') X.env) (λ_ s1=>SP X pins {nx:=λ_ _=>False,rt:=D.rt} .next s1) X.xe s:=by
   refine wF (E:=E) h4 hC.room (zO hg) h1 h2 h3 (xi ok).1 pa (zd hs'.1) (zz hs'.2) I ?_ λH1 s1 ev s' J z=>hp pins σ H1 s1 ev s' J z;obtain⟨as,env,m,S,G',P⟩:=q;have P0:ak X.K as H (RX X.mg Q E) ((af cl a env m).bind λw m1=>cl k (zh w) m1):=aq.bind (r:=(af cl a env m).bind λw m1=>cl k (zh w) m1) P λw m1 as1 H1 v T1 S1 R1 P1=>P1 as1 H1 v .refl S1 R1;exact⟨as,env,m,S,G',bP.bind P0 λw m1 as1 H1 vs T1 S1 R1 P1=>⟨as1,m1,zh w,S1,R1,P1⟩⟩
  refine Io (Iq (Ii go (λv s1 z=>?_) λ_ _ z=>z) I.quiet (ko (by rfl)));obtain⟨_,_,_,z⟩:=z;exact z.elim
 |ret hk hg ok hs ha=>exact pE hC hp hF hk hg ok hs ha
 |@iteFs c y x msg v i j k bs np cp p p1 p2 p3 p4 p5 rest rc ic hc hxs hg ok hi hv ov hb=>
  obtain⟨A,hm,hA,hz⟩:=hO.x j x hxs;have pR:=Dw (X:=X) (E:=E) (np:=np) (cpos:=cp) (pos:=p2) (hx x A hm hA) F.excBase_ValueError hC.calm (zO hg) hr (zq (DY (msg:=msg) (k:=k) (p1:=p1) (p3:=p3) (p4:=p4) (p5:=p5) hi (wV hv) (xi ov).1 (xi ov).2 hb) zP) (xi ok).1;have pI:=qL (pos:=p) ((zB hc X hC rfl rfl).pt rc ic) (wr pR) (yI (X:=X) (sts:=[]));intro pins s σ H D I q;refine ya pI (yI (X:=X) (sts:=rest)) pins s σ H D I ?_;obtain⟨as,env,m,S,G',P⟩:=q;refine⟨as,env,m,S,G',aq.bind P λw m1 as1 H1 v' T1 S1 R1 P1=>?_⟩;cases w with
  |bl bb=>
   obtain rfl:=aj.mp R1;refine⟨bb,rfl,?_⟩;cases bb with
   |false=>exact P1.elim
   |true=>
    obtain⟨a,ha,hw,P4⟩:=gO P1;obtain⟨v2,hv2,R2⟩:=(G'.mono S T1).get i _ hw;obtain rfl:=aa.mp R2;refine kH ⟨⟨a,ha,hv2⟩,λz'=>⟨show 1<=sizeLine by decide,?_⟩⟩;obtain⟨c',x',A',e1,e2,e3,e4⟩:=P4 as1 H1 (.int j) .refl S1 (aa.mpr rfl);have e5:(j:Int)=c':=by injection e1
    have e6:j=c':=by lia
    subst e6;rw[hxs]at e2;cases e2;rw[hm]at e3;cases e3;exact e4
  |_=>exact P1.elim
 |@retB k a nm bn id y ys p p' p2 pb pq rest hk hg ok hs ha gb hn hv h1 h2=>
  have hb:=yo (p:=pb) (pos:=pq) (r:=λ_ _ _=>False) (λ_ _ _ _ _ _ _ _ _ h=>h.elim) (zO gb) (hC.blt _ hn) hv (zq (iY (p:=p) (p':=p') (E:=E) hC hp hF hk hg ok hs ha) zP) h1 h2;intro pins s σ H D I q;refine ya (vI hb) (yI (X:=X)) pins s σ H D I ?_;exact q
 |forC hk hg ok hs ha=>
  intro pins s σ H D I q;refine Io (wpAny_For (Ii (iY (E:=E) hC hp hF hk hg ok hs ha pins s σ H (λ_ _=>False) I q) (λv s1 z=>?_) λ_ _ z=>z) (by intro _;rfl));obtain⟨_,_,_,_,z⟩:=z;exact z.elim
 |@asgC k i a nm x v y z ys scope p p' p2 q q' q2 rest hk hg ok hs ha h1 h2 hB=>
  have hI:PI X (.Name v q2) (.Call (.Name nm p) (y::ys) [] p') _:=lY (iY (E:=E) hC hp hF hk hg ok hs ha);have hbd:∀Xc,bp X scope [v] Xc->eM Xc [] _/\PE Xc z (λ_ _ _=>False):=λXc c=>⟨xC,λ_ _ _ _ _ _ h=>h.elim⟩;have hsw:∃b:Bool,Ip (.ListComp z [⟨.Name v q2,.Call (.Name nm p) (y::ys) [] p',[],0⟩] scope q') (some (.Name x q)) p2.line X.env=pure b:=⟨_,rfl⟩;obtain⟨b,hb⟩:=hsw;intro pins s σ H D I h;cases b with
  |false=>exact ya (jn (X:=X) hX.nd h1 (yM h2) (xF (X:=X) (zC hB) hC.calm (xD (zC hB)) hI hbd (λ_=>rfl)) hb (.inl (hX.fn x))) (yI (X:=X)) pins s σ H D I h
  |true=>exact ya (vQ (X:=X) (zC hB) hC.calm (xD (zC hB)) hI hbd hX.nd h1 (yM h2) (.inl (hX.fn x)) hb (λ_=>rfl)) (yI (X:=X)) pins s σ H D I h
 |@br c y k a b nm z zs p p' p2 p3 rest rc ic hc hk hg ok hs ha hb ih=>
  have pI:=qL (pos:=p3) ((zB hc X hC rfl rfl).pt rc ic) (pE (E:=E) (p:=p) (p':=p') (p2:=p2) (rest:=[]) hC hp hF hk hg ok hs ha) (jm (X:=X));intro pins s σ H D I q;refine ya pI ih pins s σ H D I ?_;obtain⟨as,env,m,S,G',P⟩:=q;refine⟨as,env,m,S,G',aq.bind P λw m1 as1 H1 v' T1 S1 R1 P1=>?_⟩;cases w with
  |bl bb=>
   obtain rfl:=aj.mp R1;refine⟨bb,rfl,?_⟩;cases bb with
   |true=>exact kH ⟨as1,env,m1,S1,G'.mono S T1,P1⟩
   |false=>exact ju ⟨as1,env,m1,S1,G'.mono S T1,P1⟩
  |_=>exact P1.elim
inductive IsT(C:Ctx)(Q:Xc)(xn:List (Nat×Str))(sc:HH)(N:List Str):Sm->List Stmt->Prop
 |mk {k y i:Nat}{a:Ex}{nm n ny:Str}{e0:Expr}{es ns:List Expr}{cs:List Nat}{rest:List Stmt}{p q p' np hp pos p1 p2 p3 p4 p5 p6 p7 p8 p9 pa pb pc pd pe pf pg ph:Pos}{k1 k2:Nat}
   (hk:xn.lookup k=some nm) (hg:bZ sc nm=true) (ok:zr nm=true) (hs:(e0::es).all zg=true) (ha:ay C sc N a (.a (e0::es))) (gg:bZ sc Q.g=true) (og:zr Q.g=true) (hi:N[i]?=some n) (hn:decide (sc.names.lookup n=some .local)=true) (on:zr n=true)
   (hns:iL sc Q ns cs=true) (hcs:cs.contains y=false) (hz:cs.length<=1000) (hy:Q.rs[y]?=some ny) (gy:bZ sc ny=true) (oy:zr ny=true) (gI:bZ sc "isinstance"=true) (gV:bZ sc "ValueError"=true) :
   IsT C Q xn sc N (.ret (.cmp .eq (.call k a) (.lit (.int y)))) (.Try [.Expr (.Call (.Name nm p) (e0::es) [] q) p'] [.ExceptHandler (some (.Name Q.g np)) (some n) (qB n ny ns p1 p2 p3 p4 p5 p6 p7 p8 p9 pa pb pc pd pe pf pg ph k1 k2) hp] [] [] pos::rest)
theorem rh(hO:eJ X.K X.mg Q G):∀{ns:List Expr}{cs:List Nat},iL X.env.scope Q ns cs=true->∃ts,cx X.env X.mg ns ts/\ts.length=cs.length /\
  ∀(c:Nat) (A:Addr),(∀(c':Nat) (x':Str) (A':Addr),Q.xs[c']?=some x'->X.mg x'=some (.ref A')->QG X.K (.ref A) (.ref A')=some (decide (c=c')))->PySem.W.kitAny X.K (.ref A) (ts.map Value.ref)=some (cs.any λc'=>decide (c=c'))
 |[],[],_=>⟨[],.nil,rfl,λc A _=>rfl⟩
 |[],_::_,h=>by cases h
 |e::es,[],h=>by cases e<;>cases h
 |e::es,c1::cs,h=>by
  cases e with
  |Name x p=>
   replace h:(bZ X.env.scope x&&(zr x&&(decide (Q.xs[c1]?=some x)&&iL X.env.scope Q es cs)))=true:=h
   simp only[Qp,Kc]at h;obtain⟨h1,h2,h3,h4⟩:=h;obtain⟨ts,t1,t2,t3⟩:=rh hO h4;obtain⟨A,hm⟩:=hO.y c1 x h3;refine⟨A::ts,.cons (zO h1) hm (xi h2).1 t1,by simp[t2],λc B hB=>?_⟩;show(match QG X.K (.ref B) (.ref A)with
    |some true=>some true
    |some false=>PySem.W.kitAny X.K (.ref B) (ts.map Value.ref)
    |none=>none)=_
   rw[hB c1 x A h3 hm,t3 c B hB];by_cases z:c=c1
   .simp[z]
   .simp[z]
  |_=>cases h
def Ac (hC:bj C X cl d)(hst:X.stack=X.env::X.outer)(hfr:X.env.frame=some X.env.locals)(hO:eJ X.K X.mg Q G)(hb:∀A v,Q8 X.K A eS "ValueError.__new__"=true->Q0 X.K A v=some true->jc X.base A v)(hF:eZ X.prog X.w X.K X.mg X.base Q xn cl d)(hN:X.N.Nodup)(h:IsT C Q xn X.env.scope X.N s sts):cb X sts (zZ X.K (aT cl s)):=by
 cases h with
 |@mk k y i a nm n ny e0 es ns cs rest p q p' np hp pos p1 p2 p3 p4 p5 p6 p7 p8 p9 pa pb pc pd pe pf pg ph k1 k2 hk hg ok hs ha gg og hi hn on hns hcs hz hy gy oy gI gV=>
  obtain⟨⟨f,fd,ps,h1,h2,h3,h4⟩,val⟩:=hF k nm hk;have hs':=hs;rw[Q7,Qp]at hs';obtain⟨ts,t1,t2,t3⟩:=rh hO hns;obtain⟨Y,mY,_,_,_,_,_⟩:=hO.x y ny hy;have pT:=BX (X:=X) (G:=G) (Y:=Y) (ts:=ts) (p:=p) (q:=q) (p':=p') (np:=np) (hp:=hp) (pos:=pos) (p1:=p1) (p2:=p2) (p3:=p3) (p4:=p4) (p5:=p5) (p6:=p6) (p7:=p7) (p8:=p8) (p9:=p9) (pa:=pa) (pb:=pb) (pc:=pc) (pd:=pd) (pe:=pe) (pf:=pf) (pg:=pg) (ph:=ph) (k1:=k1) (k2:=k2)
   hst hfr h4 hC.room (zO hg) h1 h2 h3 (xi ok).1 (t:=wl X.K (af cl a)) (λE=>zB ha (X.wish E) (hC.wish E) rfl rfl) (hb G _ hO.ge hO.gb) (zO gg) hO.g (xi og).1 hN hi (Kb hn) (xi on).1 (xi on).2 t1 (by rw[t2];exact hz)
   (zO gy) mY (xi oy).1 (zO gI) (hC.blt _ (by simp[zm])) (zO gV) hO.v (zd hs'.1) (zz hs'.2) (ko (by rfl))
  intro pins s σ H D I qq;refine ya pT (yI (X:=X) (sts:=rest)) pins s σ H D I ?_;obtain⟨as,env,m,S,G',P⟩:=qq;have P0:ak X.K as H D.rt (af cl (.cmp .eq (.call k a) (.lit (.int y))) env m):=aq.bind P λw m1 as1 H1 v T1 S1 R1 P1=>P1 as1 H1 v .refl S1 R1;have e1:af cl (.cmp .eq (.call k a) (.lit (.int y))) env m=(af cl a env m).bind λw m1=>(cl k (zh w) m1).bind λu m2=>cL .eq u (.int y) m2:=by
   show(((af cl a env m).bind λx m1=>cl k (zh x) m1).bind λu m2=>((Rz.ok (.int y) m2).bind λv m3=>cL .eq u v m3))=_;cases af cl a env m<;>rfl
  rw[e1]at P0;refine⟨as,env,m,S,G',bP.bind P0 λw m1 as1 H1 vs T1 S1 R1 P1=>⟨as1,m1,zh w,S1,R1,?_⟩⟩;cases hcl:cl k (zh w) m1 with
  |no=>rw[hcl]at P1;exact P1.elim
  |ok u m2=>
   rw[hcl]at P1;obtain⟨c,x,rfl,hxs⟩:=val _ _ _ _ hcl;intro as2 H2 v T2 S2 R2;obtain rfl:=aa.mp R2;obtain⟨A,hmA,hAe,hAk,hAm,hAv,hAo⟩:=hO.x c x hxs;refine⟨c,x,A,rfl,hxs,hmA,A,decide (c=y),rfl,⟨hb A _ hAe hAm,hAk,hAv,_,_,t3 c A hAo,hAo y ny Y (Xc.at hy) mY,?_⟩,λp ts' hp=>?_⟩
   .by_cases z:c=y
    .subst z;have:(cs.any λc'=>decide (c=c'))=false:=by
      rw[WU];intro c' hc';have:=hcs;rw[List.contains_eq_any_beq,WU]at this;simpa using this c' hc'
     rw[this];rfl
    .simp[z]
   .obtain ⟨T3,S3⟩:=BV S2 hp ts';have P2:ak X.K as1 H1 D.rt (.ok (.bl (decide ((c:Int)=(y:Int)))) m2):=P1;have e2:decide ((c:Int)=(y:Int))=decide (c=y):=by
     by_cases z:c=y
     .simp[z]
     .have:¬(c:Int)=(y:Int):=by lia
      simp[z,this]
    rw[e2]at P2;exact P2 _ _ _ (T2.trans T3) S3 (aj.mpr rfl)
end
structure bA(C:Ctx)(Q:Xc)(xn:List (Nat×Str))(d:aM):Prop where
 sc:kr d.N d.ps (zt d.st)=true
 ar:d.ps.length=d.fn.ar
 sz:d.N.length=d.fn.sz
 body:IsT C Q xn (zt d.st) d.N d.fn.body (yh d.st)
structure dq(C:Ctx)(Q:Xc)(xn:List (Nat×Str))(d:aM):Prop where
 sc:kr d.N d.ps (zt d.st)=true
 ar:d.ps.length=d.fn.ar
 sz:d.N.length=d.fn.sz
 body:cc C Q xn (zt d.st) d.N d.fn.body (yh d.st)
section
variable{P:HJ}{w:HL}{K:Qa}{mg:Str->Option Value}{base:HQ}{C:Ctx}{cl:Nat->List Wd->Me->Rz}{Q:Xc}{xn:List (Nat×Str)}{G:Addr}
def cv (h:ak K as H R (y7 cl fn ws m)):ws.length=fn.ar:=by
 unfold y7 at h;split at h
 .assumption
 .exact h.elim
set_option tactic.hygienic true in
def Fe (F:dP K d.on d.on d.st f fd)(hd:bA C Q xn d)(kb:K.In base)(hO:eJ K mg Q G)(hF:eZ P w K mg base Q xn cl k)(hfn:∀(i:Nat) (nm:Str),C.fns[i]?=some nm->∃f fd ps,mg nm=some (.ref f)/\QY K (.ref f)=true/\Binds K fd ps []/\bX P w K mg base dt k f fd ps (wR K (cl i)))(hcon:kc K w mg C)(hblt:∀nm∈zm,mg nm=none):
  bX P w K mg base dt (k+1) f fd d.ps (wR K (y7 cl d.fn)):=by
 obtain⟨h1,h2,h3,h4⟩:=hd;have Sc:=wX h1;refine F.ok Sc (λvs H Q' E h=>?_) (λcdv A outer s H vs Q' E hr h=>?_)
 .obtain ⟨as,m,ws,S,R,q⟩:=h;rw[<-R.length,cv q,h2]
 .obtain ⟨as,m,ws,S,R,q⟩:=h;have ha:=cv q;have hC:bj C (vq dt P w K mg base d.N d.on (zt d.st) f cdv A outer s H E).nox cl k:=⟨hr,rfl,hfn,hcon,hblt⟩;refine⟨_,Ac hC rfl rfl hO (λA v z1 z2=>(rn kb z1).2 z2) hF Sc.nd h4,as,yi d.fn ws,m,S,wY R ha h3,?_⟩;unfold y7 at q;rw[J7 ha]at q;cases hr:aT cl d.fn.body (yi d.fn ws) m with
  |next e m1=>rw[hr]at q;exact λas' H' σ' T S' G'=>q as' H' .non T S' (am.mpr rfl)
  |ret w m1=>rw[hr]at q;exact λas' H' v T S' R'=>q as' H' v T S' R'
  |no=>rw[hr]at q;exact q.elim
set_option tactic.hygienic true in
def Fd (F:dP K d.on d.on d.st f fd)(hd:dq C Q xn d)(kb:K.In base)(hO:eJ K mg Q G)(hF:eZ P w K mg base Q xn cl k)(hfn:∀(i:Nat) (nm:Str),C.fns[i]?=some nm->∃f fd ps,mg nm=some (.ref f)/\QY K (.ref f)=true/\Binds K fd ps []/\bX P w K mg base dt k f fd ps (wR K (cl i)))(hcon:kc K w mg C)(hblt:∀nm∈zm,mg nm=none):
  bX P w K mg base (dE P w) (k+1) f fd d.ps (sI K mg Q (y7 cl d.fn)):=by
 obtain⟨h1,h2,h3,h4⟩:=hd;have Sc:=wX h1;obtain⟨oc,od,kV,doc,pm,an,cdv,ct,osl,rfl,lk,hcd⟩:=F.ex;refine pQ lk hcd Sc (λvs H Q' E h=>?_) λA outer s H vs Q' E hr h=>?_
 .obtain ⟨as,m,ws,S,R,q⟩:=h;rw[<-R.length,cv q,h2]
 .obtain ⟨as,m,ws,S,R,q⟩:=h;have ha:=cv q;have hC:bj C (vq (dE P w) P w K mg base d.N d.on (zt d.st) f cdv A outer s H E) cl k:=⟨hr,rfl,hfn,hcon,hblt⟩;refine⟨_,Ad hC ⟨Sc.nd,λ_=>rfl,PassesOwn.never⟩ hO (λx A z1 z2=>(rn (v:=.none) kb z2).1 x mg z1) B4 Dx hF h4,as,yi d.fn ws,m,S,wY R ha h3,?_⟩;unfold y7 at q;rw[J7 ha]at q;cases hr:aT cl d.fn.body (yi d.fn ws) m with
  |next e m1=>
   rw[hr]at q;intro as' H' σ' T S' G';obtain⟨_,_,_,z,_⟩:=q as' H' .non T S' (am.mpr rfl);cases z
  |ret w m1=>rw[hr]at q;exact λas' H' v T S' R'=>q as' H' v T S' R'
  |no=>rw[hr]at q;exact q.elim
noncomputable def VX(Q:Xc)(r:Rs):Prop:=match r with
 |.ret v _=>∃(c:Nat) (x:Str),v=.int c/\Q.rs[c]?=some x
 |.next _ _=>False
 |_=>True
def VX.test{r:Rz}{env:En}{f g:Me->Rs}(hf:∀m,VX Q (f m))(hg:∀m,VX Q (g m)):VX Q (r.bindS env λx m=>match x with
  |.bl true=>f m
  |.bl false=>g m
  |_=>.no):=by
 cases r with
 |ok w m1=>
  cases w with
  |bl b=>
   cases b with
   |true=>exact hf m1
   |false=>exact hg m1
  |_=>trivial
 |no=>trivial
theorem VX.chB (hj:Q.rs[j]?=some x):∀(bs:List Int) (m:Me),VX Q (aT cl (Mini.fC i j bs) env m)
 |[],m=>trivial
 |b::bs,m=>VX.test (r:=af cl (.cmp .eq (.bin .sub (.var i) (.lit (.int b))) (.lit (.int 0))) env m) (f:=λm=>aT cl (.ret (.lit (.int j))) env m) (λ_=>⟨j,x,rfl,hj⟩) (λm=>VX.chB hj bs m)
theorem VX.call{k:Nat}{a:Ex}{env:En}{m:Me}(hv:∀ws m v m',cl k ws m=.ok v m'->∃(c:Nat) (x:Str),v=.int c/\Q.rs[c]?=some x):VX Q (aT cl (.ret (.call k a)) env m):=by
 show VX Q (((af cl a env m).bind λw m1=>cl k (zh w) m1).bindS env (λw m1=>.ret w m1));cases af cl a env m with
 |ok w m1=>
  show VX Q ((cl k (zh w) m1).bindS env (λw m1=>.ret w m1));cases e:cl k (zh w) m1 with
  |ok v m2=>exact hv _ _ _ _ e
  |no=>trivial
 |no=>trivial
def lB{sc:HH}{N:List Str}{s:Sm}{sts:List Stmt}(h:cc C Q xn sc N s sts)(hv:∀(k:Nat) (nm:Str),xn.lookup k=some nm->∀ws m v m',cl k ws m=.ok v m'->∃(c:Nat) (x:Str),v=.int c/\Q.rs[c]?=some x)(env:En)(m:Me):
  match aT cl s env m with
  |.ret v _=>∃(c:Nat) (x:Str),v=.int c/\Q.rs[c]?=some x
  |.next _ _=>False
  |_=>True:=by
 induction h generalizing env m with
 |@seqS a b st st' r hn ha hb ih=>
  show match (match aT cl a env m with
   |.next e1 m1=>aT cl b e1 m1
   |r=>r)with
   |.ret v _=>_
   |.next _ _=>False
   |_=>True
  rcases jd (cl:=cl) hn env m with⟨e1,m1,e⟩|e
  .rw[e];exact ih e1 m1
  .rw[e];trivial
 |call hk hg ok hs ha=>exact VX.call (hv _ _ hk)
 |ret hk hg ok hs ha=>exact VX.call (hv _ _ hk)
 |retB hk hg ok hs ha gb hn hb h1 h2=>exact VX.call (hv _ _ hk)
 |forC hk hg ok hs ha=>exact VX.call (hv _ _ hk)
 |asgC hk hg ok hs ha h1 h2 hB=>exact VX.call (hv _ _ hk)
 |@iteFs c y x msg v i j k bs np cp p p1 p2 p3 p4 p5 rest rc ic hc hxs hg ok hi hv ov hb=>exact VX.test (r:=af cl c env m) (λm=>VX.chB hxs bs m) (λ_=>trivial)
 |@br c y k a b nm z zs p p' p2 p3 rest rc ic hc hk hg ok hs ha hb ih=>exact VX.test (r:=af cl c env m) (λm=>VX.call (hv _ _ hk)) (λm=>ih env m)
set_option tactic.hygienic true in
def lS (hd:dq C Q xn d)(hv:∀(k:Nat) (nm:Str),xn.lookup k=some nm->∀ws m v m',cl k ws m=.ok v m'->∃(c:Nat) (x:Str),v=.int c/\Q.rs[c]?=some x)(ws:List Wd)(m:Me)(v:Wd)(m':Me)(h:y7 cl d.fn ws m=.ok v m'):
  ∃(c:Nat) (x:Str),v=.int c/\Q.rs[c]?=some x:=by
 have z:=lB hd.body hv (yi d.fn ws) m;unfold y7 at h;split at h
 .cases e:aT cl d.fn.body (yi d.fn ws) m with
  |ret w m1=>rw[e]at h z;cases h;exact z
  |next _ _=>rw[e]at z;exact z.elim
  |no=>rw[e]at h;cases h
 .cases h
end
noncomputable def fH:Nat->List aM->List (Nat×Str)
 |_,[]=>[]
 |n,d::r=>(n,d.nm)::fH (n+1) r
theorem jI:∀{XD:List aM}{n k:Nat}{nm:Str},(fH n XD).lookup k=some nm->∃j d,XD[j]?=some d/\d.nm=nm/\k=n+j
 |[],_,_,_,h=>by cases h
 |d::r,n,k,nm,h=>by
  unfold fH at h;rw[QI]at h;cases e:k==n with
  |true=>
   rw[e]at h;cases h;exact⟨0,d,rfl,rfl,by simpa using e⟩
  |false=>
   rw[e]at h;obtain⟨j,d',h1,h2,h3⟩:=jI h;exact⟨j+1,d',h1,h2,by lia⟩
section
variable{P:HJ}{w:HL}{K:Qa}{mg:Str->Option Value}{base:HQ}{C:Ctx}{Q:Xc}{xn:List (Nat×Str)}{G:Addr}
theorem rg {D:List aM}(hC:C.fns=D.map (·.nm))(hxn:xn=fH D.length XD)(hD:∀d∈D,aN C d\/bA C Q xn d)(hX:∀d∈XD,dq C Q xn d)(hB:∀d∈D,dh d)(hBX:∀d∈XD,dh d)(hK:∀d∈D,xt K mg d)(hKX:∀d∈XD,xt K mg d)(kb:K.In base)(hO:eJ K mg Q G)(hcon:kc K w mg C)(hblt:∀nm∈zm,mg nm=none):
  ∀k:Nat,(∀(i:Nat) (d:aM),D[i]?=some d->∀f fd,dP K d.on d.on d.st f fd->bX P w K mg base dt k f fd d.ps (wR K (ye (D.map (·.fn)++XD.map (·.fn)) k i)))/\eZ P w K mg base Q xn (ye (D.map (·.fn)++XD.map (·.fn)) k) k
 |0=>by
  have no:∀{i:Nat}{vs:List V}{H:Hp}{R:VK}{E:XK},¬wR K (ye (D.map (·.fn)++XD.map (·.fn)) 0 i) vs H R E:=λ{i vs H R E} h=>by
   obtain⟨as,m,ws,S,R,q⟩:=h;exact q
  refine⟨λi d hi f fd F=>⟨λvs H R E h=>(no h).elim,λA outer s H args us vs R E _ _ _ _ h=>(no h).elim⟩,λk nm hk=>⟨?_,λws m v m' h=>by cases h⟩⟩;rw[hxn]at hk;obtain⟨j,d,h1,rfl,rfl⟩:=jI hk;obtain⟨f,fd,F,hm⟩:=hKX d (Ql h1);exact⟨f,fd,d.ps,hm,F.kp,F.binds (hBX d (Ql h1)),⟨λvs H R E h=>(no h).elim,λA outer s H args us vs R E _ _ _ _ h=>(no h).elim⟩⟩
 |k+1=>by
  obtain⟨ih,ihX⟩:=rg hC hxn hD hX hB hBX hK hKX kb hO hcon hblt k;have hfn:∀(j:Nat) (nm:Str),C.fns[j]?=some nm->∃f fd ps,mg nm=some (.ref f)/\QY K (.ref f)=true/\Binds K fd ps []/\bX P w K mg base dt k f fd ps (wR K (ye (D.map (·.fn)++XD.map (·.fn)) k j)):=λj nm hj=>by
   rw[hC,QD]at hj;cases hx:D[j]? with
   |none=>rw[hx]at hj;cases hj
   |some d'=>
    rw[hx]at hj;cases hj;obtain⟨f',fd',F',m'⟩:=hK d' (Ql hx);exact⟨f',fd',d'.ps,m',F'.kp,F'.binds (hB d' (Ql hx)),ih j d' hx f' fd' F'⟩
  have at1:∀{i:Nat}{d:aM},D[i]?=some d->ye (D.map (·.fn)++XD.map (·.fn)) (k+1) i=y7 (ye (D.map (·.fn)++XD.map (·.fn)) k) d.fn:=λ{i d} hi=>by
   funext ws m;have z:(D.map aM.fn++XD.map aM.fn)[i]?=some d.fn:=by
    rw[Qh (by rw[QF];exact(Qb.mp hi).1),QD,hi];rfl
   show(match ((D.map aM.fn)++(XD.map aM.fn):List Fn)[i]? with
    |some fn=>y7 (ye (D.map aM.fn++XD.map aM.fn) k) fn ws m
    |none=>.no)=_
   rw[z]
  have at2:∀{j:Nat}{d:aM},XD[j]?=some d->ye (D.map (·.fn)++XD.map (·.fn)) (k+1) (D.length+j)=y7 (ye (D.map (·.fn)++XD.map (·.fn)) k) d.fn:=λ{j d} hi=>by
   funext ws m;have z:(D.map aM.fn++XD.map aM.fn)[D.length+j]?=some d.fn:=by
    rw[Qi (by rw[QF];lia),QF,Nat.add_sub_cancel_left,QD,hi];rfl
   show(match ((D.map aM.fn)++(XD.map aM.fn):List Fn)[D.length+j]? with
    |some fn=>y7 (ye (D.map aM.fn++XD.map aM.fn) k) fn ws m
    |none=>.no)=_
   rw[z]
  refine⟨λi d hi f fd F=>?_,λi nm hk=>?_⟩
  .rw[at1 hi];rcases hD d (Ql hi)with h|h
   .exact Dz F h hfn hcon hblt
   .exact Fe F h kb hO ihX hfn hcon hblt
  .rw[hxn]at hk;obtain⟨j,d,h1,rfl,rfl⟩:=jI hk;have hm:=Ql h1;obtain⟨f,fd,F,m'⟩:=hKX d hm;rw[at2 h1];exact⟨⟨f,fd,d.ps,m',F.kp,F.binds (hBX d hm),Fd F (hX d hm) kb hO ihX hfn hcon hblt⟩,lS (hX d hm) λk nm hk=>(ihX k nm hk).2⟩
end
def Fc {K:Qa}{ns:List Int}(hO:fM H)(hS:bt K H a (ns.map V.int))(h:∃m,ye T k i [.rol (ns.map Wd.int)] []=.ok (.bl true) m):
  wR K (ye T k i) [.ref a] H (λv _=>v=.bl true) E:=by
 have e:∀l:List Fn,(l.map λf=>(⟨"",.Pass ⟨0,0,0,0⟩,[],[],f,""⟩:aM)).map (·.fn)=l:=λl=>by
  induction l with
  |nil=>rfl
  |cons f l ih=>show f::_=_;rw[ih]
 have z:=Dy (D:=T.map λf=>(⟨"",.Pass ⟨0,0,0,0⟩,[],[],f,""⟩:aM)) (k:=k) (i:=i) (E:=E) hO hS;rw[e]at z;exact z h
def uI {l:PySem.W.OpenLaw}{Kp:HI->Qa}{D:List aM}{dl:aM}(hn:l.most=some n)(hn2:n<=sizeLine)(hdf:d.params.defaults=[])(hr:bU k Jl)(hY:∀(w:HL) (h:HQ),YP w h->(Kp w.params).In h)(hC:C.fns=D.map (·.nm))(hxn:xn=fH D.length XD)(hD:∀d∈D,aN C d\/bA C Q xn d)(hX:∀d∈XD,dq C Q xn d)(hB:∀d∈D,dh d)(hBX:∀d∈XD,dh d)(hi:D[i]?=some dl)(hx:dl.ps=[x])(hnm:d.name=dl.nm)(F:∀(w:HL) (mg:Str->Option Value) (fa:Addr) (h:HQ),(Kp w.params).In h->h.Ns HW mg->mg d.name=some (.ref fa) ->
   ((∀e∈D,xt (Kp w.params) mg e)/\kc (Kp w.params) w mg C/\∀nm∈zm,mg nm=none)/\(∀e∈XD,xt (Kp w.params) mg e)/\∃G,eJ (Kp w.params) mg Q G)(hpure:∀ns:List Int,ns.length<=n->∃m,ye (D.map (·.fn)++XD.map (·.fn)) k i [.rol (ns.map Wd.int)] []=.ok (.bl true) m):
  W5 q loose XP YP l.row.toRowW d [] (λf vs=>PySem.call f vs):=by
 refine L2.Cz (n:=n) (k:=k) (x:=x) (CX:=λ_=>dt) (sp:=λw=>wR (Kp w.params) (ye (D.map (·.fn)++XD.map (·.fn)) k i)) hn hn2 hdf hr hY ?_ (λw H a ns hl hO hS=>Fc hO hS (hpure ns hl)) λ_ _ _ _ _ z=>z;intro w mg fa h KX Gn hmg;obtain⟨⟨h1,h2,h3⟩,h4,G,h5⟩:=F w mg fa h KX Gn hmg;obtain⟨f,fd,Ff,hm⟩:=h1 dl (Ql hi);rw[hnm,hm]at hmg;cases hmg;refine⟨fd,λs u=>?_,λbase kb nb=>?_⟩
 .obtain ⟨oc,od,kV,doc,pm,an,cdv,ct,osl,rfl,lk,hcd⟩:=Ff.ex;have z:=hB dl (Ql hi) kV doc pm an cdv ct [u] (by rw[hx];rfl);rw[hx]at z;exact .of_eq z
 .rw[<-hx];exact(rg hC hxn hD hX hB hBX h1 h4 kb h5 h2 h3 k).1 i dl hi fa fd Ff
end Mini
namespace Mini
namespace Vl
set_option genInjectivity false in
inductive Dat where
 |non|bl (b:Bool)|int (i:Int)|str (s:List Nat)|tup (xs:List Dat)|lst (xs:List Dat)|scr (ns:List Int)|dct (ks:List (List Int)) (xs:List Dat)
deriving Inhabited
inductive Lv where|no|top|full
deriving DecidableEq,Inhabited
abbrev aO:=List (Option Dat)
inductive Rd where|ok (d:Dat)|no
deriving Inhabited
noncomputable def Rd.bind(r:Rd)(f:Dat->Rd):Rd:=match r with
 |.ok d=>f d
 |.no=>.no
mutual
noncomputable def aB:Dat->Bool
 |.lst _=>false
 |.tup xs=>aU xs
 |.non=>true
 |.bl _=>true
 |.int _=>true
 |.str _=>true
 |.scr _=>true
 |.dct _ _=>false
noncomputable def aU:List Dat->Bool
 |[]=>true
 |d::ds=>aB d&&aU ds
end
mutual
noncomputable def yP:Nat->Dat->Bool
 |0,_=>false
 |_+1,.scr _=>false
 |_+1,.dct _ _=>false
 |k+1,.tup xs=>bz k xs
 |k+1,.lst xs=>bz k xs
 |_+1,.non=>true
 |_+1,.bl _=>true
 |_+1,.int _=>true
 |_+1,.str _=>true
noncomputable def bz:Nat->List Dat->Bool
 |_,[]=>true
 |k,d::ds=>yP k d&&bz k ds
end
mutual
noncomputable def dg:Dat->Dat->Bool
 |.tup a,.tup b=>cu a b
 |.lst a,.lst b=>cu a b
 |.non,.non=>true
 |.bl a,.bl b=>a==b
 |.int a,.int b=>decide (a=b)
 |.bl a,.int b=>decide (b2i a=b)
 |.int a,.bl b=>decide (a=b2i b)
 |.str a,.str b=>decide (a=b)
 |_,_=>false
noncomputable def cu:List Dat->List Dat->Bool
 |[],[]=>true
 |x::xs,y::ys=>dg x y&&cu xs ys
 |_,_=>false
end
noncomputable def xa:Dat->Option (List Dat)
 |.tup xs=>some xs
 |.lst xs=>some xs
 |.scr ns=>some (ns.map .int)
 |_=>none
noncomputable def dH:Dat->Option (List Dat)
 |.lst xs=>some xs
 |.scr ns=>some (ns.map .int)
 |_=>none
noncomputable def bu(xs:List Dat):Rd:=if xs.length<=aF then .ok (.lst xs)else .no
noncomputable def yn(op:Bo)(x y:Dat):Rd:=match x,y with
 |.int i,.int j=>match op with
  |.add=>.ok (.int (i+j))
  |.sub=>.ok (.int (i-j))
  |.mul=>if small i || small j then .ok (.int (i*j))else .no
  |.fdiv=>if 0<j/\j<1073741824 then .ok (.int (i/j))else .no
  |.mod=>if 0<j then .ok (.int (i%j))else .no
  |.pow=>if 0<=j/\j<=1000000/\small i=true then .ok (.int (i^j.toNat))else .no
  |.shr=>if 0<=j/\j<=1000 then .ok (.int (i/2^j.toNat))else .no
  |.band=>if 0<=i/\j=1 then .ok (.int (i%2))else .no
  |.mulB=>if i.natAbs.log2<100000/\j.natAbs.log2<100000 then .ok (.int (i*j))else .no
  |.fdivB=>if 0<j/\j.natAbs.log2<9000 then .ok (.int (i/j))else .no
 |.lst xs,.lst ys=>match op with
  |.add=>bu (xs++ys)
  |_=>.no
 |.lst xs,.int k=>match op with
  |.mul=>if -aF<=k/\k<=aF then bu (Qt k.toNat xs).flatten else .no
  |_=>.no
 |.tup xs,.tup ys=>match op with
  |.add=>if xs.length+ys.length<=aF then .ok (.tup (xs++ys))else .no
  |_=>.no
 |_,_=>.no
noncomputable def ee(x y:Dat):Option Bool:=if yP zV x&&yP zV y then some (dg x y)else none
noncomputable def nv(x:Dat)(ys:List Dat):Option Bool:=if yP zV x&&bz zV ys then some (ys.any λy=>dg y x)else none
noncomputable def fu:Option Bool->Rd
 |some b=>.ok (.bl b)
 |none=>.no
noncomputable def h9(r:Int->Int->Bool)(x y:Dat):Rd:=match x,y with
 |.int i,.int j=>.ok (.bl (r i j))
 |_,_=>.no
noncomputable def ym:List Dat->Option (List Int)
 |[]=>some []
 |.int i::r=>(ym r).map (i::·)
 |_=>none
noncomputable def nu(x y:Dat):Option Bool:=match y with
 |.dct ks _=>match x with
  |.int _=>some false
  |.tup ds=>(ym ds).map λk=>decide (k∈ks)
  |_=>none
 |_=>none
noncomputable def xR(op:Co)(x y:Dat):Rd:=match op with
 |.eq=>fu (ee x y)
 |.ne=>fu ((ee x y).map (!·))
 |.notN=>match y,x with
  |.non,.non=>.ok (.bl false)
  |.non,_=>.ok (.bl true)
  |_,_=>.no
 |.isin=>match xa y with
  |some ys=>fu (nv x ys)
  |none=>fu (nu x y)
 |.lt=>h9 (λi j=>decide (i<j)) x y
 |.le=>h9 (λi j=>decide (i<=j)) x y
 |.gt=>h9 (λi j=>decide (j<i)) x y
noncomputable def fS(t:Tg)(x:Dat):Bool:=match t with
 |.int=>match x with
  |.int _=>true
  |.bl _=>true
  |_=>false
 |.bool=>match x with
  |.bl _=>true
  |_=>false
 |.str=>match x with
  |.str _=>true
  |_=>false
 |.tuple=>match x with
  |.tup _=>true
  |_=>false
 |.list=>match x with
  |.scr _=>true
  |.lst _=>true
  |_=>false
 |.dict=>match x with
  |.dct _ _=>true
  |_=>false
noncomputable def qC:List Dat->Option Int
 |[]=>some 0
 |.int i::r=>(qC r).map (i+·)
 |_=>none
noncomputable def je:List Dat->Option (List (List Int))
 |[]=>some []
 |.lst xs::r=>match ym xs,je r with
  |some k,some ks=>some (k::ks)
  |_,_=>none
 |_=>none
noncomputable def fG:List Dat->Option (List (Dat×Dat))
 |[]=>some []
 |.tup [x,y]::r=>(fG r).map ((x,y)::·)
 |_=>none
noncomputable def kK(b:dM)(ws:List Dat):Rd:=match b with
 |.sortI=>match ws with
  |[x]=>match (dH x).bind ym with
   |some k=>if k.length<64 then bu ((fk k).map Dat.int)else .no
   |none=>.no
  |_=>.no
 |.sorted=>match ws with
  |[.lst ds]=>if ds.length<2 then bu ds else .no
  |_=>.no
 |.len=>match ws with
  |[x]=>match xa x with
   |some xs=>.ok (.int xs.length)
   |none=>.no
  |_=>.no
 |.int=>match ws with
  |[.int i]=>.ok (.int i)
  |[.bl b]=>.ok (.int (b2i b))
  |_=>.no
 |.list=>match ws with
  |[x]=>match xa x with
   |some xs=>bu xs
   |none=>.no
  |_=>.no
 |.tuple=>match ws with
  |[x]=>match xa x with
   |some xs=>.ok (.tup xs)
   |none=>.no
  |_=>.no
 |.sum=>match ws with
  |[x]=>match (dH x).bind qC with
   |some i=>.ok (.int i)
   |none=>.no
  |_=>.no
noncomputable def wm(x y:Dat):Rd:=match y with
 |.int i=>match xa x with
  |some xs=>match (ix xs.length i).bind λj=>xs[j]? with
   |some v=>.ok v
   |none=>.no
  |none=>.no
 |_=>.no
noncomputable def xu:Dat->Option (List Int)
 |.tup ds=>ym ds
 |_=>none
noncomputable def ky(x y:Dat):Rd:=match x with
 |.dct ks ds=>match (xu y).bind (b9 ks ds)with
  |some v=>.ok v
  |none=>.no
 |_=>.no
noncomputable def eF(x:Dat)(lo hi:Option Int):Rd:=match x with
 |.tup xs=>if aL xs.length 0 lo=0/\aL xs.length xs.length hi=xs.length then .no else .ok (.tup ((xs.drop (aL xs.length 0 lo)).take (aL xs.length xs.length hi-aL xs.length 0 lo)))
 |x=>match dH x with
 |some xs=>bu ((xs.drop (aL xs.length 0 lo)).take (aL xs.length xs.length hi-aL xs.length 0 lo))
 |none=>.no
noncomputable def xb(lo st:Int)(n:Nat):List Dat:=(Q2 n).map λ(i:Nat)=>.int (lo+st*(i:Int))
noncomputable def lp(x:Dat):Option (List Int):=match x with
 |.lst ds=>ym ds
 |_=>none
noncomputable def pp(x:Dat):Bool:=match x with
 |.lst _=>true
 |_=>false
noncomputable def ln(k:Dk)(x:Dat):Bool:=match k with
 |.trg=>true
 |.lix=>pp x
 |.lct=>pp x
 |_=>match x with
  |.dct _ _=>true
  |_=>false
noncomputable def fq(k:Dk)(x y z:Dat):Rd:=match k with
 |.get=>match x with
  |.dct ks ds=>match xu y with
   |some q=>match b9 ks ds q with
    |some v=>.ok v
    |none=>.ok z
   |none=>.no
  |_=>.no
 |.trg=>match x with
  |.int j=>if -aF<=j/\j<=aF then .ok (.tup (xb 0 1 j.toNat))else .no
  |_=>.no
 |.lix=>match x with
  |.lst ds=>match (dz (λd=>ee d y) ds).bind λbs=>gi true bs 0 with
   |some j=>.ok (.int (j:Nat))
   |none=>.no
  |_=>.no
 |.lct=>match y with
  |.int k=>match lp x with
   |some ks=>.ok (.int (ks.countP (· == k):Nat))
   |none=>.no
  |_=>.no
noncomputable def hZ(a b c:Dat):Rd:=match a,b,c with
 |.int a,.int b,.int c=>if -aF<=a/\a<=aF/\-aF<=b/\b<=aF/\(c=1\/c=-1\/c=-2\/c=2)then .ok (.tup (xb a c (ie a b c)))else .no
 |_,_,_=>.no
noncomputable def zY{α:Type}(c e:α->Rd):List α->List Dat->Rd
 |[],acc=>bu acc
 |x::xs,acc=>(c x).bind λb=>match b with
  |.bl true=>(e x).bind λy=>if acc.length<aF then zY c e xs (acc++[y])else .no
  |.bl false=>zY c e xs acc
  |_=>.no
noncomputable def c9(d:Dat):Option (List Dat):=match d with
 |.tup xs=>some xs
 |.scr ns=>some (ns.map .int)
 |.lst xs=>if xs.length<=aF then some xs else none
 |_=>none
noncomputable def fP:Dat->Option (List Dat)
 |.tup xs=>some xs
 |.lst xs=>some xs
 |_=>none
noncomputable def xw(k:Kd)(x y:Dat):Option (List (Dat×Dat)):=match k,x,y with
 |.zip,x,y=>match fP x,fP y with
  |some xs,some ys=>if xs.length<=aF/\ys.length<=aF then some (xs.zip ys)else none
  |_,_=>none
 |.enum,.lst xs,.int s=>if xs.length<=aF then some ((xb s 1 xs.length).zip xs)else none
 |.prs,.lst xs,.int _=>if xs.length<=aF then fG xs else none
 |.ptp,.tup xs,.int _=>if xs.length<=aF then fG xs else none
 |_,_,_=>none
noncomputable def zA:Dat->List Dat
 |.tup xs=>xs
 |_=>[]
noncomputable def nk:Wd->Option Dat
 |.non=>some .non
 |.bl b=>some (.bl b)
 |.int i=>some (.int i)
 |.str s=>some (.str s)
 |_=>none
noncomputable def ax(cl:Nat->List Dat->Rd):Ex->aO->Rd
 |.var i,de=>match de[i]? with
  |some (some d)=>.ok d
  |_=>.no
 |.lit w,_=>match nk w with
  |some d=>.ok d
  |none=>.no
 |.bin op a b,de=>(ax cl a de).bind λx=>(ax cl b de).bind λy=>yn op x y
 |.neg a,de=>(ax cl a de).bind λx=>match x with
  |.int i=>.ok (.int (-i))
  |_=>.no
 |.not a,de=>(ax cl a de).bind λx=>match x with
  |.bl b=>.ok (.bl (! b))
  |_=>.no
 |.and a b,de=>(ax cl a de).bind λx=>match x with
  |.bl true=>ax cl b de
  |.bl false=>.ok (.bl false)
  |_=>.no
 |.or a b,de=>(ax cl a de).bind λx=>match x with
  |.bl false=>ax cl b de
  |.bl true=>.ok (.bl true)
  |_=>.no
 |.cmp op a b,de=>(ax cl a de).bind λx=>(ax cl b de).bind λy=>xR op x y
 |.chain p q a b c,de=>(ax cl a de).bind λx=>(ax cl b de).bind λy=>(xR p x y).bind λz=>match z with
  |.bl true=>(ax cl c de).bind λu=>xR q y u
  |.bl false=>.ok (.bl false)
  |_=>.no
 |.ife c a b,de=>(ax cl c de).bind λx=>match x with
  |.bl true=>ax cl a de
  |.bl false=>ax cl b de
  |_=>.no
 |.unit,_=>.ok (.tup [])
 |.pair a b,de=>(ax cl a de).bind λx=>(ax cl b de).bind λy=>.ok (.tup (x::zA y))
 |.call k a,de=>(ax cl a de).bind λx=>cl k (zA x)
 |.blt b a,de=>(ax cl a de).bind λx=>kK b (zA x)
 |.isi t a,de=>(ax cl a de).bind λx=>.ok (.bl (fS t x))
 |.lst a,de=>(ax cl a de).bind λx=>bu (zA x)
 |.tup a,de=>(ax cl a de).bind λx=>if(zA x).length<=aF then .ok (.tup (zA x))else .no
 |.dict0,_=>.ok (.dct [] [])
 |.dget a b,de=>(ax cl a de).bind λx=>(ax cl b de).bind λy=>ky x y
 |.idx a b,de=>(ax cl a de).bind λx=>(ax cl b de).bind λy=>wm x y
 |.dop k a b c,de=>(ax cl a de).bind λx=>match ln k x with
  |true=>(ax cl b de).bind λy=>(ax cl c de).bind λz=>fq k x y z
  |false=>.no
 |.slL a lo,de=>(ax cl a de).bind λx=>(ax cl lo de).bind λy=>match y with
  |.int i=>eF x (some i) none
  |_=>.no
 |.meth _ _ _,_=>.no
 |.rng a b c,de=>(ax cl a de).bind λx=>(ax cl b de).bind λy=>(ax cl c de).bind λz=>hZ x y z
 |.comp elt it cond,de=>(ax cl it de).bind λx=>match c9 x with
  |some xs=>zY (λx=>ax cl cond (de++[some x])) (λx=>ax cl elt (de++[some x])) xs []
  |none=>.no
 |.compP k elt a b cond,de=>(ax cl a de).bind λx=>(ax cl b de).bind λy=>match xw k x y with
  |some ps=>zY (λp=>ax cl cond (de++[some p.1]++[some p.2])) (λp=>ax cl elt (de++[some p.1]++[some p.2])) ps []
  |none=>.no
def wG (h:env[i]?=some (some w))(m:Me):af cl (.var i) env m=.ok w m:=by
 show(match env[i]? with|some (some w)=>Rz.ok w m|_=>.no)=_;rw[h]
def xx (h:de[i]?=some (some d)):ax cl (.var i) de=.ok d:=by
 show(match de[i]? with|some (some d)=>Rd.ok d|_=>.no)=_;rw[h]
def yA (h:de[i]?=none\/de[i]?=some none):ax cl (.var i) de=.no:=by
 show(match de[i]? with|some (some d)=>Rd.ok d|_=>.no)=_;rcases h with h|h<;>rw[h]
def wH (h:ax cl (.var i) de=.ok d):de[i]?=some (some d):=by
 cases z:de[i]? with
 |none=>rw[yA (.inl z)]at h;cases h
 |some o=>
  cases o with
  |none=>rw[yA (.inr z)]at h;cases h
  |some e=>rw[xx z]at h;cases h;rfl
mutual
noncomputable def ai(R:Nat->Prop)(m:Me):Dat->Wd->Prop
 |.non,w=>w=.non
 |.bl b,w=>w=.bl b
 |.int i,w=>w=.int i
 |.str s,w=>w=.str s
 |.scr ns,w=>w=.rol (ns.map Wd.int)
 |.tup ds,w=>∃xs,w=.tup xs/\ae R m ds xs
 |.lst ds,w=>∃l xs,w=.ref l/\R l/\m[l]?=some (.lst xs)/\ae R m ds xs
 |.dct ks ds,w=>∃l xs,w=.ref l/\R l/\m[l]?=some (.dct ks xs)/\ae R m ds xs
noncomputable def ae(R:Nat->Prop)(m:Me):List Dat->List Wd->Prop
 |[],xs=>xs=[]
 |d::ds,xs=>∃x r,xs=x::r/\ai R m d x/\ae R m ds r
end
noncomputable def Le(m m':Me):Prop:=∀(l:Nat) o,m[l]?=some o->m'[l]?=some o
def Le.refl(m:Me):Le m m:=λ_ _ h=>h
def Le.trans{a b c:Me}(h:Le a b)(k:Le b c):Le a c:=λl o z=>k l o (h l o z)
def Le.app(m x:Me):Le m (m++x):=λl o z=>by
 obtain⟨hl,_⟩:=Qb.mp z;rw[Qh hl];exact z
def Le.len (h:Le a b):a.length<=b.length:=by
 rcases Nat.lt_or_ge b.length a.length with z|z
 .have:=h b.length a[b.length] (Qv z);have:=(Qb.mp this).1;lia
 .exact z
noncomputable def Rf(R:Nat->Prop)(n:Nat):Nat->Prop:=λl=>R l\/n<=l
mutual
theorem ai.frame{R R':Nat->Prop}{m m':Me}(h:∀(l:Nat) o,R l->m[l]?=some o->R' l/\m'[l]?=some o):∀(d:Dat) (w:Wd),ai R m d w->ai R' m' d w
 |.non,w,q=>by unfold ai at q ⊢;exact q
 |.bl b,w,q=>by unfold ai at q ⊢;exact q
 |.int b,w,q=>by unfold ai at q ⊢;exact q
 |.str b,w,q=>by unfold ai at q ⊢;exact q
 |.scr b,w,q=>by unfold ai at q ⊢;exact q
 |.tup ds,w,q=>by
  unfold ai at q ⊢;obtain⟨xs,rfl,q⟩:=q;exact⟨xs,rfl,ae.frame h ds xs q⟩
 |.lst ds,w,q=>by
  unfold ai at q ⊢;obtain⟨l,xs,rfl,r,z,q⟩:=q;exact⟨l,xs,rfl,(h l _ r z).1,(h l _ r z).2,ae.frame h ds xs q⟩
 |.dct ks ds,w,q=>by
  unfold ai at q ⊢;obtain⟨l,xs,rfl,r,z,q⟩:=q;exact⟨l,xs,rfl,(h l _ r z).1,(h l _ r z).2,ae.frame h ds xs q⟩
theorem ae.frame{R R':Nat->Prop}{m m':Me}(h:∀(l:Nat) o,R l->m[l]?=some o->R' l/\m'[l]?=some o):∀(ds:List Dat) (xs:List Wd),ae R m ds xs->ae R' m' ds xs
 |[],xs,q=>by unfold ae at q ⊢;exact q
 |d::ds,xs,q=>by
  unfold ae at q ⊢;obtain⟨x,r,rfl,a,b⟩:=q;exact⟨x,r,rfl,ai.frame h d x a,ae.frame h ds r b⟩
end
def ai.up{R:Nat->Prop}{m m':Me}{d:Dat}{w:Wd}(n:Nat)(h:Le m m')(q:ai R m d w):ai (Rf R n) m' d w:=
 ai.frame (λl o r z=>⟨.inl r,h l o z⟩) d w q
def ae.up{R:Nat->Prop}{m m':Me}{d:List Dat}{w:List Wd}(n:Nat)(h:Le m m')(q:ae R m d w):ae (Rf R n) m' d w:=
 ae.frame (λl o r z=>⟨.inl r,h l o z⟩) d w q
theorem bo:∀{ds:List Dat}{xs:List Wd},ae R m ds xs↔ds.length=xs.length/\∀(i:Nat) d x,ds[i]?=some d->xs[i]?=some x->ai R m d x
 |[],xs=>by
  unfold ae;constructor
  .rintro rfl;exact⟨rfl,by simp⟩
  .rintro ⟨h,_⟩;exact List.eq_nil_of_length_eq_zero h.symm
 |d::ds,xs=>by
  unfold ae;constructor
  .rintro ⟨x,r,rfl,a,b⟩;obtain⟨hl,hb⟩:=bo.mp b;refine⟨by simp[hl],λi e y h1 h2=>?_⟩;cases i with
   |zero=>simp at h1 h2;subst h1;subst h2;exact a
   |succ i=>simp at h1 h2;exact hb i e y h1 h2
  .rintro ⟨hl,h⟩;cases xs with
   |nil=>cases hl
   |cons x r=>
    refine⟨x,r,rfl,h 0 d x rfl rfl,bo.mpr ⟨by simpa using hl,λi e y h1 h2=>h (i+1) e y (by simpa using h1) (by simpa using h2)⟩⟩
def ae.len (h:ae R m ds xs):ds.length=xs.length:=(bo.mp h).1
def ae.get (h:ae R m ds xs){i:Nat}(z:ds[i]?=some d):∃x,xs[i]?=some x/\ai R m d x:=by
 obtain⟨hl,h⟩:=bo.mp h;obtain⟨hi,_⟩:=Qb.mp z;exact⟨xs[i],Qv (by lia),h i d _ z (Qv (by lia))⟩
def ae.nil{R:Nat->Prop}{m:Me}:ae R m [] []:=by unfold ae;rfl
def ae.cons{R:Nat->Prop}{m:Me}{d:Dat}{x:Wd}{ds:List Dat}{xs:List Wd}(a:ai R m d x)(b:ae R m ds xs):ae R m (d::ds) (x::xs):=by
 unfold ae;exact⟨x,xs,rfl,a,b⟩
def ae.cons_inv (h:ae R m (d::ds) xs):∃x r,xs=x::r/\ai R m d x/\ae R m ds r:=by
 unfold ae at h;exact h
def ae.nil_inv (h:ae R m [] xs):xs=[]:=by unfold ae at h;exact h
theorem ae.app:∀{ds es:List Dat}{xs ys:List Wd},ae R m ds xs->ae R m es ys->ae R m (ds++es) (xs++ys)
 |[],es,xs,ys,a,b=>by rw[a.nil_inv];exact b
 |d::ds,es,xs,ys,a,b=>by
  obtain⟨x,r,rfl,p,q⟩:=a.cons_inv;exact .cons p (ae.app q b)
theorem ae.drop{R:Nat->Prop}{m:Me}(n:Nat){ds:List Dat}{xs:List Wd}(h:ae R m ds xs):ae R m (ds.drop n) (xs.drop n):=by
 obtain⟨hl,h⟩:=bo.mp h;refine bo.mpr ⟨by simp[hl],λi d x a b=>h (n+i) d x (by simpa using a) (by simpa using b)⟩
set_option tactic.hygienic true in
theorem ae.take{R:Nat->Prop}{m:Me}(n:Nat){ds:List Dat}{xs:List Wd}(h:ae R m ds xs):ae R m (ds.take n) (xs.take n):=by
 obtain⟨hl,h⟩:=bo.mp h;refine bo.mpr ⟨by simp[hl],λi d x a b=>?_⟩;rw[List.getElem?_take]at a b;split at a
 .next z=>rw[J7 z]at b;exact h i d x a b
 .cases a
theorem ae.rev:∀{ds:List Dat}{xs:List Wd},ae R m ds xs->ae R m ds.reverse xs.reverse
 |[],xs,a=>by rw[a.nil_inv];exact .nil
 |d::ds,xs,a=>by
  obtain⟨x,r,rfl,p,q⟩:=a.cons_inv;rw[Q5,Q5];exact ae.app (ae.rev q) (.cons p .nil)
theorem ae.set{R:Nat->Prop}{m:Me}{ds:List Dat}{xs:List Wd}(h:ae R m ds xs)(j:Nat){d:Dat}{x:Wd}(z:ai R m d x):ae R m (ds.set j d) (xs.set j x):=by
 obtain⟨hl,h⟩:=bo.mp h;refine bo.mpr ⟨by simp[hl],λi e y a b=>?_⟩;rw[QC]at a b;by_cases q:j=i
 .rw[J7 q]at a b;split at a
  .split at b
   .cases a;cases b;exact z
   .cases b
  .cases a
 .rw[J8 q]at a b;exact h i e y a b
theorem ae.rep (h:ae R m ds xs):∀k:Nat,ae R m (Qt k ds).flatten (Qt k xs).flatten
 |0=>.nil
 |k+1=>by
  rw[QX,QX,Q6,Q6];exact ae.app h (ae.rep h k)
theorem eB:∀(l:List Int),ae R m (l.map Dat.int) (l.map Wd.int)
 |[]=>.nil
 |i::l=>.cons (by unfold ai;rfl) (eB l)
def aa:ai R m (.int i) w↔w=.int i:=by unfold ai;exact Iff.rfl
def aj:ai R m (.bl i) w↔w=.bl i:=by unfold ai;exact Iff.rfl
def am:ai R m .non w↔w=.non:=by unfold ai;exact Iff.rfl
def az:ai R m (.str s) w↔w=.str s:=by unfold ai;exact Iff.rfl
def aV:ai R m (.scr s) w↔w=.rol (s.map Wd.int):=by unfold ai;exact Iff.rfl
def ah:ai R m (.tup ds) w↔∃xs,w=.tup xs/\ae R m ds xs:=by
 constructor
 .intro h;unfold ai at h;exact h
 .intro h;unfold ai;exact h
def aw:ai R m (.lst ds) w↔∃l xs,w=.ref l/\R l/\m[l]?=some (.lst xs)/\ae R m ds xs:=by
 constructor
 .intro h;unfold ai at h;exact h
 .intro h;unfold ai;exact h
def aS:ai R m (.dct ks ds) w↔∃l xs,w=.ref l/\R l/\m[l]?=some (.dct ks xs)/\ae R m ds xs:=by
 constructor
 .intro h;unfold ai at h;exact h
 .intro h;unfold ai;exact h
noncomputable def ag(R:Nat->Prop)(m:Me)(r:Rz)(rd:Rd):Prop:=match rd with
 |.ok d=>∃w m',r=.ok w m'/\Le m m'/\ai (Rf R m.length) m' d w
 |.no=>True
def ag.lift{R:Nat->Prop}{m m1:Me}{r:Rz}{rd:Rd}(h:Le m m1)(q:ag (Rf R m.length) m1 r rd):ag R m r rd:=by
 have hl:=h.len;have fr:∀(m':Me) (d:Dat) (w:Wd),ai (Rf (Rf R m.length) m1.length) m' d w->ai (Rf R m.length) m' d w:=λm' d w=>ai.frame (λl o z k=>⟨by rcases z with (z|z)|z;exact .inl z;exact .inr z;exact .inr (by lia),k⟩) d w;cases rd with
 |ok d=>obtain⟨w,m',rfl,k,z⟩:=q;exact⟨w,m',rfl,h.trans k,fr _ _ _ z⟩
 |no=>trivial
theorem ag.bind{R:Nat->Prop}{m:Me}{r:Rz}{rd:Rd}{f:Wd->Me->Rz}{g:Dat->Rd}(h:ag R m r rd)
  (k:∀d w m',Le m m'->ai (Rf R m.length) m' d w->ag (Rf R m.length) m' (f w m') (g d)):ag R m (r.bind f) (rd.bind g):=by
 cases rd with
 |ok d=>obtain⟨w,m',rfl,l,z⟩:=h;exact ag.lift l (k d w m' l z)
 |no=>trivial
def cQ (h:ai R m d w):ag R m (.ok w m) (.ok d):=
 ⟨w,m,rfl,Le.refl m,h.up _ (Le.refl m)⟩
theorem ag.no{R:Nat->Prop}{m:Me}{r:Rz}:ag R m r .no:=trivial
def ag.new{R:Nat->Prop}{m:Me}{ds:List Dat}{xs:List Wd}(h:ae R m ds xs):ag R m (alloc m xs) (bu ds):=by
 unfold bu alloc;rw[h.len];by_cases z:xs.length<=aF
 .rw[J7 z,J7 z];exact⟨_,_,rfl,Le.app m _,aw.mpr ⟨_,xs,rfl,.inr (Qf _),by simp,h.up _ (Le.app m _)⟩⟩
 .rw[J8 z,J8 z];exact ag.no
def xI (h:ai R m d w)(z:xa d=some ds):∃xs,yD m w=some xs/\ae R m ds xs:=by
 cases d with
 |tup es=>obtain⟨xs,rfl,q⟩:=ah.mp h;cases z;exact⟨xs,rfl,q⟩
 |lst es=>
  obtain⟨l,xs,rfl,_,e,q⟩:=aw.mp h;cases z;exact⟨xs,by show zn m l=_;unfold zn;rw[e],q⟩
 |scr ns=>rw[aV.mp h];cases z;exact⟨_,rfl,eB ns⟩
 |_=>cases z
def jJ (h:ai R m d w)(z:dH d=some ds):∃xs,vR m w=some xs/\ae R m ds xs:=by
 cases d with
 |lst es=>
  obtain⟨l,xs,rfl,_,e,q⟩:=aw.mp h;cases z;exact⟨xs,by show zn m l=_;unfold zn;rw[e],q⟩
 |scr ns=>rw[aV.mp h];cases z;exact⟨_,rfl,eB ns⟩
 |_=>cases z
theorem gP:∀{a b:List Int},a.map Wd.int=b.map Wd.int->a=b
 |[],[],_=>rfl
 |[],_::_,h=>by cases h
 |_::_,[],h=>by cases h
 |x::a,y::b,h=>by
  simp only[QO,List.cons.injEq,Wd.int.injEq]at h;rw[h.1,gP h.2]
mutual
theorem ai.det{R R':Nat->Prop}{m:Me}:∀(d e:Dat) (w:Wd),ai R m d w->ai R' m e w->d=e
 |.non,e,w,q,z=>by rw[am.mp q]at z;cases e<;>unfold ai at z<;>first|rfl|(exfalso;simp at z)
 |.bl b,e,w,q,z=>by rw[aj.mp q]at z;cases e<;>unfold ai at z<;>first|(injection z with z;rw[z])|(exfalso;simp at z)
 |.int b,e,w,q,z=>by rw[aa.mp q]at z;cases e<;>unfold ai at z<;>first|(injection z with z;rw[z])|(exfalso;simp at z)
 |.str b,e,w,q,z=>by rw[az.mp q]at z;cases e<;>unfold ai at z<;>first|(injection z with z;rw[z])|(exfalso;simp at z)
 |.scr b,e,w,q,z=>by rw[aV.mp q]at z;cases e<;>unfold ai at z<;>first|(injection z with z;rw[gP z])|(exfalso;simp at z)
 |.tup ds,e,w,q,z=>by
  obtain⟨xs,rfl,q1⟩:=ah.mp q;cases e with
  |tup es=>obtain⟨ys,e,z1⟩:=ah.mp z;cases e;rw[ae.det ds es xs q1 z1]
  |_=>exfalso;unfold ai at z;simp at z
 |.lst ds,e,w,q,z=>by
  obtain⟨l,xs,rfl,_,hm,q1⟩:=aw.mp q;cases e with
  |lst es=>obtain⟨l',ys,e,_,hn,z1⟩:=aw.mp z;cases e;rw[hm]at hn;cases hn;rw[ae.det ds es xs q1 z1]
  |dct ks es=>obtain⟨l',ys,e,_,hn,z1⟩:=aS.mp z;cases e;rw[hm]at hn;cases hn
  |_=>exfalso;unfold ai at z;simp at z
 |.dct ks ds,e,w,q,z=>by
  obtain⟨l,xs,rfl,_,hm,q1⟩:=aS.mp q;cases e with
  |dct ks' es=>obtain⟨l',ys,e,_,hn,z1⟩:=aS.mp z;cases e;rw[hm]at hn;cases hn;rw[ae.det ds es xs q1 z1]
  |lst es=>obtain⟨l',ys,e,_,hn,z1⟩:=aw.mp z;cases e;rw[hm]at hn;cases hn
  |_=>exfalso;unfold ai at z;simp at z
theorem ae.det{R R':Nat->Prop}{m:Me}:∀(ds es:List Dat) (xs:List Wd),ae R m ds xs->ae R' m es xs->ds=es
 |[],es,xs,q,z=>by
  rw[q.nil_inv]at z;cases es with
  |nil=>rfl
  |cons e es=>obtain⟨_,_,h,_⟩:=z.cons_inv;cases h
 |d::ds,es,xs,q,z=>by
  obtain⟨x,r,rfl,a,b⟩:=q.cons_inv;cases es with
  |nil=>cases z.nil_inv
  |cons e es=>
   obtain⟨_,_,h,a',b'⟩:=z.cons_inv;cases h;rw[ai.det d e x a a',ae.det ds es r b b']
end
def pU(d:Dat):yP 0 d=false:=by cases d<;>rfl
mutual
theorem gQ:∀(k:Nat) (d:Dat),yP k d=true->dg d d=true
 |0,d,h=>by rw[pU]at h;cases h
 |k+1,.non,h=>rfl
 |k+1,.bl b,h=>by show(b==b)=true;simp
 |k+1,.int b,h=>by show decide (b=b)=true;simp
 |k+1,.str b,h=>by show decide (b=b)=true;simp
 |k+1,.scr b,h=>J9 (show false=true from h) (by decide)
 |k+1,.dct _ _,h=>J9 (show false=true from h) (by decide)
 |k+1,.tup ds,h=>ck k ds h
 |k+1,.lst ds,h=>ck k ds h
theorem ck:∀(k:Nat) (ds:List Dat),bz k ds=true->cu ds ds=true
 |k,[],h=>rfl
 |k,d::ds,h=>by
  replace h:(yP k d&&bz k ds)=true:=h
  show(dg d d&&cu ds ds)=true;rw[Qp]at h ⊢;exact⟨gQ k d h.1,ck k ds h.2⟩
end
theorem jK (ih:∀(d e:Dat) (x y:Wd),yP k d=true->yP k e=true->ai R m d x->ai R m e y->b8 m k x y=some (dg d e)):
  ∀(ds es:List Dat) (xs ys:List Wd),bz k ds=true->bz k es=true->ae R m ds xs->ae R m es ys->∃q,cJ (b8 m k) xs ys=some q/\(q&&decide (xs.length=ys.length))=cu ds es
 |[],es,xs,ys,h1,h2,a,b=>by
  rw[a.nil_inv];cases es with
  |nil=>rw[b.nil_inv];exact⟨true,rfl,rfl⟩
  |cons e es=>obtain⟨y,r,rfl,_,_⟩:=b.cons_inv;exact⟨true,rfl,rfl⟩
 |d::ds,es,xs,ys,h1,h2,a,b=>by
  obtain⟨x,r,rfl,p,q⟩:=a.cons_inv;cases es with
  |nil=>rw[b.nil_inv];exact⟨true,rfl,rfl⟩
  |cons e es=>
   obtain⟨y,s,rfl,p',q'⟩:=b.cons_inv
   replace h1:(yP k d&&bz k ds)=true:=h1
   replace h2:(yP k e&&bz k es)=true:=h2
   rw[Qp]at h1 h2;obtain⟨t,ht,hb⟩:=jK ih ds es r s h1.2 h2.2 q q';refine⟨dg d e&&t,?_,?_⟩
   .unfold cJ;rw[ih d e x y h1.1 h2.1 p p',ht];rfl
   .show (dg d e&&t&&decide (r.length+1=s.length+1))=(dg d e&&cu ds es);simp only[<-hb,Nat.succ_inj,Bool.and_assoc]
def aQ (h:m[l]?=some (.lst xs)):aK m l=true:=by unfold aK;rw[h]
def yy (h:m[l]?=some (.lst xs)):(if aK m l&&true then some false else none)=some false:=by rw[aQ h];rfl
theorem qD:∀(k:Nat) (d e:Dat) (x y:Wd),yP k d=true->yP k e=true->ai R m d x->ai R m e y->b8 m k x y=some (dg d e)
 |0,d,e,x,y,h,_,_,_=>by rw[pU]at h;cases h
 |k+1,d,e,x,y,h1,h2,a,b=>by
  have ih:=qD (R:=R) (m:=m) k;cases d with
  |scr ns=>exact J9 (show false=true from h1) (by decide)
  |dct _ _=>exact J9 (show false=true from h1) (by decide)
  |tup ds=>
   obtain⟨xs,rfl,a1⟩:=ah.mp a;cases e with
   |scr ns=>exact J9 (show false=true from h2) (by decide)
   |dct _ _=>exact J9 (show false=true from h2) (by decide)
   |tup es=>
    obtain⟨ys,rfl,b1⟩:=ah.mp b;obtain⟨q,h,e⟩:=jK ih ds es xs ys h1 h2 a1 b1;show(cJ (b8 m k) xs ys).map (· && decide (xs.length=ys.length))=some (cu ds es);rw[h,<-e];rfl
   |lst es=>
    obtain⟨l,ys,rfl,_,hm,b⟩:=aw.mp b;exact yy hm
   |non=>rw[am.mp b];rfl
   |bl _=>rw[aj.mp b];rfl
   |int _=>rw[aa.mp b];rfl
   |str _=>rw[az.mp b];rfl
  |lst ds=>
   have a0:=a;obtain⟨l,xs,rfl,_,hm,a⟩:=aw.mp a;cases e with
   |scr ns=>exact J9 (show false=true from h2) (by decide)
   |dct _ _=>exact J9 (show false=true from h2) (by decide)
   |lst es=>
    have b0:=b;obtain⟨l',ys,rfl,_,hn,b⟩:=aw.mp b;show(if l=l' then(if aK m l then some true else none)else match m[l]?,m[l']? with
     |some (.lst xs),some (.lst ys)=>if xs.length=ys.length then cJ (b8 m k) xs ys else some false
     |_,_=>none)=_
    by_cases q:l=l'
    .subst q;rw[J7 rfl,J7 (aQ hm)];rw[ai.det _ _ _ a0 b0]at *
     rw[gQ (k+1) _ h2]
    .rw[J8 q,hm,hn];obtain⟨q,h,e⟩:=jK ih ds es xs ys h1 h2 a b;show(if xs.length=ys.length then cJ (b8 m k) xs ys else some false)=some (cu ds es);by_cases z:xs.length=ys.length
     .simp only[z,if_true,h,<-e];simp
     .simp only[z,if_false,<-e];simp
   |tup es=>obtain⟨ys,rfl,b⟩:=ah.mp b;exact yy hm
   |non=>rw[am.mp b];exact yy hm
   |bl _=>rw[aj.mp b];exact yy hm
   |int _=>rw[aa.mp b];exact yy hm
   |str _=>rw[az.mp b];exact yy hm
  |non=>
   rw[am.mp a];cases e with
   |scr ns=>exact J9 (show false=true from h2) (by decide)
   |dct _ _=>exact J9 (show false=true from h2) (by decide)
   |lst es=>obtain⟨l',ys,rfl,_,hn,b⟩:=aw.mp b;exact yy hn
   |tup es=>obtain⟨ys,rfl,b⟩:=ah.mp b;rfl
   |non=>rw[am.mp b];rfl
   |bl _=>rw[aj.mp b];rfl
   |int _=>rw[aa.mp b];rfl
   |str _=>rw[az.mp b];rfl
  |bl _=>
   rw[aj.mp a];cases e with
   |scr ns=>exact J9 (show false=true from h2) (by decide)
   |dct _ _=>exact J9 (show false=true from h2) (by decide)
   |lst es=>obtain⟨l',ys,rfl,_,hn,b⟩:=aw.mp b;exact yy hn
   |tup es=>obtain⟨ys,rfl,b⟩:=ah.mp b;rfl
   |non=>rw[am.mp b];rfl
   |bl _=>rw[aj.mp b];rfl
   |int _=>rw[aa.mp b];rfl
   |str _=>rw[az.mp b];rfl
  |int _=>
   rw[aa.mp a];cases e with
   |scr ns=>exact J9 (show false=true from h2) (by decide)
   |dct _ _=>exact J9 (show false=true from h2) (by decide)
   |lst es=>obtain⟨l',ys,rfl,_,hn,b⟩:=aw.mp b;exact yy hn
   |tup es=>obtain⟨ys,rfl,b⟩:=ah.mp b;rfl
   |non=>rw[am.mp b];rfl
   |bl _=>rw[aj.mp b];rfl
   |int _=>rw[aa.mp b];rfl
   |str _=>rw[az.mp b];rfl
  |str _=>
   rw[az.mp a];cases e with
   |scr ns=>exact J9 (show false=true from h2) (by decide)
   |dct _ _=>exact J9 (show false=true from h2) (by decide)
   |lst es=>obtain⟨l',ys,rfl,_,hn,b⟩:=aw.mp b;exact yy hn
   |tup es=>obtain⟨ys,rfl,b⟩:=ah.mp b;rfl
   |non=>rw[am.mp b];rfl
   |bl _=>rw[aj.mp b];rfl
   |int _=>rw[aa.mp b];rfl
   |str _=>rw[az.mp b];rfl
set_option tactic.hygienic true in
def jL (h:ee d e=some q)(a:ai R m d x)(b:ai R m e y):b8 m zV x y=some q:=by
 unfold ee at h;split at h
 .next z=>simp only[Qp]at z;cases h;exact qD zV d e x y z.1 z.2 a b
 .cases h
theorem ss (h:yP zV d=true)(a:ai R m d x):∀(es:List Dat) (ys:List Wd),bz zV es=true->ae R m es ys->dZ (b8 m zV) x ys=some (es.any λe=>dg e d)
 |[],ys,_,b=>by rw[b.nil_inv];rfl
 |e::es,ys,z,b=>by
  obtain⟨y,r,rfl,p,q⟩:=b.cons_inv
  replace z:(yP zV e&&bz zV es)=true:=z
  rw[Qp]at z;show(match b8 m zV y x with
   |some a=>(dZ (b8 m zV) x r).map (a || ·)
   |none=>none)=_
  rw[qD zV e d y x z.1 h p a,ss h a es r z.2 q];rfl
set_option tactic.hygienic true in
def BU (h:nv d es=some q)(a:ai R m d x)(b:ae R m es ys):dZ (b8 m zV) x ys=some q:=by
 unfold nv at h;split at h
 .next z=>simp only[Qp]at z;cases h;exact ss z.1 a es ys z.2 b
 .cases h
theorem ag.int{R:Nat->Prop}{m:Me}{i:Int}:ag R m (.ok (.int i) m) (.ok (.int i)):=cQ (aa.mpr rfl)
theorem ag.bl{R:Nat->Prop}{m:Me}{i:Bool}:ag R m (.ok (.bl i) m) (.ok (.bl i)):=cQ (aj.mpr rfl)
def jM (op:Bo)(a:ai R m d x)(b:ai R m e y):ag R m (cE op x y m) (yn op d e):=by
 cases d with
 |int i=>
  rw[aa.mp a];cases e with
  |int j=>
   rw[aa.mp b];cases op<;>simp only[cE,yn]
   .exact ag.int
   .exact ag.int
   .by_cases z:(small i || small j)=true
    .rw[J7 z,J7 z];exact ag.int
    .rw[J8 z,J8 z];exact ag.no
   .by_cases z:0<j/\j<1073741824
    .rw[J7 z,J7 z];exact ag.int
    .rw[J8 z,J8 z];exact ag.no
   .by_cases z:0<j
    .rw[J7 z,J7 z];exact ag.int
    .rw[J8 z,J8 z];exact ag.no
   .by_cases z:0<=j/\j<=1000000/\small i=true
    .rw[J7 z,J7 z];exact ag.int
    .rw[J8 z,J8 z];exact ag.no
   .by_cases z:0<=j/\j<=1000
    .rw[J7 z,J7 z];exact ag.int
    .rw[J8 z,J8 z];exact ag.no
   .by_cases z:0<=i/\j=1
    .rw[J7 z,J7 z];exact ag.int
    .rw[J8 z,J8 z];exact ag.no
   .by_cases z:i.natAbs.log2<100000/\j.natAbs.log2<100000
    .rw[J7 z,J7 z];exact ag.int
    .rw[J8 z,J8 z];exact ag.no
   .by_cases z:0<j/\j.natAbs.log2<9000
    .rw[J7 z,J7 z];exact ag.int
    .rw[J8 z,J8 z];exact ag.no
  |_=>exact ag.no
 |lst ds=>
  obtain⟨l,xs,rfl,_,hm,a1⟩:=aw.mp a;cases e with
  |lst es=>
   obtain⟨l',ys,rfl,_,hn,b1⟩:=aw.mp b;cases op<;>first|exact ag.no|skip
   simp only[cE,yn,hm,hn];exact ag.new (a1.app b1)
  |int k=>
   rw[aa.mp b];cases op<;>first|exact ag.no|skip
   simp only[cE,yn,hm];by_cases z:-(aF:Int)<=k/\k<=(aF:Int)
   .rw[J7 z,J7 z];exact ag.new (a1.rep _)
   .rw[J8 z,J8 z];exact ag.no
  |_=>exact ag.no
 |tup ds=>
  obtain⟨xs,rfl,a1⟩:=ah.mp a;cases e with
  |tup es=>
   obtain⟨ys,rfl,b1⟩:=ah.mp b;cases op<;>first|exact ag.no|skip
   simp only[cE,yn];have h1:=a1.len;have h2:=b1.len;rw[h1,h2];by_cases z:xs.length+ys.length<=aF
   .rw[J7 z,J7 z];exact cQ (ah.mpr ⟨_,rfl,a1.app b1⟩)
   .rw[J8 z,J8 z];exact ag.no
  |_=>exact ag.no
 |_=>exact ag.no
def jN (r:Int->Int->Bool)(a:ai R m d x)(b:ai R m e y):ag R m (kW r x y m) (h9 r d e):=by
 cases d with
 |int i=>
  rw[aa.mp a];cases e with
  |int j=>rw[aa.mp b];exact ag.bl
  |_=>exact ag.no
 |_=>exact ag.no
def jO (h:∀b,q=some b->p=some b):ag R m (dw p m) (fu q):=by
 cases q with
 |none=>exact ag.no
 |some b=>rw[h b rfl];exact ag.bl
def DX (h:∀b,q=some b->p=some b):ag R m (dw (p.map (!·)) m) (fu (q.map (!·))):=by
 cases q with
 |none=>exact ag.no
 |some b=>rw[h b rfl];exact ag.bl
def DW (a:ai R m d x)(b:ai R m e y):ag R m (cL .notN x y m) (xR .notN d e):=by
 cases e with
 |non=>
  rw[am.mp b];cases d with
  |non=>rw[am.mp a];exact ag.bl
  |bl _=>rw[aj.mp a];exact ag.bl
  |int _=>rw[aa.mp a];exact ag.bl
  |str _=>rw[az.mp a];exact ag.bl
  |scr _=>rw[aV.mp a];exact ag.bl
  |tup _=>obtain⟨xs,rfl,_⟩:=ah.mp a;exact ag.bl
  |lst _=>obtain⟨l,xs,rfl,_⟩:=aw.mp a;exact ag.bl
  |dct _ _=>obtain⟨l,xs,rfl,_⟩:=aS.mp a;exact ag.bl
 |_=>exact ag.no
theorem xJ:∀{ds:List Dat}{xs:List Wd}{k:List Int},ae R m ds xs->ym ds=some k->zX xs=some k
 |[],xs,k,a,h=>by rw[a.nil_inv];exact h
 |d::ds,xs,k,a,h=>by
  obtain⟨x,r,rfl,p,q⟩:=a.cons_inv;cases d with
  |int j=>
   rw[aa.mp p];simp only[ym,QH]at h;obtain⟨k,hk,rfl⟩:=h;simp only[zX,xJ q hk,QM]
  |_=>simp[ym]at h
def jP (op:Co)(a:ai R m d x)(b:ai R m e y):ag R m (cL op x y m) (xR op d e):=by
 cases op with
 |eq=>exact jO λq h=>jL h a b
 |ne=>exact DX λq h=>jL h a b
 |notN=>exact DW a b
 |isin=>
  simp only[cL,xR];cases z:xa e with
  |none=>
   cases e with
   |dct ks ds=>
    obtain⟨l,xs,rfl,_,hm,q⟩:=aS.mp b;have hs:yD m (.ref l)=none:=by show zn m l=none;unfold zn;rw[hm]
    rw[hs];refine jO λt h=>?_;unfold iN;simp only[hm];cases d with
    |int i=>rw[aa.mp a];exact h
    |tup us=>
     obtain⟨ws,rfl,q⟩:=ah.mp a;have h:(ym us).map (λk=>decide (k∈ks))=some t:=h;obtain⟨k,hk,rfl⟩:=QH.mp h;show(zX ws).map _=_;rw[xJ q hk];rfl
    |_=>cases h
   |_=>exact ag.no
  |some es=>
   obtain⟨ys,h,q⟩:=xI b z;rw[h];exact jO λt h=>BU h a q
 |lt=>exact jN _ a b
 |le=>exact jN _ a b
 |gt=>exact jN _ a b
def BS (t:Tg)(a:ai R m d x):ag R m (dw (df t x m) m) (.ok (.bl (fS t d))):=by
 have h:df t x m=some (fS t d):=by
  cases d with
  |non=>rw[am.mp a];cases t<;>rfl
  |bl _=>rw[aj.mp a];cases t<;>rfl
  |int _=>rw[aa.mp a];cases t<;>rfl
  |str _=>rw[az.mp a];cases t<;>rfl
  |scr _=>rw[aV.mp a];cases t<;>rfl
  |tup _=>obtain⟨xs,rfl,_⟩:=ah.mp a;cases t<;>rfl
  |lst _=>obtain⟨l,xs,rfl,_,hm,_⟩:=aw.mp a;cases t<;>(show(match m[l]? with|some (.lst _)=>_|some (.dct _ _)=>_|none=>_)=_;rw[hm];rfl)
  |dct _ _=>obtain⟨l,xs,rfl,_,hm,_⟩:=aS.mp a;cases t<;>(show(match m[l]? with|some (.lst _)=>_|some (.dct _ _)=>_|none=>_)=_;rw[hm];rfl)
 rw[h];exact ag.bl
def xy (a:ai R m d x)(h:xu d=some k):jx x=some k:=by
 cases d with
 |tup ds=>obtain⟨xs,rfl,q⟩:=ah.mp a;exact xJ q h
 |_=>cases h
theorem jQ:∀{ks:List (List Int)}{ds:List Dat}{xs:List Wd}{d:Dat},ae R m ds xs->b9 ks ds q=some d->∃x,b9 ks xs q=some x/\ai R m d x
 |[],ds,xs,d,a,h=>by cases ds<;>cases h
 |k::ks,[],xs,d,a,h=>by cases h
 |k::ks,e::ds,xs,d,a,h=>by
  obtain⟨x,r,rfl,p,z⟩:=a.cons_inv;have h':(if k=q then some e else b9 ks ds q)=some d:=h;show ∃y,(if k=q then some x else b9 ks r q)=some y/\_;by_cases c:k=q
  .rw[J7 c]at h' ⊢;cases h';exact⟨x,rfl,p⟩
  .rw[J8 c]at h' ⊢;exact jQ z h'
theorem gS:∀{ks:List (List Int)}{ds:List α}{xs:List β},ds.length=xs.length->b9 ks ds q=none->b9 ks xs q=none
 |[],_,_,_,_=>rfl
 |k::ks,[],xs,h,_=>by cases xs with
  |nil=>rfl
  |cons _ _=>cases h
 |k::ks,d::ds,[],h,_=>by cases h
 |k::ks,d::ds,x::xs,h,e=>by
  have e':(if k=q then some d else b9 ks ds q)=none:=e;show(if k=q then some x else b9 ks xs q)=none;by_cases c:k=q
  .rw[J7 c]at e';cases e'
  .rw[J8 c]at e' ⊢;exact gS (by simpa using h) e'
def gT (a:ai R m d x)(b:ai R m e y):ag R m (vS x y m) (ky d e):=by
 cases d with
 |dct ks ds=>
  obtain⟨l,xs,rfl,_,hm,q⟩:=aS.mp a;unfold ky vS;simp only[hm];cases hk:xu e with
  |none=>exact ag.no
  |some k=>
   rw[xy b hk];simp only[Vc];cases hv:b9 ks ds k with
   |none=>exact ag.no
   |some v=>
    obtain⟨w,h1,h2⟩:=jQ q hv;rw[h1];exact cQ h2
 |_=>exact ag.no
theorem sr:∀{ds:List Dat}{xs:List Wd}{i:Int},ae R m ds xs->qC ds=some i->qg xs=some i
 |[],xs,i,a,h=>by rw[a.nil_inv];exact h
 |d::ds,xs,i,a,h=>by
  obtain⟨x,r,rfl,p,q⟩:=a.cons_inv;cases d with
  |int j=>
   rw[aa.mp p];simp only[qC,QH]at h;obtain⟨k,hk,rfl⟩:=h;simp only[qg,sr q hk,QM]
  |_=>simp[qC]at h
theorem gU:∀{ds:List Dat}{xs:List Wd}{k:List Int},ae R m ds xs->ym ds=some k->zX xs=some k
 |[],xs,k,q,h=>by rw[q.nil_inv];exact h
 |d::ds,xs,k,q,h=>by
  obtain⟨x,r,rfl,a,b⟩:=q.cons_inv;cases d with
  |int i=>
   have h':(ym ds).map (i::·)=some k:=h;obtain⟨k',e,rfl⟩:=QH.mp h';rw[aa.mp a];show(zX r).map (i::·)=_;rw[gU b e];rfl
  |_=>cases h
def BR (b:dM)(a:ae R m ds xs):ag R m (vv b xs m) (kK b ds):=by
 have one:∀{d:Dat}{xs:List Wd},ae R m [d] xs->∃x,xs=[x]/\ai R m d x:=by
  intro d xs h;obtain⟨x,r,rfl,p,q⟩:=h.cons_inv;rw[q.nil_inv];exact⟨x,rfl,p⟩
 cases b with
 |len=>
  cases ds with
  |nil=>exact ag.no
  |cons d ds=>
   cases ds with
   |cons _ _=>exact ag.no
   |nil=>
    obtain⟨x,rfl,p⟩:=one a;show ag R m _ (match xa d with|some i=>.ok (.int i.length)|none=>.no);cases z:xa d with
    |none=>exact ag.no
    |some i=>
     obtain⟨ys,h,q⟩:=xI p z;simp only[vv,h,q.len];exact ag.int
 |int=>
  cases ds with
  |nil=>exact ag.no
  |cons d ds=>
   cases d with
   |int i=>
    cases ds with
    |cons _ _=>exact ag.no
    |nil=>obtain⟨x,rfl,p⟩:=one a;rw[aa.mp p];exact ag.int
   |bl i=>
    cases ds with
    |cons _ _=>exact ag.no
    |nil=>obtain⟨x,rfl,p⟩:=one a;rw[aj.mp p];exact ag.int
   |_=>exact ag.no
 |list=>
  cases ds with
  |nil=>exact ag.no
  |cons d ds=>
   cases ds with
   |cons _ _=>exact ag.no
   |nil=>
    obtain⟨x,rfl,p⟩:=one a;show ag R m _ (match xa d with|some i=>bu i|none=>.no);cases z:xa d with
    |none=>exact ag.no
    |some i=>
     obtain⟨ys,h,q⟩:=xI p z;simp only[vv,h];exact ag.new q
 |tuple=>
  cases ds with
  |nil=>exact ag.no
  |cons d ds=>
   cases ds with
   |cons _ _=>exact ag.no
   |nil=>
    obtain⟨x,rfl,p⟩:=one a;show ag R m _ (match xa d with|some i=>.ok (.tup i)|none=>.no);cases z:xa d with
    |none=>exact ag.no
    |some i=>
     obtain⟨ys,h,q⟩:=xI p z;simp only[vv,h];exact cQ (ah.mpr ⟨_,rfl,q⟩)
 |sum=>
  cases ds with
  |nil=>exact ag.no
  |cons d ds=>
   cases ds with
   |cons _ _=>exact ag.no
   |nil=>
    obtain⟨x,rfl,p⟩:=one a;show ag R m _ (match (dH d).bind qC with|some i=>.ok (.int i)|none=>.no);cases z:(dH d).bind qC with
    |none=>exact ag.no
    |some i=>
     obtain⟨es,z1,z2⟩:=QE.mp z;obtain⟨ys,h,q⟩:=jJ p z1;simp only[vv,h,QQ,sr q z2];exact ag.int
 |sorted=>
  cases ds with
  |nil=>exact ag.no
  |cons d ds=>
   cases d with
   |lst es=>
    cases ds with
    |cons _ _=>exact ag.no
    |nil=>
     obtain⟨x,rfl,p⟩:=one a;obtain⟨l,us,rfl,_,hm,q⟩:=aw.mp p;show ag R m _ (if es.length<2 then bu es else .no);by_cases z:es.length<2
     .rw[J7 z];have e3:zn m l=some us:=by unfold zn;rw[hm]
      have e5:us.length<2:=by have:=ae.len q;lia
      simp only[vv,e3,J7 e5];exact ag.new q
     .rw[J8 z];exact ag.no
   |_=>exact ag.no
 |sortI=>
  cases ds with
  |nil=>exact ag.no
  |cons d ds=>
   cases ds with
   |cons _ _=>exact ag.no
   |nil=>
    obtain⟨x,rfl,p⟩:=one a;show ag R m _ (match (dH d).bind ym with|some k=>if k.length<64 then bu ((fk k).map Dat.int)else .no|none=>.no);cases z:(dH d).bind ym with
    |none=>exact ag.no
    |some k=>
     obtain⟨es,z1,z2⟩:=QE.mp z;obtain⟨ys,h,q⟩:=jJ p z1;by_cases h64:k.length<64
     .simp only[vv,h,QQ,gU q z2,J7 h64];exact ag.new (eB _)
     .simp only[J8 h64];exact ag.no
def BQ (a:ai R m d x)(b:ai R m e y):ag R m (xY x y m) (wm d e):=by
 cases e with
 |int i=>
  rw[aa.mp b];simp only[wm,xY];cases z:xa d with
  |none=>exact ag.no
  |some ds=>
   obtain⟨xs,h,q⟩:=xI a z;simp only[h];cases z:(ix ds.length i).bind λj=>ds[j]? with
   |none=>exact ag.no
   |some v=>
    obtain⟨j,h1,h2⟩:=QE.mp z;obtain⟨x,h3,p⟩:=q.get h2;rw[q.len]at h1;simp only[h1,QQ,h3];exact cQ p
 |_=>exact ag.no
def pZ{x:Wd}{m:Me}{lo hi:Option Int}(h:∀xs,x≠.tup xs):eT x lo hi m=match vR m x with
  |some xs=>alloc m ((xs.drop (aL xs.length 0 lo)).take (aL xs.length xs.length hi-aL xs.length 0 lo))
  |none=>.no:=by
 cases x with
 |tup xs=>exact J9 rfl (h xs)
 |_=>rfl
def sm{d:Dat}{lo hi:Option Int}(h:∀ds,d≠.tup ds):eF d lo hi=match dH d with
  |some xs=>bu ((xs.drop (aL xs.length 0 lo)).take (aL xs.length xs.length hi-aL xs.length 0 lo))
  |none=>.no:=by
 cases d with
 |tup xs=>exact J9 rfl (h xs)
 |_=>rfl
def sk (a:ai R m d x)(h:∀ds,d≠.tup ds):∀xs,x≠.tup xs:=λxs e=>by
 subst e;cases d with
 |tup ds=>exact h ds rfl
 |non=>have:=am.mp a;cases this
 |bl _=>have:=aj.mp a;cases this
 |int _=>have:=aa.mp a;cases this
 |str _=>have:=az.mp a;cases this
 |scr _=>have:=aV.mp a;cases this
 |lst _=>obtain⟨l,ys,e,_⟩:=aw.mp a;cases e
 |dct _ _=>obtain⟨l,ys,e,_⟩:=aS.mp a;cases e
def si (lo hi:Option Int)(a:ai R m (.tup ds) x):ag R m (eT x lo hi m) (eF (.tup ds) lo hi):=by
 obtain⟨xs,rfl,q⟩:=ah.mp a;simp only[eF,eT,q.len];by_cases z:aL xs.length 0 lo=0/\aL xs.length xs.length hi=xs.length
 .rw[J7 z,J7 z];exact ag.no
 .rw[J8 z,J8 z];exact cQ (ah.mpr ⟨_,rfl,(q.drop _).take _⟩)
def Ab (lo hi:Option Int)(a:ai R m d x):ag R m (eT x lo hi m) (eF d lo hi):=by
 by_cases t:∃ds,d=.tup ds
 .obtain ⟨ds,rfl⟩:=t;exact si lo hi a
 have t':∀ds,d≠.tup ds:=λds e=>t ⟨ds,e⟩;rw[pZ (sk a t'),sm t'];cases z:dH d with
 |none=>exact ag.no
 |some ds=>
  obtain⟨xs,h,q⟩:=jJ a z;simp only[h,q.len];exact ag.new ((q.drop _).take _)
theorem kz (st:Int):∀(n:Nat) (lo:Int),ae R m (xb lo st n) (qh lo st n)
 |0,lo=>.nil
 |n+1,lo=>by
  have h:xb lo st (n+1)=.int lo::xb (lo+st) st n:=by
   unfold xb;rw[WF,QO,List.map_map];congr 1
   .simp
   .apply List.map_congr_left;intro i _;show Dat.int _=Dat.int _;congr 1;rw[show((Nat.succ i:Nat):Int)=(i:Int)+1 from rfl,Int.mul_add,Int.mul_one];lia
  rw[h];exact .cons (aa.mpr rfl) (kz st n _)
def DV (a:ai R m d x)(h:lp d=some ks):fj x m=some ks:=by
 cases d with
 |lst ds=>
  obtain⟨l,xs,rfl,_,hm,q⟩:=aw.mp a;unfold fj zn;simp only[hm,QQ];exact xJ q h
 |_=>cases h
theorem sg (b:ai R m e y):∀{ds:List Dat}{xs:List Wd}{bs:List Bool},ae R m ds xs->dz (λd=>ee d e) ds=some bs->dz (λw=>b8 m zV w y) xs=some bs
 |[],xs,bs,q,h=>by rw[q.nil_inv];exact h
 |d::ds,xs,bs,q,h=>by
  obtain⟨x,r,rfl,a,q⟩:=q.cons_inv;unfold dz at h ⊢;cases h1:ee d e with
  |none=>simp[h1]at h
  |some c=>
   cases h2:dz (λd=>ee d e) ds with
   |none=>simp[h1,h2]at h
   |some cs=>
    rw[h1,h2]at h;rw[jL h1 a b,sg b q h2];exact h
def BP (k:Dk)(a:ai R m d x)(b:ai R m e y)(c:ai R m f z):ag R m (vT k x y z m) (fq k d e f):=by
 cases k with
 |get=>
  cases d with
  |dct ks ds=>
   obtain⟨l,xs,rfl,_,hm,q⟩:=aS.mp a;unfold fq vT;simp only[hm];cases hk:xu e with
   |none=>exact ag.no
   |some k=>
    rw[xy b hk];simp only;cases hv:b9 ks ds k with
    |none=>
     have:b9 ks xs k=none:=gS q.len hv;rw[this];exact cQ c
    |some v=>
     obtain⟨w,h1,h2⟩:=jQ q hv;rw[h1];exact cQ h2
  |_=>exact ag.no
 |trg=>
  cases d with
  |int j=>
   obtain rfl:=aa.mp a;unfold fq vT;simp only;by_cases hc:-(aF:Int)<=j/\j<=aF
   .rw[J7 hc,J7 hc];exact cQ (ah.mpr ⟨_,rfl,kz 1 _ 0⟩)
   .rw[J8 hc,J8 hc];exact ag.no
  |_=>exact ag.no
 |lix=>
  cases d with
  |lst ds=>
   obtain⟨l,xs,rfl,_,hm,q⟩:=aw.mp a;have e3:zn m l=some xs:=by unfold zn;rw[hm]
   unfold fq vT;simp only[e3,QQ];cases hr:dz (λd=>ee d e) ds with
   |none=>exact ag.no
   |some bs=>
    rw[sg b q hr];simp only[QQ];cases gi true bs 0 with
    |none=>exact ag.no
    |some i=>exact ag.int
  |_=>exact ag.no
 |lct=>
  cases e with
  |int j=>
   obtain rfl:=aa.mp b;unfold fq vT;simp only;cases hr:lp d with
   |none=>exact ag.no
   |some ks=>
    rw[DV a hr];exact ag.int
  |_=>exact ag.no
def DU (a:ai R m d x)(h:ln k d=true):fL k x m=true:=by
 cases k with
 |trg=>rfl
 |lix=>
  cases d with
  |lst ds=>obtain⟨l,xs,rfl,_,hm,q⟩:=aw.mp a;unfold fL zQ aK;simp only[hm]
  |_=>cases h
 |lct=>
  cases d with
  |lst ds=>obtain⟨l,xs,rfl,_,hm,q⟩:=aw.mp a;unfold fL zQ aK;simp only[hm]
  |_=>cases h
 |get=>
  cases d with
  |dct ks ds=>
   obtain⟨l,xs,rfl,_,hm,q⟩:=aS.mp a;show(match m[l]? with|some (.dct _ _)=>true|_=>false)=true;rw[hm]
  |_=>cases h
def BO (a:ai R m d x)(b:ai R m e y)(c:ai R m f z):ag R m (fi x y z m) (hZ d e f):=by
 cases d with
 |int i=>
  cases e with
  |int j=>
   cases f with
   |int k=>
    rw[aa.mp a,aa.mp b,aa.mp c];simp only[fi,hZ];split
    .exact cQ (ah.mpr ⟨_,rfl,kz k _ i⟩)
    .exact ag.no
   |_=>exact ag.no
  |_=>exact ag.no
 |_=>exact ag.no
theorem xK {R:Nat->Prop}(hc:∀(R':Nat->Prop) m d x,(∀l,R l->R' l)->Le m0 m->ai R' m d x->ag R' m (c x m) (cd d))(he:∀(R':Nat->Prop) m d x,(∀l,R l->R' l)->Le m0 m->ai R' m d x->ag R' m (e x m) (ed d)):
  ∀(ds:List Dat) (xs:List Wd) (acc:List Dat) (acx:List Wd) (R':Nat->Prop) (m:Me),(∀l,R l->R' l)->Le m0 m->ae R' m ds xs->ae R' m acc acx->ag R' m (yE c e xs acx m) (zY cd ed ds acc)
 |[],xs,acc,acx,R',m,hR,hm,a,b=>by
  rw[a.nil_inv];unfold yE zY;exact ag.new b
 |d::ds,xs,acc,acx,R',m,hR,hm,a,b=>by
  obtain⟨x,r,rfl,p,q⟩:=a.cons_inv;unfold yE zY;refine(hc R' m d x hR hm p).bind λt w m1 l1 k1=>?_;cases t with
  |bl t=>
   rw[aj.mp k1];cases t with
   |true=>
    refine(he _ m1 d x (λl z=>.inl (hR l z)) (hm.trans l1) (p.up _ l1)).bind λt w m2 l2 k2=>?_;simp only[b.len];by_cases z:acx.length<aF
    .rw[J7 z,J7 z];exact xK hc he ds r _ _ _ m2 (λl z=>.inl (.inl (hR l z))) ((hm.trans l1).trans l2) ((q.up _ l1).up _ l2) (((b.up _ l1).up _ l2).app (.cons k2 .nil))
    .rw[J8 z,J8 z];exact ag.no
   |false=>exact xK hc he ds r _ _ _ m1 (λl z=>.inl (hR l z)) (hm.trans l1) (q.up _ l1) (b.up _ l1)
  |_=>exact ag.no
theorem wZ {R:Nat->Prop}(hl:m0[l]?=some (.lst xs0))(hc:∀(R':Nat->Prop) m d x,(∀l,R l->R' l)->Le m0 m->ai R' m d x->ag R' m (c x m) (cd d))(he:∀(R':Nat->Prop) m d x,(∀l,R l->R' l)->Le m0 m->ai R' m d x->ag R' m (e x m) (ed d)):
  ∀(ds:List Dat) (i k:Nat) (acc:List Dat) (acx:List Wd) (R':Nat->Prop) (m:Me),(∀l,R l->R' l)->Le m0 m->ae R' m ds (xs0.drop i)->i+ds.length=xs0.length->ds.length<k->ae R' m acc acx->ag R' m (yF c e l k i acx m) (zY cd ed ds acc)
 |[],i,0,acc,acx,R',m,hR,hm,a,hi,hk,b=>by simp at hk
 |d::ds,i,0,acc,acx,R',m,hR,hm,a,hi,hk,b=>by simp at hk
 |[],i,k+1,acc,acx,R',m,hR,hm,a,hi,hk,b=>by
  unfold yF zY zn;rw[hm l _ hl];simp only;rw[Qz (by simp at hi;lia)];exact ag.new b
 |d::ds,i,k+1,acc,acx,R',m,hR,hm,a,hi,hk,b=>by
  obtain⟨x,r,e0,p,q⟩:=a.cons_inv;have hx:xs0[i]?=some x:=by
   have:(xs0.drop i)[0]?=some x:=by rw[e0];rfl
   simpa using this
  have hr:r=xs0.drop (i+1):=by
   have:(xs0.drop i).drop 1=r:=by rw[e0];rfl
   rw[<-this,Wc]
  rw[hr]at q;have hi':i+1+ds.length=xs0.length:=by simp at hi;lia
  have hk':ds.length<k:=by simp at hk;lia
  unfold yF zY zn;rw[hm l _ hl];simp only;rw[hx];simp only;refine(hc R' m d x hR hm p).bind λt w m1 l1 k1=>?_;cases t with
  |bl t=>
   rw[aj.mp k1];cases t with
   |true=>
    refine(he _ m1 d x (λl z=>.inl (hR l z)) (hm.trans l1) (p.up _ l1)).bind λt w m2 l2 k2=>?_;simp only[b.len];by_cases z:acx.length<aF
    .rw[J7 z,J7 z];exact wZ hl hc he ds (i+1) k _ _ _ m2 (λl z=>.inl (.inl (hR l z))) ((hm.trans l1).trans l2) ((q.up _ l1).up _ l2) hi' hk' (((b.up _ l1).up _ l2).app (.cons k2 .nil))
    .rw[J8 z,J8 z];exact ag.no
   |false=>exact wZ hl hc he ds (i+1) k _ _ _ m1 (λl z=>.inl (hR l z)) (hm.trans l1) (q.up _ l1) hi' hk' (b.up _ l1)
  |_=>exact ag.no
noncomputable def li(R:Nat->Prop)(m0:Me)(ps:List (Dat×Dat))(g:Nat->Me->Option (Option (Wd×Wd))):Prop:=
 ∀m,Le m0 m->(∀i p,ps[i]?=some p->∃a b,g i m=some (some (a,b))/\ai R m p.1 a/\ai R m p.2 b)/\∀i,ps.length<=i->g i m=some none
theorem jR{α β:Type}:∀{xs:List α}{ys:List β}{i:Nat}{p:α×β},(xs.zip ys)[i]?=some p->xs[i]?=some p.1/\ys[i]?=some p.2
 |[],_,i,p,h=>by simp at h
 |_::_,[],i,p,h=>by simp at h
 |x::xs,y::ys,0,p,h=>by simp at h;subst h;exact⟨rfl,rfl⟩
 |x::xs,y::ys,i+1,p,h=>by
  have h':(xs.zip ys)[i]?=some p:=by simpa using h
  simpa using jR h'
set_option tactic.hygienic true in
theorem jS:∀{xs:List Dat}{ps:List (Dat×Dat)},fG xs=some ps->ps.length=xs.length/\∀(i:Nat) p,ps[i]?=some p->xs[i]?=some (.tup [p.1,p.2])
 |[],ps,h=>by cases h;exact⟨rfl,λi p q=>by simp at q⟩
 |d::xs,ps,h=>by
  unfold fG at h;split at h
  .next h0=>cases h0
  .next x y r h0=>
   cases h0;obtain⟨qs,e,rfl⟩:=QH.mp h;obtain⟨a,b⟩:=jS e;refine⟨by simp[a],λi p q=>?_⟩;cases i with
   |zero=>cases q;rfl
   |succ i=>exact b i p q
  .cases h
def pY (hx:ai R m0 x a)(h:fP x=some ds):∃xs,(∀m,Le m0 m->xZ m a=some xs)/\ae R m0 ds xs:=by
 cases x with
 |tup es=>
  cases h;obtain⟨xs,rfl,q⟩:=ah.mp hx;exact⟨xs,λm h=>rfl,q⟩
 |lst es=>
  cases h;obtain⟨l,xs,rfl,_,e1,q⟩:=aw.mp hx;exact⟨xs,λm h=>by show zn m l=_;unfold zn;rw[h _ _ e1],q⟩
 |_=>cases h
set_option tactic.hygienic true in
def xL (e:xw k x y=some ps)(hx:ai R m0 x a)(hy:ai R m0 y b):li R m0 ps (zp k a b)/\ps.length<=aF:=by
 unfold xw at e;split at e
 .cases f1:fP x with
  |none=>rw[f1]at e;cases e
  |some ds1=>
   cases f2:fP y with
   |none=>rw[f1,f2]at e;cases e
   |some ds2=>
    rw[f1,f2]at e;obtain⟨xs,e1,k1⟩:=pY hx f1;obtain⟨ys,e2,k2⟩:=pY hy f2;dsimp only at e;split at e
    .next z=>
     cases e;refine⟨λm h=>⟨λi p q=>?_,λi q=>?_⟩,by simp;lia⟩
     .obtain ⟨z1,z2⟩:=jR q;obtain⟨a,a1,a2⟩:=k1.get z1;obtain⟨b,b1,b2⟩:=k2.get z2;refine⟨a,b,?_,ai.frame (λl o r z=>⟨r,h l o z⟩) _ _ a2,ai.frame (λl o r z=>⟨r,h l o z⟩) _ _ b2⟩;simp only[zp,e1 m h,e2 m h,a1,b1]
     .simp only[zp,e1 m h,e2 m h];have l1:=k1.len;have l2:=k2.len;simp only[List.length_zip]at q;rcases Nat.le_total xs.length ys.length with z3|z3
      .rw[Qz (by lia)]
      .rw[Qz (l:=ys) (by lia)];cases xs[i]?<;>rfl
    .cases e
 .rename_i xs0 st;obtain⟨l,xs,rfl,_,e1,k1⟩:=aw.mp hx;rw[aa.mp hy];split at e
  .next z=>
   cases e;have l1:=k1.len;refine⟨λm h=>⟨λi p q=>?_,λi q=>?_⟩,by simp[xb];lia⟩
   .obtain ⟨z1,z2⟩:=jR q;obtain⟨a,a1,a2⟩:=k1.get z2;have hp:p.1=.int (st+(i:Int)):=by
     simp only[xb,QD]at z1;cases hr:(Q2 xs0.length)[i]? with
     |none=>rw[hr]at z1;cases z1
     |some j=>
      rw[hr]at z1;have:=Qb.mp hr;obtain⟨_,hj⟩:=this;simp only[List.getElem_range]at hj;subst hj;simp only[QM,Option.some.injEq,Int.one_mul]at z1;exact z1.symm
    refine⟨.int (st+(i:Int)),a,?_,by rw[hp];exact aa.mpr rfl,ai.frame (λl o r z=>⟨r,h l o z⟩) _ _ a2⟩;simp only[zp,zn];rw[h _ _ e1];simp only[a1,QM]
   .simp only[zp,zn];rw[h _ _ e1];simp only[xb,List.length_zip,QF,List.length_range]at q;simp only;rw[Qz (by lia)];rfl
  .cases e
 .rename_i xs0 st;obtain⟨l,xs,rfl,_,e1,k1⟩:=aw.mp hx;rw[aa.mp hy];split at e
  .next z=>
   have l1:=k1.len;obtain⟨g1,g2⟩:=jS e;refine⟨λm h=>⟨λi p q=>?_,λi q=>?_⟩,by lia⟩
   .obtain ⟨a,a1,a2⟩:=k1.get (g2 i p q);obtain⟨us,rfl,r2⟩:=ah.mp a2;obtain⟨x,r,rfl,ra,rb⟩:=r2.cons_inv;obtain⟨y,r',rfl,rc,rd⟩:=rb.cons_inv;obtain rfl:=rd.nil_inv;refine⟨x,y,?_,ai.frame (λl o r z=>⟨r,h l o z⟩) _ _ ra,ai.frame (λl o r z=>⟨r,h l o z⟩) _ _ rc⟩;simp only[zp,zn];rw[h _ _ e1];simp only[a1];rfl
   .simp only[zp,zn];rw[h _ _ e1];simp only;rw[Qz (by lia)]
  .cases e
 .rename_i xs0 st;obtain⟨xs,rfl,k1⟩:=ah.mp hx;rw[aa.mp hy];split at e
  .next z=>
   have l1:=k1.len;obtain⟨g1,g2⟩:=jS e;refine⟨λm h=>⟨λi p q=>?_,λi q=>?_⟩,by lia⟩
   .obtain ⟨a,a1,a2⟩:=k1.get (g2 i p q);obtain⟨us,rfl,r2⟩:=ah.mp a2;obtain⟨x,r,rfl,ra,rb⟩:=r2.cons_inv;obtain⟨y,r',rfl,rc,rd⟩:=rb.cons_inv;obtain rfl:=rd.nil_inv;refine⟨x,y,?_,ai.frame (λl o r z=>⟨r,h l o z⟩) _ _ ra,ai.frame (λl o r z=>⟨r,h l o z⟩) _ _ rc⟩;simp only[zp,a1];rfl
   .simp only[zp];rw[Qz (by lia)]
  .cases e
 .cases e
theorem w9 (hg:li R m0 ps g)(hc:∀(R':Nat->Prop) m p a b,(∀l,R l->R' l)->Le m0 m->ai R' m p.1 a->ai R' m p.2 b->ag R' m (c a b m) (cd p))(he:∀(R':Nat->Prop) m p a b,(∀l,R l->R' l)->Le m0 m->ai R' m p.1 a->ai R' m p.2 b->ag R' m (e a b m) (ed p)):
  ∀(ds:List (Dat×Dat)) (i k:Nat) (acc:List Dat) (acx:List Wd) (R':Nat->Prop) (m:Me),(∀l,R l->R' l)->Le m0 m->ds=ps.drop i->i+ds.length=ps.length->ds.length<k->ae R' m acc acx->ag R' m (zL c e g k i acx m) (zY cd ed ds acc)
 |[],i,0,acc,acx,R',m,hR,hm,a,hi,hk,b=>by simp at hk
 |d::ds,i,0,acc,acx,R',m,hR,hm,a,hi,hk,b=>by simp at hk
 |[],i,k+1,acc,acx,R',m,hR,hm,a,hi,hk,b=>by
  unfold zL zY;rw[(hg m hm).2 i (by simp at hi;lia)];exact ag.new b
 |d::ds,i,k+1,acc,acx,R',m,hR,hm,a,hi,hk,b=>by
  have hx:ps[i]?=some d:=by
   have:(ps.drop i)[0]?=some d:=by rw[<-a];rfl
   simpa using this
  have hr:ds=ps.drop (i+1):=by
   have:(ps.drop i).drop 1=ds:=by rw[<-a];rfl
   rw[<-this,Wc]
  have hi':i+1+ds.length=ps.length:=by simp at hi;lia
  have hk':ds.length<k:=by simp at hk;lia
  obtain⟨u,v,e0,p,q⟩:=(hg m hm).1 i d hx;have up:∀{d:Dat}{w:Wd},ai R m d w->ai R' m d w:=λz=>ai.frame (λl o r z=>⟨hR l r,z⟩) _ _ z;unfold zL zY;rw[e0];simp only;refine(hc R' m d u v hR hm (up p) (up q)).bind λt w m1 l1 k1=>?_;cases t with
  |bl t=>
   rw[aj.mp k1];cases t with
   |true=>
    refine(he _ m1 d u v (λl z=>.inl (hR l z)) (hm.trans l1) ((up p).up _ l1) ((up q).up _ l1)).bind λt w m2 l2 k2=>?_;simp only[b.len];by_cases z:acx.length<aF
    .rw[J7 z,J7 z];exact w9 hg hc he ds (i+1) k _ _ _ m2 (λl z=>.inl (.inl (hR l z))) ((hm.trans l1).trans l2) hr hi' hk' (((b.up _ l1).up _ l2).app (.cons k2 .nil))
    .rw[J8 z,J8 z];exact ag.no
   |false=>exact w9 hg hc he ds (i+1) k _ _ _ m1 (λl z=>.inl (hR l z)) (hm.trans l1) hr hi' hk' (b.up _ l1)
  |_=>exact ag.no
noncomputable def zj:Ex->List Nat
 |.var i=>[i]
 |.lit _=>[]
 |.bin _ a b=>zj a++zj b
 |.neg a=>zj a
 |.not a=>zj a
 |.and a b=>zj a++zj b
 |.or a b=>zj a++zj b
 |.cmp _ a b=>zj a++zj b
 |.chain _ _ a b c=>zj a++(zj b++zj c)
 |.ife c a b=>zj c++(zj a++zj b)
 |.unit=>[]
 |.pair a b=>zj a++zj b
 |.call _ a=>zj a
 |.blt _ a=>zj a
 |.isi _ a=>zj a
 |.lst a=>zj a
 |.tup a=>zj a
 |.dict0=>[]
 |.dget a b=>zj a++zj b
 |.dop _ a b c=>zj a++(zj b++zj c)
 |.idx a b=>zj a++zj b
 |.slL a b=>zj a++zj b
 |.meth _ a b=>zj a++zj b
 |.rng a b c=>zj a++(zj b++zj c)
 |.comp e i c=>zj i++(zj e++zj c)
 |.compP _ e a b c=>zj a++(zj b++(zj e++zj c))
@[simp]theorem Hj(i:Nat):zj (.var i)=[i]:=rfl
@[simp]theorem Hi(w:Wd):zj (.lit w)=[]:=rfl
@[simp]theorem Hh(a b:Ex):zj (.idx a b)=zj a++zj b:=rfl
@[simp]theorem Hg(a:Ex):zj (.tup a)=zj a:=rfl
@[simp]theorem HD(a b:Ex):zj (.pair a b)=zj a++zj b:=rfl
@[simp]theorem HC  : zj (.unit)=[]:=rfl
@[simp]theorem Hf(op:Bo)(a b:Ex):zj (.bin op a b)=zj a++zj b:=rfl
@[simp]theorem HB(k:Nat)(a:Ex):zj (.call k a)=zj a:=rfl
@[simp]theorem He(a:Ex):zj (.neg a)=zj a:=rfl
@[simp]theorem Hd(a:Ex):zj (.lst a)=zj a:=rfl
noncomputable def bM(R:Nat->Prop)(m:Me)(vs:List Nat)(de:aO)(env:En):Prop:=
 de.length=env.length/\∀i∈vs,∀d,de[i]?=some (some d)->∃w,env[i]?=some (some w)/\ai R m d w
def bM.up{R R':Nat->Prop}{m m':Me}{vs:List Nat}{de:aO}{env:En}(hR:∀l,R l->R' l)(h:Le m m')(q:bM R m vs de env):bM R' m' vs de env:=
 ⟨q.1,λi hi d z=>by
  obtain⟨w,a,b⟩:=q.2 i hi d z;exact⟨w,a,ai.frame (λl o r k=>⟨hR l r,h l o k⟩) d w b⟩⟩
def bM.sub{R:Nat->Prop}{m:Me}{vs us:List Nat}{de:aO}{env:En}(h:∀i∈us,i∈vs)(q:bM R m vs de env):bM R m us de env:=
 ⟨q.1,λi hi=>q.2 i (h i hi)⟩
def bM.left{R:Nat->Prop}{m:Me}{us vs:List Nat}{de:aO}{env:En}(q:bM R m (us++vs) de env):bM R m us de env:=q.sub λ_ h=>QL _ h
def bM.right{R:Nat->Prop}{m:Me}{us vs:List Nat}{de:aO}{env:En}(q:bM R m (us++vs) de env):bM R m vs de env:=q.sub λ_ h=>Qn _ h
set_option tactic.hygienic true in
def bM.push{R:Nat->Prop}{m:Me}{vs:List Nat}{de:aO}{env:En}{d:Dat}{w:Wd}(q:bM R m vs de env)(h:ai R m d w):bM R m vs (de++[some d]) (env++[some w]):=by
 refine⟨by simp[q.1],λi hi e z=>?_⟩;rw[List.getElem?_append]at z;split at z
 .next k=>
  obtain⟨w,a,b⟩:=q.2 i hi e z;exact⟨w,by rw[Qh (by rw[<-q.1];exact k)];exact a,b⟩
 .next k=>
  rw[Qi (by rw[<-q.1];lia),<-q.1];have:i-de.length=0:=by
   rcases Nat.eq_zero_or_pos (i-de.length)with z0|z0
   .exact z0
   .rw[Qz (by simp;lia)]at z;cases z
  rw[this]at z ⊢;cases z;exact⟨w,rfl,h⟩
noncomputable def bv(cl:Nat->List Wd->Me->Rz)(cd:Nat->List Dat->Rd):Prop:=∀(k:Nat) (ds:List Dat) (ws:List Wd) (R:Nat->Prop) (m:Me),ae R m ds ws->ag R m (cl k ws m) (cd k ds)
def yf (h:ai R m d w):ae R m (zA d) (zh w):=by
 cases d with
 |tup ds=>obtain⟨xs,rfl,q⟩:=ah.mp h;exact q
 |non=>rw[am.mp h];exact .nil
 |bl _=>rw[aj.mp h];exact .nil
 |int _=>rw[aa.mp h];exact .nil
 |str _=>rw[az.mp h];exact .nil
 |scr _=>rw[aV.mp h];exact .nil
 |lst _=>obtain⟨l,xs,rfl,_⟩:=aw.mp h;exact .nil
 |dct _ _=>obtain⟨l,xs,rfl,_⟩:=aS.mp h;exact .nil
theorem za (H:bv cl cd):∀(e:Ex) (R:Nat->Prop) (m:Me) (de:aO) (env:En),bM R m (zj e) de env->ag R m (af cl e env m) (ax cd e de)
 |.var i,R,m,de,env,q=>by
  cases z:de[i]? with
  |none=>rw[yA (.inl z)];exact ag.no
  |some o=>
   cases o with
   |none=>rw[yA (.inr z)];exact ag.no
   |some d=>
    obtain⟨w,a,b⟩:=q.2 i (QK.mpr rfl) d z;rw[xx z,wG a];exact cQ b
 |.lit w,R,m,de,env,q=>by
  cases w<;>first|exact ag.no|(exact cQ (by unfold ai;rfl))
 |.bin op a b,R,m,de,env,q=>by
  refine(za H a R m de env q.left).bind λd w m1 l1 k1=>?_;refine(za H b _ m1 de env (q.right.up (λ_=>.inl) l1)).bind λd2 w2 m2 l2 k2=>?_;exact jM op (k1.up _ l2) k2
 |.neg a,R,m,de,env,q=>by
  refine(za H a R m de env q).bind λd w m1 l1 k1=>?_;cases d with
  |int i=>rw[aa.mp k1];exact ag.int
  |_=>exact ag.no
 |.not a,R,m,de,env,q=>by
  refine(za H a R m de env q).bind λd w m1 l1 k1=>?_;cases d with
  |bl i=>rw[aj.mp k1];exact ag.bl
  |_=>exact ag.no
 |.and a b,R,m,de,env,q=>by
  refine(za H a R m de env q.left).bind λd w m1 l1 k1=>?_;cases d with
  |bl i=>
   rw[aj.mp k1];cases i with
   |true=>exact za H b _ m1 de env (q.right.up (λ_=>.inl) l1)
   |false=>exact ag.bl
  |_=>exact ag.no
 |.or a b,R,m,de,env,q=>by
  refine(za H a R m de env q.left).bind λd w m1 l1 k1=>?_;cases d with
  |bl i=>
   rw[aj.mp k1];cases i with
   |false=>exact za H b _ m1 de env (q.right.up (λ_=>.inl) l1)
   |true=>exact ag.bl
  |_=>exact ag.no
 |.cmp op a b,R,m,de,env,q=>by
  refine(za H a R m de env q.left).bind λd w m1 l1 k1=>?_;refine(za H b _ m1 de env (q.right.up (λ_=>.inl) l1)).bind λd2 w2 m2 l2 k2=>?_;exact jP op (k1.up _ l2) k2
 |.chain o p a b c,R,m,de,env,q=>by
  refine(za H a R m de env q.left).bind λd w m1 l1 k1=>?_;refine(za H b _ m1 de env (q.right.left.up (λ_=>.inl) l1)).bind λd2 w2 m2 l2 k2=>?_;refine(jP o (k1.up _ l2) k2).bind λd3 w3 m3 l3 k3=>?_;cases d3 with
  |bl i=>
   rw[aj.mp k3];cases i with
   |false=>exact ag.bl
   |true=>
    refine(za H c _ m3 de env (q.right.right.up (λ_ h=>.inl (.inl (.inl h))) ((l1.trans l2).trans l3))).bind λd4 w4 m4 l4 k4=>?_;exact jP p ((k2.up _ l3).up _ l4) k4
  |_=>exact ag.no
 |.ife c a b,R,m,de,env,q=>by
  refine(za H c R m de env q.left).bind λd w m1 l1 k1=>?_;cases d with
  |bl i=>
   rw[aj.mp k1];cases i with
   |true=>exact za H a _ m1 de env (q.right.left.up (λ_=>.inl) l1)
   |false=>exact za H b _ m1 de env (q.right.right.up (λ_=>.inl) l1)
  |_=>exact ag.no
 |.unit,R,m,de,env,q=>by
  exact cQ (ah.mpr ⟨[],rfl,.nil⟩)
 |.pair a b,R,m,de,env,q=>by
  refine(za H a R m de env q.left).bind λd w m1 l1 k1=>?_;refine(za H b _ m1 de env (q.right.up (λ_=>.inl) l1)).bind λd2 w2 m2 l2 k2=>?_;exact cQ (ah.mpr ⟨_,rfl,.cons (k1.up _ l2) (yf k2)⟩)
 |.call k a,R,m,de,env,q=>by
  refine(za H a R m de env q).bind λd w m1 l1 k1=>?_;exact H k _ _ _ m1 (yf k1)
 |.blt b a,R,m,de,env,q=>by
  refine(za H a R m de env q).bind λd w m1 l1 k1=>?_;exact BR b (yf k1)
 |.isi t a,R,m,de,env,q=>by
  refine(za H a R m de env q).bind λd w m1 l1 k1=>?_;exact BS t k1
 |.lst a,R,m,de,env,q=>by
  refine(za H a R m de env q).bind λd w m1 l1 k1=>?_;exact ag.new (yf k1)
 |.tup a,R,m,de,env,q=>by
  refine(za H a R m de env q).bind λd w m1 l1 k1=>?_;have k2:=yf k1;simp only[k2.len];split
  .exact cQ (ah.mpr ⟨_,rfl,k2⟩)
  .exact ag.no
 |.dict0,R,m,de,env,q=>by
  exact⟨_,_,rfl,Le.app m _,aS.mpr ⟨_,[],rfl,.inr (Qf _),by simp,.nil⟩⟩
 |.dget a b,R,m,de,env,q=>by
  refine(za H a R m de env q.left).bind λd w m1 l1 k1=>?_;refine(za H b _ m1 de env (q.right.up (λ_=>.inl) l1)).bind λd2 w2 m2 l2 k2=>?_;exact gT (k1.up _ l2) k2
 |.dop k a b c,R,m,de,env,q=>by
  refine(za H a R m de env q.left).bind λd w m1 l1 k1=>?_;cases hb:ln k d with
  |false=>exact ag.no
  |true=>
   rw[DU k1 hb];refine(za H b _ m1 de env (q.right.left.up (λ_=>.inl) l1)).bind λd2 w2 m2 l2 k2=>?_;refine(za H c _ m2 de env ((q.right.right.up (λ_=>.inl) l1).up (λ_=>.inl) l2)).bind λd3 w3 m3 l3 k3=>?_;exact BP k ((k1.up _ l2).up _ l3) (k2.up _ l3) k3
 |.idx a b,R,m,de,env,q=>by
  refine(za H a R m de env q.left).bind λd w m1 l1 k1=>?_;refine(za H b _ m1 de env (q.right.up (λ_=>.inl) l1)).bind λd2 w2 m2 l2 k2=>?_;exact BQ (k1.up _ l2) k2
 |.slL a b,R,m,de,env,q=>by
  refine(za H a R m de env q.left).bind λd w m1 l1 k1=>?_;refine(za H b _ m1 de env (q.right.up (λ_=>.inl) l1)).bind λd2 w2 m2 l2 k2=>?_;cases d2 with
  |int i=>rw[aa.mp k2];exact Ab _ _ (k1.up _ l2)
  |_=>exact ag.no
 |.meth _ _ _,R,m,de,env,q=>by
  exact ag.no
 |.rng a b c,R,m,de,env,q=>by
  refine(za H a R m de env q.left).bind λd w m1 l1 k1=>?_;refine(za H b _ m1 de env (q.right.left.up (λ_=>.inl) l1)).bind λd2 w2 m2 l2 k2=>?_;refine(za H c _ m2 de env (q.right.right.up (λ_ h=>.inl (.inl h)) (l1.trans l2))).bind λd3 w3 m3 l3 k3=>?_;exact BO ((k1.up _ l2).up _ l3) (k2.up _ l3) k3
 |.comp elt it cond,R,m,de,env,q=>by
  refine(za H it R m de env q.left).bind λd w m1 l1 k1=>?_;have hc:∀(R':Nat->Prop) m' d x,(∀l,Rf R m.length l->R' l)->Le m1 m'->ai R' m' d x->ag R' m' (af cl cond (env++[some x]) m') (ax cd cond (de++[some d])):=
   λR' m' d x hR l k=>za H cond R' m' _ _ ((q.right.right.up (λl h=>hR l (.inl h)) (l1.trans l)).push k)
  have he:∀(R':Nat->Prop) m' d x,(∀l,Rf R m.length l->R' l)->Le m1 m'->ai R' m' d x->ag R' m' (af cl elt (env++[some x]) m') (ax cd elt (de++[some d])):=
   λR' m' d x hR l k=>za H elt R' m' _ _ ((q.right.left.up (λl h=>hR l (.inl h)) (l1.trans l)).push k)
  cases d with
  |tup ds=>
   obtain⟨xs,rfl,k2⟩:=ah.mp k1;exact xK hc he ds xs [] [] _ m1 (λ_ h=>h) (Le.refl _) k2 .nil
  |scr ns=>
   rw[aV.mp k1];exact xK hc he (ns.map .int) (ns.map .int) [] [] _ m1 (λ_ h=>h) (Le.refl _) (eB ns) .nil
  |lst ds=>
   obtain⟨l,xs,rfl,_,hm,k2⟩:=aw.mp k1;simp only[c9];by_cases z:ds.length<=aF
   .rw[J7 z];have hl:=k2.len;exact wZ hm hc he ds 0 (aF+1) [] [] _ m1 (λ_ h=>h) (Le.refl _) (by simpa using k2) (by lia) (by lia) .nil
   .rw[J8 z];exact ag.no
  |_=>exact ag.no
 |.compP k elt a b cond,R,m,de,env,q=>by
  refine(za H a R m de env q.left).bind λd w m1 l1 k1=>?_;refine(za H b _ m1 de env (q.right.left.up (λl h=>.inl h) l1)).bind λd' w' m2 l2 k2=>?_;have hc:∀(R':Nat->Prop) m' (p:Dat×Dat) x y,(∀l,Rf (Rf R m.length) m1.length l->R' l)->Le m2 m'->ai R' m' p.1 x->ai R' m' p.2 y->ag R' m' (af cl cond (env++[some x]++[some y]) m') (ax cd cond (de++[some p.1]++[some p.2])):=
   λR' m' d x y hR l k k'=>za H cond R' m' _ _ (((q.right.right.right.up (λl h=>hR l (.inl (.inl h))) ((l1.trans l2).trans l)).push k).push k')
  have he:∀(R':Nat->Prop) m' (p:Dat×Dat) x y,(∀l,Rf (Rf R m.length) m1.length l->R' l)->Le m2 m'->ai R' m' p.1 x->ai R' m' p.2 y->ag R' m' (af cl elt (env++[some x]++[some y]) m') (ax cd elt (de++[some p.1]++[some p.2])):=
   λR' m' d x y hR l k k'=>za H elt R' m' _ _ (((q.right.right.left.up (λl h=>hR l (.inl (.inl h))) ((l1.trans l2).trans l)).push k).push k')
  cases e:xw k d d' with
  |none=>exact ag.no
  |some ps=>
   obtain⟨pr,hl⟩:=xL e (k1.up _ l2) k2;exact w9 pr hc he ps 0 (aF+1) [] [] _ m2 (λ_ h=>h) (Le.refl _) (by simp) (by simp) (by lia) .nil
mutual
noncomputable def aX(m:Me):Dat->Wd->List Nat->Prop
 |.non,w,A=>w=.non/\A=[]
 |.bl b,w,A=>w=.bl b/\A=[]
 |.int i,w,A=>w=.int i/\A=[]
 |.str s,w,A=>w=.str s/\A=[]
 |.scr ns,w,A=>w=.rol (ns.map Wd.int)/\A=[]
 |.tup ds,w,A=>∃xs,w=.tup xs/\au m ds xs A
 |.lst ds,w,A=>∃l xs B,w=.ref l/\A=l::B/\m[l]?=some (.lst xs)/\au m ds xs B
 |.dct ks ds,w,A=>∃l xs B,w=.ref l/\A=l::B/\m[l]?=some (.dct ks xs)/\au m ds xs B
noncomputable def au(m:Me):List Dat->List Wd->List Nat->Prop
 |[],xs,A=>xs=[]/\A=[]
 |d::ds,xs,A=>∃x r B C,xs=x::r/\A=B++C/\aX m d x B/\au m ds r C
end
def bc:aX m (.lst ds) w A↔∃l xs B,w=.ref l/\A=l::B/\m[l]?=some (.lst xs)/\au m ds xs B:=by
 constructor
 .intro h;unfold aX at h;exact h
 .intro h;unfold aX;exact h
def bH:aX m (.dct ks ds) w A↔∃l xs B,w=.ref l/\A=l::B/\m[l]?=some (.dct ks xs)/\au m ds xs B:=by
 constructor
 .intro h;unfold aX at h;exact h
 .intro h;unfold aX;exact h
def bq:aX m (.tup ds) w A↔∃xs,w=.tup xs/\au m ds xs A:=by
 constructor
 .intro h;unfold aX at h;exact h
 .intro h;unfold aX;exact h
def au.cons_inv (h:au m (d::ds) xs A):∃x r B C,xs=x::r/\A=B++C/\aX m d x B/\au m ds r C:=by unfold au at h;exact h
def au.nil_inv (h:au m [] xs A):xs=[]/\A=[]:=by unfold au at h;exact h
def au.nil{m:Me}:au m [] [] []:=by unfold au;exact⟨rfl,rfl⟩
def au.cons{m:Me}{d:Dat}{ds:List Dat}{x:Wd}{xs:List Wd}{B C:List Nat}(a:aX m d x B)(b:au m ds xs C):au m (d::ds) (x::xs) (B++C):=by
 unfold au;exact⟨x,xs,B,C,rfl,rfl,a,b⟩
theorem au.app:∀{ds es:List Dat}{xs ys:List Wd}{A B:List Nat},au m ds xs A->au m es ys B->au m (ds++es) (xs++ys) (A++B)
 |[],es,xs,ys,A,B,a,b=>by rw[a.nil_inv.1,a.nil_inv.2];exact b
 |d::ds,es,xs,ys,A,B,a,b=>by
  obtain⟨x,r,P,Q,rfl,rfl,p,q⟩:=a.cons_inv;rw[Wy];exact .cons p (au.app q b)
mutual
theorem aX.frame{m m':Me}:∀(d:Dat) (w:Wd) (A:List Nat),(∀l∈A,∀o,m[l]?=some o->m'[l]?=some o)->aX m d w A->aX m' d w A
 |.non,w,A,h,q=>by unfold aX at q ⊢;exact q
 |.bl _,w,A,h,q=>by unfold aX at q ⊢;exact q
 |.int _,w,A,h,q=>by unfold aX at q ⊢;exact q
 |.str _,w,A,h,q=>by unfold aX at q ⊢;exact q
 |.scr _,w,A,h,q=>by unfold aX at q ⊢;exact q
 |.tup ds,w,A,h,q=>by
  obtain⟨xs,rfl,q1⟩:=bq.mp q;exact bq.mpr ⟨xs,rfl,au.frame ds xs A h q1⟩
 |.lst ds,w,A,h,q=>by
  obtain⟨l,xs,B,rfl,rfl,hm,q1⟩:=bc.mp q;exact bc.mpr ⟨l,xs,B,rfl,rfl,h l QA _ hm,au.frame ds xs B (λl hl=>h l (Qd _ hl)) q1⟩
 |.dct ks ds,w,A,h,q=>by
  obtain⟨l,xs,B,rfl,rfl,hm,q1⟩:=bH.mp q;exact bH.mpr ⟨l,xs,B,rfl,rfl,h l QA _ hm,au.frame ds xs B (λl hl=>h l (Qd _ hl)) q1⟩
theorem au.frame{m m':Me}:∀(ds:List Dat) (xs:List Wd) (A:List Nat),(∀l∈A,∀o,m[l]?=some o->m'[l]?=some o)->au m ds xs A->au m' ds xs A
 |[],xs,A,h,q=>by rw[q.nil_inv.1,q.nil_inv.2];exact .nil
 |d::ds,xs,A,h,q=>by
  obtain⟨x,r,B,C,rfl,rfl,a,b⟩:=q.cons_inv;exact .cons (aX.frame d x B (λl hl=>h l (QL _ hl)) a) (au.frame ds r C (λl hl=>h l (Qn _ hl)) b)
end
mutual
theorem aX.rep{m:Me}{R:Nat->Prop}:∀(d:Dat) (w:Wd) (A:List Nat),(∀l∈A,R l)->aX m d w A->ai R m d w
 |.non,w,A,h,q=>by unfold aX at q;exact am.mpr q.1
 |.bl _,w,A,h,q=>by unfold aX at q;exact aj.mpr q.1
 |.int _,w,A,h,q=>by unfold aX at q;exact aa.mpr q.1
 |.str _,w,A,h,q=>by unfold aX at q;exact az.mpr q.1
 |.scr _,w,A,h,q=>by unfold aX at q;exact aV.mpr q.1
 |.tup ds,w,A,h,q=>by
  obtain⟨xs,rfl,q1⟩:=bq.mp q;exact ah.mpr ⟨xs,rfl,au.rep ds xs A h q1⟩
 |.lst ds,w,A,h,q=>by
  obtain⟨l,xs,B,rfl,rfl,hm,q1⟩:=bc.mp q;exact aw.mpr ⟨l,xs,rfl,h l QA,hm,au.rep ds xs B (λl hl=>h l (Qd _ hl)) q1⟩
 |.dct ks ds,w,A,h,q=>by
  obtain⟨l,xs,B,rfl,rfl,hm,q1⟩:=bH.mp q;exact aS.mpr ⟨l,xs,rfl,h l QA,hm,au.rep ds xs B (λl hl=>h l (Qd _ hl)) q1⟩
theorem au.rep{m:Me}{R:Nat->Prop}:∀(ds:List Dat) (xs:List Wd) (A:List Nat),(∀l∈A,R l)->au m ds xs A->ae R m ds xs
 |[],xs,A,h,q=>by rw[q.nil_inv.1];exact .nil
 |d::ds,xs,A,h,q=>by
  obtain⟨x,r,B,C,rfl,rfl,a,b⟩:=q.cons_inv;exact .cons (aX.rep d x B (λl hl=>h l (QL _ hl)) a) (au.rep ds r C (λl hl=>h l (Qn _ hl)) b)
end
mutual
theorem aX.lt{m:Me}:∀(d:Dat) (w:Wd) (A:List Nat),aX m d w A->∀l∈A,l<m.length
 |.non,w,A,q=>by unfold aX at q;rw[q.2];simp
 |.bl _,w,A,q=>by unfold aX at q;rw[q.2];simp
 |.int _,w,A,q=>by unfold aX at q;rw[q.2];simp
 |.str _,w,A,q=>by unfold aX at q;rw[q.2];simp
 |.scr _,w,A,q=>by unfold aX at q;rw[q.2];simp
 |.tup ds,w,A,q=>by
  obtain⟨xs,rfl,q1⟩:=bq.mp q;exact au.lt ds xs A q1
 |.lst ds,w,A,q=>by
  obtain⟨l,xs,B,rfl,rfl,hm,q1⟩:=bc.mp q;intro k hk;rcases Qj.mp hk with rfl|hk
  .exact (Qb.mp hm).1
  .exact au.lt ds xs B q1 k hk
 |.dct ks ds,w,A,q=>by
  obtain⟨l,xs,B,rfl,rfl,hm,q1⟩:=bH.mp q;intro k hk;rcases Qj.mp hk with rfl|hk
  .exact (Qb.mp hm).1
  .exact au.lt ds xs B q1 k hk
theorem au.lt{m:Me}:∀(ds:List Dat) (xs:List Wd) (A:List Nat),au m ds xs A->∀l∈A,l<m.length
 |[],xs,A,q=>by rw[q.nil_inv.2];simp
 |d::ds,xs,A,q=>by
  obtain⟨x,r,B,C,rfl,rfl,a,b⟩:=q.cons_inv;intro k hk;rcases QN.mp hk with hk|hk
  .exact aX.lt d x B a k hk
  .exact au.lt ds r C b k hk
end
mutual
theorem ai.flat{R:Nat->Prop}{m m':Me}:∀(d:Dat) (w:Wd),aB d=true->ai R m d w->aX m' d w []
 |.non,w,h,q=>by unfold aX;exact⟨am.mp q,rfl⟩
 |.bl _,w,h,q=>by unfold aX;exact⟨aj.mp q,rfl⟩
 |.int _,w,h,q=>by unfold aX;exact⟨aa.mp q,rfl⟩
 |.str _,w,h,q=>by unfold aX;exact⟨az.mp q,rfl⟩
 |.scr _,w,h,q=>by unfold aX;exact⟨aV.mp q,rfl⟩
 |.tup ds,w,h,q=>by
  obtain⟨xs,rfl,q1⟩:=ah.mp q;exact bq.mpr ⟨xs,rfl,ae.flat ds xs (by unfold Vl.aB at h;exact h) q1⟩
 |.lst ds,w,h,q=>by unfold Vl.aB at h;cases h
 |.dct ks ds,w,h,q=>by unfold Vl.aB at h;cases h
theorem ae.flat{R:Nat->Prop}{m m':Me}:∀(ds:List Dat) (xs:List Wd),aU ds=true->ae R m ds xs->au m' ds xs []
 |[],xs,h,q=>by rw[q.nil_inv];exact .nil
 |d::ds,xs,h,q=>by
  obtain⟨x,r,rfl,a,b⟩:=q.cons_inv;unfold aU at h;rw[Qp]at h;exact au.cons (B:=[]) (C:=[]) (ai.flat d x h.1 a) (ae.flat ds r h.2 b)
end
noncomputable def bh(R:Nat->Prop)(m:Me)(lv:Lv)(d:Dat)(w:Wd)(A:List Nat):Prop:=match lv with
 |.no=>ai R m d w/\A=[]
 |.top=>∃ds l xs,d=.lst ds/\w=.ref l/\A=[l]/\m[l]?=some (.lst xs)/\ae R m ds xs
 |.full=>aX m d w A
theorem bh.rep (h:∀l,R l->R' l)(k:∀l∈A,R' l)(q:bh R m lv d w A):ai R' m d w:=by
 cases lv with
 |no=>exact ai.frame (λl o r z=>⟨h l r,z⟩) d w q.1
 |top=>
  obtain⟨ds,l,xs,rfl,rfl,rfl,hm,a⟩:=q;exact aw.mpr ⟨l,xs,rfl,k l (by simp),hm,ae.frame (λl o r z=>⟨h l r,z⟩) ds xs a⟩
 |full=>exact aX.rep d w A k q
theorem bh.frame{R R':Nat->Prop}{m m':Me}{lv:Lv}{d:Dat}{w:Wd}{A:List Nat}(h:∀(l:Nat) o,R l->m[l]?=some o->R' l/\m'[l]?=some o)(k:∀l∈A,∀o,m[l]?=some o->m'[l]?=some o)(q:bh R m lv d w A):bh R' m' lv d w A:=by
 cases lv with
 |no=>exact⟨ai.frame h d w q.1,q.2⟩
 |top=>
  obtain⟨ds,l,xs,rfl,rfl,rfl,hm,a⟩:=q;exact⟨ds,l,xs,rfl,rfl,rfl,k l (by simp) _ hm,ae.frame h ds xs a⟩
 |full=>exact aX.frame d w A k q
theorem bh.lt (q:bh R m lv d w A):∀l∈A,l<m.length:=by
 cases lv with
 |no=>rw[q.2];simp
 |top=>
  obtain⟨ds,l,xs,rfl,rfl,rfl,hm,a⟩:=q;intro k hk;rw[QK.mp hk];exact(Qb.mp hm).1
 |full=>exact aX.lt d w A q
noncomputable def bg(lev:Nat->Lv):Ex->Dat->Lv
 |.comp elt _ _,d=>if aB d then .full else match d with
  |.lst ds=>if ds.all (λx=>bg lev elt x == .full)then .full else .top
  |_=>.no
 |.compP _ elt _ _ _,d=>if aB d then .full else match d with
  |.lst ds=>if ds.all (λx=>bg lev elt x == .full)then .full else .top
  |_=>.no
 |.lst a,d=>if aB d then .full else match d with
  |.lst ds=>if bg lev a (.tup ds) == .full then .full else .top
  |_=>.no
 |.tup a,d=>bg lev a d
 |.pair a b,d=>if aB d then .full else match d with
  |.tup (x::ds)=>if bg lev a x == .full&&bg lev b (.tup ds) == .full then .full else .no
  |_=>.no
 |.call k _,d=>if aB d then .full else lev k
 |.blt .list _,d=>if aB d then .full else match d with
  |.lst ds=>if aU ds then .full else .top
  |_=>.no
 |.slL _ _,d=>if aB d then .full else match d with
  |.lst ds=>if aU ds then .full else .top
  |_=>.no
 |.bin _ _ _,d=>if aB d then .full else match d with
  |.lst ds=>if aU ds then .full else .top
  |_=>.no
 |.dict0,d=>if aB d then .full else match d with
  |.dct _ []=>.full
  |_=>.no
 |_,d=>if aB d then .full else .no
@[simp]theorem Hc(lev:Nat->Lv)(d:Dat):bg lev .dict0 d=if aB d then .full else match d with
  |.dct _ []=>.full
  |_=>.no:=rfl
@[simp]theorem Gi(lev:Nat->Lv)(a b:Ex)(d:Dat):bg lev (.dget a b) d=if aB d then .full else .no:=rfl
@[simp]theorem Gh(lev:Nat->Lv)(e i c:Ex)(d:Dat):bg lev (.comp e i c) d=if aB d then .full else match d with
  |.lst ds=>if ds.all (λx=>bg lev e x == .full)then .full else .top
  |_=>.no:=rfl
@[simp]theorem Hb(lev:Nat->Lv)(k:Kd)(e a b c:Ex)(d:Dat):bg lev (.compP k e a b c) d=if aB d then .full else match d with
  |.lst ds=>if ds.all (λx=>bg lev e x == .full)then .full else .top
  |_=>.no:=rfl
@[simp]theorem GK(lev:Nat->Lv)(a:Ex)(d:Dat):bg lev (.lst a) d=if aB d then .full else match d with
  |.lst ds=>if bg lev a (.tup ds) == .full then .full else .top
  |_=>.no:=rfl
@[simp]theorem GJ(lev:Nat->Lv)(a:Ex)(d:Dat):bg lev (.tup a) d=bg lev a d:=rfl
@[simp]theorem sf(lev:Nat->Lv)(a b:Ex)(d:Dat):bg lev (.pair a b) d=if aB d then .full else match d with
  |.tup (x::ds)=>if bg lev a x == .full&&bg lev b (.tup ds) == .full then .full else .no
  |_=>.no:=rfl
@[simp]theorem Gg(lev:Nat->Lv)(k:Nat)(a:Ex)(d:Dat):bg lev (.call k a) d=if aB d then .full else lev k:=rfl
@[simp]theorem Gf(lev:Nat->Lv)(a:Ex)(d:Dat):bg lev (.blt .list a) d=if aB d then .full else match d with
  |.lst ds=>if aU ds then .full else .top
  |_=>.no:=rfl
@[simp]theorem GI(lev:Nat->Lv)(a b:Ex)(d:Dat):bg lev (.slL a b) d=if aB d then .full else match d with
  |.lst ds=>if aU ds then .full else .top
  |_=>.no:=rfl
@[simp]theorem GH(lev:Nat->Lv)(op:Bo)(a b:Ex)(d:Dat):bg lev (.bin op a b) d=if aB d then .full else match d with
  |.lst ds=>if aU ds then .full else .top
  |_=>.no:=rfl
@[simp]theorem GG(lev:Nat->Lv)(i:Nat)(d:Dat):bg lev (.var i) d=if aB d then .full else .no:=rfl
@[simp]theorem GF(lev:Nat->Lv)(w:Wd)(d:Dat):bg lev (.lit w) d=if aB d then .full else .no:=rfl
@[simp]theorem GE(lev:Nat->Lv)(a b:Ex)(d:Dat):bg lev (.idx a b) d=if aB d then .full else .no:=rfl
@[simp]theorem GD(lev:Nat->Lv)(a:Ex)(d:Dat):bg lev (.neg a) d=if aB d then .full else .no:=rfl
@[simp]theorem GC(lev:Nat->Lv)(a:Ex)(d:Dat):bg lev (.not a) d=if aB d then .full else .no:=rfl
@[simp]theorem GB(lev:Nat->Lv)(a b:Ex)(d:Dat):bg lev (.and a b) d=if aB d then .full else .no:=rfl
@[simp]theorem sM(lev:Nat->Lv)(a b:Ex)(d:Dat):bg lev (.or a b) d=if aB d then .full else .no:=rfl
@[simp]theorem GA(lev:Nat->Lv)(op:Co)(a b:Ex)(d:Dat):bg lev (.cmp op a b) d=if aB d then .full else .no:=rfl
@[simp]theorem Gz(lev:Nat->Lv)(c a b:Ex)(d:Dat):bg lev (.ife c a b) d=if aB d then .full else .no:=rfl
@[simp]theorem Ge(lev:Nat->Lv)(d:Dat):bg lev (.unit) d=if aB d then .full else .no:=rfl
@[simp]theorem Gy(lev:Nat->Lv)(t:Tg)(a:Ex)(d:Dat):bg lev (.isi t a) d=if aB d then .full else .no:=rfl
@[simp]theorem Gx(lev:Nat->Lv)(a b c:Ex)(d:Dat):bg lev (.rng a b c) d=if aB d then .full else .no:=rfl
@[simp]theorem Gd(lev:Nat->Lv)(a:Ex)(d:Dat):bg lev (.blt .len a) d=if aB d then .full else .no:=rfl
@[simp]theorem Gc(lev:Nat->Lv)(a:Ex)(d:Dat):bg lev (.blt .int a) d=if aB d then .full else .no:=rfl
@[simp]theorem HA(lev:Nat->Lv)(a:Ex)(d:Dat):bg lev (.blt .tuple a) d=if aB d then .full else .no:=rfl
@[simp]theorem Gb(lev:Nat->Lv)(a:Ex)(d:Dat):bg lev (.blt .sum a) d=if aB d then .full else .no:=rfl
noncomputable def aI(R:Nat->Prop)(m:Me)(lv:Dat->Lv)(r:Rz)(rd:Rd):Prop:=match rd with
 |.ok d=>∃w m' A,r=.ok w m'/\Le m m'/\bh (λl=>Rf R m.length l/\l∉A) m' (lv d) d w A/\A.Nodup/\∀a∈A,m.length<=a
 |.no=>True
noncomputable def xz(lev:Nat->Lv)(k:Nat)(d:Dat):Lv:=if aB d then .full else lev k
noncomputable def bx(lev:Nat->Lv)(cl:Nat->List Wd->Me->Rz)(cd:Nat->List Dat->Rd):Prop:=∀(k:Nat) (ds:List Dat) (ws:List Wd) (R:Nat->Prop) (m:Me),ae R m ds ws->aI R m (xz lev k) (cl k ws m) (cd k ds)
def aI.sim (h:aI R m lv r rd):ag R m r rd:=by
 cases rd with
 |ok d=>
  obtain⟨w,m',A,rfl,l,q,_,hA⟩:=h;exact⟨w,m',rfl,l,q.rep (λ_ z=>z.1) (λa z=>.inr (hA a z))⟩
 |no=>trivial
def bx.r (H:bx lev cl cd):bv cl cd:=λk ds ws R m q=>(H k ds ws R m q).sim
set_option tactic.hygienic true in
def ag.own (h:ag R m r rd)(hl:∀d,lv d=if aB d then .full else .no):aI R m lv r rd:=by
 cases rd with
 |ok d=>
  obtain⟨w,m',rfl,l,q⟩:=h;refine⟨w,m',[],rfl,l,?_,Qu,by simp⟩;rw[hl];split
  .next z=>exact q.flat d w z
  .exact ⟨ai.frame (λl o r z=>⟨⟨r,by simp⟩,z⟩) d w q,rfl⟩
 |no=>trivial
def aI.lift{R:Nat->Prop}{m m1:Me}{r:Rz}{rd:Rd}{lv:Dat->Lv}(h:Le m m1)(q:aI (Rf R m.length) m1 lv r rd):aI R m lv r rd:=by
 have hl:=h.len;cases rd with
 |ok d=>
  obtain⟨w,m',A,rfl,k,z,nd,hA⟩:=q;exact⟨w,m',A,rfl,h.trans k,z.frame (λl o r z=>⟨⟨by rcases r.1 with (r|r)|r;exact .inl r;exact .inr r;exact .inr (by lia),r.2⟩,z⟩) (λ_ _ _ z=>z),nd,λa ha=>by have:=hA a ha;lia⟩
 |no=>trivial
def ag.bindO (h:ag R m r rd)(k:∀d w m',Le m m'->ai (Rf R m.length) m' d w->aI (Rf R m.length) m' lv (f w m') (g d)):aI R m lv (r.bind f) (rd.bind g):=by
 cases rd with
 |ok d=>obtain⟨w,m',rfl,l,z⟩:=h;exact aI.lift l (k d w m' l z)
 |no=>trivial
theorem aI.no{R:Nat->Prop}{m:Me}{r:Rz}{lv:Dat->Lv}:aI R m lv r .no:=trivial
set_option tactic.hygienic true in
def aI.new{R:Nat->Prop}{m:Me}{ds:List Dat}{xs:List Wd}{lv:Dat->Lv}(h:ae R m ds xs)(hl:∀es,lv (.lst es)=if aU es then .full else .top):aI R m lv (alloc m xs) (bu ds):=by
 unfold bu alloc;rw[h.len];by_cases z:xs.length<=aF
 .rw[J7 z,J7 z];refine⟨_,_,[m.length],rfl,Le.app m _,?_,by simp,by simp⟩;rw[hl];split
  .next f=>exact bc.mpr ⟨_,xs,[],rfl,rfl,by simp,h.flat ds xs f⟩
  .refine ⟨ds,_,xs,rfl,rfl,rfl,by simp,ae.frame (λl o r z=>⟨⟨.inl r,?_⟩,Le.app m _ l o z⟩) ds xs h⟩;have:=(Qb.mp z).1;simp;lia
 .rw[J8 z,J8 z];exact aI.no
def oS (hm:Le m0 m)(h:au m ds xs A)(nd:A.Nodup)(hA:∀a∈A,m0.length<=a)(hl:lv (.lst ds)=.full)(hlen:ds.length=xs.length):aI R m0 lv (alloc m xs) (bu ds):=by
 unfold bu alloc;rw[hlen];have hlt:=h.lt;by_cases z:xs.length<=aF
 .rw[J7 z,J7 z];refine⟨_,_,m.length::A,rfl,hm.trans (Le.app m _),?_,Qw.mpr ⟨λq=>by have:=hlt _ q;lia,nd⟩,?_⟩
  .rw[hl];exact bc.mpr ⟨_,xs,A,rfl,rfl,by simp,au.frame ds xs A (λl hl o q=>Le.app m _ l o q) h⟩
  .intro a ha;rcases Qj.mp ha with rfl|ha
   .exact hm.len
   .exact hA a ha
 .rw[J8 z,J8 z];exact aI.no
theorem au.len:∀{ds:List Dat}{xs:List Wd}{A:List Nat},au m ds xs A->ds.length=xs.length
 |[],xs,A,q=>by rw[q.nil_inv.1];rfl
 |d::ds,xs,A,q=>by
  obtain⟨x,r,B,C,rfl,rfl,a,b⟩:=q.cons_inv;simp[au.len b]
noncomputable def cZ(R:Nat->Prop)(m:Me)(lv:Dat->Lv)(r:Rz)(rd:Rd):Prop:=match rd with
 |.ok d=>∃out m2 outx,d=.lst out/\out.length<=aF/\r=alloc m2 outx/\Le m m2/\ae (Rf R m.length) m2 out outx/\((∀y∈out,lv y=.full)->∃A,au m2 out outx A/\A.Nodup/\∀a∈A,m.length<=a)
 |.no=>True
noncomputable def cz(m0 m:Me)(lv:Dat->Lv)(acc:List Dat)(acx:List Wd):Prop:=(∀y∈acc,lv y=.full)->∃A,au m acc acx A/\A.Nodup/\∀a∈A,m0.length<=a
def cz.up{m0 m m':Me}{lv:Dat->Lv}{acc:List Dat}{acx:List Wd}(h:Le m m')(q:cz m0 m lv acc acx):cz m0 m' lv acc acx:=λz=>by
 obtain⟨A,a,b,c⟩:=q z;exact⟨A,au.frame acc acx A (λl _ o k=>h l o k) a,b,c⟩
def cz.push{m0 m m':Me}{lv:Dat->Lv}{acc:List Dat}{acx:List Wd}{d:Dat}{w:Wd}{B:List Nat}(hm:Le m0 m)(h:Le m m')(q:cz m0 m lv acc acx)(z:lv d=.full->aX m' d w B)(nd:B.Nodup)(hB:∀b∈B,m.length<=b):cz m0 m' lv (acc++[d]) (acx++[w]):=λf=>by
 obtain⟨A,a,b,c⟩:=q λy hy=>f y (QL _ hy);refine⟨A++(B++[]),(au.frame acc acx A (λl _ o k=>h l o k) a).app (.cons (z (f d (by simp))) .nil),?_,?_⟩
 .rw[QS];refine QB.mpr ⟨b,nd,λx hx y hy e=>?_⟩;have:=au.lt acc acx A a x hx;have:=hB y hy;lia
 .intro x hx;rw[QS]at hx;rcases QN.mp hx with hx|hx
  .exact c x hx
  .have:=hB x hx;have:=hm.len;lia
theorem xN (hc:∀(R':Nat->Prop) m d x,(∀l,R l->R' l)->Le m0 m->ai R' m d x->ag R' m (c x m) (cd d))(he:∀(R':Nat->Prop) m d x,(∀l,R l->R' l)->Le m0 m->ai R' m d x->aI R' m lv (e x m) (ed d)):
  ∀(ds:List Dat) (xs:List Wd) (acc:List Dat) (acx:List Wd) (m:Me),Le m0 m->ae (Rf R m0.length) m ds xs->ae (Rf R m0.length) m acc acx->cz m0 m lv acc acx->cZ R m0 lv (yE c e xs acx m) (zY cd ed ds acc)
 |[],xs,acc,acx,m,hm,a,b,f=>by
  rw[a.nil_inv];unfold yE zY bu;by_cases z:acc.length<=aF
  .rw[J7 z];exact⟨acc,m,acx,rfl,z,rfl,hm,b,f⟩
  .rw[J8 z];trivial
 |d::ds,xs,acc,acx,m,hm,a,b,f=>by
  obtain⟨x,r,rfl,p,q⟩:=a.cons_inv;have hl:=hm.len;have sh:∀{n:Nat}{m':Me}{d:Dat}{w:Wd},m0.length<=n->ai (Rf (Rf R m0.length) n) m' d w->ai (Rf R m0.length) m' d w:=λhn k=>ai.frame (λl o r z=>⟨by rcases r with (r|r)|r;exact .inl r;exact .inr r;exact .inr (by lia),z⟩) _ _ k;unfold yE zY;have h1:=hc _ m d x (λl z=>.inl z) hm p;cases e1:cd d with
  |no=>trivial
  |ok t=>
   rw[e1]at h1;obtain⟨w,m1,h1,l1,k1⟩:=h1;rw[h1];simp only[Rz.bind,Rd.bind];cases t with
   |bl t=>
    rw[aj.mp k1];have fr:∀{ds:List Dat}{xs:List Wd},ae (Rf R m0.length) m ds xs->ae (Rf R m0.length) m1 ds xs:=λk=>ae.frame (λl o r z=>⟨r,l1 l o z⟩) _ _ k;cases t with
    |false=>exact xN hc he ds r acc acx m1 (hm.trans l1) (fr q) (fr b) (f.up l1)
    |true=>
     have h2:=he _ m1 d x (λl z=>.inl z) (hm.trans l1) (ai.frame (λl o r z=>⟨r,l1 l o z⟩) _ _ p);have hl1:=(hm.trans l1).len;simp only;cases e2:ed d with
     |no=>trivial
     |ok y=>
      rw[e2]at h2;have h3:=h2.sim;obtain⟨w,m2,B,h2,l2,k2,nd,hB⟩:=h2;obtain⟨w',m2',h3,_,k3⟩:=h3;rw[h2]at h3 ⊢;cases h3;simp only[Rz.bind,Rd.bind,b.len];split
      .refine xN hc he ds r _ _ m2 ((hm.trans l1).trans l2) (ae.frame (λl o r z=>⟨r,l2 l o z⟩) _ _ (fr q)) ((ae.frame (λl o r z=>⟨r,l2 l o z⟩) _ _ (fr b)).app (.cons (sh hl1 k3) .nil)) ((f.up l1).push (hm.trans l1) l2 ?_ nd hB);intro z;rw[z]at k2;exact k2
      .trivial
   |_=>trivial
theorem ve (hx0:m0[l]?=some (.lst xs0))(hc:∀(R':Nat->Prop) m d x,(∀l,R l->R' l)->Le m0 m->ai R' m d x->ag R' m (c x m) (cd d))(he:∀(R':Nat->Prop) m d x,(∀l,R l->R' l)->Le m0 m->ai R' m d x->aI R' m lv (e x m) (ed d)):
  ∀(ds:List Dat) (i k:Nat) (acc:List Dat) (acx:List Wd) (m:Me),Le m0 m->ae (Rf R m0.length) m ds (xs0.drop i)->i+ds.length=xs0.length->ds.length<k->ae (Rf R m0.length) m acc acx->cz m0 m lv acc acx->cZ R m0 lv (yF c e l k i acx m) (zY cd ed ds acc)
 |[],i,0,acc,acx,m,hm,a,hi,hk,b,f=>by simp at hk
 |d::ds,i,0,acc,acx,m,hm,a,hi,hk,b,f=>by simp at hk
 |[],i,k+1,acc,acx,m,hm,a,hi,hk,b,f=>by
  unfold yF zY zn bu;rw[hm l _ hx0];simp only;rw[Qz (by simp at hi;lia)];by_cases z:acc.length<=aF
  .rw[J7 z];exact⟨acc,m,acx,rfl,z,rfl,hm,b,f⟩
  .rw[J8 z];trivial
 |d::ds,i,k+1,acc,acx,m,hm,a,hi,hk,b,f=>by
  obtain⟨x,r,e0,p,q⟩:=a.cons_inv;have hx:xs0[i]?=some x:=by
   have:(xs0.drop i)[0]?=some x:=by rw[e0];rfl
   simpa using this
  have hr:r=xs0.drop (i+1):=by
   have:(xs0.drop i).drop 1=r:=by rw[e0];rfl
   rw[<-this,Wc]
  rw[hr]at q;have hi':i+1+ds.length=xs0.length:=by simp at hi;lia
  have hk':ds.length<k:=by simp at hk;lia
  have hl:=hm.len;have sh:∀{n:Nat}{m':Me}{d:Dat}{w:Wd},m0.length<=n->ai (Rf (Rf R m0.length) n) m' d w->ai (Rf R m0.length) m' d w:=λhn k=>ai.frame (λl o r z=>⟨by rcases r with (r|r)|r;exact .inl r;exact .inr r;exact .inr (by lia),z⟩) _ _ k;unfold yF zY zn;rw[hm l _ hx0];simp only;rw[hx];simp only;have h1:=hc _ m d x (λl z=>.inl z) hm p;cases e1:cd d with
  |no=>trivial
  |ok t=>
   rw[e1]at h1;obtain⟨w,m1,h1,l1,k1⟩:=h1;rw[h1];simp only[Rz.bind,Rd.bind];cases t with
   |bl t=>
    rw[aj.mp k1];have fr:∀{ds:List Dat}{xs:List Wd},ae (Rf R m0.length) m ds xs->ae (Rf R m0.length) m1 ds xs:=λk=>ae.frame (λl o r z=>⟨r,l1 l o z⟩) _ _ k;cases t with
    |false=>exact ve hx0 hc he ds (i+1) k acc acx m1 (hm.trans l1) (fr q) hi' hk' (fr b) (f.up l1)
    |true=>
     have h2:=he _ m1 d x (λl z=>.inl z) (hm.trans l1) (ai.frame (λl o r z=>⟨r,l1 l o z⟩) _ _ p);have hl1:=(hm.trans l1).len;simp only;cases e2:ed d with
     |no=>trivial
     |ok y=>
      rw[e2]at h2;have h3:=h2.sim;obtain⟨w,m2,B,h2,l2,k2,nd,hB⟩:=h2;obtain⟨w',m2',h3,_,k3⟩:=h3;rw[h2]at h3 ⊢;cases h3;simp only[Rz.bind,Rd.bind,b.len];split
      .refine ve hx0 hc he ds (i+1) k _ _ m2 ((hm.trans l1).trans l2) (ae.frame (λl o r z=>⟨r,l2 l o z⟩) _ _ (fr q)) hi' hk' ((ae.frame (λl o r z=>⟨r,l2 l o z⟩) _ _ (fr b)).app (.cons (sh hl1 k3) .nil)) ((f.up l1).push (hm.trans l1) l2 ?_ nd hB);intro z;rw[z]at k2;exact k2
      .trivial
   |_=>trivial
theorem vf (hg:li (Rf R m0.length) m0 ps g)(hc:∀(R':Nat->Prop) m p a b,(∀l,R l->R' l)->Le m0 m->ai R' m p.1 a->ai R' m p.2 b->ag R' m (c a b m) (cd p))(he:∀(R':Nat->Prop) m p a b,(∀l,R l->R' l)->Le m0 m->ai R' m p.1 a->ai R' m p.2 b->aI R' m lv (e a b m) (ed p)):
  ∀(ds:List (Dat×Dat)) (i k:Nat) (acc:List Dat) (acx:List Wd) (m:Me),Le m0 m->ds=ps.drop i->i+ds.length=ps.length->ds.length<k->ae (Rf R m0.length) m acc acx->cz m0 m lv acc acx->cZ R m0 lv (zL c e g k i acx m) (zY cd ed ds acc)
 |[],i,0,acc,acx,m,hm,a,hi,hk,b,f=>by simp at hk
 |d::ds,i,0,acc,acx,m,hm,a,hi,hk,b,f=>by simp at hk
 |[],i,k+1,acc,acx,m,hm,a,hi,hk,b,f=>by
  unfold zL zY bu;rw[(hg m hm).2 i (by simp at hi;lia)];simp only;by_cases z:acc.length<=aF
  .rw[J7 z];exact⟨acc,m,acx,rfl,z,rfl,hm,b,f⟩
  .rw[J8 z];trivial
 |d::ds,i,k+1,acc,acx,m,hm,a,hi,hk,b,f=>by
  have hx:ps[i]?=some d:=by
   have:(ps.drop i)[0]?=some d:=by rw[<-a];rfl
   simpa using this
  have hr:ds=ps.drop (i+1):=by
   have:(ps.drop i).drop 1=ds:=by rw[<-a];rfl
   rw[<-this,Wc]
  have hi':i+1+ds.length=ps.length:=by simp at hi;lia
  have hk':ds.length<k:=by simp at hk;lia
  obtain⟨u,v,e0,p,q⟩:=(hg m hm).1 i d hx;have hl:=hm.len;have sh:∀{n:Nat}{m':Me}{d:Dat}{w:Wd},m0.length<=n->ai (Rf (Rf R m0.length) n) m' d w->ai (Rf R m0.length) m' d w:=λhn k=>ai.frame (λl o r z=>⟨by rcases r with (r|r)|r;exact .inl r;exact .inr r;exact .inr (by lia),z⟩) _ _ k;unfold zL zY;rw[e0];simp only;have h1:=hc _ m d u v (λl z=>.inl z) hm p q;cases e1:cd d with
  |no=>trivial
  |ok t=>
   rw[e1]at h1;obtain⟨w,m1,h1,l1,k1⟩:=h1;rw[h1];simp only[Rz.bind,Rd.bind];cases t with
   |bl t=>
    rw[aj.mp k1];have fr:∀{ds:List Dat}{xs:List Wd},ae (Rf R m0.length) m ds xs->ae (Rf R m0.length) m1 ds xs:=λk=>ae.frame (λl o r z=>⟨r,l1 l o z⟩) _ _ k;cases t with
    |false=>exact vf hg hc he ds (i+1) k acc acx m1 (hm.trans l1) hr hi' hk' (fr b) (f.up l1)
    |true=>
     have h2:=he _ m1 d u v (λl z=>.inl z) (hm.trans l1) (ai.frame (λl o r z=>⟨r,l1 l o z⟩) _ _ p) (ai.frame (λl o r z=>⟨r,l1 l o z⟩) _ _ q);have hl1:=(hm.trans l1).len;simp only;cases e2:ed d with
     |no=>trivial
     |ok y=>
      rw[e2]at h2;have h3:=h2.sim;obtain⟨w,m2,B,h2,l2,k2,nd,hB⟩:=h2;obtain⟨w',m2',h3,_,k3⟩:=h3;rw[h2]at h3 ⊢;cases h3;simp only[Rz.bind,Rd.bind,b.len];split
      .refine vf hg hc he ds (i+1) k _ _ m2 ((hm.trans l1).trans l2) hr hi' hk' ((ae.frame (λl o r z=>⟨r,l2 l o z⟩) _ _ (fr b)).app (.cons (sh hl1 k3) .nil)) ((f.up l1).push (hm.trans l1) l2 ?_ nd hB);intro z;rw[z]at k2;exact k2
      .trivial
   |_=>trivial
def cZ.sim (h:cZ R m lv r rd)(hl:∀ds,lw (.lst ds)=if ds.all (λx=>lv x == .full)then .full else .top):aI R m lw r rd:=by
 cases rd with
 |no=>trivial
 |ok d=>
  obtain⟨out,m2,outx,rfl,hlen,rfl,l2,k2,own⟩:=h;have e:=k2.len;cases z:out.all (λx=>lv x == .full)with
  |true=>
   obtain⟨A,a,b,c⟩:=own λy hy=>by simpa using Wf.mp z y hy
   have:=oS (R:=R) (lv:=lw) l2 a b c (by rw[hl,z];rfl) e;unfold bu at this;rw[J7 hlen]at this;exact this
  |false=>
   unfold alloc;rw[<-e,J7 hlen];have ll:=l2.len;refine⟨_,_,[m2.length],rfl,l2.trans (Le.app m2 _),?_,by simp,by simp;exact ll⟩;rw[hl,z];refine⟨out,_,outx,rfl,rfl,rfl,by simp,ae.frame (λl o r z=>⟨⟨r,?_⟩,Le.app m2 _ l o z⟩) out outx k2⟩;have:=(Qb.mp z).1;simp;lia
theorem kB(lev:Nat->Lv):∀(e:Ex) (d:Dat),aB d=true->bg lev e d=.full
 |.tup a,d,h=>kB lev a d h
 |.comp _ _ _,d,h=>J7 h
 |.compP _ _ _ _ _,d,h=>J7 h
 |.lst _,d,h=>J7 h
 |.pair _ _,d,h=>J7 h
 |.call _ _,d,h=>J7 h
 |.blt b _,d,h=>by cases b<;>exact J7 h
 |.slL _ _,d,h=>J7 h
 |.bin _ _ _,d,h=>J7 h
 |.var _,d,h=>J7 h
 |.lit _,d,h=>J7 h
 |.neg _,d,h=>J7 h
 |.not _,d,h=>J7 h
 |.and _ _,d,h=>J7 h
 |.or _ _,d,h=>J7 h
 |.cmp _ _ _,d,h=>J7 h
 |.chain _ _ _ _ _,d,h=>J7 h
 |.ife _ _ _,d,h=>J7 h
 |.unit,d,h=>J7 h
 |.isi _ _,d,h=>J7 h
 |.dict0,d,h=>J7 h
 |.dget _ _,d,h=>J7 h
 |.dop k _ _ _,d,h=>by cases k<;>exact J7 h
 |.idx _ _,d,h=>J7 h
 |.meth _ _ _,d,h=>J7 h
 |.rng _ _ _,d,h=>J7 h
def aI.newTop{R:Nat->Prop}{m0 m:Me}{ds:List Dat}{xs:List Wd}{lv:Dat->Lv}(hm:Le m0 m)(h:ae (Rf R m0.length) m ds xs)(hl:lv (.lst ds)=.top):aI R m0 lv (alloc m xs) (bu ds):=by
 unfold bu alloc;rw[h.len];by_cases z:xs.length<=aF
 .rw[J7 z,J7 z];refine⟨_,_,[m.length],rfl,hm.trans (Le.app m _),?_,by simp,by simp;exact hm.len⟩;rw[hl];refine⟨ds,_,xs,rfl,rfl,rfl,by simp,ae.frame (λl o r z=>⟨⟨r,?_⟩,Le.app m _ l o z⟩) ds xs h⟩;have:=(Qb.mp z).1;simp;lia
 .rw[J8 z,J8 z];exact aI.no
set_option tactic.hygienic true in
def BN{R:Nat->Prop}{m:Me}{d e:Dat}{x y:Wd}{lv:Dat->Lv}(op:Bo)(hl:∀d,lv d=if aB d then .full else match d with |.lst ds=>if aU ds then .full else .top|_=>.no)(a:ai R m d x)(b:ai R m e y):aI R m lv (cE op x y m) (yn op d e):=by
 have hn:∀es,lv (.lst es)=if aU es then .full else .top:=λes=>by rw[hl];simp[aB]
 have hs:=jM op a b;cases d with
 |lst ds=>
  obtain⟨l,xs,rfl,_,hm,a1⟩:=aw.mp a;cases e with
  |lst es=>
   obtain⟨l',ys,rfl,_,hk,b1⟩:=aw.mp b;cases op<;>first|exact aI.no|skip
   simp only[cE,yn,hm,hk];exact aI.new (a1.app b1) hn
  |int k=>
   rw[aa.mp b];cases op<;>first|exact aI.no|skip
   simp only[cE,yn,hm];by_cases z:-(aF:Int)<=k/\k<=(aF:Int)
   .rw[J7 z,J7 z];exact aI.new (a1.rep _) hn
   .rw[J8 z,J8 z];exact aI.no
  |_=>exact aI.no
 |int i=>
  cases e with
  |int j=>
   have hi:∀r:Rd,ag R m (cE op x y m) r->(∀d,r=.ok d->aB d=true)->aI R m lv (cE op x y m) r:=by
    intro r h f;cases r with
    |ok d=>
     obtain⟨w,m',h,l,k⟩:=h;refine⟨w,m',[],h,l,?_,Qu,by simp⟩;rw[hl,J7 (f d rfl)];exact k.flat d w (f d rfl)
    |no=>trivial
   refine hi _ hs λd h=>?_;cases op<;>simp only[yn]at h
   .cases h;rfl
   .cases h;rfl
   all_goals (split at h<;>(cases h;try rfl))
  |_=>exact aI.no
 |tup ds=>
  obtain⟨xs,rfl,a1⟩:=ah.mp a;cases e with
  |tup es=>
   obtain⟨ys,rfl,b1⟩:=ah.mp b;cases op<;>first|exact aI.no|skip
   simp only[yn]at hs ⊢;split at hs
   .next z=>
    rw[J7 z];obtain⟨w,m',h,l,k⟩:=hs;refine⟨w,m',[],h,l,?_,Qu,by simp⟩;rw[hl];split
    .next f=>exact k.flat _ w f
    .exact ⟨ai.frame (λl o r z=>⟨⟨r,by simp⟩,z⟩) _ w k,rfl⟩
   .next z=>rw[J8 z];exact aI.no
  |_=>exact aI.no
 |_=>exact aI.no
set_option tactic.hygienic true in
def Aa{R:Nat->Prop}{m:Me}{d:Dat}{x:Wd}{lv:Dat->Lv}(lo hi:Option Int)(hl:∀d,lv d=if aB d then .full else match d with |.lst ds=>if aU ds then .full else .top|_=>.no)(a:ai R m d x):aI R m lv (eT x lo hi m) (eF d lo hi):=by
 have hn:∀es,lv (.lst es)=if aU es then .full else .top:=λes=>by rw[hl];simp[aB]
 by_cases t:∃ds,d=.tup ds
 .obtain ⟨ds,rfl⟩:=t;have hs:=si lo hi a;simp only[eF]at hs ⊢;split at hs
  .next z=>rw[J7 z];exact aI.no
  .next z=>
   rw[J8 z];obtain⟨w,m',h,l,k⟩:=hs;refine⟨w,m',[],h,l,?_,Qu,by simp⟩;rw[hl];split
   .next f=>exact k.flat _ w f
   .exact ⟨ai.frame (λl o r z=>⟨⟨r,by simp⟩,z⟩) _ w k,rfl⟩
 have t':∀ds,d≠.tup ds:=λds e=>t ⟨ds,e⟩;rw[pZ (sk a t'),sm t'];cases z:dH d with
 |none=>exact aI.no
 |some ds=>
  obtain⟨xs,h,q⟩:=jJ a z;simp only[h,q.len];exact aI.new ((q.drop _).take _) hn
set_option tactic.hygienic true in
theorem yN (H:bx lev cl cd):∀(e:Ex) (R:Nat->Prop) (m:Me) (de:aO) (env:En),bM R m (zj e) de env->aI R m (bg lev e) (af cl e env m) (ax cd e de)
 |.call k a,R,m,de,env,q=>by
  have e:bg lev (.call k a)=xz lev k:=by funext d;simp[xz]
  rw[e];refine(za H.r a R m de env q).bindO λd w m1 l1 k1=>?_;exact H k _ _ _ m1 (yf k1)
 |.bin op a b,R,m,de,env,q=>by
  refine(za H.r a R m de env q.left).bindO λd w m1 l1 k1=>?_;refine(za H.r b _ m1 de env (q.right.up (λ_=>.inl) l1)).bindO λd2 w2 m2 l2 k2=>?_;exact BN op (λd=>by cases d<;>rfl) (k1.up _ l2) k2
 |.slL a b,R,m,de,env,q=>by
  refine(za H.r a R m de env q.left).bindO λd w m1 l1 k1=>?_;refine(za H.r b _ m1 de env (q.right.up (λ_=>.inl) l1)).bindO λd2 w2 m2 l2 k2=>?_;cases d2 with
  |int i=>
   rw[aa.mp k2];exact Aa _ _ (λd=>by cases d<;>rfl) (k1.up m1.length l2)
  |_=>exact aI.no
 |.blt b a,R,m,de,env,q=>by
  by_cases hb:b=.list
  .subst hb;refine(za H.r a R m de env q).bindO λd w m1 l1 k1=>?_;have k2:=yf k1;simp only[kK];split
   .next x hx=>
    rw[hx]at k2;obtain⟨x',r,e0,p,q0⟩:=k2.cons_inv;rw[e0,q0.nil_inv];split
    .next z=>obtain⟨ys,h,q⟩:=xI p z;simp only[vv,h];exact aI.new q (λes=>by simp[aB])
    .exact aI.no
   .exact aI.no
  .exact (za H.r (.blt b a) R m de env q).own λd=>by cases b<;>first|exact J9 rfl hb|rfl
 |.lst a,R,m,de,env,q=>by
  have ih:=yN H a R m de env q;show aI R m _ ((af cl a env m).bind λx m1=>alloc m1 (zh x)) ((ax cd a de).bind λx=>bu (zA x));cases ea:ax cd a de with
  |no=>trivial
  |ok d=>
   rw[ea]at ih;have hs:=ih.sim;obtain⟨w,m1,A,h,l,k,nd,hA⟩:=ih;obtain⟨w',m1',h',_,ks⟩:=hs;rw[h]at h';cases h';rw[h];simp only[Rz.bind,Rd.bind];have ka:=yf ks;cases z:bg lev a (.tup (zA d)) == .full with
   |false=>exact aI.newTop l ka (by simp[aB,z])
   |true=>
    have z':bg lev a (.tup (zA d))=.full:=by simpa using z
    have own:∃B,au m1 (zA d) (zh w) B/\B.Nodup/\∀b∈B,m.length<=b:=by
     cases d with
     |tup ds=>
      rw[show bg lev a (.tup ds)=.full from z']at k;obtain⟨xs,rfl,k1⟩:=bq.mp k;exact⟨A,k1,nd,hA⟩
     |_=>refine⟨[],?_,Qu,by simp⟩;exact ka.flat _ _ rfl
    obtain⟨B,o,nb,hB⟩:=own;exact oS l o nb hB (by simp[aB,z]) ka.len
 |.tup a,R,m,de,env,q=>by
  have ih:=yN H a R m de env q;have el:bg lev (.tup a)=bg lev a:=by funext d;simp
  rw[el];show aI R m _ ((af cl a env m).bind λx m1=>if(zh x).length<=aF then .ok (.tup (zh x)) m1 else .no) ((ax cd a de).bind λx=>if(zA x).length<=aF then .ok (.tup (zA x))else .no);cases ea:ax cd a de with
  |no=>trivial
  |ok d=>
   rw[ea]at ih;have hs:=ih.sim;obtain⟨w,m1,A,h,l,k,nd,hA⟩:=ih;obtain⟨w',m1',h',_,ks⟩:=hs;rw[h]at h';cases h';rw[h];have ka:=yf ks;simp only[Rz.bind,Rd.bind,ka.len];split
   .cases d with
    |tup ds=>
     obtain⟨xs,rfl,_⟩:=ah.mp ks;exact⟨_,m1,A,rfl,l,k,nd,hA⟩
    |_=>
     refine⟨_,m1,[],rfl,l,?_,Qu,by simp⟩;rw[kB lev a _ (by rfl)];exact bq.mpr ⟨_,rfl,ka.flat _ _ rfl⟩
   .trivial
 |.pair a b,R,m,de,env,q=>by
  have iha:=yN H a R m de env q.left;show aI R m _ ((af cl a env m).bind λx m1=>(af cl b env m1).bind λy m2=>.ok (.tup (x::zh y)) m2) ((ax cd a de).bind λx=>(ax cd b de).bind λy=>.ok (.tup (x::zA y)));cases ea:ax cd a de with
  |no=>trivial
  |ok d=>
   rw[ea]at iha;have hs:=iha.sim;obtain⟨w,m1,A,h,l,k,nd,hA⟩:=iha;obtain⟨w',m1',h',_,ks⟩:=hs;rw[h]at h';cases h';rw[h];simp only[Rz.bind,Rd.bind];have ihb:=yN H b _ m1 de env (q.right.up (R':=Rf R m.length) (λ_=>.inl) l);cases eb:ax cd b de with
   |no=>trivial
   |ok d2=>
    rw[eb]at ihb;have hs2:=ihb.sim;obtain⟨w2,m2,A2,h2,l2,k2,nd2,hA2⟩:=ihb;obtain⟨w2',m2',h2',_,ks2⟩:=hs2;rw[h2]at h2';cases h2';rw[h2];simp only;have ka:=yf ks2;have hl1:=l.len;cases z:(bg lev a d == .full&&bg lev b (.tup (zA d2)) == .full)with
    |false=>
     have:ag R m (.ok (.tup (w::zh w2)) m2) (.ok (.tup (d::zA d2))):=
      ag.lift l (ag.lift l2 (cQ (ah.mpr ⟨_,rfl,.cons (ks.up _ l2) ka⟩)))
     obtain⟨w3,m3,h3,l3,k3⟩:=this;refine⟨w3,m3,[],h3,l3,?_,Qu,by simp⟩;by_cases f:aB (.tup (d::zA d2))=true
     .rw[kB lev _ _ f];exact k3.flat _ w3 f
     .have:bg lev (.pair a b) (.tup (d::zA d2))=.no:=by
       rw[sf,J8 f];simp only[z];rfl
      rw[this];exact⟨ai.frame (λl o r z=>⟨⟨r,by simp⟩,z⟩) _ w3 k3,rfl⟩
    |true=>
     rw[Qp]at z;have z1:bg lev a d=.full:=by simpa using z.1
     have z2:bg lev b (.tup (zA d2))=.full:=by simpa using z.2
     rw[z1]at k;have own:∃B,au m2 (zA d2) (zh w2) B/\B.Nodup/\∀b∈B,m1.length<=b:=by
      cases d2 with
      |tup ds=>
       rw[show bg lev b (.tup ds)=.full from z2]at k2;obtain⟨xs,rfl,k3⟩:=bq.mp k2;exact⟨A2,k3,nd2,hA2⟩
      |_=>refine⟨[],?_,Qu,by simp⟩;exact ka.flat _ _ rfl
     obtain⟨B,o,nb,hB⟩:=own;refine⟨_,m2,A++B,rfl,l.trans l2,?_,?_,?_⟩
     .have:bg lev (.pair a b) (.tup (d::zA d2))=.full:=by
       rw[sf];simp only[z1,z2];simp
      rw[this];exact bq.mpr ⟨_,rfl,.cons (aX.frame d w A (λx _ o q=>l2 x o q) k) o⟩
     .refine QB.mpr ⟨nd,nb,λx hx y hy e=>?_⟩;have:=aX.lt d w A k x hx;have:=hB y hy;lia
     .intro x hx;rcases QN.mp hx with hx|hx
      .exact hA x hx
      .have:=hB x hx;lia
 |.comp elt it cond,R,m,de,env,q=>by
  refine(za H.r it R m de env q.left).bindO λd w m1 l1 k1=>?_;have hc:∀(R':Nat->Prop) m' d x,(∀l,Rf R m.length l->R' l)->Le m1 m'->ai R' m' d x->ag R' m' (af cl cond (env++[some x]) m') (ax cd cond (de++[some d])):=
   λR' m' d x hR l k=>za H.r cond R' m' _ _ ((q.right.right.up (λl h=>hR l (.inl h)) (l1.trans l)).push k)
  have he:∀(R':Nat->Prop) m' d x,(∀l,Rf R m.length l->R' l)->Le m1 m'->ai R' m' d x->aI R' m' (bg lev elt) (af cl elt (env++[some x]) m') (ax cd elt (de++[some d])):=
   λR' m' d x hR l k=>yN H elt R' m' _ _ ((q.right.left.up (λl h=>hR l (.inl h)) (l1.trans l)).push k)
  have hl:∀ds,bg lev (.comp elt it cond) (.lst ds)=if ds.all (λx=>bg lev elt x == .full)then .full else .top:=λds=>by simp[aB]
  have acc0:cz m1 m1 (bg lev elt) [] []:=λ_=>⟨[],.nil,Qu,by simp⟩;cases d with
  |tup ds=>
   obtain⟨xs,rfl,k2⟩:=ah.mp k1;exact(xN hc he ds xs [] [] m1 (Le.refl _) (k2.up _ (Le.refl _)) .nil acc0).sim hl
  |scr ns=>
   rw[aV.mp k1];exact(xN hc he (ns.map .int) (ns.map .int) [] [] m1 (Le.refl _) (eB ns) .nil acc0).sim hl
  |lst ds=>
   obtain⟨l,xs,rfl,_,hm,k2⟩:=aw.mp k1;simp only[c9];by_cases z:ds.length<=aF
   .rw[J7 z];have hl':=k2.len;exact(ve hm hc he ds 0 (aF+1) [] [] m1 (Le.refl _) (by simpa using (k2.up _ (Le.refl _))) (by lia) (by lia) .nil acc0).sim hl
   .rw[J8 z];exact aI.no
  |_=>exact aI.no
 |.compP k elt a b cond,R,m,de,env,q=>by
  refine(za H.r a R m de env q.left).bindO λd w m1 l1 k1=>?_;refine(za H.r b _ m1 de env (q.right.left.up (λl h=>.inl h) l1)).bindO λd' w' m2 l2 k2=>?_;have hc:∀(R':Nat->Prop) m' (p:Dat×Dat) x y,(∀l,Rf (Rf R m.length) m1.length l->R' l)->Le m2 m'->ai R' m' p.1 x->ai R' m' p.2 y->ag R' m' (af cl cond (env++[some x]++[some y]) m') (ax cd cond (de++[some p.1]++[some p.2])):=
   λR' m' d x y hR l k k'=>za H.r cond R' m' _ _ (((q.right.right.right.up (λl h=>hR l (.inl (.inl h))) ((l1.trans l2).trans l)).push k).push k')
  have he:∀(R':Nat->Prop) m' (p:Dat×Dat) x y,(∀l,Rf (Rf R m.length) m1.length l->R' l)->Le m2 m'->ai R' m' p.1 x->ai R' m' p.2 y->aI R' m' (bg lev elt) (af cl elt (env++[some x]++[some y]) m') (ax cd elt (de++[some p.1]++[some p.2])):=
   λR' m' d x y hR l k k'=>yN H elt R' m' _ _ (((q.right.right.left.up (λl h=>hR l (.inl (.inl h))) ((l1.trans l2).trans l)).push k).push k')
  have hl:∀ds,bg lev (.compP k elt a b cond) (.lst ds)=if ds.all (λx=>bg lev elt x == .full)then .full else .top:=λds=>by simp[aB]
  have acc0:cz m2 m2 (bg lev elt) [] []:=λ_=>⟨[],.nil,Qu,by simp⟩;cases e:xw k d d' with
  |none=>exact aI.no
  |some ps=>
   obtain⟨pr,hln⟩:=xL e ((k1.up _ l2).up m2.length (Le.refl _)) (k2.up m2.length (Le.refl _));exact(vf pr hc he ps 0 (aF+1) [] [] m2 (Le.refl _) (by simp) (by simp) (by lia) .nil acc0).sim hl
 |.var i,R,m,de,env,q=>(za H.r _ R m de env q).own λd=>rfl
 |.lit w,R,m,de,env,q=>(za H.r _ R m de env q).own λd=>rfl
 |.neg a,R,m,de,env,q=>(za H.r _ R m de env q).own λd=>rfl
 |.not a,R,m,de,env,q=>(za H.r _ R m de env q).own λd=>rfl
 |.and a b,R,m,de,env,q=>(za H.r _ R m de env q).own λd=>rfl
 |.or a b,R,m,de,env,q=>(za H.r _ R m de env q).own λd=>rfl
 |.cmp op a b,R,m,de,env,q=>(za H.r _ R m de env q).own λd=>rfl
 |.chain o p a b c,R,m,de,env,q=>(za H.r _ R m de env q).own λd=>rfl
 |.ife c a b,R,m,de,env,q=>(za H.r _ R m de env q).own λd=>rfl
 |.unit,R,m,de,env,q=>(za H.r _ R m de env q).own λd=>rfl
 |.isi t a,R,m,de,env,q=>(za H.r _ R m de env q).own λd=>rfl
 |.dict0,R,m,de,env,q=>⟨_,_,[m.length],rfl,Le.app m _,bH.mpr ⟨_,[],[],rfl,rfl,by simp,.nil⟩,by simp,by simp⟩
 |.dget a b,R,m,de,env,q=>(za H.r _ R m de env q).own λd=>rfl
 |.dop .get _ _ _,R,m,de,env,q=>(za H.r _ R m de env q).own λd=>rfl
 |.dop .trg _ _ _,R,m,de,env,q=>(za H.r _ R m de env q).own λd=>rfl
 |.dop .lix _ _ _,R,m,de,env,q=>(za H.r _ R m de env q).own λd=>rfl
 |.dop .lct _ _ _,R,m,de,env,q=>(za H.r _ R m de env q).own λd=>rfl
 |.idx a b,R,m,de,env,q=>(za H.r _ R m de env q).own λd=>rfl
 |.meth _ _ _,R,m,de,env,q=>(za H.r _ R m de env q).own λd=>rfl
 |.rng a b c,R,m,de,env,q=>(za H.r _ R m de env q).own λd=>rfl
set_option genInjectivity false in
inductive bS where
 |next (de:aO) (lv:List Lv)|ret (d:Dat) (l:Lv)|no
deriving Inhabited
noncomputable def Rd.bindS(r:Rd)(f:Dat->bS):bS:=match r with
 |.ok d=>f d
 |.no=>.no
noncomputable def Rd.okS(r:Rd)(f:Dat->bS):bS:=match r with
 |.ok d=>f d
 |_=>.no
noncomputable def bi:List Nat->List Lv->List Lv
 |[],lv=>lv
 |i::vs,lv=>bi vs (lv.set i .no)
noncomputable def cg(de:aO)(j:Nat)(lv:List Lv):List Lv:=match de[j]?,lv[j]? with
 |some (some (.lst _)),some .full=>lv.set j .top
 |some (some (.lst _)),some .top=>lv.set j .top
 |_,_=>lv.set j .no
noncomputable def xj(e:Ex)(de:aO)(lv:List Lv):List Lv:=match e with
 |.idx (.var j) b=>cg de j (bi (zj b) lv)
 |.dget (.var i) (.idx (.var _) (.neg (.lit _)))=>bi [i] lv
 |e=>bi (zj e) lv
mutual
noncomputable def dN:Dat->Nat
 |.lst xs=>cO xs+1
 |.dct _ xs=>cO xs+1
 |.tup xs=>cO xs+1
 |.non=>0
 |.bl _=>0
 |.int _=>0
 |.str _=>0
 |.scr _=>0
noncomputable def cO:List Dat->Nat
 |[]=>0
 |d::ds=>max (dN d) (cO ds)
end
noncomputable def yB(lv:List Lv)(j:Nat):Bool:=match lv[j]? with
 |some .top=>true
 |some .full=>true
 |_=>false
noncomputable def ip(lev:Nat->Lv)(e:Ex)(d:Dat)(j:Nat)(de:aO)(lv:List Lv):Option (aO×List Lv):=
 if yB lv j=false then none
 else if bg lev e d=.full then some (de,lv)
 else if j∈zj e then none
 else match e with
  |.var i=>if lv[i]?=some .full/\lv[j]?=some .full then some (de.set i none,lv)else some (de,(bi [i] lv).set j .top)
  |e=>some (de,(xj e de lv).set j .top)
noncomputable def zT{α:Type}(body:α->aO->List Lv->bS):List α->aO->List Lv->bS
 |[],de,lv=>.next de lv
 |x::xs,de,lv=>match body x de lv with
  |.next d1 l1=>zT body xs d1 l1
  |r=>r
noncomputable def jT(c:aO->Rd)(body:aO->List Lv->bS):Nat->aO->List Lv->bS
 |0,_,_=>.no
 |k+1,de,lv=>match c de with
  |.ok (.bl true)=>match body de lv with
   |.next d1 l1=>jT c body k d1 l1
   |r=>r
  |.ok (.bl false)=>.next de lv
  |_=>.no
noncomputable def di(d:Dat):Lv:=if aB d then .full else .no
noncomputable def dU(lev:Nat->Lv)(e:Ex)(d:Dat)(lv:List Lv):Lv:=if aB d then .full else match e with
 |.var i=>(lv[i]?).getD .no
 |.tup (.pair (.var a) (.pair (.var b) .unit))=>if a≠b/\lv[a]?=some .full/\lv[b]?=some .full then .full else .no
 |.blt .sorted (.pair (.idx (.var j) (.var _)) .unit)=>if lv[j]?=some .full then .full else .no
 |.dget (.var j) _=>if lv[j]?=some .full then .full else .no
 |e=>bg lev e d
noncomputable def qE(de:aO)(j:Nat):Option (List Dat):=match de[j]? with
 |some (some (.lst ds))=>some ds
 |_=>none
noncomputable def fm(lev:Nat->Lv)(i:Nat)(e:Ex)(d:Dat)(de:aO)(lv:List Lv):bS:=
 if bg lev e d=.full then .next (de.set i (some d)) (lv.set i .full)else .next (de.set i (some d)) ((xj e de lv).set i (bg lev e d))
noncomputable def zU(s t:Sm):Option (Nat×Nat×Ex×Ex×Ex×Ex):=match t with
 |.dput j k2 e=>match s with
  |.asg i (.dop .get (.var j2) k e0)=>if j2=j/\i≠j then some (i,j,k,e0,k2,e)else none
  |_=>none
 |_=>none
noncomputable def uG(lev:Nat->Lv)(cl:Nat->List Dat->Rd)(e:Ex)(de:aO)(lv:List Lv):bS:=match e with
  |.meth .append (.var j) (.pair e .unit)=>(ax cl e de).okS λd=>match qE de j with
   |some ds=>if ds.length<aF then match ip lev e d j de lv with
    |some (de1,lv1)=>.next (de1.set j (some (.lst (ds++[d])))) lv1
    |none=>.no
    else .no
   |none=>.no
  |.meth .reverse (.var j) .unit=>match qE de j with
   |some ds=>if yB lv j then .next (de.set j (some (.lst ds.reverse))) lv else .no
   |none=>.no
  |.meth _ _ _=>.no
  |e=>(ax cl e de).bindS λ_=>.next de lv
noncomputable def iO(lev:Nat->Lv)(cl:Nat->List Dat->Rd)(t:Nat×Nat×Ex×Ex×Ex×Ex)(de:aO)(lv:List Lv):bS:=match t with
 |(i,j,k,e0,k2,e)=>(ax cl (.dop .get (.var j) k e0) de).okS λg=>(ax cl e (de.set i (some g))).okS λd=>(ax cl k2 (de.set i (some g))).okS λq=>match de[j]?,xu q with
  |some (some (.dct ks ds)),some q=>if lv[j]?=some .full/\bg lev e d=.full/\ks.length<aF/\i<de.length then .next ((de.set j (some (.dct (xg ks q) (zK ks ds q d)))).set i none) (lv.set i .full)else .no
  |_,_=>.no
noncomputable def fg(q:List Int):Dat:=.tup (q.map Dat.int)
noncomputable def aW(lev:Nat->Lv)(cl:Nat->List Dat->Rd):Sm->aO->List Lv->bS
 |.skip,de,lv=>.next de lv
 |.seq a b,de,lv=>match zU a b with
  |some t=>iO lev cl t de lv
  |none=>match aW lev cl a de lv with
   |.next d1 l1=>aW lev cl b d1 l1
   |r=>r
 |.asg i e,de,lv=>(ax cl e de).bindS λd=>fm lev i e d de lv
 |.aug i op e,de,lv=>match de[i]? with
  |some (some (.int a))=>(ax cl e de).okS λy=>match y with
   |.int b=>(yn op (.int a) (.int b)).okS λz=>.next (de.set i (some z)) (lv.set i .full)
   |_=>.no
  |_=>.no
 |.ite c a b,de,lv=>(ax cl c de).bindS λx=>match x with
  |.bl true=>aW lev cl a de lv
  |.bl false=>aW lev cl b de lv
  |_=>.no
 |.forv i it body,de,lv=>(ax cl it de).bindS λd=>match c9 d with
  |some xs=>zT (λx de lv=>aW lev cl body (de.set i (some x)) (lv.set i (di x))) xs de (if aB d then lv else xj it de lv)
  |none=>.no
 |.while c body,de,lv=>jT (ax cl c) (aW lev cl body) 1000000 de lv
 |.ret e,de,lv=>(ax cl e de).bindS λd=>.ret d (dU lev e d lv)
 |.expr e,de,lv=>uG lev cl e de lv
 |.forZ i j a b body,de,lv=>(ax cl a de).okS λx=>(ax cl b de).okS λy=>match xw .zip x y with
  |some ps=>zT (λ(p:Dat×Dat) de lv=>aW lev cl body ((de.set i (some p.1)).set j (some p.2)) ((lv.set i (di p.1)).set j (di p.2))) ps de (bi (zj a++zj b) lv)
  |none=>.no
 |.dput j k e,de,lv=>(ax cl e de).okS λd=>(ax cl k de).okS λq=>match de[j]?,xu q with
  |some (some (.dct ks ds)),some q=>if lv[j]?=some .full/\bg lev e d=.full/\ks.length<aF then .next (de.set j (some (.dct (xg ks q) (zK ks ds q d)))) lv else .no
  |_,_=>.no
 |.forD i x body,de,lv=>match de[x]? with
  |some (some (.dct ks _))=>if ks.length<=aF then zT (λx de lv=>aW lev cl body (de.set i (some x)) (lv.set i (di x))) (ks.map fg) de (lv.set x .no)else .no
  |_=>.no
 |.never,_,_=>.no
def jU{lev:Nat->Lv}{cl:Nat->List Dat->Rd}{a b:Sm}{de:aO}{lv:List Lv}:aW lev cl (.seq a b) de lv=match zU a b with
  |some t=>iO lev cl t de lv
  |none=>match aW lev cl a de lv with
   |.next d1 l1=>aW lev cl b d1 l1
   |r=>r:=rfl
noncomputable def zu(fn:Fn)(ds:List Dat):aO:=ds.map some++Qt (fn.sz-ds.length) none
noncomputable def zy(fn:Fn)(ds:List Dat):List Lv:=ds.map di++Qt (fn.sz-ds.length) .full
noncomputable def zgn:Lv->Lv->Bool
 |_,.no=>true
 |.full,.full=>true
 |.top,.top=>true
 |_,_=>false
noncomputable def yt(l:Lv):bS->Rd
 |.next _ _=>.ok .non
 |.ret d k=>if aB d || zgn k l then .ok d else .no
 |_=>.no
noncomputable def yg(lev:Nat->Lv)(cl:Nat->List Dat->Rd)(k:Nat)(fn:Fn)(ds:List Dat):Rd:=
 if ds.length=fn.ar then yt (lev k) (aW lev cl fn.body (zu fn ds) (zy fn ds))else .no
noncomputable def kC(lev:Nat->Lv)(T:List Fn):Nat->Nat->List Dat->Rd
 |0,_,_=>.no
 |d+1,k,ds=>match T[k]? with
  |some fn=>yg lev (kC lev T d) k fn ds
  |none=>.no
noncomputable def zG(RR:Nat->Prop)(A:Nat->List Nat):Nat->Prop:=λl=>RR l/\∀i,l∉A i
structure Inv(lo:Nat)(RR:Nat->Prop)(m:Me)(de:aO)(lv:List Lv)(env:En)(A:Nat->List Nat):Prop where
 len:de.length=env.length
 lvl:lv.length=de.length
 rr:∀l,lo<=l->RR l
 lom:lo<=m.length
 slot:∀i d l,de[i]?=some (some d)->lv[i]?=some l->∃w,env[i]?=some (some w)/\bh (zG RR A) m l d w (A i)
 nd:∀i,(A i).Nodup
 dj:∀i j a,a∈A i->a∈A j->i=j
 bd:∀i a,a∈A i->lo<=a/\a<m.length
noncomputable def aZ(A:Nat->List Nat)(m:Me)(A':Nat->List Nat)(m':Me):Prop:=(∀(l:Nat) o,(∀i,l∉A i)->m[l]?=some o->(∀i,l∉A' i)/\m'[l]?=some o)/\m.length<=m'.length
def aZ.refl(A:Nat->List Nat)(m:Me):aZ A m A m:=⟨λ_ _ h k=>⟨h,k⟩,Qf _⟩
def aZ.trans{A B C:Nat->List Nat}{m m1 m2:Me}(h:aZ A m B m1)(k:aZ B m1 C m2):aZ A m C m2:=
 ⟨λl o a b=>k.1 l o (h.1 l o a b).1 (h.1 l o a b).2,Qm h.2 k.2⟩
def aZ.rep (h:aZ A m A' m')(q:ai (zG RR A) m d w):ai (zG RR A') m' d w:=
 ai.frame (λl o r z=>⟨⟨r.1,(h.1 l o r.2 z).1⟩,(h.1 l o r.2 z).2⟩) d w q
def aZ.repL (h:aZ A m A' m')(q:ae (zG RR A) m d w):ae (zG RR A') m' d w:=
 ae.frame (λl o r z=>⟨⟨r.1,(h.1 l o r.2 z).1⟩,(h.1 l o r.2 z).2⟩) d w q
def Inv.getlv (I:Inv lo RR m de lv env A){i:Nat}(h:de[i]?=some o):∃l,lv[i]?=some l:=by
 obtain⟨hi,_⟩:=Qb.mp h;exact⟨_,Qv (by rw[I.lvl];exact hi)⟩
def Inv.envR (I:Inv lo RR m de lv env A)(vs:List Nat):bM RR m vs de env:=
 ⟨I.len,λi _ d h=>by
  obtain⟨l,hl⟩:=I.getlv h;obtain⟨w,a,b⟩:=I.slot i d l h hl;exact⟨w,a,b.rep (λ_ z=>z.1) (λa ha=>I.rr a (I.bd i a ha).1)⟩⟩
def Inv.ext{lo:Nat}{RR:Nat->Prop}{m m':Me}{de:aO}{lv:List Lv}{env:En}{A:Nat->List Nat}(I:Inv lo RR m de lv env A)(h:Le m m'):Inv lo RR m' de lv env A:=
 ⟨I.len,I.lvl,I.rr,Qm I.lom h.len,λi d l a b=>by
  obtain⟨w,p,q⟩:=I.slot i d l a b;exact⟨w,p,q.frame (λl o r z=>⟨r,h l o z⟩) (λl _ o z=>h l o z)⟩,I.nd,I.dj,λi a ha=>⟨(I.bd i a ha).1,Qe (I.bd i a ha).2 h.len⟩⟩
def xO (h:Le m m'):aZ A m A m':=⟨λl o a b=>⟨a,h l o b⟩,h.len⟩
noncomputable def aG(A:Nat->List Nat)(i:Nat)(B:List Nat):Nat->List Nat:=λk=>if k=i then B else A k
def zf:aG A i B i=B:=by simp[aG]
def ze (h:k≠i):aG A i B k=A k:=by simp[aG,h]
set_option tactic.hygienic true in
def Inv.store{lo:Nat}{RR:Nat->Prop}{m m':Me}{de:aO}{lv:List Lv}{env:En}{A:Nat->List Nat}(I:Inv lo RR m de lv env A)(h:Le m m')(i:Nat){d:Dat}{l:Lv}{w:Wd}{B:List Nat}
  (q:bh (λl=>(zG RR A l\/m.length<=l)/\l∉B) m' l d w B) (nd:B.Nodup) (hB:∀b∈B,m.length<=b) :
  Inv lo RR m' (de.set i (some d)) (lv.set i l) (env.set i (some w)) (aG A i B)/\aZ A m (aG A i B) m':=by
 have hlt:=q.lt;have fr:∀(x:Nat) (o:Ob),(∀k,x∉A k)->m[x]?=some o->∀k,x∉aG A i B k:=by
  intro x o hx hm k;by_cases e:k=i
  .subst e;rw[zf];intro hb;have:=hB x hb;have:=(Qb.mp hm).1;lia
  .rw[ze e];exact hx k
 refine⟨⟨by simp[I.len],by simp[I.lvl],I.rr,Qm I.lom h.len,?_,?_,?_,?_⟩,⟨λx o hx hm=>⟨fr x o hx hm,h x o hm⟩,h.len⟩⟩
 .intro k e l' h1 h2;by_cases z:k=i
  .rw[z]at h1 h2 ⊢;rw[QC]at h1 h2;rw[J7 rfl]at h1 h2;split at h1
   .split at h2
    .next q1 q2=>
     cases h1;cases h2;refine⟨w,by rw[QC,J7 rfl,J7 (by rw[<-I.len];exact q1)],?_⟩;rw[zf];refine q.frame (λx o r hm=>⟨⟨?_,λk=>?_⟩,hm⟩) (λ_ _ _ z=>z)
     .rcases r.1 with r1|r1
      .exact r1.1
      .exact I.rr x (Qm I.lom r1)
     .by_cases e:k=i
      .subst e;rw[zf];exact r.2
      .rw[ze e];rcases r.1 with r1|r1
       .exact r1.2 k
       .intro ha;have:=(I.bd k x ha).2;lia
    .cases h2
   .cases h1
  .rw[Qo (Ne.symm z)]at h1 h2;obtain⟨w',a,b⟩:=I.slot k e l' h1 h2;refine⟨w',by rw[Qo (Ne.symm z)];exact a,?_⟩;rw[ze z];exact b.frame (λx o r hm=>⟨⟨r.1,fr x o r.2 hm⟩,h x o hm⟩) (λx _ o hm=>h x o hm)
 .intro k;by_cases e:k=i
  .subst e;rw[zf];exact nd
  .rw[ze e];exact I.nd k
 .intro k j a ha hb;by_cases e:k=i
  .subst e;rw[zf]at ha;by_cases f:j=k
   .exact f.symm
   .rw[ze f]at hb;have:=hB a ha;have:=(I.bd j a hb).2;lia
  .rw[ze e]at ha;by_cases f:j=i
   .subst f;rw[zf]at hb;have:=hB a hb;have:=(I.bd k a ha).2;lia
   .rw[ze f]at hb;exact I.dj k j a ha hb
 .intro k a ha;by_cases e:k=i
  .subst e;rw[zf]at ha;exact⟨Qm I.lom (hB a ha),hlt a ha⟩
  .rw[ze e]at ha;exact⟨(I.bd k a ha).1,Qe (I.bd k a ha).2 h.len⟩
def Inv.weak{lo:Nat}{RR:Nat->Prop}{m:Me}{de:aO}{lv:List Lv}{env:En}{A:Nat->List Nat}(I:Inv lo RR m de lv env A)(i:Nat){l:Lv}{B:List Nat}
  (hB:∀b∈B,b∈A i) (nd:B.Nodup) (q:∀d w,de[i]?=some (some d)->env[i]?=some (some w)->bh (zG RR (aG A i B)) m l d w B) :
  Inv lo RR m de (lv.set i l) env (aG A i B)/\aZ A m (aG A i B) m:=by
 have fr:∀x,(∀k,x∉A k)->∀k,x∉aG A i B k:=by
  intro x hx k;by_cases e:k=i
  .subst e;rw[zf];intro hb;exact hx _ (hB x hb)
  .rw[ze e];exact hx k
 have sub:∀k a,a∈aG A i B k->a∈A k:=by
  intro k a ha;by_cases e:k=i
  .subst e;rw[zf]at ha;exact hB a ha
  .rw[ze e]at ha;exact ha
 refine⟨⟨I.len,by simp[I.lvl],I.rr,I.lom,?_,?_,λk j a ha hb=>I.dj k j a (sub k a ha) (sub j a hb),λk a ha=>I.bd k a (sub k a ha)⟩,⟨λx o hx hm=>⟨fr x hx,hm⟩,Qf _⟩⟩
 .intro k e l' h1 h2;by_cases z:k=i
  .subst z;rw[QC,J7 rfl]at h2;split at h2
   .cases h2;obtain⟨l0,hl0⟩:=I.getlv h1;obtain⟨w,a,_⟩:=I.slot k e l0 h1 hl0;refine⟨w,a,?_⟩;rw[zf];exact q e w h1 a
   .cases h2
  .rw[Qo (Ne.symm z)]at h2;obtain⟨w',a,b⟩:=I.slot k e l' h1 h2;refine⟨w',a,?_⟩;rw[ze z];exact b.frame (λx o r hm=>⟨⟨r.1,fr x r.2⟩,hm⟩) (λx _ o hm=>hm)
 .intro k;by_cases e:k=i
  .subst e;rw[zf];exact nd
  .rw[ze e];exact I.nd k
def Inv.down{lo:Nat}{RR:Nat->Prop}{m:Me}{de:aO}{lv:List Lv}{env:En}{A:Nat->List Nat}(I:Inv lo RR m de lv env A)(i:Nat):
  Inv lo RR m de (lv.set i .no) env (aG A i [])/\aZ A m (aG A i []) m:=by
 refine I.weak i (by simp) Qu λd w h1 h2=>⟨?_,rfl⟩;obtain⟨l,hl⟩:=I.getlv h1;obtain⟨w',a,b⟩:=I.slot i d l h1 hl;rw[h2]at a;cases a;refine b.rep (λx r=>⟨r.1,λk=>?_⟩) (λx hx=>⟨I.rr x (I.bd i x hx).1,λk=>?_⟩)
 .by_cases e:k=i
  .subst e;rw[zf];simp
  .rw[ze e];exact r.2 k
 .by_cases e:k=i
  .subst e;rw[zf];simp
  .rw[ze e];intro ha;exact e (I.dj k i x ha hx)
theorem yx:∀(vs:List Nat) (lv:List Lv) (k:Nat),(bi vs lv)[k]?=if k∈vs/\k<lv.length then some .no else lv[k]?
 |[],lv,k=>by simp[bi]
 |i::vs,lv,k=>by
  unfold bi;rw[yx vs (lv.set i .no) k];rw[Wr,QC];by_cases a:k∈vs/\k<lv.length
  .rw[J7 a,J7 ⟨Qd _ a.1,a.2⟩]
  .rw[J8 a];by_cases e:i=k
   .subst e;by_cases b:i<lv.length
    .simp[b]
    .simp[b]
   .rw[J8 e];by_cases c:k∈vs
    .have:¬k<lv.length:=λz=>a ⟨c,z⟩;rw[J8 (λz=>this z.2)]
    .rw[J8 (λz=>by rcases Qj.mp z.1 with z1|z1;exact e z1.symm;exact c z1)]
theorem Inv.downs:∀(vs:List Nat) {lv:List Lv}{A:Nat->List Nat},Inv lo RR m de lv env A ->
  ∃A',Inv lo RR m de (bi vs lv) env A'/\aZ A m A' m/\(∀i∈vs,A' i=[])/\(∀i,A' i=A i\/A' i=[])/\∀i,i∉vs->A' i=A i
 |[],lv,A,I=>⟨A,I,aZ.refl A m,by simp,λi=>.inl rfl,λ_ _=>rfl⟩
 |j::vs,lv,A,I=>by
  obtain⟨I1,K1⟩:=I.down j;obtain⟨A',I2,K2,h1,h2,h3⟩:=Inv.downs vs I1;refine⟨A',I2,K1.trans K2,λi hi=>?_,λi=>?_,λi hi=>?_⟩
  .by_cases q:i∈vs
   .exact h1 i q
   .rw[h3 i q];rcases Qj.mp hi with rfl|hi
    .exact zf
    .exact J9 hi q
  .rcases h2 i with z|z
   .rw[z];by_cases e:i=j
    .subst e;right;exact zf
    .left;exact ze e
   .exact .inr z
  .have:i≠j:=λe=>hi (by rw[e];simp);rw[h3 i (λz=>hi (Qd _ z)),ze this]
theorem Inv.top (I:Inv lo RR m de lv env A)(j:Nat)(hd:de[j]?=some (some (.lst ds)))(hj:yB lv j=true):
  ∃l xs A',Inv lo RR m de (lv.set j .top) env A'/\aZ A m A' m/\A' j=[l]/\(∀i,i≠j->A' i=A i)/\env[j]?=some (some (.ref l))/\m[l]?=some (.lst xs)/\ae (zG RR A') m ds xs/\l∈A j:=by
 unfold yB at hj;obtain⟨lj,hl⟩:=I.getlv hd;obtain⟨w,a,b⟩:=I.slot j _ lj hd hl;rw[hl]at hj;have key:∃l xs,w=.ref l/\l∈A j/\m[l]?=some (.lst xs)/\ae (zG RR (aG A j [l])) m ds xs:=by
  cases lj with
  |no=>simp at hj
  |top=>
   obtain⟨es,l,xs,e,rfl,hA,hm,r⟩:=b;cases e;refine⟨l,xs,rfl,by rw[hA];simp,hm,ae.frame (λx o r z=>⟨⟨r.1,λk=>?_⟩,z⟩) _ _ r⟩;by_cases e:k=j
   .subst e;rw[zf,<-hA];exact r.2 k
   .rw[ze e];exact r.2 k
  |full=>
   obtain⟨l,xs,B,rfl,hA,hm,r⟩:=bc.mp b;refine⟨l,xs,rfl,by rw[hA];simp,hm,au.rep ds xs B (λx hx=>⟨I.rr x (I.bd j x (by rw[hA];exact Qd _ hx)).1,λk=>?_⟩) r⟩;have nd:=I.nd j;rw[hA]at nd;by_cases e:k=j
   .subst e;rw[zf];intro z;rw[QK.mp z]at hx;exact(Qw.mp nd).1 hx
   .rw[ze e];intro z;exact e (I.dj k j x z (by rw[hA];exact Qd _ hx))
 obtain⟨l,xs,rfl,hA,hm,r⟩:=key;obtain⟨I',K⟩:=I.weak j (l:=.top) (B:=[l]) (by intro b hb;rw[QK.mp hb];exact hA) (by simp) λd w h1 h2=>by
  rw[hd]at h1;cases h1;rw[a]at h2;cases h2;exact⟨ds,l,xs,rfl,rfl,rfl,hm,r⟩
 exact⟨l,xs,_,I',K,zf,λi hi=>ze hi,a,hm,r,hA⟩
def yk {m:Me}(h:l≠x):(m.set l o)[x]?=m[x]?:=Qo h
def yH {m:Me}(h:m[l]?=some p):(m.set l o)[l]?=some o:=by
 rw[QC,J7 rfl,J7 (Qb.mp h).1]
def Inv.putO{lo:Nat}{RR:Nat->Prop}{m m1:Me}{de:aO}{lv:List Lv}{env:En}{A:Nat->List Nat}(I:Inv lo RR m de lv env A)(le:Le m m1){j l:Nat}{ob:Ob}(hl:l∈A j)(A1:Nat->List Nat)
  (h3:∀k a,a∈A1 k->(∃k',a∈A k')\/m.length<=a) (nd1:∀k,(A1 k).Nodup) (dj1:∀i k a,a∈A1 i->a∈A1 k->i=k) (bd1:∀k a,a∈A1 k->lo<=a/\a<m1.length)
  {de1:aO}{lv1:List Lv}(len1:de1.length=de.length) (lvl1:lv1.length=lv.length)
  (live:∀k d lk,k≠j->de1[k]?=some (some d)->lv1[k]?=some lk->de[k]?=some (some d)/\lv[k]?=some lk/\A1 k=A k)
  (sj:∀d lj,de1[j]?=some (some d)->lv1[j]?=some lj->∃w,env[j]?=some (some w)/\bh (zG RR A1) (m1.set l ob) lj d w (A1 j)) :
  Inv lo RR (m1.set l ob) de1 lv1 env A1/\aZ A m A1 (m1.set l ob):=by
 have fr:∀(x:Nat) (o:Ob),(∀k,x∉A k)->m[x]?=some o->(∀k,x∉A1 k)/\(m1.set l ob)[x]?=some o:=by
  intro x o hx hm;refine⟨λk ha=>?_,?_⟩
  .rcases h3 k x ha with⟨k',z⟩|z
   .exact hx k' z
   .have:=(Qb.mp hm).1;lia
  .rw[yk (l:=l) (x:=x) (λe=>hx j (by rw[<-e];exact hl))];exact le x o hm
 refine⟨⟨len1.trans I.len,by rw[lvl1,I.lvl,len1],I.rr,by rw[Wr];exact Qm I.lom le.len,?_,nd1,dj1,λk a ha=>by rw[Wr];exact bd1 k a ha⟩,⟨λx o hx hm=>fr x o hx hm,by rw[Wr];exact le.len⟩⟩;intro k d lk h1 h2;by_cases e:k=j
 .subst e;exact sj d lk h1 h2
 .obtain ⟨a,b,c⟩:=live k d lk e h1 h2;obtain⟨w,p,q⟩:=I.slot k d lk a b;refine⟨w,p,?_⟩;rw[c];refine q.frame (λx o r hm=>⟨⟨r.1,(fr x o r.2 hm).1⟩,(fr x o r.2 hm).2⟩) (λx hx o hm=>?_);rw[yk (l:=l) (x:=x) (λz=>e (I.dj k j x hx (by rw[<-z];exact hl)))];exact le x o hm
def Inv.put{lo:Nat}{RR:Nat->Prop}{m m1:Me}{de:aO}{lv:List Lv}{env:En}{A:Nat->List Nat}(I:Inv lo RR m de lv env A)(le:Le m m1){j l:Nat}{xs ys:List Wd}(hl:l∈A j)(A1:Nat->List Nat)
  (h3:∀k a,a∈A1 k->(∃k',a∈A k')\/m.length<=a) (nd1:∀k,(A1 k).Nodup) (dj1:∀i k a,a∈A1 i->a∈A1 k->i=k) (bd1:∀k a,a∈A1 k->lo<=a/\a<m1.length)
  {de1:aO}{lv1:List Lv}(len1:de1.length=de.length) (lvl1:lv1.length=lv.length)
  (live:∀k d lk,k≠j->de1[k]?=some (some d)->lv1[k]?=some lk->de[k]?=some (some d)/\lv[k]?=some lk/\A1 k=A k)
  (sj:∀d lj,de1[j]?=some (some d)->lv1[j]?=some lj->∃w,env[j]?=some (some w)/\bh (zG RR A1) (m1.set l (.lst ys)) lj d w (A1 j)) :
  Inv lo RR (m1.set l (.lst ys)) de1 lv1 env A1/\aZ A m A1 (m1.set l (.lst ys)):=I.putO le hl A1 h3 nd1 dj1 bd1 len1 lvl1 live sj
noncomputable def pk(m m1:Me)(ds:List Dat)(xs:List Wd)(ds':List Dat)(ys:List Wd):Prop:=
 ∀B,B.Nodup->au m ds xs B->∃B',au m1 ds' ys B'/\B'.Nodup/\∀b∈B',b∈B\/m.length<=b
noncomputable def oQ(RR:Nat->Prop)(A:Nat->List Nat)(m m1:Me)(ds:List Dat)(xs:List Wd)(ds':List Dat)(ys:List Wd):Prop:=
 ae (zG RR A) m ds xs->ae (λx=>zG RR A x\/m.length<=x) m1 ds' ys
noncomputable def fZ(RR:Nat->Prop)(A:Nat->List Nat)(m m1:Me)(ds:List Dat)(xs:List Wd)(ds':List Dat)(ys:List Wd):Prop:=
 (∀B,B.Nodup->au m ds xs B->∃B',au m1 ds' ys B'/\B'.Nodup/\∀b∈B',b∈B\/m.length<=b)/\(ae (zG RR A) m ds xs->ae (λx=>zG RR A x\/m.length<=x) m1 ds' ys)
def Inv.mut (I:Inv lo RR m de lv env A)(hd:de[j]?=some (some (.lst ds)))(hj:yB lv j=true):
  ∃l xs,env[j]?=some (some (.ref l))/\m[l]?=some (.lst xs)/\ae RR m ds xs/\∀(m1:Me) (ds':List Dat) (ys:List Wd),Le m m1->(lv[j]?=some .full->pk m m1 ds xs ds' ys)->(lv[j]?=some .top->oQ RR A m m1 ds xs ds' ys) ->
   ∃A1,Inv lo RR (m1.set l (.lst ys)) (de.set j (some (.lst ds'))) lv env A1/\aZ A m A1 (m1.set l (.lst ys)):=by
 unfold yB at hj;obtain⟨lj,hl⟩:=I.getlv hd;obtain⟨w,a,b⟩:=I.slot j _ lj hd hl;rw[hl]at hj;have hjl:j<de.length:=(Qb.mp hd).1;have live:∀(A1:Nat->List Nat),(∀k,k≠j->A1 k=A k)->∀(ds':List Dat) k d lk,k≠j->(de.set j (some (.lst ds')))[k]?=some (some d)->lv[k]?=some lk->de[k]?=some (some d)/\lv[k]?=some lk/\A1 k=A k:=by
  intro A1 h ds' k d lk e h1 h2;rw[Qo (Ne.symm e)]at h1;exact⟨h1,h2,h k e⟩
 cases lj with
 |no=>simp at hj
 |top=>
  obtain⟨es,l,xs,e,rfl,hA,hm,r⟩:=b;cases e;refine⟨l,xs,a,hm,ae.frame (λ_ _ r z=>⟨r.1,z⟩) _ _ r,λm1 ds' ys le _ c=>⟨A,?_⟩⟩;have hlm:=(Qb.mp hm).1;refine I.put le (j:=j) (l:=l) (xs:=xs) (by rw[hA];simp) A (λk a ha=>.inl ⟨k,ha⟩) I.nd I.dj (λk a ha=>⟨(I.bd k a ha).1,Qe (I.bd k a ha).2 le.len⟩) (by simp) rfl (live A (λ_ _=>rfl) ds') ?_;intro d lj h1 h2;rw[QC,J7 rfl,J7 hjl]at h1;cases h1;rw[hl]at h2;cases h2;refine⟨_,a,ds',l,ys,rfl,rfl,hA,yH (le l _ hm),ae.frame (λx o r z=>?_) _ _ (c hl r)⟩;rcases r with r|r
  .exact ⟨r,by rw[yk (l:=l) (x:=x) (λe=>r.2 j (by rw[hA,e];simp))];exact z⟩
  .exact ⟨⟨I.rr x (Qm I.lom r),λk hk=>by have:=(I.bd k x hk).2;lia⟩,by rw[yk (l:=l) (x:=x) (by lia)];exact z⟩
 |full=>
  obtain⟨l,xs,B,rfl,hA,hm,r⟩:=bc.mp b;have hlm:=(Qb.mp hm).1;have nd:=I.nd j;rw[hA]at nd;refine⟨l,xs,a,hm,au.rep ds xs B (λx hx=>I.rr x (I.bd j x (by rw[hA];exact Qd _ hx)).1) r,λm1 ds' ys le c _=>?_⟩;obtain⟨B',o,nb,hB⟩:=c hl B (Qw.mp nd).2 r;have hlB:l∉B':=λz=>by
   rcases hB l z with z|z
   .exact (Qw.mp nd).1 z
   .lia
  have sub:∀x∈l::B',x∈A j\/m.length<=x:=by
   intro x hx;rcases Qj.mp hx with rfl|hx
   .left;rw[hA];simp
   .rcases hB x hx with z|z
    .left;rw[hA];exact Qd _ z
    .exact .inr z
  refine⟨aG A j (l::B'),?_⟩;refine I.put le (j:=j) (l:=l) (xs:=xs) (by rw[hA];simp) _ ?_ ?_ ?_ ?_ (by simp) rfl (live _ (λk hk=>ze hk) ds') ?_
  .intro k x hx;by_cases e:k=j
   .subst e;rw[zf]at hx;rcases sub x hx with z|z
    .exact .inl ⟨k,z⟩
    .exact .inr z
   .rw[ze e]at hx;exact .inl ⟨k,hx⟩
  .intro k;by_cases e:k=j
   .subst e;rw[zf];exact Qw.mpr ⟨hlB,nb⟩
   .rw[ze e];exact I.nd k
  .intro i k x h1 h2;by_cases e:i=j
   .by_cases f:k=j
    .rw[e,f]
    .rw[e,zf]at h1;rw[ze f]at h2;rcases sub x h1 with z|z
     .rw[e];exact I.dj j k x z h2
     .have:=(I.bd k x h2).2;lia
   .rw[ze e]at h1;by_cases f:k=j
    .rw[f,zf]at h2;rcases sub x h2 with z|z
     .rw[f];exact I.dj i j x h1 z
     .have:=(I.bd i x h1).2;lia
    .rw[ze f]at h2;exact I.dj i k x h1 h2
  .intro k x hx;by_cases e:k=j
   .rw[e,zf]at hx;rcases Qj.mp hx with rfl|hx
    .exact ⟨(I.bd j _ (by rw[hA];simp)).1,Qe hlm le.len⟩
    .refine ⟨?_,au.lt ds' ys B' o x hx⟩;rcases hB x hx with z|z
     .exact (I.bd j x (by rw[hA];exact Qd _ z)).1
     .exact Qm I.lom z
   .rw[ze e]at hx;exact⟨(I.bd k x hx).1,Qe (I.bd k x hx).2 le.len⟩
  .intro d lj h1 h2;rw[QC,J7 rfl,J7 hjl]at h1;cases h1;rw[hl]at h2;cases h2;refine⟨_,a,?_⟩;rw[zf];exact bc.mpr ⟨l,ys,B',rfl,rfl,yH (le l _ hm),au.frame ds' ys B' (λx hx o z=>by rw[yk (l:=l) (x:=x) (λe=>hlB (by rw[e];exact hx))];exact z) o⟩
theorem au.item:∀{ds:List Dat}{xs:List Wd}{A:List Nat}{p:Nat}{d:Dat},au m ds xs A->ds[p]?=some d->∃x B,(xs[p]?=some x/\aX m d x B)/\∀b∈B,b∈A
 |[],xs,A,p,d,h,z=>by simp at z
 |e::ds,xs,A,0,d,h,z=>by
  obtain⟨x,r,B,C,rfl,rfl,a,b⟩:=h.cons_inv;simp at z;subst z;exact⟨x,B,⟨rfl,a⟩,λb hb=>QL _ hb⟩
 |e::ds,xs,A,p+1,d,h,z=>by
  obtain⟨x,r,B,C,rfl,rfl,a,b⟩:=h.cons_inv;obtain⟨y,D,h1,h2⟩:=au.item b (by simpa using z);exact⟨y,D,by simpa using h1,λb hb=>Qn _ (h2 b hb)⟩
theorem au.split:∀{ds:List Dat}{xs:List Wd}{A:List Nat}{p:Nat}{d:Dat},au m ds xs A->ds[p]?=some d ->
  ∃x B1 Bp B2,xs[p]?=some x/\A=B1++(Bp++B2)/\aX m d x Bp/\(∀(i:Nat) e y,i≠p->ds[i]?=some e->xs[i]?=some y->∃Bi,aX m e y Bi/\∀b∈Bi,b∈B1\/b∈B2)/\∀(m':Me) (d':Dat) (x':Wd) (B':List Nat),(∀l,l∈B1\/l∈B2->∀o,m[l]?=some o->m'[l]?=some o)->aX m' d' x' B'->au m' (ds.set p d') (xs.set p x') (B1++(B'++B2))
 |[],xs,A,p,d,h,z=>by simp at z
 |e::ds,xs,A,0,d,h,z=>by
  obtain⟨x,r,B,C,rfl,rfl,a,b⟩:=h.cons_inv;simp at z;subst z;refine⟨x,[],B,C,rfl,rfl,a,λi e y hi h1 h2=>?_,λm' d' x' B' fr o=>?_⟩
  .cases i with
   |zero=>exact J9 rfl hi
   |succ i=>
    simp at h1 h2;obtain⟨y',Bi,o,hB⟩:=au.item b h1;rw[h2]at o;obtain⟨o1,o2⟩:=o;cases o1;exact⟨Bi,o2,λz hz=>.inr (hB z hz)⟩
  show au m' (d'::ds) (x'::r) (B'++C);exact au.cons o (au.frame ds r C (λl hl=>fr l (.inr hl)) b)
 |e::ds,xs,A,p+1,d,h,z=>by
  obtain⟨x,r,B,C,rfl,rfl,a,b⟩:=h.cons_inv;obtain⟨y,B1,Bp,B2,h1,rfl,h3,h5,h4⟩:=au.split b (by simpa using z);refine⟨y,B++B1,Bp,B2,by simpa using h1,by simp[Wy],h3,λi e' y' hi g1 g2=>?_,λm' d' x' B' fr o=>?_⟩
  .cases i with
   |zero=>simp at g1 g2;subst g1;subst g2;exact⟨B,a,λz hz=>.inl (QL _ hz)⟩
   |succ i=>
    simp at g1 g2;obtain⟨Bi,o,hB⟩:=h5 i e' y' (by lia) g1 g2;exact⟨Bi,o,λz hz=>by rcases hB z hz with q|q;exact .inl (Qn _ q);exact .inr q⟩
  rw[Wy];exact au.cons (aX.frame e x B (λl hl=>fr l (.inl (QL _ hl))) a) (h4 m' d' x' B' (λl hl=>fr l (by rcases hl with hl|hl;exact .inl (Qn _ hl);exact .inr hl)) o)
def se (le:Le m m1)(o:aX m1 d w B0)(nd:B0.Nodup)(hB:∀b∈B0,m.length<=b):fZ RR A m m1 ds xs (ds++[d]) (xs++[w]):=by
 refine⟨λB nb q=>⟨B++(B0++[]),(au.frame ds xs B (λl _ o z=>le l o z) q).app (.cons o .nil),?_,?_⟩,λq=>?_⟩
 .rw[QS];refine QB.mpr ⟨nb,nd,λx hx y hy e=>?_⟩;have:=au.lt ds xs B q x hx;have:=hB y hy;lia
 .intro b hb;rw[QS]at hb;rcases QN.mp hb with z|z
  .exact .inl z
  .exact .inr (hB b z)
 .exact (ae.frame (λl o r z=>⟨.inl r,le l o z⟩) _ _ q).app (.cons (aX.rep d w B0 (λb hb=>.inr (hB b hb)) o) .nil)
def BM (p:Nat)(le:Le m m1)(o:aX m1 d w B0)(nd:B0.Nodup)(hB:∀b∈B0,m.length<=b):fZ RR A m m1 ds xs (ds.set p d) (xs.set p w):=by
 refine⟨λB nb q=>?_,λq=>?_⟩
 .cases hp:ds[p]? with
  |none=>
   have h1:ds.length<=p:=QR.mp hp;rw[W9 h1,W9 (by rw[<-q.len];exact h1)];exact⟨B,au.frame ds xs B (λl _ o z=>le l o z) q,nb,λb hb=>.inl hb⟩
  |some e=>
   obtain⟨y,B1,Bp,B2,h1,rfl,h3,_,h4⟩:=au.split q hp;refine⟨B1++(B0++B2),h4 m1 d w B0 (λl _ o z=>le l o z) o,?_,?_⟩
   .have hlt:=au.lt ds xs _ q;rw[QB]at nb ⊢;obtain⟨n1,n2,n3⟩:=nb;rw[QB]at n2 ⊢;obtain⟨n4,n5,n6⟩:=n2;refine⟨n1,⟨nd,n5,λx hx y hy e=>?_⟩,λx hx y hy e=>?_⟩
    .have:=hB x hx;have:=hlt y (by simp[hy]);lia
    .rcases QN.mp hy with hy|hy
     .have:=hB y hy;have:=hlt x (by simp[hx]);lia
     .exact n3 x hx y (Qn _ hy) e
   .intro b hb;simp only[QN]at hb ⊢;rcases hb with z|z|z
    .exact .inl (.inl z)
    .exact .inr (hB b z)
    .exact .inl (.inr (.inr z))
 .exact (ae.frame (λl o r z=>⟨.inl r,le l o z⟩) _ _ q).set p (aX.rep d w B0 (λb hb=>.inr (hB b hb)) o)
theorem au.rev:∀{ds:List Dat}{xs:List Wd}{A:List Nat},A.Nodup->au m ds xs A->∃B,au m ds.reverse xs.reverse B/\B.Nodup/\∀b∈B,b∈A
 |[],xs,A,nd,h=>by rw[h.nil_inv.1];exact⟨[],.nil,Qu,by simp⟩
 |d::ds,xs,A,nd,h=>by
  obtain⟨x,r,B,C,rfl,rfl,a,b⟩:=h.cons_inv;obtain⟨n1,n2,n3⟩:=QB.mp nd;obtain⟨D,o,nD,hD⟩:=au.rev n2 b;rw[Q5,Q5];refine⟨D++(B++[]),o.app (.cons a .nil),?_,?_⟩
  .rw[QS];exact QB.mpr ⟨nD,n1,λx hx y hy e=>n3 y hy x (hD x hx) e.symm⟩
  .intro b hb;simp only[QS,QN]at hb ⊢;rcases hb with z|z
   .exact .inr (hD b z)
   .exact .inl z
def dA:fZ RR A m m ds xs ds.reverse xs.reverse:=by
 refine⟨λB nb q=>?_,λq=>(ae.frame (λl o r z=>⟨.inl r,z⟩) _ _ q).rev⟩;obtain⟨D,o,nD,hD⟩:=au.rev nb q;exact⟨D,o,nD,λb hb=>.inl (hD b hb)⟩
def DT (h:ae R m ds xs)(hm:m[l]?=some (.lst xs))(b:ai R m e y):ag R m (xY (.ref l) y m) (wm (.lst ds) e):=by
 cases e with
 |int i=>
  rw[aa.mp b];simp only[wm,xY,xa,yD,zn,hm];cases z:(ix ds.length i).bind λj=>ds[j]? with
  |none=>exact ag.no
  |some v=>
   obtain⟨j,h1,h2⟩:=QE.mp z;obtain⟨x,h3,p⟩:=h.get h2;rw[h.len]at h1;simp only[h1,QQ,h3];exact cQ p
 |_=>exact ag.no
def xP (I:Inv lo RR m de lv env A)(h:∀i∈vs,∀l,lv[i]?=some l->l=.no):bM (zG RR A) m vs de env:=
 ⟨I.len,λi hi d hd=>by
  obtain⟨l,hl⟩:=I.getlv hd;obtain⟨w,a,b⟩:=I.slot i d l hd hl;rw[h i hi l hl]at b;exact⟨w,a,b.1⟩⟩
def sd (de:aO)(j:Nat)(lv:List Lv)(h:k≠j):(cg de j lv)[k]?=lv[k]?:=by
 have q:∃l,cg de j lv=lv.set j l:=by
  unfold cg;generalize de[j]?=p;generalize lv[j]?=q;cases p with
  |none=>exact⟨_,rfl⟩
  |some o=>
   cases o with
   |none=>exact⟨_,rfl⟩
   |some d=>
    cases d with
    |lst ds=>
     cases q with
     |none=>exact⟨_,rfl⟩
     |some l=>cases l<;>exact⟨_,rfl⟩
    |_=>exact⟨_,rfl⟩
 obtain⟨l,e⟩:=q;rw[e];exact Qo (Ne.symm h)
def r9 (q:¬ ∃j i w,o=.var j/\b=.idx (.var i) (.neg (.lit w))):xj (.dget o b) de lv=bi (zj (.dget o b)) lv:=by
 cases o with
 |var j=>
  cases b with
  |idx x y=>
   cases x with
   |var i=>
    cases y with
    |neg z=>
     cases z with
     |lit w=>exact J9 ⟨_,_,_,rfl,rfl⟩ q
     |_=>rfl
    |_=>rfl
   |_=>rfl
  |_=>rfl
 |_=>rfl
set_option tactic.hygienic true in
def BL (e:Ex)(de:aO)(lv:List Lv)(h:k∉zj e):(xj e de lv)[k]?=lv[k]?:=by
 have gen:∀vs,k∉vs->(bi vs lv)[k]?=lv[k]?:=λvs h=>by rw[yx,J8 (λz=>h z.1)]
 cases e with
 |idx o b=>
  cases o with
  |var j=>
   replace h:k∉j::zj b:=h
   rw[Qj,not_or]at h;show(cg de j (bi (zj b) lv))[k]?=_;rw[sd _ _ _ h.1,gen _ h.2]
  |_=>exact gen _ h
 |dget o b=>
  by_cases q:∃j i w,o=.var j/\b=.idx (.var i) (.neg (.lit w))
  .obtain ⟨j,i,w,rfl,rfl⟩:=q;exact gen [j] (by
    replace h:k∉j::zj (.idx (.var i) (.neg (.lit w))):=h
    rw[Qj,not_or]at h;simpa using h.1)
  .rw[r9 q];exact gen _ h
 |_=>exact gen _ h
set_option tactic.hygienic true in
def Inv.topD (I:Inv lo RR m de lv env A)(j:Nat):
  ∃A',Inv lo RR m de (cg de j lv) env A'/\aZ A m A' m/\(∀i,i≠j->A' i=A i)/\((∃ds l xs,de[j]?=some (some (.lst ds))/\A' j=[l]/\env[j]?=some (some (.ref l))/\m[l]?=some (.lst xs)/\ae (zG RR A') m ds xs)\/((Vl.cg de j lv)[j]?=some .no\/lv.length<=j)):=by
 by_cases h:(∃ds,de[j]?=some (some (.lst ds)))/\yB lv j=true
 .obtain ⟨⟨ds,hd⟩,ho⟩:=h;obtain⟨l,xs,A',I',K,h1,h2,h3,h4,h5,_⟩:=I.top j hd ho;have:Vl.cg de j lv=lv.set j .top:=by
   unfold Vl.cg;rw[hd];unfold yB at ho;cases z:lv[j]? with
   |none=>rw[z]at ho;simp at ho
   |some l=>rw[z]at ho;cases l<;>simp at ho ⊢
  rw[this];exact⟨A',I',K,h2,.inl ⟨ds,l,xs,hd,h1,h3,h4,h5⟩⟩
 .obtain ⟨I',K⟩:=I.down j;have:Vl.cg de j lv=lv.set j .no:=by
   unfold Vl.cg;split
   .next ds hd hl=>exact J9 ⟨⟨ds,hd⟩,by unfold yB;rw[hl]⟩ h
   .next ds hd hl=>exact J9 ⟨⟨ds,hd⟩,by unfold yB;rw[hl]⟩ h
   .rfl
  rw[this];refine⟨_,I',K,λi hi=>ze hi,.inr ?_⟩;by_cases z:j<lv.length
  .left;rw[QC,J7 rfl,J7 z]
  .right;lia
set_option tactic.hygienic true in
def Inv.relEv (H:bx lev cl cd)(I:Inv lo RR m de lv env A)(e:Ex):
  ∃A',Inv lo RR m de (xj e de lv) env A'/\aZ A m A' m/\(∀k,k∉zj e->A' k=A k)/\aI (zG RR A') m (bg lev e) (af cl e env m) (ax cd e de):=by
 have gen:xj e de lv=Vl.bi (zj e) lv->∃A',Inv lo RR m de (xj e de lv) env A'/\aZ A m A' m/\(∀k,k∉zj e->A' k=A k)/\aI (zG RR A') m (bg lev e) (af cl e env m) (ax cd e de):=by
  intro h;rw[h];obtain⟨A',I',K,h1,_,h3⟩:=Inv.downs (zj e) I;refine⟨A',I',K,h3,yN H e _ m de env (xP I' λi hi l hl=>?_)⟩;rw[yx]at hl;split at hl
  .cases hl;rfl
  .next z=>rw[Qz (by have:¬i<lv.length:=λq=>z ⟨hi,q⟩;lia)]at hl;cases hl
 cases e with
 |dget a b=>
  by_cases q:∃j i w,a=.var j/\b=.idx (.var i) (.neg (.lit w))
  .obtain ⟨j,i0,w0,rfl,rfl⟩:=q;show ∃A',Inv lo RR m de (Vl.bi [j] lv) env A'/\_;obtain⟨A1,I1,K1,h1,_,h3⟩:=Inv.downs [j] I;refine⟨A1,I1,K1,λk hk=>h3 k (λz=>hk (by
    have z:k=j:=by simpa using z
    subst z;show k∈k::zj (.idx (.var i0) (.neg (.lit w0)))
    simp)),ag.own ?_ (λd=>rfl)⟩
   show ag _ m ((af cl (.var j) env m).bind λx m1=>(af cl (.idx (.var i0) (.neg (.lit w0))) env m1).bind λy m2=>vS x y m2) ((ax cd (.var j) de).bind λx=>(ax cd (.idx (.var i0) (.neg (.lit w0))) de).bind λy=>ky x y);refine(za H.r (.var j) _ m de env (xP I1 λi hi l hl=>?_)).bind λd w m1 l1 r1=>?_
   .have hi:i=j:=by simpa using hi
    subst hi;rw[yx]at hl;split at hl
    .cases hl;rfl
    .next z=>rw[Qz (by have:¬i<lv.length:=λq=>z ⟨by simp,q⟩;lia)]at hl;cases hl
   .have hb:=za H.r (.idx (.var i0) (.neg (.lit w0))) RR m1 de env ((I1.ext l1).envR _);cases z2:ax cd (.idx (.var i0) (.neg (.lit w0))) de with
    |no=>trivial
    |ok d2=>
     rw[z2]at hb;obtain⟨w2,m2,e2,l2,r2⟩:=hb;rw[e2];cases hk:xu d2 with
     |none=>
      have:ky d d2=.no:=by
       cases d with
       |dct ks ds=>show(match (xu d2).bind (b9 ks ds)with|some v=>Rd.ok v|none=>.no)=_;rw[hk];rfl
       |_=>rfl
      show ag _ _ _ (ky d d2);rw[this];trivial
     |some k=>
      have fl:aB d2=true:=by
       cases d2 with
       |tup ds=>
        have hk:ym ds=some k:=hk;show aU ds=true;clear r2 z2
        induction ds generalizing k with
        |nil=>rfl
        |cons x r ih=>
         cases x with
         |int i=>
          obtain⟨k',e,rfl⟩:=QH.mp (show(ym r).map (i::·)=some k from hk);show(aB (.int i)&&aU r)=true;rw[ih _ e e];rfl
         |_=>cases hk
       |_=>cases hk
      have r3:ai (λ_=>False) m2 d2 w2:=aX.rep d2 w2 [] (by simp) (ai.flat (m':=m2) d2 w2 fl r2);exact ag.lift l2 (gT (ai.frame (λl o r z=>⟨.inl r,l2 l o z⟩) _ _ r1) (ai.frame (λl o r z=>⟨.inl (by cases r),z⟩) _ _ r3))
  .exact gen (r9 q)
 |idx a b=>
  cases a with
  |var j=>
   show ∃A',Inv lo RR m de (Vl.cg de j (Vl.bi (zj b) lv)) env A'/\_;obtain⟨A1,I1,K1,h1,h2,h3⟩:=Inv.downs (zj b) I;obtain⟨A2,I2,K2,g1,g2⟩:=I1.topD j;have hne:∀k,k∉zj (.idx (.var j) b)->A2 k=A k:=by
    intro k hk
    replace hk:k∉j::zj b:=hk
    rw[Qj,not_or]at hk;rw[g1 k hk.1,h3 k hk.2]
   refine⟨A2,I2,K1.trans K2,hne,?_⟩;have lvno:∀i,i∈zj b->i≠j->∀l,(Vl.cg de j (Vl.bi (zj b) lv))[i]?=some l->l=.no:=by
    intro i hi hij l hl;rw[sd _ _ _ hij,yx]at hl;split at hl
    .cases hl;rfl
    .next z=>rw[Qz (by have:¬i<lv.length:=λq=>z ⟨hi,q⟩;lia)]at hl;cases hl
   rcases g2 with⟨ds,l,xs,hd,hA,he,hm,hr⟩|g2
   .have hjb:j∉zj b:=λz=>by
     have h0:=h1 j z;have hx:l∈A1 j:=by
      have i1:=I1;by_cases q:l∈A1 j
      .exact q
      .exfalso;have:=(K2.1 l _ (λk hk=>?_) hm).1 j
       .rw[hA]at this;exact this (by simp)
       .by_cases ek:k=j
        .rw[ek]at hk;exact q hk
        .have e1:=g1 k ek;rw[<-e1]at hk;exact ek (I2.dj k j l hk (by rw[hA];simp))
     rw[h0]at hx;cases hx
    refine ag.own ?_ (λd=>rfl);show ag _ m ((af cl (.var j) env m).bind λx m1=>(af cl b env m1).bind λy m2=>xY x y m2) ((ax cd (.var j) de).bind λx=>(ax cd b de).bind λy=>wm x y);have e1:af cl (.var j) env m=.ok (.ref l) m:=wG he m;have e2:ax cd (.var j) de=.ok (.lst ds):=xx hd;rw[e1,e2];simp only[Rz.bind,Rd.bind];refine(za H.r b _ m de env (xP I2 λi hi=>lvno i hi (λe=>hjb (by rw[<-e];exact hi)))).bind λd2 w2 m2 l2 k2=>?_;exact DT (hr.up _ l2) (l2 l _ hm) k2
   .refine yN H _ _ m de env (xP I2 λi hi l hl=>?_)
    replace hi:i∈j::zj b:=hi
    rw[Qj]at hi;by_cases e:i=j
    .rw[e]at hl;rcases g2 with g2|g2
     .rw[g2]at hl;cases hl;rfl
     .have:(Vl.cg de j (Vl.bi (zj b) lv)).length=(Vl.bi (zj b) lv).length:=by rw[I2.lvl,I1.lvl]
      rw[Qz (by lia)]at hl;cases hl
    .rcases hi with z|z
     .exact J9 z e
     .exact lvno i z e l hl
  |_=>exact gen rfl
 |_=>exact gen rfl
noncomputable def aD(lo:Nat)(RR:Nat->Prop)(A:Nat->List Nat)(m:Me)(r:Rs)(rd:bS):Prop:=match rd with
 |.next de lv=>∃env m' A',r=.next env m'/\Inv lo RR m' de lv env A'/\aZ A m A' m'
 |.ret d l=>∃w m' B,r=.ret w m'/\((∀(x:Nat) o,(∀i,x∉A i)->m[x]?=some o->m'[x]?=some o)/\m.length<=m'.length)/\bh (λx=>RR x/\x∉B) m' l d w B/\B.Nodup/\∀b∈B,lo<=b
 |.no=>True
set_option tactic.hygienic true in
def aD.keep{lo:Nat}{RR:Nat->Prop}{A A1:Nat->List Nat}{m m1:Me}{r:Rs}{rd:bS}(K:aZ A m A1 m1)(h:aD lo RR A1 m1 r rd):aD lo RR A m r rd:=by
 cases rd with
 |next de lv=>obtain⟨e,m',A',h,I,k⟩:=h;exact⟨e,m',A',h,I,K.trans k⟩
 |ret d l=>obtain⟨w,m',B,h,k,z⟩:=h;exact⟨w,m',B,h,⟨λx o a b=>k.1 x o (K.1 x o a b).1 (K.1 x o a b).2,Qm K.2 k.2⟩,z⟩
 |no=>trivial
def Inv.rf (I:Inv lo RR m de lv env A)(h:ai (Rf RR m.length) m' d w):ai RR m' d w:=
 ai.frame (λx o r z=>⟨by rcases r with r|r;exact r;exact I.rr x (Qm I.lom r),z⟩) d w h
def Inv.bindE (H:bv cl cd)(I:Inv lo RR m de lv env A)(e:Ex)(k:∀d w m1,ax cd e de=.ok d->af cl e env m=.ok w m1->Le m m1->ai RR m1 d w->aD lo RR A m1 (f w m1) (g d)):aD lo RR A m ((af cl e env m).bindS env f) ((ax cd e de).bindS g):=by
 have h:=za H e RR m de env (I.envR _);cases z:ax cd e de with
 |no=>trivial
 |ok d=>
  rw[z]at h;obtain⟨w,m',h,l,r⟩:=h;have:=k d w m' z h l (I.rf r);rw[h];exact aD.keep (xO l) this
def Inv.own (H:bx lev cl cd)(I:Inv lo RR m de lv env A)(h1:ax cd e de=.ok d)(h2:af cl e env m=.ok w m1):
  ∃B,bh (λx=>RR x/\x∉B) m1 (bg lev e d) d w B/\B.Nodup/\∀b∈B,m.length<=b:=by
 have h:=yN H e RR m de env (I.envR _);rw[h1]at h;obtain⟨w',m',B,h3,l,r,nd,hB⟩:=h;rw[h2]at h3;cases h3;exact⟨B,r.frame (λx o r z=>⟨⟨by rcases r.1 with r|r;exact r;exact I.rr x (Qm I.lom r),r.2⟩,z⟩) (λ_ _ _ z=>z),nd,hB⟩
section
variable{lev:Nat->Lv}{cl:Nat->List Wd->Me->Rz}{cd:Nat->List Dat->Rd}{lo:Nat}{RR:Nat->Prop}{m:Me}{de:aO}{lv:List Lv}{env:En}{A:Nat->List Nat}
set_option tactic.hygienic true in
def jV (h:qE de j=some ds):de[j]?=some (some (.lst ds)):=by
 unfold qE at h;split at h
 .next z=>cases h;exact z
 .cases h
def xA (h:env[j]?=some (some w))(m:Me):af cl (.var j) env m=.ok w m:=by
 exact wG h m
def BK(H:bx lev cl cd)(I:Inv lo RR m de lv env A)(i:Nat)(e:Ex):aD lo RR A m (aT cl (.asg i e) env m) (aW lev cd (.asg i e) de lv):=by
 have h:aD lo RR A m ((af cl e env m).bindS env λw m1=>.next (env.set i (some w)) m1) ((ax cd e de).bindS λd=>fm lev i e d de lv):=by
  cases z:ax cd e de with
  |no=>trivial
  |ok d=>
   show aD lo RR A m _ (fm lev i e d de lv);unfold fm;by_cases f:bg lev e d=.full
   .rw[J7 f];have h:=yN H e RR m de env (I.envR _);rw[z]at h;obtain⟨w,m1,B,h2,l,r,nd,hB⟩:=h;rw[h2];rw[f]at r;obtain⟨I',K⟩:=I.store l i (l:=.full) (d:=d) (w:=w) (B:=B) r nd hB;exact⟨_,_,_,rfl,I',K⟩
   .rw[J8 f];obtain⟨A1,I1,K1,_,h⟩:=I.relEv H e;rw[z]at h;obtain⟨w,m1,B,h2,l,r,nd,hB⟩:=h;rw[h2];obtain⟨I',K⟩:=I1.store l i (l:=bg lev e d) (d:=d) (w:=w) (B:=B) r nd hB;exact⟨_,_,_,rfl,I',K1.trans K⟩
 exact h
set_option tactic.hygienic true in
def DS (H:bx lev cl cd)(I:Inv lo RR m de lv env A)(hd:de[j]?=some (some (.lst ds)))(h1:ax cd e de=.ok d)(h2:af cl e env m=.ok w m1)(l1:Le m m1)(l2:Le m1 m2)(g:ip lev e d j de lv=some (de1,lv1))(F:List Dat->Dat->List Dat)(G:List Wd->Wd->List Wd)(cF:∀(m m1:Me) (A:Nat->List Nat) (ds:List Dat) (xs:List Wd) (d:Dat) (w:Wd) (B0:List Nat),Le m m1->aX m1 d w B0->B0.Nodup->(∀b∈B0,m.length<=b)->fZ RR A m m1 ds xs (F ds d) (G xs w))(cM:∀(m:Me) (ds:List Dat) (xs:List Wd) (d:Dat) (w:Wd) (B B0:List Nat),(B++B0).Nodup->au m ds xs B->aX m d w B0->∃B',au m (F ds d) (G xs w) B'/\B'.Nodup/\∀b∈B',b∈B\/b∈B0)(cT:∀(R:Nat->Prop) (m:Me) (ds:List Dat) (xs:List Wd) (d:Dat) (w:Wd),ae R m ds xs->ai R m d w->ae R m (F ds d) (G xs w)):
  ∃l xs,env[j]?=some (some (.ref l))/\m2[l]?=some (.lst xs)/\ds.length=xs.length/\∃A',Inv lo RR (m2.set l (.lst (G xs w))) (de1.set j (some (.lst (F ds d)))) lv1 env A'/\aZ A m A' (m2.set l (.lst (G xs w))):=by
 have l12:=l1.trans l2;unfold ip at g;split at g
 .cases g
 .next ho=>
  have ho:yB lv j=true:=by simpa using ho
  split at g
  .next f=>
   cases g;obtain⟨B,r,nd,hB⟩:=I.own H h1 h2;rw[f]at r;obtain⟨l,xs,he,hm,hr,put⟩:=I.mut hd ho;have r':aX m2 d w B:=aX.frame d w B (λx _ o z=>l2 x o z) r;refine⟨l,xs,he,l12 l _ hm,hr.len,put m2 _ _ l12 (λ_=>(cF m m2 A ds xs d w B l12 r' nd hB).1) (λ_=>(cF m m2 A ds xs d w B l12 r' nd hB).2)⟩
  .next f=>
   split at g
   .cases g
   .next hj=>
    have share:lv1=(xj e de lv).set j .top->de1=de->∃l xs,env[j]?=some (some (.ref l))/\m2[l]?=some (.lst xs)/\ds.length=xs.length/\∃A',Inv lo RR (m2.set l (.lst (G xs w))) (de1.set j (some (.lst (F ds d)))) lv1 env A'/\aZ A m A' (m2.set l (.lst (G xs w))):=by
     rintro rfl rfl;obtain⟨A1,I1,K1,hA1,h⟩:=I.relEv H e;rw[h1]at h;have ho1:yB (xj e de1 lv) j=true:=by unfold yB;rw[BL e _ _ hj];exact ho
     obtain⟨l,xs,A2,I2,K2,g1,g2,he,hm,hr,hlA⟩:=I1.top j hd ho1;have hs:=h.sim;obtain⟨w',m',h3,_,rw0⟩:=hs;rw[h2]at h3;cases h3;have hjl:j<(xj e de1 lv).length:=by rw[I1.lvl];exact(Qb.mp hd).1
     have ho2:yB ((xj e de1 lv).set j .top) j=true:=by unfold yB;rw[QC,J7 rfl,J7 hjl]
     have hlv:((xj e de1 lv).set j .top)[j]?=some .top:=by rw[QC,J7 rfl,J7 hjl]
     obtain⟨l',xs',he',hm',_,put⟩:=I2.mut hd ho2;rw[he]at he';cases he';rw[hm]at hm';cases hm';obtain⟨A3,I3,K3⟩:=put m2 (F ds d) (G xs w) l12 (λz=>by rw[hlv]at z;cases z) (λ_ q=>by
      refine cT _ m2 ds xs d w (ae.frame (λx o r z=>⟨.inl r,l12 x o z⟩) _ _ q) (ai.frame (λx o r z=>⟨?_,l2 x o z⟩) _ _ rw0);rcases r with r|r
      .left
       refine⟨r.1,λk hk=>?_⟩;by_cases ek:k=j
       .rw[ek,g1]at hk;rw[QK.mp hk]at r;exact r.2 j hlA
       .rw[g2 k ek]at hk;exact r.2 k hk
      .exact .inr r)
     exact⟨l,xs,he,l12 l _ hm,hr.len,A3,I3,(K1.trans K2).trans K3⟩
    split at g
    .next i=>
     split at g
     .next hfull=>
      cases g;have hij:i≠j:=λe=>hj (by rw[e];exact QK.mpr rfl)
      -- the move
      have hdi:de[i]?=some (some d):=by
       exact wH h1
      obtain⟨wi,hei,ri⟩:=I.slot i d .full hdi hfull.1;have:af cl (.var i) env m=.ok wi m:=xA hei m;rw[this]at h2;cases h2;obtain⟨wj,hej,rj⟩:=I.slot j _ .full hd hfull.2;obtain⟨l,xs,B,rfl,hA,hm,r⟩:=bc.mp rj;have hlm:=(Qb.mp hm).1;have nd:=I.nd j;rw[hA]at nd;obtain⟨n0,n1⟩:=Qw.mp nd;have nBi:(B++A i).Nodup:=QB.mpr ⟨n1,I.nd i,λx hx y hy e=>by
       subst e;exact hij (I.dj i j x hy (by rw[hA];exact Qd _ hx))⟩
      obtain⟨B',o,nB',hB'⟩:=cM m ds xs d w B (A i) nBi r ri;have lB':l∉B':=λz=>by
       rcases hB' l z with q|q
       .exact n0 q
       .exact hij (I.dj i j l q (by rw[hA];simp))
      have sub:∀x∈l::B',x∈A j\/x∈A i:=by
       intro x hx;rcases Qj.mp hx with rfl|hx
       .left;rw[hA];simp
       .rcases hB' x hx with q|q
        .left;rw[hA];exact Qd _ q
        .exact .inr q
      have hjl:j<de.length:=(Qb.mp hd).1;have hil:i<de.length:=(Qb.mp hdi).1;have ui:aG (aG A i []) j (l::B') i=[]:=by rw[ze hij,zf]
      have uo:∀k,k≠i->k≠j->aG (aG A i []) j (l::B') k=A k:=λk a b=>by rw[ze b,ze a]
      have ll2:=l2.len;refine⟨l,xs,hej,l2 l _ hm,r.len,aG (aG A i []) j (l::B'),?_⟩;refine I.put l2 (j:=j) (l:=l) (xs:=xs) (by rw[hA];simp) _ ?_ ?_ ?_ ?_ (by simp) rfl ?_ ?_
      .intro k x hx
       left
       by_cases e:k=j
       .rw[e,zf]at hx;rcases sub x hx with q|q
        .exact ⟨j,q⟩
        .exact ⟨i,q⟩
       .by_cases f:k=i
        .rw[f,ui]at hx;cases hx
        .rw[uo k f e]at hx;exact⟨k,hx⟩
      .intro k;by_cases e:k=j
       .rw[e,zf];exact Qw.mpr ⟨lB',nB'⟩
       .by_cases f:k=i
        .rw[f,ui];simp
        .rw[uo k f e];exact I.nd k
      .have main:∀k x,k≠j->x∈l::B'->x∈aG (aG A i []) j (l::B') k->False:=by
        intro k x e hx hk;by_cases f:k=i
        .rw[f,ui]at hk;cases hk
        .rw[uo k f e]at hk;rcases sub x hx with q|q
         .exact e (I.dj k j x hk q)
         .exact f (I.dj k i x hk q)
       intro a b x ha hb;by_cases e:a=j
       .by_cases f:b=j
        .rw[e,f]
        .rw[e,zf]at ha;exact(main b x f ha hb).elim
       .by_cases f:b=j
        .rw[f,zf]at hb;exact(main a x e hb ha).elim
        .by_cases g:a=i
         .rw[g,ui]at ha;cases ha
         .by_cases h:b=i
          .rw[h,ui]at hb;cases hb
          .rw[uo a g e]at ha;rw[uo b h f]at hb;exact I.dj a b x ha hb
      .intro k x hx;by_cases e:k=j
       .rw[e,zf]at hx;rcases sub x hx with q|q
        .exact ⟨(I.bd j x q).1,Qe (I.bd j x q).2 ll2⟩
        .exact ⟨(I.bd i x q).1,Qe (I.bd i x q).2 ll2⟩
       .by_cases f:k=i
        .rw[f,ui]at hx;cases hx
        .rw[uo k f e]at hx;exact⟨(I.bd k x hx).1,Qe (I.bd k x hx).2 ll2⟩
      .intro k d' lk e g1 g2;rw[Qo (Ne.symm e)]at g1;by_cases f:k=i
       .rw[f,QC,J7 rfl,J7 hil]at g1;cases g1
       .rw[Qo (Ne.symm f)]at g1;exact⟨g1,g2,uo k f e⟩
      .intro d' lj g1 g2;rw[QC,J7 rfl,J7 (by simpa using hjl)]at g1;cases g1;rw[hfull.2]at g2;cases g2;refine⟨_,hej,?_⟩;rw[zf];exact bc.mpr ⟨l,_,B',rfl,rfl,yH (l2 l _ hm),au.frame _ _ B' (λx hx o z=>by rw[yk (l:=l) (x:=x) (λe=>lB' (by rw[e];exact hx))];exact l2 x o z) o⟩
     .cases g;exact share rfl rfl
    .cases g;exact share rfl rfl
end
section
variable{lev:Nat->Lv}{cl:Nat->List Wd->Me->Rz}{cd:Nat->List Dat->Rd}{lo:Nat}{RR:Nat->Prop}{m:Me}{de:aO}{lv:List Lv}{env:En}{A:Nat->List Nat}
def u9 (h1:af cl o env m=.ok x m1)(h2:af cl e env m1=.ok w m2)(hl:zQ x m1=true:=by simp only[zQ,aK];simp_all):af cl (.meth n o (.pair e .unit)) env m=dB n x [w] m2:=by
 show(af cl o env m).bind (λx m1=>match zQ x m1 with|true=>((af cl e env m1).bind λa m2=>.ok (.tup [a]) m2).bind λy m2=>dB n x (zh y) m2|false=>.no)=_;rw[h1];show(match zQ x m1 with|true=>((af cl e env m1).bind λa m2=>.ok (.tup [a]) m2).bind λy m2=>dB n x (zh y) m2|false=>.no)=_;rw[hl,h2];rfl
def BJ (h1:af cl o env m=.ok x m1)(hl:zQ x m1=true:=by simp only[zQ,aK];simp_all):af cl (.meth n o .unit) env m=dB n x [] m1:=by
 show(af cl o env m).bind (λx m1=>match zQ x m1 with|true=>dB n x [] m1|false=>.no)=_;rw[h1];show(match zQ x m1 with|true=>dB n x [] m1|false=>.no)=_;rw[hl]
def BI (n:(B++B0).Nodup)(a:au m ds xs B)(b:aX m d w B0):∃B',au m (ds++[d]) (xs++[w]) B'/\B'.Nodup/\∀b∈B',b∈B\/b∈B0:=
 ⟨B++(B0++[]),a.app (.cons b .nil),by simpa using n,λx hx=>by simpa using hx⟩
theorem aD.okS{r:Rs}{rd:Rd}{g:Dat->bS}(h:∀d,rd=.ok d->aD lo RR A m r (g d)):aD lo RR A m r (rd.okS g):=by
 cases rd with
 |ok d=>exact h d rfl
 |_=>trivial
theorem Inv.ok (H:bv cl cd)(I:Inv lo RR m de lv env A)(h:ax cd e de=.ok d)(l:Le m m1):∃w m2,af cl e env m1=.ok w m2/\Le m1 m2/\ai RR m2 d w:=by
 have q:=za H e RR m1 de env ((I.ext l).envR _);rw[h]at q;obtain⟨w,m2,a,b,c⟩:=q;exact⟨w,m2,a,b,(I.ext l).rf c⟩
def Inv.isRef (I:Inv lo RR m de lv env A){j:Nat}(hd:de[j]?=some (some (.lst ds)))(he:env[j]?=some (some w)):zQ w m=true:=by
 obtain⟨lj,hl⟩:=I.getlv hd;obtain⟨w',a,b⟩:=I.slot j _ lj hd hl;rw[he]at a;cases a;obtain⟨l,xs,rfl,_,hm,_⟩:=aw.mp (b.rep (R':=λ_=>True) (λ_ _=>trivial) (λ_ _=>trivial));simp[zQ,aK,hm]
set_option tactic.hygienic true in
def DR(H:bx lev cl cd)(I:Inv lo RR m de lv env A)(j:Nat)(e:Ex):aD lo RR A m (aT cl (.expr (.meth .append (.var j) (.pair e .unit))) env m) (aW lev cd (.expr (.meth .append (.var j) (.pair e .unit))) de lv):=by
 show aD _ _ _ _ ((af cl _ env m).bindS env _) _;refine aD.okS λd h1=>?_;split
 .next ds hl=>
  split
  .next hlim=>
   split
   .next de1 lv1 g=>
    obtain⟨w,m1,h2,l1,r1⟩:=I.ok H.r h1 (Le.refl m);obtain⟨l,xs,he,hm,hlen,A',I',K⟩:=DS H I (jV hl) h1 h2 l1 (Le.refl m1) g (λds d=>ds++[d]) (λxs w=>xs++[w])
     (λ_ _ _ _ _ _ _ _ le o nd hB=>se le o nd hB) (λ_ _ _ _ _ _ _ n a b=>BI n a b) (λ_ _ _ _ _ _ a b=>a.app (.cons b .nil))
    rw[u9 (xA he m) h2 (I.isRef (jV hl) he)];have:dB .append (.ref l) [w] m1=.ok .non (m1.set l (.lst (xs++[w]))):=by
     simp only[dB,hm];rw[J7 (by lia)]
    rw[this];exact⟨_,_,A',rfl,I',K⟩
   .trivial
  .trivial
 .trivial
set_option tactic.hygienic true in
def DQ(I:Inv lo RR m de lv env A)(j:Nat):aD lo RR A m (aT cl (.expr (.meth .reverse (.var j) .unit)) env m) (aW lev cd (.expr (.meth .reverse (.var j) .unit)) de lv):=by
 show aD _ _ _ _ ((af cl _ env m).bindS env _) (match qE de j with
   |some ds=>if yB lv j then .next (de.set j (some (.lst ds.reverse))) lv else .no
   |none=>.no)
 split
 .next ds hl=>
  split
  .next ho=>
   obtain⟨l,xs,he,hm,hr,put⟩:=I.mut (jV hl) ho;obtain⟨A',I',K⟩:=put m ds.reverse xs.reverse (Le.refl m) (λ_=>(dA (RR:=RR) (A:=A)).1) (λ_=>dA.2);rw[BJ (xA he m)];have:dB .reverse (.ref l) [] m=.ok .non (m.set l (.lst xs.reverse)):=by simp only[dB,hm]
   rw[this];exact⟨_,_,A',rfl,I',K⟩
  .trivial
 .trivial
set_option tactic.hygienic true in
def Cn(H:bx lev cl cd)(I:Inv lo RR m de lv env A)(i:Nat)(op:Bo)(e:Ex):aD lo RR A m (aT cl (.aug i op e) env m) (aW lev cd (.aug i op e) de lv):=by
 show aD _ _ _ _ _ (match de[i]? with
  |some (some (.int a))=>(ax cd e de).okS λy=>match y with
   |.int b=>(yn op (.int a) (.int b)).okS λz=>.next (de.set i (some z)) (lv.set i .full)
   |_=>.no
  |_=>.no)
 split
 .next a ha=>
  refine aD.okS λy hy=>?_;split
  .next b=>
   refine aD.okS λz hz=>?_;obtain⟨la,hla⟩:=I.getlv ha;obtain⟨wa,hea,ra⟩:=I.slot i _ la ha hla;have ra':=ra.rep (R':=RR) (λ_ z=>z.1) (λx hx=>I.rr x (I.bd i x hx).1);rw[aa.mp ra']at hea;show aD _ _ _ _ (match env[i]? with
    |some (some x)=>(af cl e env m).bindS env λy m1=>fK op x y m1 env λz m2=>.next (env.set i (some z)) m2
    |_=>.no) _
   rw[hea];obtain⟨w,m1,h2,l1,r1⟩:=I.ok H.r hy (Le.refl m);rw[aa.mp r1]at h2;simp only[h2,Rz.bindS,fK];have hs:=jM (R:=RR) (m:=m1) op (d:=.int a) (e:=.int b) (aa.mpr rfl) (aa.mpr rfl);rw[hz]at hs;obtain⟨w3,m3,h3,l3,r3⟩:=hs;rw[h3];have fz:aB z=true:=by
    cases op<;>simp only[yn]at hz
    .cases hz;rfl
    .cases hz;rfl
    all_goals (split at hz<;>(cases hz;try rfl))
   obtain⟨I',K⟩:=I.store (l1.trans l3) i (l:=.full) (d:=z) (w:=w3) (B:=[]) (r3.flat z w3 fz) Qu (by simp);exact⟨_,_,_,rfl,I',K⟩
  .trivial
 .trivial
end
section
variable{m:Me}
mutual
theorem ai.avoid{R R':Nat->Prop}{m:Me}{D:Dat}{l:Nat}(hD:ai R' m D (.ref l)):∀(d:Dat) (w:Wd),dN d<dN D->ai R m d w->ai (λx=>R x/\x≠l) m d w
 |.non,w,h,q=>am.mpr (am.mp q)
 |.bl _,w,h,q=>aj.mpr (aj.mp q)
 |.int _,w,h,q=>aa.mpr (aa.mp q)
 |.str _,w,h,q=>az.mpr (az.mp q)
 |.scr _,w,h,q=>aV.mpr (aV.mp q)
 |.tup ds,w,h,q=>by
  obtain⟨xs,rfl,q1⟩:=ah.mp q;exact ah.mpr ⟨xs,rfl,ae.avoid hD ds xs (by rw[show dN (.tup ds)=cO ds+1 from by simp[dN]]at h;lia) q1⟩
 |.lst ds,w,h,q=>by
  obtain⟨k,xs,rfl,r,hm,q1⟩:=aw.mp q;refine aw.mpr ⟨k,xs,rfl,⟨r,λe=>?_⟩,hm,ae.avoid hD ds xs (by rw[show dN (.lst ds)=cO ds+1 from by simp[dN]]at h;lia) q1⟩;subst e;have:=ai.det _ _ _ q hD;rw[this]at h;lia
 |.dct ks ds,w,h,q=>by
  obtain⟨k,xs,rfl,r,hm,q1⟩:=aS.mp q;refine aS.mpr ⟨k,xs,rfl,⟨r,λe=>?_⟩,hm,ae.avoid hD ds xs (by rw[show dN (.dct ks ds)=cO ds+1 from by simp[dN]]at h;lia) q1⟩;subst e;have:=ai.det _ _ _ q hD;rw[this]at h;lia
theorem ae.avoid{R R':Nat->Prop}{m:Me}{D:Dat}{l:Nat}(hD:ai R' m D (.ref l)):∀(ds:List Dat) (xs:List Wd),cO ds<dN D->ae R m ds xs->ae (λx=>R x/\x≠l) m ds xs
 |[],xs,h,q=>by rw[q.nil_inv];exact .nil
 |d::ds,xs,h,q=>by
  obtain⟨x,r,rfl,a,b⟩:=q.cons_inv;unfold cO at h;exact .cons (ai.avoid hD d x (by lia) a) (ae.avoid hD ds r (by lia) b)
end
end
section
variable{cl:Nat->List Wd->Me->Rz}{cd:Nat->List Dat->Rd}{lo:Nat}{RR:Nat->Prop}{m:Me}{de:aO}{lv:List Lv}{env:En}{A:Nat->List Nat}
def u8 (H:bv cl cd)(q:bM R m (zj e) de env)(h:ax cd e de=.ok d)(hR:∀l,m.length<=l->R l):∃w m2,af cl e env m=.ok w m2/\Le m m2/\ai R m2 d w:=by
 have q:=za H e R m de env q;rw[h]at q;obtain⟨w,m2,a,b,c⟩:=q;exact⟨w,m2,a,b,ai.frame (λx o r z=>⟨by rcases r with r|r;exact r;exact hR x r,z⟩) d w c⟩
def Inv.forget(I:Inv lo RR m de lv env A)(i:Nat)(w:Wd):Inv lo RR m (de.set i none) (lv.set i .full) (env.set i (some w)) A:=by
 refine⟨by simp[I.len],by simp[I.lvl],I.rr,I.lom,λk d l h1 h2=>?_,I.nd,I.dj,I.bd⟩;by_cases e:i=k
 .subst e;rw[QC,J7 rfl]at h1;split at h1
  .cases h1
  .cases h1
 .rw[Qo e]at h1 h2;obtain⟨w',a,b⟩:=I.slot k d l h1 h2;exact⟨w',by rw[Qo e];exact a,b⟩
end
theorem vn(q:List Int):∀(ks:List (List Int)) (n:Nat),(∃p,∀(α:Type) (zs:List α) (v:α),zs.length=n->zK ks zs q v=zs.set p v)\/∀(α:Type) (zs:List α) (v:α),zs.length=n->zK ks zs q v=zs++[v]
 |[],n=>.inr λα zs v _=>by cases zs<;>rfl
 |k::ks,0=>.inr λα zs v h=>by
  cases zs with
  |nil=>rfl
  |cons _ _=>cases h
 |k::ks,n+1=>by
  by_cases e:k=q
  .refine .inl ⟨0,λα zs v h=>?_⟩;cases zs with
   |nil=>cases h
   |cons z zs=>show(if k=q then v::zs else _)=_;rw[J7 e];rfl
  .rcases vn q ks n with⟨p,h⟩|h
   .refine .inl ⟨p+1,λα zs v hz=>?_⟩;cases zs with
    |nil=>cases hz
    |cons z zs=>show(if k=q then _ else z::zK ks zs q v)=_;rw[J8 e,h α zs v (by simpa using hz)];rfl
   .refine .inr λα zs v hz=>?_;cases zs with
    |nil=>cases hz
    |cons z zs=>show(if k=q then _ else z::zK ks zs q v)=_;rw[J8 e,h α zs v (by simpa using hz)];rfl
def r6 (ks:List (List Int))(q:List Int)(hlen:ds.length=xs.length)(le:Le m m1)(o:aX m1 d w B0)(nd:B0.Nodup)(hB:∀b∈B0,m.length<=b):fZ RR A m m1 ds xs (zK ks ds q d) (zK ks xs q w):=by
 rcases vn q ks ds.length with⟨p,h⟩|h
 .rw[h _ ds d rfl,h _ xs w hlen.symm];exact BM p le o nd hB
 .rw[h _ ds d rfl,h _ xs w hlen.symm];exact se le o nd hB
def Inv.mutD (I:Inv lo RR m de lv env A)(hd:de[j]?=some (some (.dct ks ds)))(hl:lv[j]?=some .full):
  ∃l xs,env[j]?=some (some (.ref l))/\m[l]?=some (.dct ks xs)/\ds.length=xs.length/\∀(m1:Me) (ks':List (List Int)) (ds':List Dat) (ys:List Wd),Le m m1->pk m m1 ds xs ds' ys ->
   ∃A1,Inv lo RR (m1.set l (.dct ks' ys)) (de.set j (some (.dct ks' ds'))) lv env A1/\aZ A m A1 (m1.set l (.dct ks' ys)):=by
 obtain⟨w,a,b⟩:=I.slot j _ .full hd hl;have hjl:j<de.length:=(Qb.mp hd).1;obtain⟨l,xs,B,rfl,hA,hm,r⟩:=bH.mp b;have hlm:=(Qb.mp hm).1;have nd:=I.nd j;rw[hA]at nd;refine⟨l,xs,a,hm,r.len,λm1 ks' ds' ys le c=>?_⟩;obtain⟨B',o,nb,hB⟩:=c B (Qw.mp nd).2 r;have hlB:l∉B':=λz=>by
  rcases hB l z with z|z
  .exact (Qw.mp nd).1 z
  .lia
 have sub:∀x∈l::B',x∈A j\/m.length<=x:=by
  intro x hx;rcases Qj.mp hx with rfl|hx
  .left;rw[hA];simp
  .rcases hB x hx with z|z
   .left;rw[hA];exact Qd _ z
   .exact .inr z
 refine⟨aG A j (l::B'),?_⟩;refine I.putO le (j:=j) (l:=l) (by rw[hA];simp) _ ?_ ?_ ?_ ?_ (by simp) rfl ?_ ?_
 .intro k x hx;by_cases e:k=j
  .subst e;rw[zf]at hx;rcases sub x hx with z|z
   .exact .inl ⟨k,z⟩
   .exact .inr z
  .rw[ze e]at hx;exact .inl ⟨k,hx⟩
 .intro k;by_cases e:k=j
  .subst e;rw[zf];exact Qw.mpr ⟨hlB,nb⟩
  .rw[ze e];exact I.nd k
 .intro i k x h1 h2;by_cases e:i=j
  .by_cases f:k=j
   .rw[e,f]
   .rw[e,zf]at h1;rw[ze f]at h2;rcases sub x h1 with z|z
    .rw[e];exact I.dj j k x z h2
    .have:=(I.bd k x h2).2;lia
  .rw[ze e]at h1;by_cases f:k=j
   .rw[f,zf]at h2;rcases sub x h2 with z|z
    .rw[f];exact I.dj i j x h1 z
    .have:=(I.bd i x h1).2;lia
   .rw[ze f]at h2;exact I.dj i k x h1 h2
 .intro k x hx;by_cases e:k=j
  .rw[e,zf]at hx;rcases Qj.mp hx with rfl|hx
   .exact ⟨(I.bd j _ (by rw[hA];simp)).1,Qe hlm le.len⟩
   .refine ⟨?_,au.lt ds' ys B' o x hx⟩;rcases hB x hx with z|z
    .exact (I.bd j x (by rw[hA];exact Qd _ z)).1
    .exact Qm I.lom z
  .rw[ze e]at hx;exact⟨(I.bd k x hx).1,Qe (I.bd k x hx).2 le.len⟩
 .intro k d lk e h1 h2;rw[Qo (Ne.symm e)]at h1;exact⟨h1,h2,ze e⟩
 .intro d lj h1 h2;rw[QC,J7 rfl,J7 hjl]at h1;cases h1;rw[hl]at h2;cases h2;refine⟨_,a,?_⟩;rw[zf];exact bH.mpr ⟨l,ys,B',rfl,rfl,yH (le l _ hm),au.frame ds' ys B' (λx hx o z=>by rw[yk (l:=l) (x:=x) (λe=>hlB (by rw[e];exact hx))];exact z) o⟩
section
variable{lev:Nat->Lv}{cl:Nat->List Wd->Me->Rz}{cd:Nat->List Dat->Rd}{lo:Nat}{RR:Nat->Prop}{m:Me}{de:aO}{lv:List Lv}{env:En}{A:Nat->List Nat}
set_option tactic.hygienic true in
def D7(H:bx lev cl cd)(I:Inv lo RR m de lv env A)(j:Nat)(k e:Ex):aD lo RR A m (aT cl (.dput j k e) env m) (aW lev cd (.dput j k e) de lv):=by
 show aD _ _ _ _ ((af cl e env m).bindS env _) _;refine aD.okS λd h1=>aD.okS λkv hk=>?_;split
 .next ks ds q hd hq=>
  split
  .next c=>
   obtain⟨c1,c2,c3⟩:=c;obtain⟨w,m1,h2,l1,r1⟩:=I.ok H.r h1 (Le.refl m);obtain⟨wk,m2,h3,l2,r3⟩:=I.ok H.r hk l1;obtain⟨B,ro,nd,hB⟩:=I.own H h1 h2;rw[c2]at ro;have ro:aX m1 d w B:=ro;obtain⟨l,xs,he,hm,hlen,put⟩:=I.mutD hd c1;obtain⟨A1,I1,K1⟩:=put m2 (xg ks q) (zK ks ds q d) (zK ks xs q w) (l1.trans l2) (r6 (RR:=RR) (A:=A) ks q hlen (l1.trans l2) (aX.frame d w B (λx _ o z=>l2 x o z) ro) nd hB).1;rw[h2];show aD _ _ _ _ ((af cl (.var j) env m1).bindS env _) _;rw[xA he m1];show aD _ _ _ _ ((af cl k env m1).bindS env _) _;rw[h3];have e2:wv (.ref l) wk w m2=.ok .non (m2.set l (.dct (xg ks q) (zK ks xs q w))):=by
    unfold wv;simp only[(l1.trans l2) l _ hm,xy r3 hq,J7 c3]
   show aD _ _ _ _ ((wv (.ref l) wk w m2).bindS env _) _;rw[e2];exact⟨env,_,A1,rfl,I1,K1⟩
  .trivial
 .trivial
end
section
variable{lev:Nat->Lv}{cl:Nat->List Wd->Me->Rz}{cd:Nat->List Dat->Rd}{lo:Nat}{RR:Nat->Prop}
def dy (q:List Int):ai R m (fg q) (.tup (q.map Wd.int)):=ah.mpr ⟨_,rfl,eB q⟩
set_option tactic.hygienic true in
theorem jf (hb:∀x w m de lv env A,Inv lo RR m de lv env A->ai (zG RR A) m x w->aD lo RR A m (bw w env m) (bd x de lv)):
  ∀(qs:List (List Int)) (i k:Nat) (m:Me) (de:aO) (lv:List Lv) (env:En) (A:Nat->List Nat),Inv lo RR m de lv env A->(∀k,l∉A k)->m[l]?=some (.dct ks ws)->qs=ks.drop i->i+qs.length=ks.length->qs.length<k->aD lo RR A m (yS bw l ks.length k i env m) (zT bd (qs.map fg) de lv)
 |[],i,0,m,de,lv,env,A,I,hl,hm,r,hi,hk=>by simp at hk
 |d::ds,i,0,m,de,lv,env,A,I,hl,hm,r,hi,hk=>by simp at hk
 |[],i,k+1,m,de,lv,env,A,I,hl,hm,r,hi,hk=>by
  unfold yS zT;rw[hm];simp only[if_true];rw[Qz (by simp at hi;lia)];exact⟨env,m,A,rfl,I,aZ.refl A m⟩
 |q::qs,i,k+1,m,de,lv,env,A,I,hl,hm,r,hi,hk=>by
  have hx:ks[i]?=some q:=by
   have:(ks.drop i)[0]?=some q:=by rw[<-r];rfl
   simpa using this
  have hr:qs=ks.drop (i+1):=by
   have:(ks.drop i).drop 1=qs:=by rw[<-r];rfl
   rw[<-this,Wc]
  have hi':i+1+qs.length=ks.length:=by simp at hi;lia
  have hk':qs.length<k:=by simp at hk;lia
  have h:=hb (fg q) _ m de lv env A I (dy q);unfold yS;rw[QO];unfold zT;rw[hm];simp only[if_true];rw[hx];simp only;cases z:bd (fg q) de lv with
  |next d1 l1=>
   rw[z]at h;obtain⟨e1,m1,A1,h1,I1,K1⟩:=h;rw[h1];exact aD.keep K1 (jf hb qs (i+1) k m1 d1 l1 e1 A1 I1 (K1.1 l _ hl hm).1 (K1.1 l _ hl hm).2 hr hi' hk')
  |ret d l=>
   rw[z]at h;obtain⟨w,m1,B,h1,k⟩:=h;rw[h1];exact⟨w,m1,B,rfl,k⟩
  |no=>trivial
set_option tactic.hygienic true in
def Er (hb:∀(p:Dat×Dat) w1 w2 m de lv env A,Inv lo RR m de lv env A->ai (zG RR A) m p.1 w1->ai (zG RR A) m p.2 w2->aD lo RR A m (bw (.tup [w1,w2]) env m) (bd p de lv)){all:List (Dat×Dat)}{P:Me->(Nat->List Nat)->Prop}(hP:∀m A m1 A1,P m A->aZ A m A1 m1->P m1 A1)(hg:∀m A,P m A->(∀(i:Nat) p,all[i]?=some p->∃w1 w2,g i m=some (some (w1,w2))/\ai (zG RR A) m p.1 w1/\ai (zG RR A) m p.2 w2)/\g all.length m=some none)(ps:List (Dat×Dat)):
  ∀(i k:Nat) (m:Me) (de:aO) (lv:List Lv) (env:En) (A:Nat->List Nat),Inv lo RR m de lv env A->P m A->ps=all.drop i->i+ps.length=all.length->ps.length<k->aD lo RR A m (yX bw g k i env m) (zT bd ps de lv):=by
 induction ps with
 |nil=>
  intro i k m de lv env A I hp hps hi hk;obtain⟨k,rfl⟩:∃q,k=q+1:=⟨k-1,by simp at hk;lia⟩;have e:=(hg m A hp).2;rw[show all.length=i by simp at hi;lia]at e;unfold yX zT;rw[e];exact⟨env,m,A,rfl,I,aZ.refl A m⟩
 |cons p ps ih=>
  intro i k m de lv env A I hp hps hi hk;obtain⟨k,rfl⟩:∃q,k=q+1:=⟨k-1,by simp at hk;lia⟩;have hx:all[i]?=some p:=by
   have:(all.drop i)[0]?=some p:=by rw[<-hps];rfl
   simpa using this
  have hr:ps=all.drop (i+1):=by
   have:(all.drop i).drop 1=ps:=by rw[<-hps];rfl
   rw[<-this,Wc]
  obtain⟨w1,w2,e,a2,b2⟩:=(hg m A hp).1 i p hx;have hi':i+1+ps.length=all.length:=by simp only[WD]at hi;lia
  have hk':ps.length<k:=by simp only[WD]at hk;lia
  have h:=hb p w1 w2 m de lv env A I a2 b2;unfold yX zT;rw[e];simp only;cases z:bd p de lv with
  |next d1 l1=>
   rw[z]at h;obtain⟨e1,m1,A1,h1,I1,K1⟩:=h;rw[h1];exact aD.keep K1 (ih (i+1) k m1 d1 l1 e1 A1 I1 (hP _ _ _ _ hp K1) hr hi' hk')
  |ret d l=>
   rw[z]at h;obtain⟨w,m1,B,h1,k⟩:=h;rw[h1];exact⟨w,m1,B,rfl,k⟩
  |no=>trivial
set_option tactic.hygienic true in
def Ep (I:Inv lo RR m de lv env A)(hd:de[x]?=some (some (.dct ks ds))):
  ∃A1 l ws,Inv lo RR m de (lv.set x .no) env A1/\aZ A m A1 m/\env[x]?=some (some (.ref l))/\(∀k,l∉A1 k)/\m[l]?=some (.dct ks ws)/\ae (zG RR A1) m ds ws:=by
 obtain⟨A1,I1,K1,hA,_,_⟩:=Inv.downs [x] I;have hno:∀i∈[x],∀l,(bi [x] lv)[i]?=some l->l=.no:=λi hi l hl=>by
  rw[yx]at hl;split at hl
  .exact (Option.some.inj hl).symm
  .next q=>
   have:i<lv.length:=(Qb.mp hl).1;exact J9 ⟨hi,this⟩ q
 have E:=xP I1 hno;obtain⟨w,hw,r⟩:=E.2 x (by simp) _ hd;obtain⟨l,ws,rfl,fr,hm,q⟩:=aS.mp r;exact⟨A1,l,ws,I1,K1,hw,fr.2,hm,q⟩
set_option tactic.hygienic true in
def D6{bw:Wd->En->Me->Rs}{bd:Dat->aO->List Lv->bS}(hb:∀x w m de lv env A,Inv lo RR m de lv env A->ai (zG RR A) m x w->aD lo RR A m (bw w env m) (bd x de lv)){m:Me}{de:aO}{lv:List Lv}{env:En}{A:Nat->List Nat}(I:Inv lo RR m de lv env A)(x:Nat):
  aD lo RR A m ((af cl (.var x) env m).bindS env λw m1=>match w with
   |.ref l=>yS bw l (wz m1 l) (aF+1) 0 env m1
   |_=>.no) (match de[x]? with
   |some (some (.dct ks _))=>if ks.length<=aF then zT bd (ks.map fg) de (lv.set x .no)else .no
   |_=>.no):=by
 split
 .next ks ds hd=>
  split
  .next hz=>
   obtain⟨A1,l,ws,I1,K1,hw,fr,hm,q⟩:=Ep I hd;rw[wG hw m];have e:wz m l=ks.length:=by unfold wz;rw[hm]
   show aD _ _ _ _ (yS bw l (wz m l) (aF+1) 0 env m) _;rw[e];exact aD.keep K1 (jf hb ks 0 (aF+1) m de _ env A1 I1 fr hm rfl (by simp) (by lia))
  .trivial
 .trivial
set_option tactic.hygienic true in
def Eo (h:zU s t=some (i,j,k,e0,k2,e)):s=.asg i (.dop .get (.var j) k e0)/\t=.dput j k2 e/\i≠j:=by
 unfold zU at h;split at h
 .next j' k2' e'=>
  split at h
  .next i' j2 k' e0'=>
   split at h
   .next c=>
    cases h;exact⟨by rw[c.1],rfl,c.2⟩
   .cases h
  .cases h
 .cases h
set_option tactic.hygienic true in
def uZ (H:bx lev cl cd)(I:Inv lo RR m de lv env A)(hij:i≠j):
  aD lo RR A m (aT cl (.seq (.asg i (.dop .get (.var j) k e0)) (.dput j k2 e)) env m) (iO lev cd (i,j,k,e0,k2,e) de lv):=by
 unfold iO;refine aD.okS λg hg=>aD.okS λd hd2=>aD.okS λq hq=>?_;split
 .next ks ds q' hd hk=>
  split
  .next c=>
   obtain⟨c1,c2,c3,hi0⟩:=c;obtain⟨w,m1,e1,l1,r1⟩:=I.ok H.r hg (Le.refl m);have hi:i<env.length:=by rw[<-I.len];exact hi0
   have envI:∀(m':Me),Le m1 m'->∀vs,bM RR m' vs (de.set i (some g)) (env.set i (some w)):=by
    intro m' lm vs;refine⟨by simp[I.len],λk _ d hk=>?_⟩;by_cases ek:i=k
    .subst ek;rw[QC,J7 rfl,J7 hi0]at hk;cases hk;exact⟨w,by rw[QC,J7 rfl,J7 hi],ai.frame (λx o r z=>⟨r,lm x o z⟩) _ _ r1⟩
    .rw[Qo ek]at hk ⊢;exact((I.ext (l1.trans lm)).envR vs).2 k (by assumption) d hk
   have hR:∀{m':Me},Le m m'->∀x,m'.length<=x->RR x:=λlm x hx=>I.rr x (Qm I.lom (Qm lm.len hx));have ho:=yN H e RR m1 (de.set i (some g)) (env.set i (some w)) (envI m1 (Le.refl m1) _);rw[hd2]at ho;obtain⟨we,m2,B,e2,l2,ro,nd,hB⟩:=ho;rw[c2]at ro;have ro:aX m2 d we B:=ro;obtain⟨wk,m3,e3,l3,r3⟩:=u8 H.r (envI m2 l2 _) hq (hR (l1.trans l2));obtain⟨l,xs,he,hm,hlen,put⟩:=I.mutD hd c1;have l123:=(l1.trans l2).trans l3;have hB':∀b∈B,m.length<=b:=λb hb=>Qm l1.len (hB b hb);obtain⟨A1,I1,K1⟩:=put m3 (xg ks q') (zK ks ds q' d) (zK ks xs q' we) l123 (r6 (RR:=RR) (A:=A) ks q' hlen l123 (aX.frame d we B (λx _ o z=>l3 x o z) ro) nd hB').1;have s1:aT cl (.asg i (.dop .get (.var j) k e0)) env m=.next (env.set i (some w)) m1:=by
    show(af cl (.dop .get (.var j) k e0) env m).bindS env _=_;rw[e1];rfl
   have he':(env.set i (some w))[j]?=some (some (.ref l)):=by rw[Qo hij];exact he
   have e4:wv (.ref l) wk we m3=.ok .non (m3.set l (.dct (xg ks q') (zK ks xs q' we))):=by
    unfold wv;simp only[l123 l _ hm,xy r3 hk,J7 c3]
   show aD _ _ _ _ (match aT cl (.asg i (.dop .get (.var j) k e0)) env m with
    |.next e1 m1=>aT cl (.dput j k2 e) e1 m1
    |r=>r) _
   rw[s1];show aD _ _ _ _ ((af cl e (env.set i (some w)) m1).bindS (env.set i (some w)) _) _;rw[e2];show aD _ _ _ _ ((af cl (.var j) (env.set i (some w)) m2).bindS (env.set i (some w)) _) _;rw[xA he' m2];show aD _ _ _ _ ((af cl k2 (env.set i (some w)) m2).bindS (env.set i (some w)) _) _;rw[e3];show aD _ _ _ _ ((wv (.ref l) wk we m3).bindS (env.set i (some w)) _) _;rw[e4];exact⟨_,_,A1,rfl,I1.forget i w,K1⟩
  .trivial
 .trivial
end
section
variable{lev:Nat->Lv}{cl:Nat->List Wd->Me->Rz}{cd:Nat->List Dat->Rd}{lo:Nat}{RR:Nat->Prop}
set_option tactic.hygienic true in
def Inv.bindSlot{m:Me}{de:aO}{lv:List Lv}{env:En}{A:Nat->List Nat}(I:Inv lo RR m de lv env A)(i:Nat){d:Dat}{w:Wd}(h:ai (zG RR A) m d w):Inv lo RR m (de.set i (some d)) (lv.set i (di d)) (env.set i (some w)) (aG A i [])/\aZ A m (aG A i []) m:=by
 refine I.store (Le.refl m) i (B:=[]) ?_ Qu (by simp);unfold di;split
 .next f=>exact h.flat d w f
 .exact ⟨ai.frame (λx o r z=>⟨⟨.inl r,by simp⟩,z⟩) _ _ h,rfl⟩
set_option tactic.hygienic true in
theorem vg (hb:∀x w m de lv env A,Inv lo RR m de lv env A->ai (zG RR A) m x w->aD lo RR A m (bw w env m) (bd x de lv)):
  ∀(ds:List Dat) (xs:List Wd) (m:Me) (de:aO) (lv:List Lv) (env:En) (A:Nat->List Nat),Inv lo RR m de lv env A->ae (zG RR A) m ds xs->aD lo RR A m (ww bw xs env m) (zT bd ds de lv)
 |[],xs,m,de,lv,env,A,I,r=>by
  rw[r.nil_inv];exact⟨env,m,A,rfl,I,aZ.refl A m⟩
 |d::ds,xs,m,de,lv,env,A,I,r=>by
  obtain⟨x,xs,rfl,a,b⟩:=r.cons_inv;have h:=hb d x m de lv env A I a;unfold ww zT;cases z:bd d de lv with
  |next d1 l1=>
   rw[z]at h;obtain⟨e1,m1,A1,h1,I1,K1⟩:=h;rw[h1];exact aD.keep K1 (vg hb ds xs m1 d1 l1 e1 A1 I1 (K1.repL b))
  |ret d l=>
   rw[z]at h;obtain⟨w,m1,B,h1,k⟩:=h;rw[h1];exact⟨w,m1,B,rfl,k⟩
  |no=>trivial
set_option tactic.hygienic true in
theorem jg (hb:∀x w m de lv env A,Inv lo RR m de lv env A->ai (zG RR A) m x w->aD lo RR A m (bw w env m) (bd x de lv)):
  ∀(ds:List Dat) (i k:Nat) (m:Me) (de:aO) (lv:List Lv) (env:En) (A:Nat->List Nat),Inv lo RR m de lv env A->(∀k,l∉A k)->m[l]?=some (.lst xs0)->ae (zG RR A) m ds (xs0.drop i)->i+ds.length=xs0.length->ds.length<k->aD lo RR A m (xl bw l k i env m) (zT bd ds de lv)
 |[],i,0,m,de,lv,env,A,I,hl,hm,r,hi,hk=>by simp at hk
 |d::ds,i,0,m,de,lv,env,A,I,hl,hm,r,hi,hk=>by simp at hk
 |[],i,k+1,m,de,lv,env,A,I,hl,hm,r,hi,hk=>by
  unfold xl zT zn;rw[hm];simp only;rw[Qz (by simp at hi;lia)];exact⟨env,m,A,rfl,I,aZ.refl A m⟩
 |d::ds,i,k+1,m,de,lv,env,A,I,hl,hm,r,hi,hk=>by
  obtain⟨x,q,e0,a,b⟩:=r.cons_inv;have hx:xs0[i]?=some x:=by
   have:(xs0.drop i)[0]?=some x:=by rw[e0];rfl
   simpa using this
  have hr:q=xs0.drop (i+1):=by
   have:(xs0.drop i).drop 1=q:=by rw[e0];rfl
   rw[<-this,Wc]
  rw[hr]at b;have hi':i+1+ds.length=xs0.length:=by simp at hi;lia
  have hk':ds.length<k:=by simp at hk;lia
  have h:=hb d x m de lv env A I a;unfold xl zT zn;rw[hm];simp only;rw[hx];simp only;cases z:bd d de lv with
  |next d1 l1=>
   rw[z]at h;obtain⟨e1,m1,A1,h1,I1,K1⟩:=h;rw[h1];exact aD.keep K1 (jg hb ds (i+1) k m1 d1 l1 e1 A1 I1 (K1.1 l _ hl hm).1 (K1.1 l _ hl hm).2 (K1.repL b) hi' hk')
  |ret d l=>
   rw[z]at h;obtain⟨w,m1,B,h1,k⟩:=h;rw[h1];exact⟨w,m1,B,rfl,k⟩
  |no=>trivial
set_option tactic.hygienic true in
def Cm{bw:Wd->En->Me->Rs}{bd:Dat->aO->List Lv->bS}(H:bx lev cl cd)(hb:∀x w m de lv env A,Inv lo RR m de lv env A->ai (zG RR A) m x w->aD lo RR A m (bw w env m) (bd x de lv)){m:Me}{de:aO}{lv:List Lv}{env:En}{A:Nat->List Nat}(I:Inv lo RR m de lv env A)(it:Ex):
  aD lo RR A m ((af cl it env m).bindS env λw m1=>io bw w env m1) ((ax cd it de).bindS λd=>match c9 d with
   |some xs=>zT bd xs de (if aB d then lv else xj it de lv)
   |none=>.no):=by
 have run:∀(d:Dat) (w:Wd) (m1:Me) (xs:List Dat) (lv1:List Lv) (A1:Nat->List Nat),c9 d=some xs->Inv lo RR m1 de lv1 env A1->ai (zG RR A1) m1 d w->aD lo RR A1 m1 (io bw w env m1) (zT bd xs de lv1):=by
  intro d w m1 xs lv1 A1 hi I1 r;cases d with
  |tup ds=>cases hi;obtain⟨ys,rfl,r1⟩:=ah.mp r;exact vg hb _ _ _ _ _ _ _ I1 r1
  |scr ns=>cases hi;rw[aV.mp r];exact vg hb _ _ _ _ _ _ _ I1 (eB ns)
  |lst ds=>
   simp only[c9]at hi;split at hi
   .next z=>
    cases hi;obtain⟨l,ys,rfl,hR,hm,r1⟩:=aw.mp r;have:=r1.len;exact jg hb _ 0 (aF+1) m1 de lv1 env A1 I1 hR.2 hm (by simpa using r1) (by lia) (by lia)
   .cases hi
  |_=>cases hi
 cases z:ax cd it de with
 |no=>trivial
 |ok d=>
  show aD lo RR A m _ (match c9 d with
   |some xs=>zT bd xs de (if aB d then lv else xj it de lv)
   |none=>.no)
  cases hi:c9 d with
  |none=>trivial
  |some xs=>
   simp only;split
   .next f=>
    obtain⟨w,m1,h2,l1,r1⟩:=I.ok H.r z (Le.refl m);rw[h2];exact aD.keep (xO l1) (run d w m1 xs lv A hi (I.ext l1) (aX.rep d w [] (by simp) (r1.flat d w f)))
   .obtain ⟨A1,I1,K1,_,h⟩:=I.relEv H it;rw[z]at h;obtain⟨w,m1,h2,l1,r1⟩:=h.sim;rw[h2];refine aD.keep (K1.trans (xO l1)) (run d w m1 xs _ A1 hi (I1.ext l1) (ai.frame (λx o r z=>⟨?_,z⟩) _ _ r1));rcases r with r|r
    .exact r
    .exact ⟨I.rr x (Qm I.lom r),λk hk=>by have:=(I1.bd k x hk).2;lia⟩
set_option tactic.hygienic true in
theorem jh{cw:En->Me->Rz}{bw:En->Me->Rs}{c:aO->Rd}{bd:aO->List Lv->bS}(hc:∀m de lv env A,Inv lo RR m de lv env A->match c de with |.ok d=>∃w m1,cw env m=.ok w m1/\Le m m1/\ai RR m1 d w |.no=>True)
  (hb:∀m de lv env A,Inv lo RR m de lv env A->aD lo RR A m (bw env m) (bd de lv)):∀(k:Nat) (m:Me) (de:aO) (lv:List Lv) (env:En) (A:Nat->List Nat),Inv lo RR m de lv env A->aD lo RR A m (vU cw bw k env m) (jT c bd k de lv)
 |0,m,de,lv,env,A,I=>trivial
 |k+1,m,de,lv,env,A,I=>by
  have h:=hc m de lv env A I;unfold vU jT;cases z:c de with
  |no=>trivial
  |ok d=>
   rw[z]at h;obtain⟨w,m1,h1,l1,r1⟩:=h;rw[h1];cases d with
   |bl b=>
    rw[aj.mp r1];cases b with
    |false=>exact⟨env,m1,A,rfl,I.ext l1,xO l1⟩
    |true=>
     have h2:=hb m1 de lv env A (I.ext l1);refine aD.keep (xO l1) ?_;simp only;cases z2:bd de lv with
     |next d1 l2=>
      rw[z2]at h2;obtain⟨e1,m2,A1,h3,I1,K1⟩:=h2;rw[h3];exact aD.keep K1 (jh hc hb k m2 d1 l2 e1 A1 I1)
     |ret d l=>
      rw[z2]at h2;obtain⟨w,m2,B,h3,k⟩:=h2;rw[h3];exact⟨w,m2,B,rfl,k⟩
     |no=>trivial
   |_=>trivial
set_option tactic.hygienic true in
def D5(H:bx lev cl cd){bw:Wd->En->Me->Rs}{bd:Dat×Dat->aO->List Lv->bS}(hb:∀(p:Dat×Dat) w1 w2 m de lv env A,Inv lo RR m de lv env A->ai (zG RR A) m p.1 w1->ai (zG RR A) m p.2 w2->aD lo RR A m (bw (.tup [w1,w2]) env m) (bd p de lv)){m:Me}{de:aO}{lv:List Lv}{env:En}{A:Nat->List Nat}(I:Inv lo RR m de lv env A)(a b:Ex):
  aD lo RR A m ((af cl a env m).bindS env λx m1=>(af cl b env m1).bindS env λy m2=>yX bw (zp .zip x y) (aF+1) 0 env m2) ((ax cd a de).okS λx=>(ax cd b de).okS λy=>match xw .zip x y with
   |some ps=>zT bd ps de (bi (zj a++zj b) lv)
   |none=>.no):=by
 obtain⟨A1,I1,K1,hA,_,_⟩:=Inv.downs (zj a++zj b) I;have hno:∀i∈zj a++zj b,∀l,(bi (zj a++zj b) lv)[i]?=some l->l=.no:=λi hi l hl=>by
  rw[yx]at hl;split at hl
  .exact (Option.some.inj hl).symm
  .next q=>
   have:i<lv.length:=(Qb.mp hl).1;exact J9 ⟨hi,this⟩ q
 have E:=xP I1 hno;have hR:∀{n:Nat}{x:Nat},m.length<=n->Rf (zG RR A1) n x->zG RR A1 x:=λ{n x} hn r=>by
  rcases r with r|r
  .exact r
  .exact ⟨I1.rr x (Qm I1.lom (Qm hn r)),λk hk=>by have:=(I1.bd k x hk).2;lia⟩
 refine aD.okS λx hx=>aD.okS λy hy=>?_;cases hp:xw .zip x y with
 |none=>trivial
 |some ps=>
  have ha:=za H.r a (zG RR A1) m de env E.left;rw[hx]at ha;obtain⟨w1,m1,e1,l1,r1⟩:=ha;have r1':ai (zG RR A1) m1 x w1:=ai.frame (λl o r z=>⟨hR (Qf _) r,z⟩) _ _ r1;have hb2:=za H.r b (zG RR A1) m1 de env (E.right.up (λ_ h=>h) l1);rw[hy]at hb2;obtain⟨w2,m2,e2,l2,r2⟩:=hb2;have r2':ai (zG RR A1) m2 y w2:=ai.frame (λl o r z=>⟨hR l1.len r,z⟩) _ _ r2;have r1'':ai (zG RR A1) m2 x w1:=ai.frame (λl o r z=>⟨r,l2 l o z⟩) _ _ r1';rw[e1];simp only[Rz.bindS];rw[e2];simp only;have hz:=(xL hp r1'' r2').2;refine aD.keep (K1.trans (xO (l1.trans l2))) (Er hb (g:=zp .zip w1 w2) (all:=ps) (P:=λm A=>ai (zG RR A) m x w1/\ai (zG RR A) m y w2) (λm A m1 A1 h K=>⟨K.rep h.1,K.rep h.2⟩) (λm A h=>?_) ps 0 (aF+1) m2 de _ env A1 (I1.ext (l1.trans l2)) ⟨r1'',r2'⟩ rfl (by simp) (by lia));have q:=(xL hp h.1 h.2).1 m (Le.refl m);exact⟨q.1,q.2 _ (Qf _)⟩
def Inv.drop{m:Me}{de:aO}{lv:List Lv}{env:En}{A:Nat->List Nat}(I:Inv lo RR m de lv env A)(i:Nat)(hi:i<de.length):Inv lo RR m (de.set i none) (lv.set i .full) env A:=by
 refine⟨by simp[I.len],by simp[I.lvl],I.rr,I.lom,λk d l h1 h2=>?_,I.nd,I.dj,I.bd⟩;by_cases e:i=k
 .subst e;rw[QC,J7 rfl]at h1;split at h1
  .cases h1
  .cases h1
 .rw[Qo e]at h1 h2;exact I.slot k d l h1 h2
set_option tactic.hygienic true in
set_option tactic.hygienic true in
def Ck {ds:List Dat}(o:aX m d w A)(nd:A.Nodup)(e:wm d (.int i)=.ok v)(hv:aB v=false):
  ∃x B,xY w (.int i) m=.ok x m/\aX m v x B/\B.Nodup/\∀b∈B,b∈A:=by
 have go:∀(ds:List Dat) (xs:List Wd) (C:List Nat),xa d=some ds->yD m w=some xs->au m ds xs C->C.Nodup->(∀b∈C,b∈A)->∃x B,xY w (.int i) m=.ok x m/\aX m v x B/\B.Nodup/\∀b∈B,b∈A:=by
  intro ds xs C h1 h2 r nC hC;simp only[wm,h1]at e;have hlen:=au.len r;cases h3:(ix ds.length i).bind λj=>ds[j]? with
  |none=>rw[h3]at e;cases e
  |some v'=>
   rw[h3]at e;cases e;obtain⟨p,h4,h5⟩:=QE.mp h3;obtain⟨x,B1,Bp,B2,g1,g2,g3,g4,g5⟩:=r.split h5;rw[hlen]at h4;refine⟨x,Bp,?_,g3,?_,λb hb=>hC b ?_⟩
   .simp only[xY,h2,h4,QQ,g1]
   .rw[g2]at nC;exact(QB.mp (QB.mp nC).2.1).1
   .rw[g2];simp[hb]
 cases d with
 |lst ds=>
  obtain⟨l,xs,B,rfl,rfl,hm,r⟩:=bc.mp o;exact go ds xs B rfl (by show zn m l=some xs;unfold zn;rw[hm]) r (Qw.mp nd).2 (λb hb=>Qd _ hb)
 |tup ds=>
  obtain⟨xs,rfl,r⟩:=bq.mp o;exact go ds xs A rfl rfl r nd (λb hb=>hb)
 |scr ns=>
  simp only[wm,xa]at e;cases h3:(ix (ns.map Dat.int).length i).bind λj=>(ns.map Dat.int)[j]? with
  |none=>rw[h3]at e;cases e
  |some v'=>
   rw[h3]at e;cases e;obtain⟨p,h4,h5⟩:=QE.mp h3;rw[QD]at h5;cases hn:ns[p]? with
   |none=>rw[hn]at h5;cases h5
   |some n=>rw[hn]at h5;cases h5;cases hv
 |_=>cases e
def qF (I:Inv lo RR m de lv env A)(hj:lv[j]?=some .full)(z:ax cd (.blt .sorted (.pair (.idx (.var j) (.var k)) .unit)) de=.ok d)(h2:af cl (.blt .sorted (.pair (.idx (.var j) (.var k)) .unit)) env m=.ok w m1):∃B,bh (λx=>RR x/\x∉B) m1 .full d w B/\B.Nodup/\∀b∈B,lo<=b:=by
 have z':((((ax cd (.var j) de).bind λx=>(ax cd (.var k) de).bind λy=>wm x y).bind λx=>(Rd.ok (.tup [])).bind λy=>.ok (.tup (x::zA y))).bind λx=>kK .sorted (zA x))=.ok d:=z;have h':((((af cl (.var j) env m).bind λx m1=>(af cl (.var k) env m1).bind λy m2=>xY x y m2).bind λx m1=>(Rz.ok (.tup []) m1).bind λy m2=>.ok (.tup (x::zh y)) m2).bind λx m1=>vv .sorted (zh x) m1)=.ok w m1:=h2;cases q1:ax cd (.var j) de with
 |no=>rw[q1]at z';cases z'
 |ok dj=>
  cases q2:ax cd (.var k) de with
  |no=>rw[q1,q2]at z';cases z'
  |ok dk=>
   rw[q1,q2]at z';simp only[Rd.bind]at z';have g1:=wH q1;have g2:=wH q2;cases dk with
   |int i=>
    cases q3:wm dj (.int i)with
    |no=>rw[q3]at z';cases z'
    |ok v=>
     rw[q3]at z';simp only[zA]at z';cases v with
     |lst es=>
      have z2:(if es.length<2 then bu es else .no)=.ok d:=z';by_cases zl:es.length<2
      .rw[J7 zl]at z2;obtain⟨lk,hlk⟩:=I.getlv g2;obtain⟨wj,ej,oj⟩:=I.slot j dj .full g1 hj;obtain⟨wk,ek,ok⟩:=I.slot k _ lk g2 hlk;have rk:ai (λ_=>True) m (.int i) wk:=bh.rep (λ_ _=>trivial) (λ_ _=>trivial) ok;obtain rfl:=aa.mp rk;obtain⟨x,B,hx,ox,nB,hB⟩:=Ck (ds:=[]) oj (I.nd j) q3 rfl;obtain⟨l2,us,B2,rfl,rfl,hm2,r2⟩:=bc.mp ox;rw[xA ej m]at h';simp only[Rz.bind]at h';rw[xA ek m]at h';simp only[Rz.bind,hx,zh]at h';have e3:zn m l2=some us:=by unfold zn;rw[hm2]
       have hlen:=au.len r2;have e5:us.length<2:=by lia
       simp only[vv,e3,J7 e5]at h';have nB2:=(Qw.mp nB).2;have z3:(if es.length<=aF then Rd.ok (.lst es)else .no)=.ok d:=z2;unfold alloc at h';by_cases c:es.length<=aF
       .rw[J7 c]at z3;rw[J7 (by lia)]at h';cases z3;cases h';have hlt:=au.lt es us B2 r2;refine⟨m.length::B2,bc.mpr ⟨_,us,B2,rfl,rfl,by simp,au.frame es us B2 (λl hl o q=>Le.app m _ l o q) r2⟩,Qw.mpr ⟨λq=>by have:=hlt _ q;lia,nB2⟩,λb hb=>?_⟩;rcases Qj.mp hb with rfl|hb
        .exact I.lom
        .exact (I.bd j b (hB b (Qd _ hb))).1
       .rw[J8 c]at z3;cases z3
      .rw[J8 zl]at z2;cases z2
     |_=>cases z'
   |_=>cases z'
theorem rZ:∀{ks:List (List Int)}{ds:List Dat}{xs:List Wd}{A:List Nat},au m ds xs A->A.Nodup->b9 ks ds q=some d->∃x B,b9 ks xs q=some x/\aX m d x B/\B.Nodup/\∀b∈B,b∈A
 |[],_,_,_,_,_,h=>by cases h
 |k::ks,[],_,_,_,_,h=>by cases h
 |k::ks,e::ds,xs,A,o,nd,h=>by
  obtain⟨x,r,B,C,rfl,rfl,o1,o2⟩:=o.cons_inv;have h':(if k=q then some e else b9 ks ds q)=some d:=h;obtain⟨n1,n2,_⟩:=QB.mp nd;by_cases c:k=q
  .rw[J7 c]at h';cases h';exact⟨x,B,J7 c,o1,n1,λb hb=>QL _ hb⟩
  .rw[J8 c]at h';obtain⟨y,B',e1,e2,e3,e4⟩:=rZ o2 n2 h';exact⟨y,B',(J8 c).trans e1,e2,e3,λb hb=>Qn _ (e4 b hb)⟩
def D4 (H:bx lev cl cd)(I:Inv lo RR m de lv env A)(hj:lv[j]?=some .full)(z:ax cd (.dget (.var j) k) de=.ok d)(h2:af cl (.dget (.var j) k) env m=.ok w m1):∃B,bh (λx=>RR x/\x∉B) m1 .full d w B/\B.Nodup/\∀b∈B,lo<=b:=by
 have z':((ax cd (.var j) de).bind λx=>(ax cd k de).bind λy=>ky x y)=.ok d:=z;have h':((af cl (.var j) env m).bind λx m1=>(af cl k env m1).bind λy m2=>vS x y m2)=.ok w m1:=h2;cases q1:ax cd (.var j) de with
 |no=>rw[q1]at z';cases z'
 |ok dj=>
  cases q2:ax cd k de with
  |no=>rw[q1,q2]at z';cases z'
  |ok dk=>
   rw[q1,q2]at z';simp only[Rd.bind]at z';obtain⟨wj,ej,oj⟩:=I.slot j dj .full (wH q1) hj;obtain⟨wk,mk,e2,l2,r2⟩:=I.ok H.r q2 (Le.refl m);cases dj with
   |dct ks ds=>
    have z2:(match (xu dk).bind (b9 ks ds)with|some v=>Rd.ok v|none=>.no)=.ok d:=z';cases q3:xu dk with
    |none=>rw[q3]at z2;cases z2
    |some q=>
     rw[q3]at z2;simp only[QQ]at z2;cases q4:b9 ks ds q with
     |none=>rw[q4]at z2;cases z2
     |some v=>
      rw[q4]at z2;cases z2;obtain⟨l,xs,B,rfl,hA,hm,o2⟩:=bH.mp oj;have nd:=I.nd j;rw[hA,Qw]at nd;obtain⟨x,B',a1,a2,a3,a4⟩:=rZ o2 nd.2 q4;rw[xA ej m]at h';simp only[Rz.bind,e2]at h';have h3:(match mk[l]? with
       |some (.dct ks ws)=>match (jx wk).bind (b9 ks ws)with
        |some v=>Rz.ok v mk
        |none=>.no
       |_=>.no)=.ok w m1:=h'
      rw[l2 l _ hm]at h3;simp only[xy r2 q3,QQ,a1]at h3;cases h3;refine⟨B',aX.frame _ _ B' (λb hb o ho=>l2 b o ho) a2,a3,λb hb=>(I.bd j b ?_).1⟩;rw[hA];exact Qd _ (a4 b hb)
   |_=>cases z'
set_option tactic.hygienic true in
def Cj (H:bx lev cl cd)(I:Inv lo RR m de lv env A)(e:Ex):aD lo RR A m (aT cl (.ret e) env m) (aW lev cd (.ret e) de lv):=by
 show aD _ _ _ _ ((af cl e env m).bindS env _) ((ax cd e de).bindS _);cases z:ax cd e de with
 |no=>trivial
 |ok d=>
  obtain⟨w,m1,h2,l1,r1⟩:=I.ok H.r z (Le.refl m);rw[h2];show aD lo RR A m (.ret w m1) (.ret d (dU lev e d lv));have kp:(∀(x:Nat) o,(∀i,x∉A i)->m[x]?=some o->m1[x]?=some o)/\m.length<=m1.length:=⟨λx o _ b=>l1 x o b,l1.len⟩;have no:bh (λx=>RR x/\x∉([]:List Nat)) m1 .no d w []:=⟨ai.frame (λx o r z=>⟨⟨r,by simp⟩,z⟩) _ _ r1,rfl⟩;by_cases f:aB d=true
  .refine ⟨w,m1,[],rfl,kp,?_,Qu,by simp⟩;unfold dU;rw[J7 f];exact r1.flat d w f
  .unfold dU;rw[J8 f];split
   .next i=>
    have hdi:de[i]?=some (some d):=by
     exact wH z
    obtain⟨l,hl⟩:=I.getlv hdi;obtain⟨w',he,ro⟩:=I.slot i d l hdi hl;rw[xA he m]at h2;cases h2;rw[hl];refine⟨_,_,A i,rfl,kp,?_,I.nd i,λb hb=>(I.bd i b hb).1⟩;exact ro.frame (λx o r z=>⟨⟨r.1,r.2 i⟩,z⟩) (λ_ _ _ z=>z)
   .next a b=>
    split
    .next c=>
     obtain⟨hab,ha,hb⟩:=c;have:∃da db,de[a]?=some (some da)/\de[b]?=some (some db)/\d=.tup [da,db]:=by
      have hz:ax cd (.tup (.pair (.var a) (.pair (.var b) .unit))) de=((ax cd (.var a) de).bind λx=>((ax cd (.var b) de).bind λy=>.ok (.tup [y])).bind λy=>.ok (.tup (x::zA y))).bind λx=>if(zA x).length<=aF then .ok (.tup (zA x))else .no:=rfl;rw[hz]at z;cases q1:de[a]? with
      |none=>rw[yA (.inl q1)]at z;cases z
      |some o=>cases o with
       |none=>rw[yA (.inr q1)]at z;cases z
       |some da=>
        rw[xx q1]at z;cases q2:de[b]? with
        |none=>rw[yA (.inl q2)]at z;cases z
        |some o=>cases o with
         |none=>rw[yA (.inr q2)]at z;cases z
         |some db=>
          rw[xx q2]at z;simp[Rd.bind,zA,aF]at z;exact⟨da,db,rfl,rfl,z.symm⟩
     obtain⟨da,db,h3,h4,rfl⟩:=this;obtain⟨wa,ea,oa⟩:=I.slot a da .full h3 ha;obtain⟨wb,eb,ob⟩:=I.slot b db .full h4 hb;have hw:af cl (.tup (.pair (.var a) (.pair (.var b) .unit))) env m=.ok (.tup [wa,wb]) m:=by
      show(((af cl (.var a) env m).bind λx m1=>((af cl (.var b) env m1).bind λy m2=>.ok (.tup [y]) m2).bind λy m2=>.ok (.tup (x::zh y)) m2).bind λx m1=>if(zh x).length<=aF then .ok (.tup (zh x)) m1 else .no)=_;rw[xA ea m];simp only[Rz.bind];rw[xA eb m];simp[zh,aF]
     rw[hw]at h2;cases h2;refine⟨_,_,A a++(A b++[]),rfl,kp,bq.mpr ⟨_,rfl,.cons oa (.cons ob .nil)⟩,?_,?_⟩
     .rw[QS];exact QB.mpr ⟨I.nd a,I.nd b,λx hx y hy e=>hab (I.dj a b x hx (by rw[e];exact hy))⟩
     .intro x hx;rw[QS]at hx;rcases QN.mp hx with q|q
      .exact (I.bd a x q).1
      .exact (I.bd b x q).1
    .exact ⟨w,m1,[],rfl,kp,no,Qu,by simp⟩
   .next j k=>
    split
    .next hj=>
     obtain⟨B,ro,nd,hB⟩:=qF I hj z h2;exact⟨w,m1,B,rfl,kp,ro,nd,hB⟩
    .exact ⟨w,m1,[],rfl,kp,no,Qu,by simp⟩
   .next j k=>
    split
    .next hj=>
     obtain⟨B,ro,nd,hB⟩:=D4 H I hj z h2;exact⟨w,m1,B,rfl,kp,ro,nd,hB⟩
    .exact ⟨w,m1,[],rfl,kp,no,Qu,by simp⟩
   .obtain ⟨B,ro,nd,hB⟩:=I.own H z h2;exact⟨w,m1,B,rfl,kp,ro,nd,λb hb=>Qm I.lom (hB b hb)⟩
set_option tactic.hygienic true in
theorem xc(H:bx lev cl cd):∀(s:Sm) (m:Me) (de:aO) (lv:List Lv) (env:En) (A:Nat->List Nat),Inv lo RR m de lv env A->aD lo RR A m (aT cl s env m) (aW lev cd s de lv)
 |.skip,m,de,lv,env,A,I=>by show aD _ _ _ _ (.next env m) (.next de lv);exact⟨env,m,A,rfl,I,aZ.refl A m⟩
 |.seq a b,m,de,lv,env,A,I=>by
  cases hv:zU a b with
  |some t=>
   obtain⟨i,j,k,e0,k2,e⟩:=t;obtain⟨rfl,rfl,hij⟩:=Eo hv;rw[jU,hv];exact uZ H I hij
  |none=>
   have h:=xc H a m de lv env A I;rw[jU,hv];show aD _ _ _ _ (match aT cl a env m with
    |.next e1 m1=>aT cl b e1 m1
    |r=>r) _
   cases z:aW lev cd a de lv with
   |next d1 l1=>
    rw[z]at h;obtain⟨e1,m1,A1,h1,I1,K1⟩:=h;rw[h1];exact aD.keep K1 (xc H b m1 d1 l1 e1 A1 I1)
   |ret d l=>
    rw[z]at h;obtain⟨w,m1,B,h1,k⟩:=h;rw[h1];exact⟨w,m1,B,rfl,k⟩
   |no=>trivial
 |.asg i e,m,de,lv,env,A,I=>BK H I i e
 |.dput j k e,m,de,lv,env,A,I=>D7 H I j k e
 |.forD i x body,m,de,lv,env,A,I=>D6 (cl:=cl) (bw:=λx e m=>aT cl body (e.set i (some x)) m) (bd:=λx de lv=>aW lev cd body (de.set i (some x)) (lv.set i (di x))) (λx w m de lv env A I r=>by
   obtain⟨I1,K1⟩:=I.bindSlot i r;exact aD.keep K1 (xc H body m _ _ _ _ I1)) I x
 |.aug i op e,m,de,lv,env,A,I=>Cn H I i op e
 |.ite c a b,m,de,lv,env,A,I=>by
  refine I.bindE H.r c λd w m1 _ _ l1 r1=>?_;cases d with
  |bl t=>
   rw[aj.mp r1];cases t with
   |true=>exact xc H a m1 de lv env A (I.ext l1)
   |false=>exact xc H b m1 de lv env A (I.ext l1)
  |_=>trivial
 |.forv i it body,m,de,lv,env,A,I=>by
  refine Cm H (λx w m de lv env A I r=>?_) I it;obtain⟨I1,K1⟩:=I.bindSlot i r;exact aD.keep K1 (xc H body _ _ _ _ _ I1)
 |.forZ i j a b body,m,de,lv,env,A,I=>by
  refine D5 H (λp w1 w2 m de lv env A I ra rb=>?_) I a b;obtain⟨I1,K1⟩:=I.bindSlot i ra;obtain⟨I2,K2⟩:=I1.bindSlot j (K1.rep rb);exact aD.keep (K1.trans K2) (xc H body _ _ _ _ _ I2)
 |.while c body,m,de,lv,env,A,I=>by
  refine jh (λm de lv env A I=>?_) (λm de lv env A I=>xc H body m de lv env A I) _ m de lv env A I;have h:=za H.r c RR m de env (I.envR _);cases z:ax cd c de with
  |no=>trivial
  |ok d=>rw[z]at h;obtain⟨w,m1,h1,l1,r1⟩:=h;exact⟨w,m1,h1,l1,I.rf r1⟩
 |.ret e,m,de,lv,env,A,I=>Cj H I e
 |.expr e,m,de,lv,env,A,I=>by
  have dflt:aD lo RR A m (aT cl (.expr e) env m) ((ax cd e de).bindS λ_=>.next de lv):=by
   exact I.bindE H.r e λd w m1 _ _ l1 _=>⟨env,m1,A,rfl,I.ext l1,aZ.refl A m1⟩
  cases e with
  |meth n o a=>
   cases n with
   |append=>
    cases o with
    |var j=>
     cases a with
     |pair e u=>cases u with
      |unit=>exact DR H I j e
      |_=>exact trivial
     |_=>exact trivial
    |_=>exact trivial
   |reverse=>
    cases o with
    |var j=>
     cases a with
     |unit=>exact DQ (cl:=cl) (cd:=cd) (lev:=lev) I j
     |_=>exact trivial
    |_=>exact trivial
   |_=>exact trivial
  |_=>exact dflt
 |.never,m,de,lv,env,A,I=>by exact trivial
end
def ji{α β:Type}(f:α->β)(z:β)(xs:List α)(n i:Nat):(xs.map f++Qt n z)[i]?=if i<xs.length then(xs[i]?).map f else if i<xs.length+n then some z else none:=by
 rw[List.getElem?_append,QF];split
 .rw[QD]
 .rw[Wl];by_cases h:i-xs.length<n
  .rw[J7 h,J7 (by lia)]
  .rw[J8 h,J8 (by lia)]
set_option tactic.hygienic true in
def Em (fn:Fn)(h:ae R m ds ws):Inv m.length (Rf R m.length) m (zu fn ds) (zy fn ds) (yi fn ws) (λ_=>[]):=by
 have hl:=h.len;refine⟨?_,?_,λl hl=>.inr hl,Qf _,?_,λ_=>Qu,(λ_ _ _ h=>by cases h),(λ_ _ h=>by cases h)⟩
 .simp[zu,yi,hl]
 .simp[zu,zy]
 .intro i d l h1 h2;unfold zu at h1;unfold zy at h2;rw[ji]at h1 h2;by_cases hi:i<ds.length
  .rw[J7 hi]at h1 h2;obtain⟨d',e1,e2⟩:=QH.mp h1;cases e2;rw[e1]at h2;cases h2;obtain⟨w,hw,r⟩:=h.get e1;refine⟨w,?_,?_⟩
   .unfold yi;rw[ji,J7 (by lia),hw];rfl
   .unfold di;split
    .next f=>exact r.flat d w f
    .exact ⟨ai.frame (λx o r z=>⟨⟨.inl r,λ_ h=>by cases h⟩,z⟩) _ _ r,rfl⟩
  .rw[J8 hi]at h1;split at h1<;>cases h1
set_option tactic.hygienic true in
def Ci (H:bx lev cl cd)(k:Nat)(fn:Fn)(ds:List Dat)(ws:List Wd)(R:Nat->Prop)(m:Me)(h:ae R m ds ws):aI R m (xz lev k) (y7 cl fn ws m) (yg lev cd k fn ds):=by
 unfold y7 yg;rw[h.len];split
 .have s:=xc H fn.body m _ _ _ _ (Em fn h);cases z:aW lev cd fn.body (zu fn ds) (zy fn ds)with
  |next d1 l1=>
   rw[z]at s;obtain⟨e1,m1,A1,h1,I1,K1⟩:=s;rw[h1];refine⟨.non,m1,[],rfl,λl o q=>(K1.1 l o (λ_ h=>by cases h) q).2,?_,Qu,by simp⟩;unfold xz bh aX;simp[aB]
  |ret d l=>
   rw[z]at s;obtain⟨w,m1,B,h1,⟨kp,_⟩,ro,nd,hB⟩:=s;rw[h1];have le:Le m m1:=λl o q=>kp l o (λ_ h=>by cases h) q;show aI R m (xz lev k) (.ok w m1) (if aB d || zgn l (lev k)then .ok d else .no);split
   .next c=>
    by_cases f:aB d=true
    .refine ⟨w,m1,[],rfl,le,?_,Qu,by simp⟩;unfold xz;rw[J7 f];exact(ro.rep (R':=λ_=>True) (λ_ _=>trivial) (λ_ _=>trivial)).flat d w f
    .have g:zgn l (lev k)=true:=by simpa [f]using c
     unfold aI xz;simp only[J8 f];cases e:lev k with
     |no=>
      refine⟨w,m1,[],rfl,le,⟨?_,rfl⟩,Qu,by simp⟩;exact ro.rep (λx r=>⟨r.1,by simp⟩) (λb hb=>⟨.inr (hB b hb),by simp⟩)
     |top=>
      rw[e]at g;cases l with
      |top=>exact⟨w,m1,B,rfl,le,ro,nd,hB⟩
      |no=>cases g
      |full=>cases g
     |full=>
      rw[e]at g;cases l with
      |full=>exact⟨w,m1,B,rfl,le,ro,nd,hB⟩
      |no=>cases g
      |top=>cases g
   .trivial
  |no=>trivial
 .trivial
theorem gW(lev:Nat->Lv)(T:List Fn):∀d:Nat,bx lev (ye T d) (kC lev T d)
 |0=>λk ds ws R m h=>trivial
 |d+1=>λk ds ws R m h=>by
  unfold ye kC;cases T[k]? with
  |none=>trivial
  |some fn=>exact Ci (gW lev T d) k fn ds ws R m h
def Ch(lev:Nat->Lv)(T:List Fn)(d i:Nat)(ns:List Int)(h:kC lev T d i [.scr ns]=.ok (.bl true)):∃m,ye T d i [.rol (ns.map Wd.int)] []=.ok (.bl true) m:=by
 have s:=gW lev T d i [.scr ns] [.rol (ns.map Wd.int)] (λ_=>True) [] (.cons (aV.mpr rfl) .nil);rw[h]at s;obtain⟨w,m',h1,_,r⟩:=s.sim;rw[aj.mp r]at h1;exact⟨m',h1⟩
section
variable(lev:Nat->Lv)(cl:Nat->List Dat->Rd)(de:aO)(lv:List Lv)
@[simp]theorem hU(d:Dat)(f:Dat->Rd):(Rd.ok d).bind f=f d:=rfl
@[simp]theorem hW(d:Dat)(f:Dat->bS):(Rd.ok d).bindS f=f d:=rfl
@[simp]theorem Rd.okS_ok(d:Dat)(f:Dat->bS):(Rd.ok d).okS f=f d:=rfl
@[simp]theorem wn(i:Int):ax cl (.lit (.int i)) de=.ok (.int i):=rfl
@[simp]theorem Hz(i:Bool):ax cl (.lit (.bl i)) de=.ok (.bl i):=rfl
@[simp]theorem Hv:ax cl (.lit .non) de=.ok .non:=rfl
@[simp]theorem Hu(s:List Nat):ax cl (.lit (.str s)) de=.ok (.str s):=rfl
@[simp]theorem rG(op:Bo)(a b:Ex):ax cl (.bin op a b) de=(ax cl a de).bind λx=>(ax cl b de).bind λy=>yn op x y:=rfl
@[simp]theorem Gw(op:Co)(a b:Ex):ax cl (.cmp op a b) de=(ax cl a de).bind λx=>(ax cl b de).bind λy=>xR op x y:=rfl
@[simp]theorem vD:ax cl .unit de=.ok (.tup []):=rfl
@[simp]theorem vE(a b:Ex):ax cl (.pair a b) de=(ax cl a de).bind λx=>(ax cl b de).bind λy=>.ok (.tup (x::zA y)):=rfl
@[simp]theorem rY(k:Nat)(a:Ex):ax cl (.call k a) de=(ax cl a de).bind λx=>cl k (zA x):=rfl
@[simp]theorem Gv(b:dM)(a:Ex):ax cl (.blt b a) de=(ax cl a de).bind λx=>kK b (zA x):=rfl
@[simp]theorem Ha(t:Tg)(a:Ex):ax cl (.isi t a) de=(ax cl a de).bind λx=>.ok (.bl (fS t x)):=rfl
@[simp]theorem uY(a b:Ex):ax cl (.idx a b) de=(ax cl a de).bind λx=>(ax cl b de).bind λy=>wm x y:=rfl
@[simp]theorem rF(a:Ex):ax cl (.lst a) de=(ax cl a de).bind λx=>bu (zA x):=rfl
@[simp]theorem G9(a:Ex):ax cl (.tup a) de=(ax cl a de).bind λx=>if(zA x).length<=aF then .ok (.tup (zA x))else .no:=rfl
@[simp]theorem G8(a b c:Ex):ax cl (.rng a b c) de=(ax cl a de).bind λx=>(ax cl b de).bind λy=>(ax cl c de).bind λz=>hZ x y z:=rfl
@[simp]theorem vF(d:Dat)(r:aO):ax cl (.var 0) (some d::r)=.ok d:=rfl
@[simp]theorem kD(i:Nat)(d:Option Dat)(r:aO):ax cl (.var (i+1)) (d::r)=ax cl (.var i) r:=rfl
@[simp]theorem uX(a:Ex):ax cl (.neg a) de=(ax cl a de).bind λx=>match x with
  |.int i=>.ok (.int (-i))
  |_=>.no:=rfl
@[simp]theorem uW(a:Ex):ax cl (.not a) de=(ax cl a de).bind λx=>match x with
  |.bl b=>.ok (.bl (! b))
  |_=>.no:=rfl
@[simp]theorem G7(a b:Ex):ax cl (.and a b) de=(ax cl a de).bind λx=>match x with
  |.bl true=>ax cl b de
  |.bl false=>.ok (.bl false)
  |_=>.no:=rfl
@[simp]theorem tU(a b:Ex):ax cl (.or a b) de=(ax cl a de).bind λx=>match x with
  |.bl false=>ax cl b de
  |.bl true=>.ok (.bl true)
  |_=>.no:=rfl
@[simp]theorem Hs(p q:Co)(a b c:Ex):ax cl (.chain p q a b c) de=(ax cl a de).bind λx=>(ax cl b de).bind λy=>(xR p x y).bind λz=>match z with
  |.bl true=>(ax cl c de).bind λu=>xR q y u
  |.bl false=>.ok (.bl false)
  |_=>.no:=rfl
@[simp]theorem G6(c a b:Ex):ax cl (.ife c a b) de=(ax cl c de).bind λx=>match x with
  |.bl true=>ax cl a de
  |.bl false=>ax cl b de
  |_=>.no:=rfl
@[simp]theorem GZ(a lo:Ex):ax cl (.slL a lo) de=(ax cl a de).bind λx=>(ax cl lo de).bind λy=>match y with
  |.int i=>eF x (some i) none
  |_=>.no:=rfl
@[simp]theorem GY(a b:Int):dg (.int a) (.int b)=decide (a=b):=rfl
@[simp]theorem GX(a b:Bool):dg (.bl a) (.bl b)=(a==b):=rfl
@[simp]theorem GW(a b:List Nat):dg (.str a) (.str b)=decide (a=b):=rfl
@[simp]theorem GV(a b:List Dat):dg (.tup a) (.tup b)=cu a b:=rfl
@[simp]theorem F9(a b:List Dat):dg (.lst a) (.lst b)=cu a b:=rfl
@[simp]theorem Hr(k:Nat)(a:Int):yP (k+1) (.int a)=true:=rfl
@[simp]theorem Ga(k:Nat)(a:Bool):yP (k+1) (.bl a)=true:=rfl
@[simp]theorem Hq(k:Nat)(a:List Nat):yP (k+1) (.str a)=true:=rfl
@[simp]theorem Ho(k:Nat):yP (k+1) .non=true:=rfl
@[simp]theorem Hn(k:Nat)(a:List Dat):yP (k+1) (.tup a)=bz k a:=rfl
@[simp]theorem Hm(k:Nat)(a:List Dat):yP (k+1) (.lst a)=bz k a:=rfl
@[simp]theorem Hy(k:Nat):bz k []=true:=rfl
@[simp]theorem Ht(k:Nat)(d:Dat)(a:List Dat):bz k (d::a)=(yP k d&&bz k a):=rfl
@[simp]theorem GU:zV=11+1:=rfl
@[simp]theorem tX(i j:Int):xR .lt (.int i) (.int j)=.ok (.bl (decide (i<j))):=rfl
@[simp]theorem tY(i j:Int):xR .le (.int i) (.int j)=.ok (.bl (decide (i<=j))):=rfl
@[simp]theorem tZ(i j:Int):xR .gt (.int i) (.int j)=.ok (.bl (decide (j<i))):=rfl
@[simp]theorem t5(i j:Int):xR .eq (.int i) (.int j)=.ok (.bl (decide (i=j))):=rfl
@[simp]theorem tW(i j:Int):xR .ne (.int i) (.int j)=.ok (.bl (! decide (i=j))):=rfl
@[simp]theorem F8(i j:Bool):xR .eq (.bl i) (.bl j)=.ok (.bl (i==j)):=rfl
@[simp]theorem F7(i j:Bool):xR .ne (.bl i) (.bl j)=.ok (.bl (!(i==j))):=rfl
@[simp]theorem rE(i j:Int):yn .add (.int i) (.int j)=.ok (.int (i+j)):=rfl
@[simp]theorem uV(i j:Int):yn .sub (.int i) (.int j)=.ok (.int (i-j)):=rfl
def Cg(i j:Int)(h:small i=true):yn .mul (.int i) (.int j)=.ok (.int (i*j)):=by simp[yn,h]
def Cf(i j:Int)(h:0<j)(k:j<1073741824):yn .fdiv (.int i) (.int j)=.ok (.int (i/j)):=by simp[yn,h,k]
def rD(i j:Int)(h:0<j):yn .mod (.int i) (.int j)=.ok (.int (i%j)):=by simp[yn,h]
def uU(i j:Int)(h:0<=j/\j<=1000000/\small i=true):yn .pow (.int i) (.int j)=.ok (.int (i^j.toNat)):=by simp only[yn];rw[J7 h]
@[simp]theorem wI(xs:List Dat):zA (.tup xs)=xs:=rfl
@[simp]theorem GT(xs:List Dat):kK .len [.lst xs]=.ok (.int xs.length):=rfl
@[simp]theorem GS(xs:List Dat):kK .len [.tup xs]=.ok (.int xs.length):=rfl
@[simp]theorem GR(ns:List Int):kK .len [.scr ns]=.ok (.int ns.length):=by simp[kK,xa]
@[simp]theorem F6(b:Bool):kK .int [.bl b]=.ok (.int (b2i b)):=rfl
def uT (h:i<n):ix n (i:Int)=some i:=by unfold ix;rw[J7 (by lia),J7 (by lia)];simp
@[simp]theorem Hl(a c:Int)(n:Nat):(xb a c n).length=n:=by simp[xb]
@[simp]theorem Hx(a c:Int):∀(n:Nat),aU (xb a c n)=true:=by
 intro n;unfold xb;generalize Q2 n=l
 induction l with
 |nil=>rfl
 |cons x l ih=>simp[aU,aB,ih]
@[simp]theorem Hk(xs:List Dat):aB (.tup xs)=aU xs:=by rw[aB]
@[simp]theorem Gu(xs:List Dat):aB (.lst xs)=false:=by rw[aB]
@[simp]theorem Gs(i:Int):aB (.int i)=true:=by rw[aB]
@[simp]theorem GQ(i:Bool):aB (.bl i)=true:=by rw[aB]
@[simp]theorem Gr:aB .non=true:=by rw[aB]
@[simp]theorem Gq(s:List Nat):aB (.str s)=true:=by rw[aB]
@[simp]theorem Gp(s:List Int):aB (.scr s)=true:=by rw[aB]
@[simp]theorem Hw:aU []=true:=by rw[aU]
@[simp]theorem HF(d:Dat)(ds:List Dat):aU (d::ds)=(aB d&&aU ds):=by rw[aU]
@[simp]theorem HE(l:List Int):aU (l.map Dat.int)=true:=by
 induction l with
 |nil=>rfl
 |cons x l ih=>simp[ih]
@[simp]theorem F5(xs:List Dat):c9 (.tup xs)=some xs:=rfl
@[simp]theorem F4(xs:List Int):c9 (.scr xs)=some (xs.map .int):=rfl
def Ax (h:xs.length<=aF):c9 (.lst xs)=some xs:=by simp[c9,h]
@[simp]theorem Ce:aW lev cl .skip de lv=.next de lv:=rfl
@[simp]theorem F3(e:Ex):aW lev cl (.ret e) de lv=(ax cl e de).bindS λd=>.ret d (dU lev e d lv):=rfl
@[simp]theorem Aw(i:Nat)(e:Ex):aW lev cl (.asg i e) de lv=(ax cl e de).bindS λd=>fm lev i e d de lv:=rfl
@[simp]theorem Av(c:Ex)(a b:Sm):aW lev cl (.ite c a b) de lv=(ax cl c de).bindS λx=>match x with
  |.bl true=>aW lev cl a de lv
  |.bl false=>aW lev cl b de lv
  |_=>.no:=rfl
end
namespace Lib
section
variable{lev:Nat->Lv}{cl:Nat->List Dat->Rd}{k:Nat}
noncomputable def isInt:Dat->Bool
 |.int _=>true
 |_=>false
noncomputable def jW:Fn:=⟨1,1,(.ret (.and (.isi .int (.var 0)) (.not (.isi .bool (.var 0)))))⟩
def El(d:Dat):yg lev cl k jW [d]=.ok (.bl (isInt d)):=by
 cases d<;>simp[yg,jW,zu,zy,yt,fS,isInt,dU]
end
end Lib
section
variable(lev:Nat->Lv)(cl:Nat->List Dat->Rd)(de:aO)(lv:List Lv)
@[simp]theorem F2(i:Nat)(op:Bo)(e:Ex):aW lev cl (.aug i op e) de lv=match de[i]? with
  |some (some (.int a))=>(ax cl e de).okS λy=>match y with
   |.int b=>(yn op (.int a) (.int b)).okS λz=>.next (de.set i (some z)) (lv.set i .full)
   |_=>.no
  |_=>.no:=rfl
@[simp]theorem GP(j:Nat)(e:Ex):aW lev cl (.expr (.meth .append (.var j) (.pair e .unit))) de lv=(ax cl e de).okS λd=>match qE de j with
   |some ds=>if ds.length<aF then match ip lev e d j de lv with
    |some (de1,lv1)=>.next (de1.set j (some (.lst (ds++[d])))) lv1
    |none=>.no
    else .no
   |none=>.no:=rfl
@[simp]theorem GO(j:Nat):aW lev cl (.expr (.meth .reverse (.var j) .unit)) de lv=match qE de j with
   |some ds=>if yB lv j then .next (de.set j (some (.lst ds.reverse))) lv else .no
   |none=>.no:=rfl
def rA(i:Nat)(it:Ex)(body:Sm):aW lev cl (.forv i it body) de lv=(ax cl it de).bindS λd=>match c9 d with
  |some xs=>zT (λx de lv=>aW lev cl body (de.set i (some x)) (lv.set i (di x))) xs de (if aB d then lv else xj it de lv)
  |none=>.no:=rfl
noncomputable def bS.then(r:bS)(f:aO->List Lv->bS):bS:=match r with
 |.next d l=>f d l
 |r=>r
@[simp]theorem jj(d:aO)(l:List Lv)(f:aO->List Lv->bS):(bS.next d l).then f=f d l:=rfl
@[simp]theorem Go(d:Dat)(l:Lv)(f:aO->List Lv->bS):(bS.ret d l).then f=.ret d l:=rfl
def zN (h:zU a b=none):aW lev cl (.seq a b) de lv=(aW lev cl a de lv).then (aW lev cl b):=by
 rw[jU,h];cases aW lev cl a de lv<;>rfl
def D3(a:Sm)(c d:Sm):zU a (.seq c d)=none:=rfl
@[simp]theorem F1(a:Sm)(c d:Sm):aW lev cl (.seq a (.seq c d)) de lv=(aW lev cl a de lv).then (aW lev cl (.seq c d)):=zN lev cl de lv (D3 a c d)
def CW(a:Sm)(e:Ex):zU a (.ret e)=none:=rfl
@[simp]theorem F0(a:Sm)(e:Ex):aW lev cl (.seq a (.ret e)) de lv=(aW lev cl a de lv).then (aW lev cl (.ret e)):=zN lev cl de lv (CW a e)
def CV(a:Sm)(c:Ex)(x y:Sm):zU a (.ite c x y)=none:=rfl
@[simp]theorem FZ(a:Sm)(c:Ex)(x y:Sm):aW lev cl (.seq a (.ite c x y)) de lv=(aW lev cl a de lv).then (aW lev cl (.ite c x y)):=zN lev cl de lv (CV a c x y)
def Ek(a:Sm)(i:Nat)(e:Ex)(x:Sm):zU a (.forv i e x)=none:=rfl
@[simp]theorem GN(a:Sm)(i:Nat)(e:Ex)(x:Sm):aW lev cl (.seq a (.forv i e x)) de lv=(aW lev cl a de lv).then (aW lev cl (.forv i e x)):=zN lev cl de lv (Ek a i e x)
def qG(a:Sm)(e:Ex)(x:Sm):zU a (.while e x)=none:=rfl
@[simp]theorem Gm(a:Sm)(e:Ex)(x:Sm):aW lev cl (.seq a (.while e x)) de lv=(aW lev cl a de lv).then (aW lev cl (.while e x)):=zN lev cl de lv (qG a e x)
def CU(a:Sm)(i:Nat)(e:Ex):zU a (.asg i e)=none:=rfl
@[simp]theorem FY(a:Sm)(i:Nat)(e:Ex):aW lev cl (.seq a (.asg i e)) de lv=(aW lev cl a de lv).then (aW lev cl (.asg i e)):=zN lev cl de lv (CU a i e)
def CT(a:Sm)(i:Nat)(op:Bo)(e:Ex):zU a (.aug i op e)=none:=rfl
@[simp]theorem FX(a:Sm)(i:Nat)(op:Bo)(e:Ex):aW lev cl (.seq a (.aug i op e)) de lv=(aW lev cl a de lv).then (aW lev cl (.aug i op e)):=zN lev cl de lv (CT a i op e)
def Ej(a:Sm)(e:Ex):zU a (.expr e)=none:=rfl
@[simp]theorem GM(a:Sm)(e:Ex):aW lev cl (.seq a (.expr e)) de lv=(aW lev cl a de lv).then (aW lev cl (.expr e)):=zN lev cl de lv (Ej a e)
def Ei(a:Sm): zU a .skip=none:=rfl
@[simp]theorem GL(a:Sm): aW lev cl (.seq a .skip) de lv=(aW lev cl a de lv).then (aW lev cl .skip):=zN lev cl de lv (Ei a)
def qH(a:Sm): zU a .never=none:=rfl
@[simp]theorem Gj(a:Sm): aW lev cl (.seq a .never) de lv=(aW lev cl a de lv).then (aW lev cl .never):=zN lev cl de lv (qH a)
end
namespace Lib
section
noncomputable def sJ(r:List Int):Dat:=.lst (r.map .int)
end
end Lib
namespace Lib
section
noncomputable def S(R:List (List Int))(r c:Nat):Int:=((R.take r).map (λx=>x.getD c 0)).sum
def ac(R:List (List Int))(r c:Nat):Int:=((R.getD r []).take c).sum
end
end Lib
namespace Lib
section
variable{lev:Nat->Lv}{cl:Nat->List Dat->Rd}{k:Nat}
noncomputable def gX:Fn:=⟨2,2,(.seq (.ite (.cmp .lt (.var 1) (.blt .len (.pair (.var 0) .unit))) (.ret (.idx (.var 0) (.var 1))) .skip) (.ret (.bin .add (.bin .mul (.lit (.int 2)) (.var 1)) (.lit (.int 1)))))⟩
def CS(ns:List Int)(i:Nat):∃c:Int,yg lev cl k gX [.scr ns,.int i]=.ok (.int c):=by
 by_cases h:i<ns.length
 .refine ⟨ns[i],?_⟩;have h1:wm (.scr ns) (.int (i:Int))=.ok (.int ns[i]):=by simp[wm,xa,uT h,h]
  simp[yg,gX,zu,zy,yt,dU,h,h1]
 .refine ⟨2*i+1,?_⟩;simp[yg,gX,zu,zy,yt,dU,h,Cg 2 i (by decide)]
end
end Lib
namespace Lib
section
variable{lev:Nat->Lv}{cl:Nat->List Dat->Rd}{k:Nat}
noncomputable def vG(kw:Nat):Fn:=⟨2,2,(.ret (.and (.call kw (.pair (.var 0) .unit)) (.chain .le .le (.lit (.int 1)) (.var 0) (.var 1))))⟩
def qI (hw:∀d,cl kw [d]=.ok (.bl (isInt d)))(n m:Int):yg lev cl k (vG kw) [.int n,.int m]=.ok (.bl (decide (1<=n/\n<=m))):=by
 by_cases h:1<=n<;>simp[yg,vG,zu,zy,yt,dU,hw,isInt,h]
end
end Lib
end Vl
end Mini
namespace Mini
open PySem
def ay.p{C:Ctx}{sc:HH}{N:List Str}{a b:Ex}{x:Expr}{xs:List Expr}(ha:ay C sc N a (.e x))(hb:ay C sc N b (.a xs))(hs:zg x=true:=by rfl)(ra:zi a=false:=by rfl): ay C sc N (.pair a b) (.a (x :: xs)):=.pair hs ra ha hb
theorem ay.c{C:Ctx}{sc:HH}{N:List Str}{k:Nat}{a:Ex}{f:Str}{y:Expr}{ys:List Expr}{p p':Pos}(ha:ay C sc N a (.a (y :: ys)))(h1:C.fns[k]? = some f:=by rfl)(h2:bZ sc f=true:=by kernel_rfl)(h3:zr f=true:=by kernel_rfl)(hs:(y :: ys).all zg=true:=by rfl): ay C sc N (.call k a) (.e (.Call (.Name f p) (y :: ys) [] p')):=.call h1 h2 h3 hs ha
theorem ay.q{C:Ctx}{sc:HH}{N:List Str}{b:dM}{a:Ex}{nm:Str}{f:Value}{y:Expr}{ys:List Expr}{p p':Pos}(ha:ay C sc N a (.a (y :: ys)))(h1:im b=some (nm,f):=by rfl)(h2:bZ sc nm=true:=by kernel_rfl)(h3:zr nm=true:=by kernel_rfl)(hs:(y :: ys).all zg=true:=by rfl): ay C sc N (.blt b a) (.e (.Call (.Name nm p) (y :: ys) [] p')):=.blt h1 h2 h3 hs ha
theorem ay.x{C:Ctx}{sc:HH}{N:List Str}{a b:Ex}{x y:Expr}{p:Pos}(ha:ay C sc N a (.e x))(rb:zi b=false)(hb:ay C sc N b (.e y))(hs:yz y=true:=by rfl)(ra:zi a=false:=by rfl): ay C sc N (.idx a b) (.e (.Subscript x y p)):=.idx hs ra ha rb hb
def ay.k{C:Ctx}{sc:HH}{N:List Str}{op:Co}{a b:Ex}{x y:Expr}{p:Pos}(ha:ay C sc N a (.e x))(rb:zi b=false)(hb:ay C sc N b (.e y))(hs:yj y=true:=by rfl)(ra:zi a=false:=by rfl): ay C sc N (.cmp op a b) (.e (.Compare x [cK op] [y] p)):=.cmp hs ra ha rb hb
theorem bC.s{C:Ctx}{sc:HH}{N:List Str}{i:Nat}{e:Ex}{x:Str}{v:Expr}{p p':Pos}(he:ay C sc N e (.e v))(hc:kn v=false:=by rfl)(h1:N[i]? = some x:=by rfl)(h2:wW sc x=true:=by kernel_rfl)(hr:zi e=false:=by rfl): bC C sc N (.asg i e) (.s (.Assign [.Name x p] v p')):=.asg hc h1 h2 hr he
end Mini
namespace R70
open PySem L2 Mini
noncomputable def f0:Fn:=Mini.Vl.Lib.jW
abbrev qdd(a:Str)(i:Nat)(N:List Str)(k:Nat)(f:Fn):aM:=⟨a,top i,N,N.take k,f,a⟩
abbrev d0:=qdd "is_whole" 11 ["thing"] 1 f0
noncomputable def f1:Fn:=Mini.Vl.Lib.vG 0
abbrev d1:=qdd "is_size_to" 12 ["thing","most"] 2 f1
noncomputable def f2:Fn:=⟨2,2,(.ite (.not (.call 1 (.pair (.var 0) (.pair (.var 1) .unit)))) .never .skip)⟩
abbrev d2:=qdd "need_size_to" 13 ["n","most"] 2 f2
noncomputable def f3:Fn:=⟨3,3,(.ret (.and (.chain .le .lt (.lit (.int 0)) (.var 1) (.var 0)) (.chain .le .lt (.lit (.int 0)) (.var 2) (.var 0))))⟩
abbrev d3:=qdd "is_place" 15 ["n","r","c"] 3 f3
noncomputable def f4:Fn:=⟨4,4,(.seq (.ite (.not (.call 3 (.pair (.var 0) (.pair (.var 1) (.pair (.var 2) .unit))))) (.ret (.lit .non)) .skip) (.seq (.ite (.and (.cmp .eq (.var 3) (.lit (.str [85]))) (.cmp .eq (.var 1) (.lit (.int 0)))) (.ret (.var 2)) .skip) (.seq (.ite (.and (.cmp .eq (.var 3) (.lit (.str [82]))) (.cmp .eq (.var 2) (.bin .sub (.var 0) (.lit (.int 1))))) (.ret (.bin .add (.var 0) (.var 1))) .skip) (.seq (.ite (.and (.cmp .eq (.var 3) (.lit (.str [68]))) (.cmp .eq (.var 1) (.bin .sub (.var 0) (.lit (.int 1))))) (.ret (.bin .add (.bin .mul (.lit (.int 2)) (.var 0)) (.bin .sub (.bin .sub (.var 0) (.lit (.int 1))) (.var 2)))) .skip) (.seq (.ite (.and (.cmp .eq (.var 3) (.lit (.str [76]))) (.cmp .eq (.var 2) (.lit (.int 0)))) (.ret (.bin .add (.bin .mul (.lit (.int 3)) (.var 0)) (.bin .sub (.bin .sub (.var 0) (.lit (.int 1))) (.var 1)))) .skip) (.ret (.lit .non)))))))⟩
abbrev d4:=qdd "road_over" 16 ["n","r","c","side"] 4 f4
noncomputable def f5:Fn:=⟨2,4,(.seq (.asg 2 (.bin .fdiv (.var 1) (.var 0))) (.seq (.asg 3 (.bin .mod (.var 1) (.var 0))) (.seq (.ite (.cmp .eq (.var 2) (.lit (.int 0))) (.ret (.tup (.pair (.lit (.int 0)) (.pair (.var 3) (.pair (.lit (.str [85])) .unit))))) .skip) (.seq (.ite (.cmp .eq (.var 2) (.lit (.int 1))) (.ret (.tup (.pair (.var 3) (.pair (.bin .sub (.var 0) (.lit (.int 1))) (.pair (.lit (.str [82])) .unit))))) .skip) (.seq (.ite (.cmp .eq (.var 2) (.lit (.int 2))) (.ret (.tup (.pair (.bin .sub (.var 0) (.lit (.int 1))) (.pair (.bin .sub (.bin .sub (.var 0) (.lit (.int 1))) (.var 3)) (.pair (.lit (.str [68])) .unit))))) .skip) (.ret (.tup (.pair (.bin .sub (.bin .sub (.var 0) (.lit (.int 1))) (.var 3)) (.pair (.lit (.int 0)) (.pair (.lit (.str [76])) .unit))))))))))⟩
abbrev d5:=qdd "place_at" 17 ["n","road","stretch","t"] 2 f5
noncomputable def f6:Fn:=⟨1,4,(.seq (.asg 1 (.bin .mul (.lst (.pair (.lit (.int 0)) .unit)) (.blt .len (.pair (.var 0) .unit)))) (.seq (.asg 2 (.lst (.pair (.var 1) .unit))) (.seq (.forv 3 (.var 0) (.seq (.asg 1 (.compP .zip (.bin .add (.var 4) (.var 5)) (.var 1) (.var 3) (.lit (.bl true)))) (.expr (.meth .append (.var 2) (.pair (.var 1) .unit))))) (.ret (.var 2)))))⟩
abbrev d6:=qdd "column_sums" 19 ["state","sums","told","row"] 1 f6
noncomputable def f7:Fn:=⟨2,2,(.ret (.comp (.idx (.var 2) (.var 1)) (.var 0) (.lit (.bl true))))⟩
abbrev d7:=qdd "column_of" 20 ["state","c"] 2 f7
noncomputable def f8:Fn:=⟨1,4,(.seq (.asg 1 (.lit (.int 0))) (.seq (.asg 2 (.lst (.pair (.lit (.int 1)) .unit))) (.seq (.forv 3 (.var 0) (.seq (.aug 1 .add (.var 3)) (.expr (.meth .append (.var 2) (.pair (.bin .sub (.lit (.int 1)) (.bin .mul (.lit (.int 2)) (.var 1))) .unit))))) (.ret (.var 2)))))⟩
abbrev d8:=qdd "across_row" 22 ["row","total","told","sign"] 1 f8
noncomputable def f9:Fn:=⟨1,1,(.ret (.comp (.bin .sub (.bin .mul (.lit (.int 2)) (.var 1)) (.lit (.int 1))) (.var 0) (.lit (.bl true))))⟩
abbrev d9:=qdd "down_row" 23 ["sums"] 1 f9
noncomputable def tT:Fn:=⟨1,3,(.seq (.asg 1 (.comp (.call 8 (.pair (.var 3) .unit)) (.var 0) (.lit (.bl true)))) (.seq (.asg 2 (.comp (.call 9 (.pair (.var 3) .unit)) (.call 6 (.pair (.var 0) .unit)) (.lit (.bl true)))) (.ret (.tup (.pair (.var 1) (.pair (.var 2) .unit))))))⟩
abbrev oE:=qdd "arrows_of" 24 ["state","across","down"] 1 tT
noncomputable def tS:Fn:=⟨1,1,(.ret (.cmp .eq (.bin .mod (.var 0) (.lit (.int 2))) (.lit (.int 1))))⟩
abbrev oD:=qdd "is_odd" 26 ["number"] 1 tS
noncomputable def tR:Fn:=⟨2,2,(.ret (.compP .enum (.ife (.cmp .eq (.cmp .eq (.var 3) (.lit (.int 1))) (.call 11 (.pair (.bin .add (.var 0) (.var 2)) .unit))) (.lit (.int 1)) (.lit (.int 0))) (.var 1) (.lit (.int 0)) (.lit (.bl true))))⟩
abbrev oC:=qdd "walked_row" 27 ["i","row"] 2 tR
noncomputable def tQ:Fn:=⟨1,1,(.ret (.compP .enum (.call 12 (.pair (.var 1) (.pair (.var 2) .unit))) (.var 0) (.lit (.int 0)) (.lit (.bl true))))⟩
abbrev oB:=qdd "walked_grid" 28 ["grid"] 1 tQ
noncomputable def tP:Fn:=⟨1,2,(.seq (.asg 1 (.call 10 (.pair (.var 0) .unit))) (.ret (.tup (.pair (.call 13 (.pair (.idx (.var 1) (.lit (.int 0))) .unit)) (.pair (.call 13 (.pair (.idx (.var 1) (.lit (.int 1))) .unit)) .unit)))))⟩
abbrev oA:=qdd "sides_of" 29 ["state","pair"] 1 tP
noncomputable def tO:Fn:=⟨4,6,(.seq (.asg 4 (.call 4 (.pair (.var 0) (.pair (.var 1) (.pair (.var 2) (.pair (.var 3) .unit)))))) (.seq (.ite (.cmp .notN (.var 4) (.lit .non)) (.ret (.var 4)) .skip) (.seq (.asg 5 (.idx (kI (cV (-1) 0) (cV 0 1) (cV 1 0) (cV 0 (-1))) (gj 3 [85] [82] [68] [76]))) (.ret (.tup (.pair (.bin .add (.var 1) (.idx (.var 5) (.lit (.int 0)))) (.pair (.bin .add (.var 2) (.idx (.var 5) (.lit (.int 1)))) .unit)))))))⟩
abbrev oz:=qdd "beyond" 33 ["n","r","c","side","road","step"] 4 tO
noncomputable def tN:Fn:=⟨4,7,(.seq (.asg 4 (.idx (.var 0) (.lit (.int 0)))) (.seq (.asg 5 (.idx (.var 0) (.lit (.int 1)))) (.ret (lc 7 [85] [82] [68] [76] (.idx (.idx (.var 5) (.var 1)) (.var 2)) (.idx (.idx (.var 4) (.var 1)) (.bin .add (.var 2) (.lit (.int 1)))) (.idx (.idx (.var 5) (.bin .add (.var 1) (.lit (.int 1)))) (.var 2)) (.idx (.idx (.var 4) (.var 1)) (.var 2)) (.var 3) (.call 15 (.pair (.blt .len (.pair (.var 4) .unit)) (.pair (.var 1) (.pair (.var 2) (.pair (.var 7) .unit)))))))))⟩
abbrev ow:=qdd "ends_at" 34 ["pair","r","c","mark","across","down","marks"] 4 tN
noncomputable def tM:Fn:=⟨2,6,(.seq (.asg 2 (.call 14 (.pair (.var 0) .unit))) (.seq (.asg 3 .dict0) (.seq (.forv 4 (.rng (.lit (.int 0)) (.blt .len (.pair (.var 0) .unit)) (.lit (.int 1))) (.forv 5 (.rng (.lit (.int 0)) (.blt .len (.pair (.var 0) .unit)) (.lit (.int 1))) (.dput 3 (.tup (.pair (.var 4) (.pair (.var 5) .unit))) (.call 16 (.pair (.var 2) (.pair (.var 4) (.pair (.var 5) (.pair (.var 1) .unit)))))))) (.ret (.var 3)))))⟩
abbrev ou:=qdd "all_ends" 35 ["state","mark","pair","ends","r","c"] 2 tM
noncomputable def tL:Fn:=⟨3,5,(.seq (.asg 3 (.lst (.pair (.var 1) (.pair (.var 2) .unit)))) (.seq (.while (.and (.cmp .isin (.idx (.var 3) (.neg (.lit (.int 1)))) (.var 0)) (.cmp .ne (.idx (.var 3) (.neg (.lit (.int 1)))) (.var 1))) (.seq (.asg 4 (.dget (.var 0) (.idx (.var 3) (.neg (.lit (.int 1)))))) (.expr (.meth .append (.var 3) (.pair (.ife (.cmp .eq (.idx (.var 4) (.lit (.int 0))) (.idx (.var 3) (.neg (.lit (.int 2))))) (.idx (.var 4) (.lit (.int 1))) (.idx (.var 4) (.lit (.int 0)))) .unit))))) (.ret (.var 3))))⟩
abbrev oq:=qdd "trail" 36 ["ends","behind","start","told","both"] 3 tL
noncomputable def tK:Fn:=⟨4,6,(.seq (.asg 4 (.ife (.cmp .eq (.var 3) (.lit (.int 1))) (.bin .mul (.lit (.int 2)) (.var 2)) (.bin .add (.bin .mul (.lit (.int 2)) (.var 2)) (.lit (.int 1))))) (.seq (.asg 5 (.call 5 (.pair (.var 1) (.pair (.var 4) .unit)))) (.ret (.call 18 (.pair (.var 0) (.pair (.var 4) (.pair (.tup (.pair (.idx (.var 5) (.lit (.int 0))) (.pair (.idx (.var 5) (.lit (.int 1))) .unit))) .unit)))))))⟩
abbrev oo:=qdd "road_trail" 37 ["ends","n","k","mark","road","place"] 4 tK
noncomputable def tJ:Fn:=⟨2,4,(.seq (.asg 2 (.blt .len (.pair (.var 0) .unit))) (.seq (.asg 3 (.call 17 (.pair (.var 0) (.pair (.var 1) .unit)))) (.ret (.comp (.bin .fdiv (.idx (.call 19 (.pair (.var 3) (.pair (.var 2) (.pair (.var 4) (.pair (.var 1) .unit))))) (.neg (.lit (.int 1)))) (.lit (.int 2))) (.rng (.lit (.int 0)) (.bin .mul (.lit (.int 2)) (.var 2)) (.lit (.int 1))) (.lit (.bl true))))))⟩
abbrev om:=qdd "links_over" 38 ["state","mark","n","ends"] 2 tJ
noncomputable def tI:Fn:=⟨1,1,(.ret (.call 20 (.pair (.var 0) (.pair (.lit (.int 1)) .unit))))⟩
abbrev ol:=qdd "links" 39 ["state"] 1 tI
noncomputable def tH:Fn:=⟨2,2,(.ret (.comp (.bin .add (.var 2) (.var 1)) (.var 0) (.lit (.bl true))))⟩
abbrev oi:=qdd "shifted" 42 ["web","step"] 2 tH
noncomputable def tG:Fn:=⟨2,7,(.seq (.asg 2 (.lst .unit)) (.seq (.forv 3 (.rng (.lit (.int 0)) (.var 1) (.lit (.int 1))) (.seq (.asg 4 (.bin .add (.bin .mul (.lit (.int 2)) (.var 3)) (.lit (.int 1)))) (.forv 5 (.idx (.var 0) (.var 3)) (.forv 6 (.idx (.var 0) (.bin .sub (.bin .sub (.var 1) (.lit (.int 1))) (.var 3))) (.expr (.meth .append (.var 2) (.pair (.bin .add (.bin .add (.bin .add (.lst (.pair (.var 4) .unit)) (.call 22 (.pair (.var 5) (.pair (.lit (.int 1)) .unit)))) (.lst (.pair (.lit (.int 0)) .unit))) (.call 22 (.pair (.var 6) (.pair (.bin .add (.var 4) (.lit (.int 1))) .unit)))) .unit))))))) (.ret (.var 2))))⟩
abbrev oh:=qdd "webs_made_of" 43 ["told","size","made","within","end","inner","outer"] 2 tG
noncomputable def tF:Fn:=⟨1,3,(.seq (.expr (.call 2 (.pair (.var 0) (.pair (.lit (.int 6)) .unit)))) (.seq (.asg 1 (.lst (.pair (.lst (.pair (.lst .unit) .unit)) .unit))) (.seq (.forv 2 (.rng (.lit (.int 1)) (.bin .add (.var 0) (.lit (.int 1))) (.lit (.int 1))) (.expr (.meth .append (.var 1) (.pair (.call 23 (.pair (.var 1) (.pair (.var 2) .unit))) .unit)))) (.ret (.blt .sorted (.pair (.idx (.var 1) (.var 0)) .unit))))))⟩
abbrev n9:=qdd "webs" 44 ["n","told","size"] 1 tF
noncomputable def tE:Fn:=⟨2,5,(.seq (.asg 2 (.lst .unit)) (.seq (.forv 3 (.var 0) (.forv 4 (.tup (.pair (.neg (.lit (.int 1))) (.pair (.lit (.int 0)) (.pair (.lit (.int 1)) .unit)))) (.ite (.and (.cmp .isin (.bin .add (.blt .sum (.pair (.var 3) .unit)) (.var 4)) (.tup (.pair (.lit (.int 0)) (.pair (.lit (.int 1)) .unit)))) (.cmp .isin (.bin .add (.var 1) (.var 4)) (.tup (.pair (.lit (.int 0)) (.pair (.lit (.int 1)) .unit))))) (.expr (.meth .append (.var 2) (.pair (.bin .add (.var 3) (.lst (.pair (.var 4) .unit))) .unit))) .skip))) (.ret (.var 2))))⟩
abbrev n8:=qdd "longer_rows" 47 ["rows","total","told","row","sign"] 2 tE
noncomputable def tD:Fn:=⟨1,3,(.seq (.asg 1 (.lst (.pair (.lst .unit) .unit))) (.seq (.forv 2 (.var 0) (.asg 1 (.call 25 (.pair (.var 1) (.pair (.var 2) .unit))))) (.ret (.comp (.var 3) (.var 1) (.cmp .eq (.blt .sum (.pair (.var 3) .unit)) (.lit (.int 1)))))))⟩
abbrev nZ:=qdd "rows_below" 48 ["sums","rows","total"] 1 tD
noncomputable def tz:Fn:=⟨2,5,(.seq (.asg 2 (.lst .unit)) (.seq (.forv 3 (.var 0) (.forv 4 (.call 26 (.pair (.comp (.blt .sum (.pair (.call 7 (.pair (.var 3) (.pair (.var 5) .unit))) .unit)) (.rng (.lit (.int 0)) (.var 1) (.lit (.int 1))) (.lit (.bl true))) .unit)) (.expr (.meth .append (.var 2) (.pair (.bin .add (.comp (.blt .list (.pair (.var 5) .unit)) (.var 3) (.lit (.bl true))) (.lst (.pair (.var 4) .unit))) .unit))))) (.ret (.var 2))))⟩
abbrev nY:=qdd "longer_tables" 49 ["tables","n","told","table","row"] 2 tz
noncomputable def tx:Fn:=⟨1,3,(.seq (.expr (.call 2 (.pair (.var 0) (.pair (.lit (.int 5)) .unit)))) (.seq (.asg 1 (.lst (.pair (.lst .unit) .unit))) (.seq (.forv 2 (.rng (.lit (.int 0)) (.var 0) (.lit (.int 1))) (.asg 1 (.call 27 (.pair (.var 1) (.pair (.var 0) .unit))))) (.ret (.blt .sorted (.pair (.var 1) .unit))))))⟩
abbrev nX:=qdd "states" 50 ["n","tables","r"] 1 tx
noncomputable def tw:Fn:=⟨1,4,(.seq (.asg 1 .dict0) (.seq (.forv 2 (.call 28 (.pair (.var 0) .unit)) (.seq (.asg 3 (.blt .tuple (.pair (.call 21 (.pair (.var 2) .unit)) .unit))) (.dput 1 (.var 3) (.bin .add (.dop .get (.var 1) (.var 3) (.lit (.int 0))) (.lit (.int 1)))))) (.ret (.comp (.tup (.pair (.var 4) (.pair (.dop .get (.var 1) (.blt .tuple (.pair (.var 4) .unit)) (.lit (.int 0))) .unit))) (.call 24 (.pair (.var 0) .unit)) (.lit (.bl true))))))⟩
abbrev nW:=qdd "book" 51 ["n","numbers","state","web"] 1 tw
noncomputable def tu:Fn:=⟨1,1,(.ret (.blt .len (.pair (.call 28 (.pair (.var 0) .unit)) .unit)))⟩
abbrev nV:=qdd "by_walking" 55 ["n"] 1 tu
noncomputable def tq:Fn:=⟨1,2,(.seq (.asg 1 (.comp (.dop .lix (.idx (.var 2) (.lit (.int 0))) (.lit (.int 1)) .unit) (.call 28 (.pair (.var 0) .unit)) (.lit (.bl true)))) (.ret (.comp (.dop .lct (.var 1) (.var 2) .unit) (.rng (.lit (.int 0)) (.var 0) (.lit (.int 1))) (.lit (.bl true)))))⟩
abbrev nU:=qdd "tops_by_walking" 56 ["n","tops"] 1 tq
noncomputable def tm:Fn:=⟨3,6,(.seq (.asg 3 (.lst .unit)) (.seq (.forv 4 (.var 0) (.forv 5 (.rng (.var 1) (.bin .add (.var 2) (.lit (.int 1))) (.lit (.int 1))) (.ite (.or (.cmp .eq (.var 4) (.tup .unit)) (.cmp .gt (.var 5) (.idx (.var 4) (.neg (.lit (.int 1)))))) (.expr (.meth .append (.var 3) (.pair (.bin .add (.var 4) (.tup (.pair (.var 5) .unit))) .unit))) .skip))) (.ret (.var 3))))⟩
abbrev nT:=qdd "longer_lists" 57 ["lists","low","high","told","columns","column"] 3 tm
noncomputable def tj:Fn:=⟨2,6,(.seq (.asg 2 (.bin .add (.bin .add (.tup (.pair (.lit (.int 0)) .unit)) (.var 0)) (.tup (.pair (.bin .sub (.var 1) (.lit (.int 1))) .unit)))) (.seq (.asg 3 (.lst (.pair (.tup .unit) .unit))) (.seq (.forZ 4 5 (.var 2) (.slL (.var 2) (.lit (.int 1))) (.asg 3 (.call 32 (.pair (.var 3) (.pair (.var 4) (.pair (.var 5) .unit)))))) (.ret (.var 3)))))⟩
abbrev nS:=qdd "lists_behind" 58 ["columns","n","bounds","told","low","high"] 2 tj
noncomputable def tf:Fn:=⟨2,6,(.seq (.asg 2 .dict0) (.seq (.forD 3 0 (.forv 4 (.call 33 (.pair (.var 3) (.pair (.var 1) .unit))) (.seq (.asg 5 (.dop .get (.var 2) (.var 4) (.bin .mul (.lst (.pair (.lit (.int 0)) .unit)) (.var 1)))) (.dput 2 (.var 4) (.compP .zip (.bin .add (.var 6) (.var 7)) (.var 5) (.dget (.var 0) (.var 3)) (.lit (.bl true))))))) (.ret (.var 2))))⟩
abbrev nR:=qdd "stepped" 59 ["ways","n","further","columns","behind","so_far"] 2 tf
noncomputable def nE:Fn:=⟨1,4,(.seq (.expr (.call 2 (.pair (.var 0) (.pair (.lit (.int 7)) .unit)))) (.seq (.asg 1 .dict0) (.seq (.forv 2 (.rng (.lit (.int 0)) (.var 0) (.lit (.int 1))) (.dput 1 (.tup (.pair (.var 2) .unit)) (.comp (.ife (.cmp .eq (.var 4) (.var 2)) (.lit (.int 1)) (.lit (.int 0))) (.rng (.lit (.int 0)) (.var 0) (.lit (.int 1))) (.lit (.bl true))))) (.seq (.forv 3 (.rng (.lit (.int 1)) (.var 0) (.lit (.int 1))) (.asg 1 (.call 34 (.pair (.var 1) (.pair (.var 0) .unit))))) (.ret (.dget (.var 1) (.dop .trg (.var 0) .unit .unit)))))))⟩
abbrev nQ:=qdd "tops_by_steps" 60 ["n","ways","c","k"] 1 nE
noncomputable def nA:Fn:=⟨1,1,(.ret (.blt .sum (.pair (.call 35 (.pair (.var 0) .unit)) .unit)))⟩
abbrev nP:=qdd "by_steps" 61 ["n"] 1 nA
noncomputable def sZ:Fn:=⟨2,4,(.seq (.asg 2 (.lit (.int 1))) (.seq (.forv 3 (.rng (.bin .add (.var 0) (.lit (.int 1))) (.bin .add (.var 1) (.lit (.int 1))) (.lit (.int 1))) (.aug 2 .mulB (.var 3))) (.ret (.var 2))))⟩
abbrev nO:=qdd "product_above" 62 ["low","high","told","factor"] 2 sZ
noncomputable def sY:Fn:=⟨1,1,(.ret (.call 37 (.pair (.lit (.int 0)) (.pair (.var 0) .unit))))⟩
abbrev nN:=qdd "factorial" 63 ["m"] 1 sY
noncomputable def sX:Fn:=⟨2,5,(.seq (.asg 2 (.lit (.int 1))) (.seq (.asg 3 (.lit (.int 1))) (.seq (.forv 4 (.rng (.lit (.int 0)) (.var 1) (.lit (.int 1))) (.seq (.aug 2 .mulB (.call 37 (.pair (.bin .add (.var 0) (.var 4)) (.pair (.bin .add (.bin .mul (.lit (.int 3)) (.var 4)) (.lit (.int 1))) .unit)))) (.aug 3 .mulB (.call 37 (.pair (.bin .add (.bin .mul (.lit (.int 3)) (.var 4)) (.lit (.int 1))) (.pair (.bin .add (.var 0) (.var 4)) .unit)))))) (.ret (.tup (.pair (.var 2) (.pair (.var 3) .unit)))))))⟩
abbrev nM:=qdd "fraction_to" 64 ["n","factors","over","under","j"] 2 sX
noncomputable def sW:Fn:=⟨1,2,(.seq (.expr (.call 2 (.pair (.var 0) (.pair (.lit (.int 30)) .unit)))) (.seq (.asg 1 (.call 39 (.pair (.var 0) (.pair (.var 0) .unit)))) (.ret (.bin .fdivB (.idx (.var 1) (.lit (.int 0))) (.idx (.var 1) (.lit (.int 1)))))))⟩
abbrev nK:=qdd "by_product" 65 ["n","fraction"] 1 sW
noncomputable def sV:Fn:=⟨3,5,(.seq (.asg 3 (.bin .mulB (.bin .mulB (.idx (.var 2) (.lit (.int 0))) (.call 38 (.pair (.bin .sub (.bin .add (.var 0) (.var 1)) (.lit (.int 1))) .unit))) (.call 38 (.pair (.bin .sub (.bin .sub (.bin .mul (.lit (.int 2)) (.var 0)) (.lit (.int 2))) (.var 1)) .unit)))) (.seq (.asg 4 (.bin .mulB (.bin .mulB (.bin .mulB (.idx (.var 2) (.lit (.int 1))) (.call 38 (.pair (.var 1) .unit))) (.call 38 (.pair (.bin .sub (.var 0) (.lit (.int 1))) .unit))) (.call 38 (.pair (.bin .sub (.bin .sub (.var 0) (.lit (.int 1))) (.var 1)) .unit)))) (.ret (.bin .fdivB (.var 3) (.var 4)))))⟩
abbrev nJ:=qdd "top_by_product" 66 ["n","c","fraction","over","under"] 3 sV
noncomputable def sU:Fn:=⟨1,2,(.seq (.expr (.call 2 (.pair (.var 0) (.pair (.lit (.int 30)) .unit)))) (.seq (.asg 1 (.call 39 (.pair (.var 0) (.pair (.bin .sub (.var 0) (.lit (.int 1))) .unit)))) (.ret (.comp (.call 41 (.pair (.var 0) (.pair (.var 2) (.pair (.var 1) .unit)))) (.rng (.lit (.int 0)) (.var 0) (.lit (.int 1))) (.lit (.bl true))))))⟩
abbrev nI:=qdd "tops_by_product" 67 ["n","fraction"] 1 sU
noncomputable def sS:Fn:=Mini.Vl.Lib.gX
abbrev nH:=qdd "_law_cell_at" 69 ["_law_script","_law_k"] 2 sS
noncomputable def sR:Fn:=⟨2,2,(.seq (.ite (.cmp .eq (.var 0) (.lit (.int 0))) (.ret (.call 28 (.pair (.var 1) .unit))) .skip) (.seq (.ite (.cmp .eq (.var 0) (.lit (.int 1))) (.ret (.call 29 (.pair (.var 1) .unit))) .skip) (.seq (.ite (.cmp .eq (.var 0) (.lit (.int 2))) (.ret (.call 30 (.pair (.var 1) .unit))) .skip) (.seq (.ite (.cmp .eq (.var 0) (.lit (.int 3))) (.ret (.call 31 (.pair (.var 1) .unit))) .skip) (.seq (.ite (.cmp .eq (.var 0) (.lit (.int 4))) (.ret (.call 36 (.pair (.var 1) .unit))) .skip) (.seq (.ite (.cmp .eq (.var 0) (.lit (.int 5))) (.ret (.call 35 (.pair (.var 1) .unit))) .skip) (.seq (.ite (.cmp .eq (.var 0) (.lit (.int 6))) (.ret (.call 40 (.pair (.var 1) .unit))) .skip) (.ret (.call 42 (.pair (.var 1) .unit))))))))))⟩
abbrev nG:=qdd "_law_asked" 70 ["_law_kind","_law_n"] 2 sR
noncomputable def iP:Fn:=⟨2,3,(.ret (.cmp .eq (.call 56 (.pair (.var 0) (.pair (.var 1) .unit))) (.lit (.int 0))))⟩
abbrev nF:=qdd "_law_refused" 71 ["_law_kind","_law_n","e"] 2 iP
noncomputable def fT:Fn:=⟨1,7,(.seq (.asg 1 (.call 43 (.pair (.var 0) (.pair (.lit (.int 0)) .unit)))) (.seq (.asg 2 (.lst (.pair (.lit .non) (.pair (.lit .non) (.pair (.lit (.int 1)) (.pair (.lst (.pair (.lit (.int 1)) .unit)) (.pair (.lit (.int 1)) (.pair (.lst (.pair (.lit (.int 1)) .unit)) (.pair (.lit (.int 1)) (.pair (.lst (.pair (.lit (.int 1)) .unit)) .unit)))))))))) (.seq (.forv 3 (.rng (.lit (.int 0)) (.lit (.int 8)) (.lit (.int 1))) (.seq (.asg 4 (.idx (.lst (.pair (.lit (.int 5)) (.pair (.lit (.int 5)) (.pair (.lit (.int 5)) (.pair (.lit (.int 5)) (.pair (.lit (.int 7)) (.pair (.lit (.int 7)) (.pair (.lit (.int 30)) (.pair (.lit (.int 30)) .unit))))))))) (.var 3))) (.seq (.asg 5 (.idx (.lst (.pair (.bin .sub (.lit (.int 0)) (.bin .mod (.bin .fdiv (.var 1) (.lit (.int 2))) (.bin .pow (.lit (.int 10)) (.lit (.int 29))))) (.pair (.bin .add (.bin .add (.var 4) (.lit (.int 1))) (.bin .mod (.bin .fdiv (.var 1) (.lit (.int 2))) (.bin .pow (.lit (.int 10)) (.lit (.int 29))))) .unit))) (.bin .mod (.var 1) (.lit (.int 2))))) (.seq (.forv 6 (.lst (.pair (.lit (.int 0)) (.pair (.bin .add (.var 4) (.lit (.int 1))) (.pair (.var 5) (.pair (.neg (.lit (.int 1))) .unit))))) (.ite (.not (.call 45 (.pair (.var 3) (.pair (.var 6) .unit)))) (.ret (.lit (.bl false))) .skip)) (.ite (.and (.cmp .gt (.var 3) (.lit (.int 1))) (.cmp .ne (.call 44 (.pair (.var 3) (.pair (.lit (.int 1)) .unit))) (.idx (.var 2) (.var 3)))) (.ret (.lit (.bl false))) .skip))))) (.seq (.ite (.or (.cmp .ne (.call 28 (.pair (.lit (.int 1)) .unit)) (.lst (.pair (.lst (.pair (.lst (.pair (.lit (.int 1)) .unit)) .unit)) .unit))) (.cmp .ne (.call 29 (.pair (.lit (.int 1)) .unit)) (.lst (.pair (.tup (.pair (.lst (.pair (.lit (.int 1)) (.pair (.lit (.int 0)) .unit))) (.pair (.lit (.int 1)) .unit))) .unit)))) (.ret (.lit (.bl false))) .skip) (.ret (.and (.cmp .eq (.call 36 (.pair (.lit (.int 7)) .unit)) (.call 40 (.pair (.lit (.int 7)) .unit))) (.cmp .eq (.blt .sum (.pair (.call 42 (.pair (.lit (.int 30)) .unit)) .unit)) (.call 40 (.pair (.lit (.int 30)) .unit)))))))))⟩
abbrev iR:=qdd "law" 72 ["_law_script","_law_cell","_law_first","_law_kind","_law_bound","_law_far","_law_n"] 1 fT
noncomputable def D:List aM:=[d0,d1,d2,d3,d4,d5,d6,d7,d8,d9,oE,oD,oC,oB,oA,oz,ow,ou,oq,oo,om,ol,oi,oh,n9,n8,nZ,nY,nX,nW,nV,nU,nT,nS,nR,nQ,nP,nO,nN,nM,nK,nJ,nI,nH,nG,nF,iR]
noncomputable def C:Mini.Ctx:=⟨(("is_whole":Str)::("is_size_to":Str)::("need_size_to":Str)::("is_place":Str)::("road_over":Str)::("place_at":Str)::("column_sums":Str)::("column_of":Str)::("across_row":Str)::("down_row":Str)::("arrows_of":Str)::("is_odd":Str)::("walked_row":Str)::("walked_grid":Str)::("sides_of":Str)::("beyond":Str)::("ends_at":Str)::("all_ends":Str)::("trail":Str)::("road_trail":Str)::("links_over":Str)::("links":Str)::("shifted":Str)::("webs_made_of":Str)::("webs":Str)::("longer_rows":Str)::("rows_below":Str)::("longer_tables":Str)::("states":Str)::("book":Str)::("by_walking":Str)::("tops_by_walking":Str)::("longer_lists":Str)::("lists_behind":Str)::("stepped":Str)::("tops_by_steps":Str)::("by_steps":Str)::("product_above":Str)::("factorial":Str)::("fraction_to":Str)::("by_product":Str)::("top_by_product":Str)::("tops_by_product":Str)::("_law_cell_at":Str)::("_law_asked":Str)::("_law_refused":Str)::("law":Str)::[]),[("WALKED",1),("GREATEST_LISTED",6),("GREATEST_WALKED",5),("GREATEST_STEPPED",7),("GREATEST_PRODUCT",30)],[("STEPS",[([85],-1,0),([82],0,1),([68],1,0),([76],0,-1)])]⟩
noncomputable def x0:Fn:=⟨2,2,(.ite (.not (.call 1 (.pair (.var 0) (.pair (.var 1) .unit)))) (.ite (.cmp .eq (.bin .sub (.var 1) (.lit (.int 5))) (.lit (.int 0))) (.ret (.lit (.int 0))) (.ite (.cmp .eq (.bin .sub (.var 1) (.lit (.int 6))) (.lit (.int 0))) (.ret (.lit (.int 0))) (.ite (.cmp .eq (.bin .sub (.var 1) (.lit (.int 7))) (.lit (.int 0))) (.ret (.lit (.int 0))) (.ite (.cmp .eq (.bin .sub (.var 1) (.lit (.int 30))) (.lit (.int 0))) (.ret (.lit (.int 0))) .never)))) .never)⟩
abbrev fw:=qdd "need_size_to" 13 ["n","most"] 2 x0
noncomputable def x1:Fn:=⟨1,3,(.ret (.call 47 (.pair (.var 0) (.pair (.lit (.int 5)) .unit))))⟩
abbrev iG:=qdd "states" 50 ["n","tables","r"] 1 x1
noncomputable def x2:Fn:=⟨1,4,(.seq (.asg 1 .dict0) (.ret (.call 48 (.pair (.var 0) .unit))))⟩
abbrev iF:=qdd "book" 51 ["n","numbers","state","web"] 1 x2
noncomputable def x3:Fn:=⟨1,1,(.ret (.call 48 (.pair (.var 0) .unit)))⟩
abbrev iE:=qdd "by_walking" 55 ["n"] 1 x3
noncomputable def x4:Fn:=⟨1,2,(.ret (.call 48 (.pair (.var 0) .unit)))⟩
abbrev iD:=qdd "tops_by_walking" 56 ["n","tops"] 1 x4
noncomputable def x5:Fn:=⟨1,4,(.ret (.call 47 (.pair (.var 0) (.pair (.lit (.int 7)) .unit))))⟩
abbrev iC:=qdd "tops_by_steps" 60 ["n","ways","c","k"] 1 x5
noncomputable def x6:Fn:=⟨1,1,(.ret (.call 52 (.pair (.var 0) .unit)))⟩
abbrev iB:=qdd "by_steps" 61 ["n"] 1 x6
noncomputable def x7:Fn:=⟨1,2,(.ret (.call 47 (.pair (.var 0) (.pair (.lit (.int 30)) .unit))))⟩
abbrev iA:=qdd "by_product" 65 ["n","fraction"] 1 x7
noncomputable def x8:Fn:=⟨1,2,(.ret (.call 47 (.pair (.var 0) (.pair (.lit (.int 30)) .unit))))⟩
abbrev iz:=qdd "tops_by_product" 67 ["n","fraction"] 1 x8
noncomputable def x9:Fn:=⟨2,2,(.ite (.cmp .eq (.var 0) (.lit (.int 0))) (.ret (.call 48 (.pair (.var 1) .unit))) (.ite (.cmp .eq (.var 0) (.lit (.int 1))) (.ret (.call 49 (.pair (.var 1) .unit))) (.ite (.cmp .eq (.var 0) (.lit (.int 2))) (.ret (.call 50 (.pair (.var 1) .unit))) (.ite (.cmp .eq (.var 0) (.lit (.int 3))) (.ret (.call 51 (.pair (.var 1) .unit))) (.ite (.cmp .eq (.var 0) (.lit (.int 4))) (.ret (.call 53 (.pair (.var 1) .unit))) (.ite (.cmp .eq (.var 0) (.lit (.int 5))) (.ret (.call 52 (.pair (.var 1) .unit))) (.ite (.cmp .eq (.var 0) (.lit (.int 6))) (.ret (.call 54 (.pair (.var 1) .unit))) (.ret (.call 55 (.pair (.var 1) .unit))))))))))⟩
abbrev iy:=qdd "_law_asked" 70 ["_law_kind","_law_n"] 2 x9
noncomputable def XD:List aM:=[fw,iG,iF,iE,iD,iC,iB,iA,iz,iy]
noncomputable def XN:List (Nat×Str):=[(47,"need_size_to"),(48,"states"),(49,"book"),(50,"by_walking"),(51,"tops_by_walking"),(52,"tops_by_steps"),(53,"by_steps"),(54,"by_product"),(55,"tops_by_product"),(56,"_law_asked")]
noncomputable def Q:Xc:=⟨"GyreError",["NoSize"],["NoName","NoRoad","NoSquare","NoState","NoText","NoTurn","Unlike"]⟩
def mf:dq C Q XN fw:=⟨by decide +kernel,rfl,rfl,cc.iteFs (j:=0) (i:=1) (bs:=[5,6,7,30]) rfl rfl (.not rfl rfl (.c (.p .v (.p .v .unit)))) rfl (by kernel_rfl) (by kernel_rfl) rfl (by kernel_rfl) (by kernel_rfl) (by kernel_rfl)⟩
def me:dq C Q XN iG:=⟨by decide +kernel,rfl,rfl,cc.call rfl (by kernel_rfl) (by kernel_rfl) rfl (.p .v (.p (.con (by kernel_rfl) (by kernel_rfl) (by kernel_rfl)) .unit))⟩
def md:dq C Q XN iF:=⟨by decide +kernel,rfl,rfl,cc.seqS rfl (.s .dict0) (cc.forC rfl (by kernel_rfl) (by kernel_rfl) rfl (.p .v .unit))⟩
def ma:dq C Q XN iE:=⟨by decide +kernel,rfl,rfl,cc.retB rfl (by kernel_rfl) (by kernel_rfl) rfl (.p .v .unit) (by kernel_rfl) (by simp[zm]) rfl (by decide) rfl⟩
def l9:dq C Q XN iD:=⟨by decide +kernel,rfl,rfl,cc.asgC (i:=1) rfl (by kernel_rfl) (by kernel_rfl) rfl (.p .v .unit) rfl (by kernel_rfl) (by kernel_rfl)⟩
def l8:dq C Q XN iC:=⟨by decide +kernel,rfl,rfl,cc.call rfl (by kernel_rfl) (by kernel_rfl) rfl (.p .v (.p (.con (by kernel_rfl) (by kernel_rfl) (by kernel_rfl)) .unit))⟩
def l7:dq C Q XN iB:=⟨by decide +kernel,rfl,rfl,cc.retB rfl (by kernel_rfl) (by kernel_rfl) rfl (.p .v .unit) (by kernel_rfl) (by simp[zm]) rfl (by decide) rfl⟩
def l6:dq C Q XN iA:=⟨by decide +kernel,rfl,rfl,cc.call rfl (by kernel_rfl) (by kernel_rfl) rfl (.p .v (.p (.con (by kernel_rfl) (by kernel_rfl) (by kernel_rfl)) .unit))⟩
def l5:dq C Q XN iz:=⟨by decide +kernel,rfl,rfl,cc.call rfl (by kernel_rfl) (by kernel_rfl) rfl (.p .v (.p (.con (by kernel_rfl) (by kernel_rfl) (by kernel_rfl)) .unit))⟩
def lZ:dq C Q XN iy:=⟨by decide +kernel,rfl,rfl,cc.br rfl rfl (.k .v rfl .int) rfl (by kernel_rfl) (by kernel_rfl) rfl (.p .v .unit) (cc.br rfl rfl (.k .v rfl .int) rfl (by kernel_rfl) (by kernel_rfl) rfl (.p .v .unit) (cc.br rfl rfl (.k .v rfl .int) rfl (by kernel_rfl) (by kernel_rfl) rfl (.p .v .unit) (cc.br rfl rfl (.k .v rfl .int) rfl (by kernel_rfl) (by kernel_rfl) rfl (.p .v .unit) (cc.br rfl rfl (.k .v rfl .int) rfl (by kernel_rfl) (by kernel_rfl) rfl (.p .v .unit) (cc.br rfl rfl (.k .v rfl .int) rfl (by kernel_rfl) (by kernel_rfl) rfl (.p .v .unit) (cc.br rfl rfl (.k .v rfl .int) rfl (by kernel_rfl) (by kernel_rfl) rfl (.p .v .unit) (cc.ret rfl (by kernel_rfl) (by kernel_rfl) rfl (.p .v .unit))))))))⟩
def FE:aN C d0:=⟨by decide +kernel,rfl,rfl,(.one (.ret rfl (.and2 rfl rfl (.isi (by kernel_rfl) (by kernel_rfl) rfl rfl .v) rfl rfl (.not rfl rfl (.isi (by kernel_rfl) (by kernel_rfl) rfl rfl .v)))))⟩
def fQ:aN C d1:=⟨by decide +kernel,rfl,rfl,(.one (.ret rfl (.and2 rfl rfl (.c (.p .v .unit)) rfl rfl (.chain rfl rfl .int rfl .v rfl .v))))⟩
def FD:aN C d2:=⟨by decide +kernel,rfl,rfl,(.one (.ite rfl rfl (.not rfl rfl (.c (.p .v (.p .v .unit)))) (.one .never) .skip0))⟩
def FC:aN C d3:=⟨by decide +kernel,rfl,rfl,(.one (.ret rfl (.and2 rfl rfl (.chain rfl rfl .int rfl .v rfl .v) rfl rfl (.chain rfl rfl .int rfl .v rfl .v))))⟩
def FA:aN C d4:=⟨by decide +kernel,rfl,rfl,(.seq (.ite rfl rfl (.not rfl rfl (.c (.p .v (.p .v (.p .v .unit))))) (.one (.ret rfl .non)) .skip0) (.seq (.ite rfl rfl (.and2 rfl rfl (.k .v rfl (.str (by kernel_rfl))) rfl rfl (.k .v rfl .int)) (.one (.ret rfl .v)) .skip0) (.seq (.ite rfl rfl (.and2 rfl rfl (.k .v rfl (.str (by kernel_rfl))) rfl rfl (.k .v rfl (.bin rfl .v rfl .int))) (.one (.ret rfl (.bin rfl .v rfl .v))) .skip0) (.seq (.ite rfl rfl (.and2 rfl rfl (.k .v rfl (.str (by kernel_rfl))) rfl rfl (.k .v rfl (.bin rfl .v rfl .int))) (.one (.ret rfl (.bin rfl (.bin rfl .int rfl .v) rfl (.bin rfl (.bin rfl .v rfl .int) rfl .v)))) .skip0) (.seq (.ite rfl rfl (.and2 rfl rfl (.k .v rfl (.str (by kernel_rfl))) rfl rfl (.k .v rfl .int)) (.one (.ret rfl (.bin rfl (.bin rfl .int rfl .v) rfl (.bin rfl (.bin rfl .v rfl .int) rfl .v)))) .skip0) (.one (.ret rfl .non)))))))⟩
def Fz:aN C d5:=⟨by decide +kernel,rfl,rfl,(.seq (.s (.bin rfl .v rfl .v)) (.seq (.s (.bin rfl .v rfl .v)) (.seq (.ite rfl rfl (.k .v rfl .int) (.one (.ret rfl (.tup (.p .int (.p .v (.p (.str (by kernel_rfl)) .unit)))))) .skip0) (.seq (.ite rfl rfl (.k .v rfl .int) (.one (.ret rfl (.tup (.p .v (.p (.bin rfl .v rfl .int) (.p (.str (by kernel_rfl)) .unit)))))) .skip0) (.seq (.ite rfl rfl (.k .v rfl .int) (.one (.ret rfl (.tup (.p (.bin rfl .v rfl .int) (.p (.bin rfl (.bin rfl .v rfl .int) rfl .v) (.p (.str (by kernel_rfl)) .unit)))))) .skip0) (.one (.ret rfl (.tup (.p (.bin rfl (.bin rfl .v rfl .int) rfl .v) (.p .int (.p (.str (by kernel_rfl)) .unit)))))))))))⟩
def Fy:aN C d6:=⟨by decide +kernel,rfl,rfl,(.seq (.s (.bin rfl (.lst (.p .int .unit)) rfl (.q (.p .v .unit)))) (.seq (.s (.lst (.p .v .unit))) (.seq (.forv rfl (by kernel_rfl) rfl .v (.seq (.asgCZ0 rfl (by kernel_rfl) (by kernel_rfl) (by kernel_rfl) rfl rfl rfl .v rfl .v rfl (.bin rfl .v rfl .v)) (.one (.expr rfl rfl (.meth rfl rfl (by decide) rfl rfl .v (.p .v .unit)))))) (.one (.ret rfl .v)))))⟩
def Fx:aN C d7:=⟨by decide +kernel,rfl,rfl,(.one (.ret rfl (.comp0 rfl (by kernel_rfl) .v rfl (.x .v rfl .v))))⟩
def Fw:aN C d8:=⟨by decide +kernel,rfl,rfl,(.seq (.s .int) (.seq (.s (.lst (.p .int .unit))) (.seq (.forv rfl (by kernel_rfl) rfl .v (.seq (.aug rfl (by kernel_rfl) rfl rfl .v) (.one (.expr rfl rfl (.meth rfl rfl (by decide) rfl rfl .v (.p (.bin rfl .int rfl (.bin rfl .int rfl .v)) .unit)))))) (.one (.ret rfl .v)))))⟩
def Fv:aN C d9:=⟨by decide +kernel,rfl,rfl,(.one (.ret rfl (.comp0 rfl (by kernel_rfl) .v rfl (.bin rfl (.bin rfl .int rfl .v) rfl .int))))⟩
def nj:aN C oE:=⟨by decide +kernel,rfl,rfl,(.seq (.asgC0 rfl (by kernel_rfl) rfl (by kernel_rfl) .v rfl (.c (.p .v .unit))) (.seq (.asgC0 rfl (by kernel_rfl) rfl (by kernel_rfl) (.c (.p .v .unit)) rfl (.c (.p .v .unit))) (.one (.ret rfl (.tup (.p .v (.p .v .unit)))))))⟩
def nh:aN C oD:=⟨by decide +kernel,rfl,rfl,(.one (.ret rfl (.k (.bin rfl .v rfl .int) rfl .int)))⟩
def ng:aN C oC:=⟨by decide +kernel,rfl,rfl,(.one (.ret rfl (.compE0 (by kernel_rfl) (by kernel_rfl) rfl rfl .v rfl (.ife rfl rfl (.k (.k .v rfl .int) rfl (.c (.p (.bin rfl .v rfl .v) .unit))) rfl .int rfl .int))))⟩
def nc:aN C oB:=⟨by decide +kernel,rfl,rfl,(.one (.ret rfl (.compE0 (by kernel_rfl) (by kernel_rfl) rfl rfl .v rfl (.c (.p .v (.p .v .unit))))))⟩
def mZ:aN C oA:=⟨by decide +kernel,rfl,rfl,(.seq (.s (.c (.p .v .unit))) (.one (.ret rfl (.tup (.p (.c (.p (.x .v rfl .int) .unit)) (.p (.c (.p (.x .v rfl .int) .unit)) .unit))))))⟩
def mX:aN C oz:=⟨by decide +kernel,rfl,rfl,(.seq (.s (.c (.p .v (.p .v (.p .v (.p .v .unit)))))) (.seq (.ite rfl rfl (.k .v rfl .non) (.one (.ret rfl .v)) .skip0) (.seq (.s (.dcon (by decide) (by kernel_rfl) (by kernel_rfl) (by kernel_rfl) rfl (by kernel_rfl) (by kernel_rfl))) (.one (.ret rfl (.tup (.p (.bin rfl .v rfl (.x .v rfl .int)) (.p (.bin rfl .v rfl (.x .v rfl .int)) .unit))))))))⟩
def mW:aN C ow:=⟨by decide +kernel,rfl,rfl,(.seq (.s (.x .v rfl .int)) (.seq (.s (.x .v rfl .int)) (.sel (j:=6) (by kernel_rfl) (by kernel_rfl) (by kernel_rfl) (by kernel_rfl) (by decide) rfl (by kernel_rfl) (by kernel_rfl) (by kernel_rfl) rfl (by kernel_rfl) rfl (by kernel_rfl) (by kernel_rfl) (by kernel_rfl) rfl (.x (.x .v rfl .v) rfl .v) rfl (.x (.x .v rfl .v) rfl (.bin rfl .v rfl .int)) rfl (.x (.x .v rfl (.bin rfl .v rfl .int)) rfl .v) rfl (.x (.x .v rfl .v) rfl .v) rfl .v rfl (.c (.p (.q (.p .v .unit)) (.p .v (.p .v (.p .v .unit))))) rfl rfl rfl)))⟩
def mV:aN C ou:=⟨by decide +kernel,rfl,rfl,(.seq (.s (.c (.p .v .unit))) (.seq (.s .dict0) (.seq (.forv rfl (by kernel_rfl) rfl (.rng1 (by kernel_rfl) rfl rfl (.q (.p .v .unit))) (.one (.forv rfl (by kernel_rfl) rfl (.rng1 (by kernel_rfl) rfl rfl (.q (.p .v .unit))) (.one (.dput rfl .v rfl (.tup (.p .v (.p .v .unit))) rfl (.c (.p .v (.p .v (.p .v (.p .v .unit)))))))))) (.one (.ret rfl .v)))))⟩
def mU:aN C oq:=⟨by decide +kernel,rfl,rfl,(.seq (.s (.lst (.p .v (.p .v .unit)))) (.seq (bC.«while» rfl rfl (.and2 rfl rfl (.k (.x .v rfl (.neg rfl .int)) rfl .v) rfl rfl (.k (.x .v rfl (.neg rfl .int)) rfl .v)) (.seq (.s (.dget rfl rfl .v rfl (.x .v rfl (.neg rfl .int)))) (.one (.expr rfl rfl (.meth rfl rfl (by decide) rfl rfl .v (.p (.ife rfl rfl (.k (.x .v rfl .int) rfl (.x .v rfl (.neg rfl .int))) rfl (.x .v rfl .int) rfl (.x .v rfl .int)) .unit)))))) (.one (.ret rfl .v))))⟩
def mT:aN C oo:=⟨by decide +kernel,rfl,rfl,(.seq (.s (.ife rfl rfl (.k .v rfl (.con (by kernel_rfl) (by kernel_rfl) (by kernel_rfl))) rfl (.bin rfl .int rfl .v) rfl (.bin rfl (.bin rfl .int rfl .v) rfl .int))) (.seq (.s (.c (.p .v (.p .v .unit)))) (.one (.ret rfl (.c (.p .v (.p .v (.p (.tup (.p (.x .v rfl .int) (.p (.x .v rfl .int) .unit))) .unit))))))))⟩
def mS:aN C om:=⟨by decide +kernel,rfl,rfl,(.seq (.s (.q (.p .v .unit))) (.seq (.s (.c (.p .v (.p .v .unit)))) (.one (.ret rfl (.comp0 rfl (by kernel_rfl) (.rng1 (by kernel_rfl) rfl rfl (.bin rfl .int rfl .v)) rfl (.bin rfl (.x (.c (.p .v (.p .v (.p .v (.p .v .unit))))) rfl (.neg rfl .int)) rfl .int))))))⟩
def mR:aN C ol:=⟨by decide +kernel,rfl,rfl,(.one (.ret rfl (.c (.p .v (.p (.con (by kernel_rfl) (by kernel_rfl) (by kernel_rfl)) .unit)))))⟩
def mQ:aN C oi:=⟨by decide +kernel,rfl,rfl,(.one (.ret rfl (.comp0 rfl (by kernel_rfl) .v rfl (.bin rfl .v rfl .v))))⟩
def mP:aN C oh:=⟨by decide +kernel,rfl,rfl,(.seq (.s (.lst .unit)) (.seq (.forv rfl (by kernel_rfl) rfl (.rng1 (by kernel_rfl) rfl rfl .v) (.seq (.s (.bin rfl (.bin rfl .int rfl .v) rfl .int)) (.one (.forv rfl (by kernel_rfl) rfl (.x .v rfl .v) (.one (.forv rfl (by kernel_rfl) rfl (.x .v rfl (.bin rfl (.bin rfl .v rfl .int) rfl .v)) (.one (.expr rfl rfl (.meth rfl rfl (by decide) rfl rfl .v (.p (.bin rfl (.bin rfl (.bin rfl (.lst (.p .v .unit)) rfl (.c (.p .v (.p .int .unit)))) rfl (.lst (.p .int .unit))) rfl (.c (.p .v (.p (.bin rfl .v rfl .int) .unit)))) .unit)))))))))) (.one (.ret rfl .v))))⟩
def mO:aN C n9:=⟨by decide +kernel,rfl,rfl,(.seq (.expr rfl rfl (.c (.p .v (.p (.con (by kernel_rfl) (by kernel_rfl) (by kernel_rfl)) .unit)))) (.seq (.s (.lst (.p (.lst (.p (.lst .unit) .unit)) .unit))) (.seq (.forv rfl (by kernel_rfl) rfl (.rng2 (by kernel_rfl) rfl rfl rfl .int rfl (.bin rfl .v rfl .int)) (.one (.expr rfl rfl (.meth rfl rfl (by decide) rfl rfl .v (.p (.c (.p .v (.p .v .unit))) .unit))))) (.one (.ret rfl (.q (.p (.x .v rfl .v) .unit)))))))⟩
def mM:aN C n8:=⟨by decide +kernel,rfl,rfl,(.seq (.s (.lst .unit)) (.seq (.forv rfl (by kernel_rfl) rfl .v (.one (.forv rfl (by kernel_rfl) rfl (.tup (.p (.neg rfl .int) (.p .int (.p .int .unit)))) (.one (.ite rfl rfl (.and2 rfl rfl (.k (.bin rfl (.q (.p .v .unit)) rfl .v) rfl (.tup (.p .int (.p .int .unit)))) rfl rfl (.k (.bin rfl .v rfl .v) rfl (.tup (.p .int (.p .int .unit))))) (.one (.expr rfl rfl (.meth rfl rfl (by decide) rfl rfl .v (.p (.bin rfl .v rfl (.lst (.p .v .unit))) .unit)))) .skip0))))) (.one (.ret rfl .v))))⟩
def mL:aN C nZ:=⟨by decide +kernel,rfl,rfl,(.seq (.s (.lst (.p (.lst .unit) .unit))) (.seq (.forv rfl (by kernel_rfl) rfl .v (.one (.s (.c (.p .v (.p .v .unit)))))) (.one (.ret rfl (.comp1 rfl (by kernel_rfl) .v rfl rfl (.k (.q (.p .v .unit)) rfl .int) rfl .v)))))⟩
def mK:aN C nY:=⟨by decide +kernel,rfl,rfl,(.seq (.s (.lst .unit)) (.seq (.forv rfl (by kernel_rfl) rfl .v (.one (.forv rfl (by kernel_rfl) rfl (.c (.p (.comp0 rfl (by kernel_rfl) (.rng1 (by kernel_rfl) rfl rfl .v) rfl (.q (.p (.c (.p .v (.p .v .unit))) .unit))) .unit)) (.one (.expr rfl rfl (.meth rfl rfl (by decide) rfl rfl .v (.p (.bin rfl (.comp0 rfl (by kernel_rfl) .v rfl (.q (.p .v .unit))) rfl (.lst (.p .v .unit))) .unit))))))) (.one (.ret rfl .v))))⟩
def mJ:aN C nX:=⟨by decide +kernel,rfl,rfl,(.seq (.expr rfl rfl (.c (.p .v (.p (.con (by kernel_rfl) (by kernel_rfl) (by kernel_rfl)) .unit)))) (.seq (.s (.lst (.p (.lst .unit) .unit))) (.seq (.forv rfl (by kernel_rfl) rfl (.rng1 (by kernel_rfl) rfl rfl .v) (.one (.s (.c (.p .v (.p .v .unit)))))) (.one (.ret rfl (.q (.p .v .unit)))))))⟩
def mI:aN C nW:=⟨by decide +kernel,rfl,rfl,(.seq (.s .dict0) (.seq (.forv rfl (by kernel_rfl) rfl (.c (.p .v .unit)) (.seq (.s (.q (.p (.c (.p .v .unit)) .unit))) (.one (.dput rfl .v rfl .v rfl (.bin rfl (.dgetM rfl rfl rfl rfl rfl .v rfl .v rfl .int) rfl .int))))) (.one (.ret rfl (.comp0 rfl (by kernel_rfl) (.c (.p .v .unit)) rfl (.tup (.p .v (.p (.dgetM rfl rfl rfl rfl rfl .v rfl (.q (.p .v .unit)) rfl .int) .unit))))))))⟩
def mH:aN C nV:=⟨by decide +kernel,rfl,rfl,(.one (.ret rfl (.q (.p (.c (.p .v .unit)) .unit))))⟩
def mG:aN C nU:=⟨by decide +kernel,rfl,rfl,(.seq (.asgC0 rfl (by kernel_rfl) rfl (by kernel_rfl) (.c (.p .v .unit)) rfl (.dlix rfl rfl rfl rfl (.x .v rfl .int) rfl .int)) (.one (.ret rfl (.comp0 rfl (by kernel_rfl) (.rng1 (by kernel_rfl) rfl rfl .v) rfl (.dlct rfl rfl rfl rfl .v rfl .v)))))⟩
def mF:aN C nT:=⟨by decide +kernel,rfl,rfl,(.seq (.s (.lst .unit)) (.seq (.forv rfl (by kernel_rfl) rfl .v (.one (.forv rfl (by kernel_rfl) rfl (.rng2 (by kernel_rfl) rfl rfl rfl .v rfl (.bin rfl .v rfl .int)) (.one (.ite rfl rfl (.or2 rfl rfl (.k .v rfl (.tup .unit)) rfl rfl (.k .v rfl (.x .v rfl (.neg rfl .int)))) (.one (.expr rfl rfl (.meth rfl rfl (by decide) rfl rfl .v (.p (.bin rfl .v rfl (.tup (.p .v .unit))) .unit)))) .skip0))))) (.one (.ret rfl .v))))⟩
def mE:aN C nS:=⟨by decide +kernel,rfl,rfl,(.seq (.s (.bin rfl (.bin rfl (.tup (.p .int .unit)) rfl .v) rfl (.tup (.p (.bin rfl .v rfl .int) .unit)))) (.seq (.s (.lst (.p (.tup .unit) .unit))) (.seq (.forZ rfl (by kernel_rfl) rfl (by kernel_rfl) (by kernel_rfl) rfl rfl rfl .v rfl (.slL rfl .v rfl .int) (.one (.s (.c (.p .v (.p .v (.p .v .unit))))))) (.one (.ret rfl .v)))))⟩
def mD:aN C nR:=⟨by decide +kernel,rfl,rfl,(.seq (.s .dict0) (.seq (.forD rfl (by kernel_rfl) .v (.one (.forv rfl (by kernel_rfl) rfl (.c (.p .v (.p .v .unit))) (.seq (.s (.dgetM rfl rfl rfl rfl rfl .v rfl .v rfl (.bin rfl (.lst (.p .int .unit)) rfl .v))) (.one (.dput rfl .v rfl .v rfl (.compZ0 (by kernel_rfl) (by kernel_rfl) rfl rfl rfl .v rfl (.dget rfl rfl .v rfl .v) rfl (.bin rfl .v rfl .v)))))))) (.one (.ret rfl .v))))⟩
def mC:aN C nQ:=⟨by decide +kernel,rfl,rfl,(.seq (.expr rfl rfl (.c (.p .v (.p (.con (by kernel_rfl) (by kernel_rfl) (by kernel_rfl)) .unit)))) (.seq (.s .dict0) (.seq (.forv rfl (by kernel_rfl) rfl (.rng1 (by kernel_rfl) rfl rfl .v) (.one (.dput rfl .v rfl (.tup (.p .v .unit)) rfl (.comp0 rfl (by kernel_rfl) (.rng1 (by kernel_rfl) rfl rfl .v) rfl (.ife rfl rfl (.k .v rfl .v) rfl .int rfl .int))))) (.seq (.forv rfl (by kernel_rfl) rfl (.rng2 (by kernel_rfl) rfl rfl rfl .int rfl .v) (.one (.s (.c (.p .v (.p .v .unit)))))) (.one (.ret rfl (.dget rfl rfl .v rfl (.dtrg (by kernel_rfl) (by kernel_rfl) rfl rfl .v))))))))⟩
def mB:aN C nP:=⟨by decide +kernel,rfl,rfl,(.one (.ret rfl (.q (.p (.c (.p .v .unit)) .unit))))⟩
def mw:aN C nO:=⟨by decide +kernel,rfl,rfl,(.seq (.s .int) (.seq (.forv rfl (by kernel_rfl) rfl (.rng2 (by kernel_rfl) rfl rfl rfl (.bin rfl .v rfl .int) rfl (.bin rfl .v rfl .int)) (.one (.aug rfl (by kernel_rfl) rfl rfl .v))) (.one (.ret rfl .v))))⟩
def mv:aN C nN:=⟨by decide +kernel,rfl,rfl,(.one (.ret rfl (.c (.p .int (.p .v .unit)))))⟩
def mr:aN C nM:=⟨by decide +kernel,rfl,rfl,(.seq (.s .int) (.seq (.s .int) (.seq (.forv rfl (by kernel_rfl) rfl (.rng1 (by kernel_rfl) rfl rfl .v) (.seq (.aug rfl (by kernel_rfl) rfl rfl (.c (.p (.bin rfl .v rfl .v) (.p (.bin rfl (.bin rfl .int rfl .v) rfl .int) .unit)))) (.one (.aug rfl (by kernel_rfl) rfl rfl (.c (.p (.bin rfl (.bin rfl .int rfl .v) rfl .int) (.p (.bin rfl .v rfl .v) .unit))))))) (.one (.ret rfl (.tup (.p .v (.p .v .unit))))))))⟩
def mq:aN C nK:=⟨by decide +kernel,rfl,rfl,(.seq (.expr rfl rfl (.c (.p .v (.p (.con (by kernel_rfl) (by kernel_rfl) (by kernel_rfl)) .unit)))) (.seq (.s (.c (.p .v (.p .v .unit)))) (.one (.ret rfl (.bin rfl (.x .v rfl .int) rfl (.x .v rfl .int))))))⟩
def mn:aN C nJ:=⟨by decide +kernel,rfl,rfl,(.seq (.s (.bin rfl (.bin rfl (.x .v rfl .int) rfl (.c (.p (.bin rfl (.bin rfl .v rfl .v) rfl .int) .unit))) rfl (.c (.p (.bin rfl (.bin rfl (.bin rfl .int rfl .v) rfl .int) rfl .v) .unit)))) (.seq (.s (.bin rfl (.bin rfl (.bin rfl (.x .v rfl .int) rfl (.c (.p .v .unit))) rfl (.c (.p (.bin rfl .v rfl .int) .unit))) rfl (.c (.p (.bin rfl (.bin rfl .v rfl .int) rfl .v) .unit)))) (.one (.ret rfl (.bin rfl .v rfl .v)))))⟩
def mm:aN C nI:=⟨by decide +kernel,rfl,rfl,(.seq (.expr rfl rfl (.c (.p .v (.p (.con (by kernel_rfl) (by kernel_rfl) (by kernel_rfl)) .unit)))) (.seq (.s (.c (.p .v (.p (.bin rfl .v rfl .int) .unit)))) (.one (.ret rfl (.comp0 rfl (by kernel_rfl) (.rng1 (by kernel_rfl) rfl rfl .v) rfl (.c (.p .v (.p .v (.p .v .unit)))))))))⟩
def ml:aN C nH:=⟨by decide +kernel,rfl,rfl,(.seq (.ite rfl rfl (.k .v rfl (.q (.p .v .unit))) (.one (.ret rfl (.x .v rfl .v))) .skip0) (.one (.ret rfl (.bin rfl (.bin rfl .int rfl .v) rfl .int))))⟩
def mj:aN C nG:=⟨by decide +kernel,rfl,rfl,(.seq (.ite rfl rfl (.k .v rfl .int) (.one (.ret rfl (.c (.p .v .unit)))) .skip0) (.seq (.ite rfl rfl (.k .v rfl .int) (.one (.ret rfl (.c (.p .v .unit)))) .skip0) (.seq (.ite rfl rfl (.k .v rfl .int) (.one (.ret rfl (.c (.p .v .unit)))) .skip0) (.seq (.ite rfl rfl (.k .v rfl .int) (.one (.ret rfl (.c (.p .v .unit)))) .skip0) (.seq (.ite rfl rfl (.k .v rfl .int) (.one (.ret rfl (.c (.p .v .unit)))) .skip0) (.seq (.ite rfl rfl (.k .v rfl .int) (.one (.ret rfl (.c (.p .v .unit)))) .skip0) (.seq (.ite rfl rfl (.k .v rfl .int) (.one (.ret rfl (.c (.p .v .unit)))) .skip0) (.one (.ret rfl (.c (.p .v .unit)))))))))))⟩
def mi:bA C Q XN nF:=⟨by decide +kernel,rfl,rfl,IsT.mk (y:=0) (i:=2) (cs:=[1,2,3,4,5,6,7]) rfl (by kernel_rfl) (by kernel_rfl) rfl (.p .v (.p .v .unit)) (by kernel_rfl) (by kernel_rfl) rfl (by kernel_rfl) (by kernel_rfl) (by kernel_rfl) rfl (by decide) rfl (by kernel_rfl) (by kernel_rfl) (by kernel_rfl) (by kernel_rfl)⟩
def mh:aN C iR:=⟨by decide +kernel,rfl,rfl,(.seq (.s (.c (.p .v (.p .int .unit)))) (.seq (.s (.lst (.p .non (.p .non (.p .int (.p (.lst (.p .int .unit)) (.p .int (.p (.lst (.p .int .unit)) (.p .int (.p (.lst (.p .int .unit)) .unit)))))))))) (.seq (.forv rfl (by kernel_rfl) rfl (.rng1 (by kernel_rfl) rfl rfl .int) (.seq (.s (.x (.lst (.p .int (.p .int (.p .int (.p .int (.p .int (.p .int (.p .int (.p .int .unit))))))))) rfl .v)) (.seq (.s (.x (.lst (.p (.bin rfl .int rfl (.bin rfl (.bin rfl .v rfl .int) rfl (.bin rfl .int rfl .int))) (.p (.bin rfl (.bin rfl .v rfl .int) rfl (.bin rfl (.bin rfl .v rfl .int) rfl (.bin rfl .int rfl .int))) .unit))) rfl (.bin rfl .v rfl .int))) (.seq (.forv rfl (by kernel_rfl) rfl (.lst (.p .int (.p (.bin rfl .v rfl .int) (.p .v (.p (.neg rfl .int) .unit))))) (.one (.ite rfl rfl (.not rfl rfl (.c (.p .v (.p .v .unit)))) (.one (.ret rfl .bl)) .skip0))) (.one (.ite rfl rfl (.and2 rfl rfl (.k .v rfl .int) rfl rfl (.k (.c (.p .v (.p .int .unit))) rfl (.x .v rfl .v))) (.one (.ret rfl .bl)) .skip0)))))) (.seq (.ite rfl rfl (.or2 rfl rfl (.k (.c (.p .int .unit)) rfl (.lst (.p (.lst (.p (.lst (.p .int .unit)) .unit)) .unit))) rfl rfl (.k (.c (.p .int .unit)) rfl (.lst (.p (.tup (.p (.lst (.p .int (.p .int .unit))) (.p .int .unit))) .unit)))) (.one (.ret rfl .bl)) .skip0) (.one (.ret rfl (.and2 rfl rfl (.k (.c (.p .int .unit)) rfl (.c (.p .int .unit))) rfl rfl (.k (.q (.p (.c (.p .int .unit)) .unit)) rfl (.c (.p .int .unit))))))))))⟩
def ac {P:aM->Prop}(h:P a)(t:∀d∈l,P d):∀d∈a::l,P d:=List.forall_mem_cons.mpr ⟨h,t⟩
def uh:∀d∈D,aN C d\/bA C Q XN d:=ac (P:=λd=>aN C d\/bA C Q XN d) (.inl FE) (ac (P:=λd=>aN C d\/bA C Q XN d) (.inl fQ) (ac (P:=λd=>aN C d\/bA C Q XN d) (.inl FD) (ac (P:=λd=>aN C d\/bA C Q XN d) (.inl FC) (ac (P:=λd=>aN C d\/bA C Q XN d) (.inl FA) (ac (P:=λd=>aN C d\/bA C Q XN d) (.inl Fz) (ac (P:=λd=>aN C d\/bA C Q XN d) (.inl Fy) (ac (P:=λd=>aN C d\/bA C Q XN d) (.inl Fx) (ac (P:=λd=>aN C d\/bA C Q XN d) (.inl Fw) (ac (P:=λd=>aN C d\/bA C Q XN d) (.inl Fv) (ac (P:=λd=>aN C d\/bA C Q XN d) (.inl nj) (ac (P:=λd=>aN C d\/bA C Q XN d) (.inl nh) (ac (P:=λd=>aN C d\/bA C Q XN d) (.inl ng) (ac (P:=λd=>aN C d\/bA C Q XN d) (.inl nc) (ac (P:=λd=>aN C d\/bA C Q XN d) (.inl mZ) (ac (P:=λd=>aN C d\/bA C Q XN d) (.inl mX) (ac (P:=λd=>aN C d\/bA C Q XN d) (.inl mW) (ac (P:=λd=>aN C d\/bA C Q XN d) (.inl mV) (ac (P:=λd=>aN C d\/bA C Q XN d) (.inl mU) (ac (P:=λd=>aN C d\/bA C Q XN d) (.inl mT) (ac (P:=λd=>aN C d\/bA C Q XN d) (.inl mS) (ac (P:=λd=>aN C d\/bA C Q XN d) (.inl mR) (ac (P:=λd=>aN C d\/bA C Q XN d) (.inl mQ) (ac (P:=λd=>aN C d\/bA C Q XN d) (.inl mP) (ac (P:=λd=>aN C d\/bA C Q XN d) (.inl mO) (ac (P:=λd=>aN C d\/bA C Q XN d) (.inl mM) (ac (P:=λd=>aN C d\/bA C Q XN d) (.inl mL) (ac (P:=λd=>aN C d\/bA C Q XN d) (.inl mK) (ac (P:=λd=>aN C d\/bA C Q XN d) (.inl mJ) (ac (P:=λd=>aN C d\/bA C Q XN d) (.inl mI) (ac (P:=λd=>aN C d\/bA C Q XN d) (.inl mH) (ac (P:=λd=>aN C d\/bA C Q XN d) (.inl mG) (ac (P:=λd=>aN C d\/bA C Q XN d) (.inl mF) (ac (P:=λd=>aN C d\/bA C Q XN d) (.inl mE) (ac (P:=λd=>aN C d\/bA C Q XN d) (.inl mD) (ac (P:=λd=>aN C d\/bA C Q XN d) (.inl mC) (ac (P:=λd=>aN C d\/bA C Q XN d) (.inl mB) (ac (P:=λd=>aN C d\/bA C Q XN d) (.inl mw) (ac (P:=λd=>aN C d\/bA C Q XN d) (.inl mv) (ac (P:=λd=>aN C d\/bA C Q XN d) (.inl mr) (ac (P:=λd=>aN C d\/bA C Q XN d) (.inl mq) (ac (P:=λd=>aN C d\/bA C Q XN d) (.inl mn) (ac (P:=λd=>aN C d\/bA C Q XN d) (.inl mm) (ac (P:=λd=>aN C d\/bA C Q XN d) (.inl ml) (ac (P:=λd=>aN C d\/bA C Q XN d) (.inl mj) (ac (P:=λd=>aN C d\/bA C Q XN d) (.inr mi) (ac (P:=λd=>aN C d\/bA C Q XN d) (.inl mh) (λ_ h=>nomatch h)))))))))))))))))))))))))))))))))))))))))))))))
def Fu:∀d∈XD,dq C Q XN d:=ac mf (ac me (ac md (ac ma (ac l9 (ac l8 (ac l7 (ac l6 (ac l5 (ac lZ (λ_ h=>nomatch h))))))))))
def FR:dh fw:=λ_ _ _ _ _ _=>cB (λ_ _=>rfl)
def FQ:dh iG:=λ_ _ _ _ _ _=>cf (λ_=>rfl)
def FP:dh iF:=λ_ _ _ _ _ _=>cf (λ_=>rfl)
def FN:dh iE:=λ_ _ _ _ _ _=>cf (λ_=>rfl)
def FM:dh iD:=λ_ _ _ _ _ _=>cf (λ_=>rfl)
def FL:dh iC:=λ_ _ _ _ _ _=>cf (λ_=>rfl)
def FK:dh iB:=λ_ _ _ _ _ _=>cf (λ_=>rfl)
def FJ:dh iA:=λ_ _ _ _ _ _=>cf (λ_=>rfl)
def FI:dh iz:=λ_ _ _ _ _ _=>cf (λ_=>rfl)
def FH:dh iy:=λ_ _ _ _ _ _=>cB (λ_ _=>rfl)
def oF:∀d∈XD,dh d:=ac FR (ac FQ (ac FP (ac FN (ac FM (ac FL (ac FK (ac FJ (ac FI (ac FH (λ_ h=>nomatch h))))))))))
def FS:∀d∈D,dh d:=ac (λ_ _ _ _ _ _=>cf (λ_=>rfl)) (ac (λ_ _ _ _ _ _=>cB (λ_ _=>rfl)) (ac (λ_ _ _ _ _ _=>cB (λ_ _=>rfl)) (ac (λ_ _ _ _ _ _=>fN (λ_ _ _=>rfl)) (ac (λ_ _ _ _ _ _=>iH (λ_ _ _ _=>rfl)) (ac (λ_ _ _ _ _ _=>cB (λ_ _=>rfl)) (ac (λ_ _ _ _ _ _=>cf (λ_=>rfl)) (ac (λ_ _ _ _ _ _=>cB (λ_ _=>rfl)) (ac (λ_ _ _ _ _ _=>cf (λ_=>rfl)) (ac (λ_ _ _ _ _ _=>cf (λ_=>rfl)) (ac (λ_ _ _ _ _ _=>cf (λ_=>rfl)) (ac (λ_ _ _ _ _ _=>cf (λ_=>rfl)) (ac (λ_ _ _ _ _ _=>cB (λ_ _=>rfl)) (ac (λ_ _ _ _ _ _=>cf (λ_=>rfl)) (ac (λ_ _ _ _ _ _=>cf (λ_=>rfl)) (ac (λ_ _ _ _ _ _=>iH (λ_ _ _ _=>rfl)) (ac (λ_ _ _ _ _ _=>iH (λ_ _ _ _=>rfl)) (ac (λ_ _ _ _ _ _=>cB (λ_ _=>rfl)) (ac (λ_ _ _ _ _ _=>fN (λ_ _ _=>rfl)) (ac (λ_ _ _ _ _ _=>iH (λ_ _ _ _=>rfl)) (ac (λ_ _ _ _ _ _=>cB (λ_ _=>rfl)) (ac (λ_ _ _ _ _ _=>cf (λ_=>rfl)) (ac (λ_ _ _ _ _ _=>cB (λ_ _=>rfl)) (ac (λ_ _ _ _ _ _=>cB (λ_ _=>rfl)) (ac (λ_ _ _ _ _ _=>cf (λ_=>rfl)) (ac (λ_ _ _ _ _ _=>cB (λ_ _=>rfl)) (ac (λ_ _ _ _ _ _=>cf (λ_=>rfl)) (ac (λ_ _ _ _ _ _=>cB (λ_ _=>rfl)) (ac (λ_ _ _ _ _ _=>cf (λ_=>rfl)) (ac (λ_ _ _ _ _ _=>cf (λ_=>rfl)) (ac (λ_ _ _ _ _ _=>cf (λ_=>rfl)) (ac (λ_ _ _ _ _ _=>cf (λ_=>rfl)) (ac (λ_ _ _ _ _ _=>fN (λ_ _ _=>rfl)) (ac (λ_ _ _ _ _ _=>cB (λ_ _=>rfl)) (ac (λ_ _ _ _ _ _=>cB (λ_ _=>rfl)) (ac (λ_ _ _ _ _ _=>cf (λ_=>rfl)) (ac (λ_ _ _ _ _ _=>cf (λ_=>rfl)) (ac (λ_ _ _ _ _ _=>cB (λ_ _=>rfl)) (ac (λ_ _ _ _ _ _=>cf (λ_=>rfl)) (ac (λ_ _ _ _ _ _=>cB (λ_ _=>rfl)) (ac (λ_ _ _ _ _ _=>cf (λ_=>rfl)) (ac (λ_ _ _ _ _ _=>fN (λ_ _ _=>rfl)) (ac (λ_ _ _ _ _ _=>cf (λ_=>rfl)) (ac (λ_ _ _ _ _ _=>cB (λ_ _=>rfl)) (ac (λ_ _ _ _ _ _=>cB (λ_ _=>rfl)) (ac (λ_ _ _ _ _ _=>cB (λ_ _=>rfl)) (ac (λ_ _ _ _ _ _=>cf (λ_=>rfl)) (λ_ h=>nomatch h)))))))))))))))))))))))))))))))))))))))))))))))
def zk{K:Qa}(z0:Qq K HW "len"=some none)(z1:Qq K HW "int"=some none)(z2:Qq K HW "bool"=some none)(z3:Qq K HW "list"=some none)(z4:Qq K HW "tuple"=some none)(z5:Qq K HW "abs"=some none)(z6:Qq K HW "max"=some none)(z7:Qq K HW "min"=some none)(z8:Qq K HW "isinstance"=some none)(z9:Qq K HW "range"=some none)(z10:Qq K HW "str"=some none)(z11:Qq K HW "dict"=some none)(z12:Qq K HW "sum"=some none)(z13:Qq K HW "all"=some none)(z14:Qq K HW "zip"=some none)(z15:Qq K HW "enumerate"=some none)(z16:Qq K HW "sorted"=some none)(z17:Qq K HW "reversed"=some none):∀nm∈zm,Qq K HW nm=some none:=by
 unfold zm;simp only[List.forall_mem_cons];exact⟨z0,z1,z2,z3,z4,z5,z6,z7,z8,z9,z10,z11,z12,z13,z14,z15,z16,z17,λ_ q=>(QV q).elim⟩
def dk {K:Qa}(X:K.In h)(G:h.Ns HW mg){kV:Value}(g:Qq K HW d.nm=some (some (.ref a)))(l:K.lookup a=some ⟨oc,od,.func (Wb d.on d.on (yR d.st) (yh d.st) (zt d.st) .none kV dc pm an cd ct),sl⟩)(c:WH K cd d.on=true)(k:QY K (.ref a)=true):xt K mg d:=⟨a,_,Bw l c k,Qy X G g⟩
def mk{K:Qa}{w:HL}{h:HQ}{mg:Str->Option Value}(X:K.In h)(G:h.Ns HW mg){cG u0 u1 u2 u3 u4 u5 u6 u7:Addr}{t0 t1 t2 t3 t4:Tok}
  (hD:∀e∈D,xt K mg e) (hX:∀e∈XD,xt K mg e)
  (e0:Qq K HW "WALKED"=some (some (.int 1 t0)))
  (e1:Qq K HW "GREATEST_LISTED"=some (some (.int 6 t1)))
  (e2:Qq K HW "GREATEST_WALKED"=some (some (.int 5 t2)))
  (e3:Qq K HW "GREATEST_STEPPED"=some (some (.int 7 t3)))
  (e4:Qq K HW "GREATEST_PRODUCT"=some (some (.int 30 t4)))
  {sa0:Addr}(s0:Qq K HW "STEPS"=some (some (.ref sa0))) (v0:fJ K w sa0 [([85],-1,0),([82],0,1),([68],1,0),([76],0,-1)])
  (z:∀nm∈zm,Qq K HW nm=some none)
  (xG:Qq K HW "GyreError"=some (some (.ref cG)))
  (xg0:Qq K HW "NoSize"=some (some (.ref u0)))
  (xg1:Qq K HW "NoName"=some (some (.ref u1)))
  (xg2:Qq K HW "NoRoad"=some (some (.ref u2)))
  (xg3:Qq K HW "NoSquare"=some (some (.ref u3)))
  (xg4:Qq K HW "NoState"=some (some (.ref u4)))
  (xg5:Qq K HW "NoText"=some (some (.ref u5)))
  (xg6:Qq K HW "NoTurn"=some (some (.ref u6)))
  (xg7:Qq K HW "Unlike"=some (some (.ref u7)))
  (xE:Q8 K cG [.type "ValueError",.type "Exception",.type "BaseException",.type "object"] "ValueError.__new__"=true)
  (xM:Q0 K cG (.type "BaseException")=some true)
  (xV:Qq K HW "ValueError"=some none)
  (xe0:Q8 K u0 [.type "ValueError",.type "Exception",.type "BaseException",.type "object"] "ValueError.__new__"=true)
  (xa0:Wt K (.ref u0) "__getattribute__"=some (some (.builtin "BaseException.__getattribute__")))
  (xb0:Wt K (.ref u0) "__getattr__"=some none)
  (xc0:Q0 K u0 (.type "BaseException")=some true)
  (fw:Wt K (.ref u0) "__class__"=some (some (.builtin "object.__class__")))
  (xo0:Q0 K u0 (.type "object")=some true)
  (xm0:Q0 K u0 (.ref cG)=some true)
  (xv0:QG K (.ref u0) (.type "ValueError")=some true)
  (xk0_0:QG K (.ref u0) (.ref u0)=some true)
  (xk0_1:QG K (.ref u0) (.ref u1)=some false)
  (xk0_2:QG K (.ref u0) (.ref u2)=some false)
  (xk0_3:QG K (.ref u0) (.ref u3)=some false)
  (xk0_4:QG K (.ref u0) (.ref u4)=some false)
  (xk0_5:QG K (.ref u0) (.ref u5)=some false)
  (xk0_6:QG K (.ref u0) (.ref u6)=some false)
  (xk0_7:QG K (.ref u0) (.ref u7)=some false)
  : ((∀e∈D,xt K mg e)/\kc K w mg C/\∀nm∈zm,mg nm=none)/\(∀e∈XD,xt K mg e)/\∃G,eJ K mg Q G:=by
 refine⟨⟨λd hd=>?_,⟨λnm i hi=>?_,λnm qq hi=>?_⟩,λnm hn=>?_⟩,λd hd=>?_,cG,Qy X G xG,xE,xM,PySem.W.mg_none_of X G xV,λc x hx=>?_,λc x hx=>?_⟩
 .exact hD d hd
 .unfold C at hi;rw[QI]at hi;cases q0:nm==("WALKED":Str)with
  |true=>
   rw[q0]at hi;cases hi;rw[beq_iff_eq.mp q0];exact⟨t0,Qy X G e0⟩
  |false=>
  rw[q0]at hi;rw[QI]at hi;cases q1:nm==("GREATEST_LISTED":Str)with
  |true=>
   rw[q1]at hi;cases hi;rw[beq_iff_eq.mp q1];exact⟨t1,Qy X G e1⟩
  |false=>
  rw[q1]at hi;rw[QI]at hi;cases q2:nm==("GREATEST_WALKED":Str)with
  |true=>
   rw[q2]at hi;cases hi;rw[beq_iff_eq.mp q2];exact⟨t2,Qy X G e2⟩
  |false=>
  rw[q2]at hi;rw[QI]at hi;cases q3:nm==("GREATEST_STEPPED":Str)with
  |true=>
   rw[q3]at hi;cases hi;rw[beq_iff_eq.mp q3];exact⟨t3,Qy X G e3⟩
  |false=>
  rw[q3]at hi;rw[QI]at hi;cases q4:nm==("GREATEST_PRODUCT":Str)with
  |true=>
   rw[q4]at hi;cases hi;rw[beq_iff_eq.mp q4];exact⟨t4,Qy X G e4⟩
  |false=>
  rw[q4]at hi;cases hi
 .unfold C at hi;rw[QI]at hi;cases q0:nm==("STEPS":Str)with
  |true=>
   rw[q0]at hi;cases hi;rw[beq_iff_eq.mp q0];exact⟨sa0,Qy X G s0,v0⟩
  |false=>
  rw[q0]at hi;cases hi
 .exact PySem.W.mg_none_of X G (z nm hn)
 .exact hX d hd
 .have hx':(["NoSize","NoName","NoRoad","NoSquare","NoState","NoText","NoTurn","Unlike"]:List Str)[c]?=some x:=hx
  match c,hx' with
  |0,h=>cases h;exact⟨u0,Qy X G xg0⟩
  |1,h=>cases h;exact⟨u1,Qy X G xg1⟩
  |2,h=>cases h;exact⟨u2,Qy X G xg2⟩
  |3,h=>cases h;exact⟨u3,Qy X G xg3⟩
  |4,h=>cases h;exact⟨u4,Qy X G xg4⟩
  |5,h=>cases h;exact⟨u5,Qy X G xg5⟩
  |6,h=>cases h;exact⟨u6,Qy X G xg6⟩
  |7,h=>cases h;exact⟨u7,Qy X G xg7⟩
  |_+8,h=>cases h
 .have hx':(["NoSize"]:List Str)[c]?=some x:=hx
  match c,hx' with
  |0,h=>
   cases h;refine⟨u0,Qy X G xg0,xe0,⟨xa0,xb0,xc0,fw,xo0⟩,xm0,xv0,λc' x' A' h1 h2=>?_⟩;have h3:(["NoSize","NoName","NoRoad","NoSquare","NoState","NoText","NoTurn","Unlike"]:List Str)[c']?=some x':=h1
   match c',h3 with
   |0,h3=>cases h3;rw[Qy X G xg0]at h2;cases h2;exact xk0_0
   |1,h3=>cases h3;rw[Qy X G xg1]at h2;cases h2;exact xk0_1
   |2,h3=>cases h3;rw[Qy X G xg2]at h2;cases h2;exact xk0_2
   |3,h3=>cases h3;rw[Qy X G xg3]at h2;cases h2;exact xk0_3
   |4,h3=>cases h3;rw[Qy X G xg4]at h2;cases h2;exact xk0_4
   |5,h3=>cases h3;rw[Qy X G xg5]at h2;cases h2;exact xk0_5
   |6,h3=>cases h3;rw[Qy X G xg6]at h2;cases h2;exact xk0_6
   |7,h3=>cases h3;rw[Qy X G xg7]at h2;cases h2;exact xk0_7
   |_+8,h3=>cases h3
  |_+1,h=>cases h
end R70
namespace R70
open Mini
noncomputable def T:List Fn:=[f0,f1,f2,f3,f4,f5,f6,f7,f8,f9,tT,tS,tR,tQ,tP,tO,tN,tM,tL,tK,tJ,tI,tH,tG,tF,tE,tD,tz,tx,tw,tu,tq,tm,tj,tf,nE,nA,sZ,sY,sX,sW,sV,sU,sS,sR,iP,fT,x0,x1,x2,x3,x4,x5,x6,x7,x8,x9]
open Vl Vl.Lib
noncomputable def yQ:Nat->Lv:=λk=>if k=6\/k=26\/k=27\/k=29 then .top else if k=28 then .no else .full
abbrev CD(d:Nat):=kC yQ T d
def yu (h:T[k]?=some f)(ds:List Dat):CD (d+1) k ds=yg yQ (CD d) k f ds:=by
 show kC yQ T (d+1) k ds=_;unfold kC;rw[h]
theorem rX:∀{ds:List Dat}{l:List Int},ym ds=some l->ds=l.map Dat.int
 |[],l,h=>by cases h;rfl
 |d::ds,l,h=>by
  cases d with
  |int i=>
   obtain⟨r,h1,rfl⟩:=QH.mp (show(ym ds).map (i::·)=some l from h);rw[rX h1];rfl
  |_=>cases h
theorem jX:∀{ds:List Dat}{l:List (List Int)},je ds=some l->ds=l.map sJ
 |[],l,h=>by cases h;rfl
 |d::ds,l,h=>by
  cases d with
  |lst xs=>
   replace h:(match ym xs,je ds with|some k,some ks=>some (k::ks)|_,_=>none)=some l:=h
   cases h1:ym xs with
   |none=>rw[h1]at h;cases h
   |some k=>
    cases h2:je ds with
    |none=>rw[h1,h2]at h;cases h
    |some ks=>
     rw[h1,h2]at h;cases h;rw[jX h2,rX h1];rfl
  |_=>cases h
abbrev St:=List (List Int)×List (List Int)
noncomputable def w0:St:=([[0],[1],[2],[3],[4],[5],[6]],[[1,0,0,0,0,0,0],[0,1,0,0,0,0,0],[0,0,1,0,0,0,0],[0,0,0,1,0,0,0],[0,0,0,0,1,0,0],[0,0,0,0,0,1,0],[0,0,0,0,0,0,1]])
noncomputable def w1:St:=([[0,1],[0,2],[0,3],[0,4],[0,5],[0,6],[1,2],[1,3],[1,4],[1,5],[1,6],[2,3],[2,4],[2,5],[2,6],[3,4],[3,5],[3,6],[4,5],[4,6],[5,6]],[[1,1,0,0,0,0,0],[1,1,1,0,0,0,0],[1,1,1,1,0,0,0],[1,1,1,1,1,0,0],[1,1,1,1,1,1,0],[1,1,1,1,1,1,1],[0,1,1,0,0,0,0],[0,1,1,1,0,0,0],[0,1,1,1,1,0,0],[0,1,1,1,1,1,0],[0,1,1,1,1,1,1],[0,0,1,1,0,0,0],[0,0,1,1,1,0,0],[0,0,1,1,1,1,0],[0,0,1,1,1,1,1],[0,0,0,1,1,0,0],[0,0,0,1,1,1,0],[0,0,0,1,1,1,1],[0,0,0,0,1,1,0],[0,0,0,0,1,1,1],[0,0,0,0,0,1,1]])
noncomputable def w2:St:=([[0,1,2],[0,1,3],[0,1,4],[0,1,5],[0,1,6],[0,2,3],[0,2,4],[0,2,5],[0,2,6],[0,3,4],[0,3,5],[0,3,6],[0,4,5],[0,4,6],[0,5,6],[1,2,3],[1,2,4],[1,2,5],[1,2,6],[1,3,4],[1,3,5],[1,3,6],[1,4,5],[1,4,6],[1,5,6],[2,3,4],[2,3,5],[2,3,6],[2,4,5],[2,4,6],[2,5,6],[3,4,5],[3,4,6],[3,5,6],[4,5,6]],[[2,3,2,0,0,0,0],[3,5,4,2,0,0,0],[4,7,6,4,2,0,0],[5,9,8,6,4,2,0],[6,11,10,8,6,4,2],[2,4,5,3,0,0,0],[3,6,8,6,3,0,0],[4,8,11,9,6,3,0],[5,10,14,12,9,6,3],[2,4,6,7,4,0,0],[3,6,9,11,8,4,0],[4,8,12,15,12,8,4],[2,4,6,8,9,5,0],[3,6,9,12,14,10,5],[2,4,6,8,10,11,6],[0,2,3,2,0,0,0],[0,3,5,4,2,0,0],[0,4,7,6,4,2,0],[0,5,9,8,6,4,2],[0,2,4,5,3,0,0],[0,3,6,8,6,3,0],[0,4,8,11,9,6,3],[0,2,4,6,7,4,0],[0,3,6,9,11,8,4],[0,2,4,6,8,9,5],[0,0,2,3,2,0,0],[0,0,3,5,4,2,0],[0,0,4,7,6,4,2],[0,0,2,4,5,3,0],[0,0,3,6,8,6,3],[0,0,2,4,6,7,4],[0,0,0,2,3,2,0],[0,0,0,3,5,4,2],[0,0,0,2,4,5,3],[0,0,0,0,2,3,2]])
noncomputable def w3:St:=([[0,1,2,3],[0,1,2,4],[0,1,2,5],[0,1,2,6],[0,1,3,4],[0,1,3,5],[0,1,3,6],[0,1,4,5],[0,1,4,6],[0,1,5,6],[0,2,3,4],[0,2,3,5],[0,2,3,6],[0,2,4,5],[0,2,4,6],[0,2,5,6],[0,3,4,5],[0,3,4,6],[0,3,5,6],[0,4,5,6],[1,2,3,4],[1,2,3,5],[1,2,3,6],[1,2,4,5],[1,2,4,6],[1,2,5,6],[1,3,4,5],[1,3,4,6],[1,3,5,6],[1,4,5,6],[2,3,4,5],[2,3,4,6],[2,3,5,6],[2,4,5,6],[3,4,5,6]],[[7,14,14,7,0,0,0],[14,30,33,21,7,0,0],[23,51,59,42,21,7,0],[34,77,92,70,42,21,7],[14,33,41,33,14,0,0],[26,63,82,73,42,14,0],[41,101,135,127,84,42,14],[23,58,80,80,58,23,0],[41,105,148,155,125,69,23],[34,89,129,143,129,89,34],[7,21,33,30,14,0,0],[14,42,69,69,42,14,0],[23,69,116,122,84,42,14],[14,42,73,82,63,26,0],[26,78,138,162,138,78,26],[23,69,125,155,148,105,41],[7,21,42,59,51,23,0],[14,42,84,122,116,69,23],[14,42,84,127,135,101,41],[7,21,42,70,92,77,34],[0,7,14,14,7,0,0],[0,14,30,33,21,7,0],[0,23,51,59,42,21,7],[0,14,33,41,33,14,0],[0,26,63,82,73,42,14],[0,23,58,80,80,58,23],[0,7,21,33,30,14,0],[0,14,42,69,69,42,14],[0,14,42,73,82,63,26],[0,7,21,42,59,51,23],[0,0,7,14,14,7,0],[0,0,14,30,33,21,7],[0,0,14,33,41,33,14],[0,0,7,21,33,30,14],[0,0,0,7,14,14,7]])
noncomputable def w4:St:=([[0,1,2,3,4],[0,1,2,3,5],[0,1,2,3,6],[0,1,2,4,5],[0,1,2,4,6],[0,1,2,5,6],[0,1,3,4,5],[0,1,3,4,6],[0,1,3,5,6],[0,1,4,5,6],[0,2,3,4,5],[0,2,3,4,6],[0,2,3,5,6],[0,2,4,5,6],[0,3,4,5,6],[1,2,3,4,5],[1,2,3,4,6],[1,2,3,5,6],[1,2,4,5,6],[1,3,4,5,6],[2,3,4,5,6]],[[42,105,135,105,42,0,0],[105,275,375,322,168,42,0],[203,545,769,700,420,168,42],[135,375,547,518,322,105,0],[300,854,1290,1295,910,420,105],[322,944,1481,1575,1225,672,203],[105,322,518,547,375,135,0],[250,780,1295,1445,1106,540,135],[300,956,1645,1946,1645,956,300],[203,672,1225,1575,1481,944,322],[42,168,322,375,275,105,0],[105,420,830,1021,830,420,105],[135,540,1106,1445,1295,780,250],[105,420,910,1295,1290,854,300],[42,168,420,700,769,545,203],[0,42,105,135,105,42,0],[0,105,275,375,322,168,42],[0,135,375,547,518,322,105],[0,105,322,518,547,375,135],[0,42,168,322,375,275,105],[0,0,42,105,135,105,42]])
noncomputable def w5:St:=([[0,1,2,3,4,5],[0,1,2,3,4,6],[0,1,2,3,5,6],[0,1,2,4,5,6],[0,1,3,4,5,6],[0,2,3,4,5,6],[1,2,3,4,5,6]],[[429,1287,2002,2002,1287,429,0],[1287,3991,6461,6838,4875,2145,429],[2002,6461,10933,12246,9516,4875,1287],[2002,6838,12246,14612,12246,6838,2002],[1287,4875,9516,12246,10933,6461,2002],[429,2145,4875,6838,6461,3991,1287],[0,429,1287,2002,2002,1287,429]])
noncomputable def w6:St:=([[0,1,2,3,4,5,6]],[[7436,26026,47320,56784,47320,26026,7436]])
noncomputable def dY(r:Rd)(w:St):Bool:=match r with
 |.ok (.dct ks vs)=>decide (ks=w.1)&&decide (je vs=some w.2)
 |_=>false
noncomputable def dW(w:St):Dat:=.dct w.1 (w.2.map sJ)
def Au (h:dY r w=true):r=.ok (dW w):=by
 unfold dY at h;split at h
 .rw[Qp]at h;rw[Kb h.1,jX (Kb h.2)];rfl
 .cases h
def k0:dY (CD 9 34 [dW w0,.int 7]) w1=true:=by kernel_rfl
def k1:dY (CD 9 34 [dW w1,.int 7]) w2=true:=by kernel_rfl
def k2:dY (CD 9 34 [dW w2,.int 7]) w3=true:=by kernel_rfl
def k3:dY (CD 9 34 [dW w3,.int 7]) w4=true:=by kernel_rfl
def k4:dY (CD 9 34 [dW w4,.int 7]) w5=true:=by kernel_rfl
def k5:dY (CD 9 34 [dW w5,.int 7]) w6=true:=by kernel_rfl
noncomputable def es:List (St×St):=[(w0,w1),(w1,w2),(w2,w3),(w3,w4),(w4,w5),(w5,w6)]
def kA:∀e∈es,dY (CD 9 34 [dW e.1,.int 7]) e.2=true:=by
 intro e he;simp only[es,Qj,QV,or_false]at he;rcases he with rfl|rfl|rfl|rfl|rfl|rfl
 .exact k0
 .exact k1
 .exact k2
 .exact k3
 .exact k4
 .exact k5
noncomputable def cD(k:Nat)(ds:List Dat):Option Dat:=match ds with
 |[.dct ks vs,.int 7]=>if k=34 then(es.find? λe=>e.1.1.length==ks.length&&(e.1.1.headD []).length==(ks.headD []).length).bind λe=>if e.1.1=ks/\je vs=some e.1.2 then some (dW e.2)else none else none
 |_=>none
set_option tactic.hygienic true in
def Cd (h:cD k ds=some r):CD 9 k ds=.ok r:=by
 unfold cD at h;split at h
 .next ks vs=>
  split at h
  .next hk=>
   subst hk;obtain⟨e,h2,h4⟩:=QE.mp h;clear h;have he:=kA e (List.mem_of_find?_eq_some h2);split at h4
   .next z=>
    cases h4;rw[<-z.1,jX z.2];exact Au he
   .cases h4
  .cases h
 .cases h
noncomputable def i4(k:Nat)(ds:List Dat):Rd:=match cD k ds with
 |some r=>.ok r
 |none=>CD 9 k ds
def Cc:i4=CD 9:=by
 funext k ds;unfold i4;cases h:cD k ds with
 |none=>rfl
 |some r=>exact(Cd h).symm
noncomputable def i3(k:Nat)(ds:List Dat):Rd:=if k=35 then yg yQ i4 35 nE ds else CD 10 k ds
set_option tactic.hygienic true in
def Cb:i3=CD 10:=by
 funext k ds;unfold i3;split
 .next h=>subst h;rw[Cc];exact(yu (d:=9) rfl ds).symm
 .rfl
noncomputable def cl(k:Nat)(ds:List Dat):Rd:=if k=36 then yg yQ i3 36 nA ds else CD 11 k ds
set_option tactic.hygienic true in
def ug:cl=CD 11:=by
 funext k ds;unfold cl;split
 .next h=>subst h;rw[Cb];exact(yu (d:=10) rfl ds).symm
 .rfl
def FV(d:Nat)(ns:List Int)(i:Nat):∃c:Int,CD (d+1) 43 [.scr ns,.int i]=.ok (.int c):=by rw[yu (f:=gX) rfl];exact CS ns i
def H0(d:Nat)(x:Dat):CD (d+1) 0 [x]=.ok (.bl (isInt x)):=by rw[yu (f:=jW) rfl];exact El x
def H1(d:Nat)(n m:Int):CD (d+2) 1 [.int n,.int m]=.ok (.bl (decide (1<=n/\n<=m))):=by rw[yu (f:=vG 0) rfl];exact qI (H0 d) n m
noncomputable def Bd(m:Int):Prop:=m=5\/m=6\/m=7\/m=30
def fY (d:Nat)(hm:Bd m)(h:¬(1<=n/\n<=m)):CD (d+3) 47 [.int n,.int m]=.ok (.int 0):=by
 have h1:CD (d+2) 1 [.int n,.int m]=.ok (.bl false):=by rw[H1 d n m,J6 h]
 rw[yu (f:=x0) rfl];rcases hm with rfl|rfl|rfl|rfl<;>simp[yg,x0,zu,zy,yt,h1]
def iX (d:Nat)(h:¬(1<=n/\n<=5)):CD (d+4) 48 [.int n]=.ok (.int 0):=by
 rw[yu (f:=x1) rfl];simp[yg,x1,zu,zy,yt,fY d (.inl rfl) h]
noncomputable def bd:Nat->Int
 |0=>5
 |1=>5
 |2=>5
 |3=>5
 |4=>7
 |5=>7
 |_=>30
def FT (d k:Nat)(hk:k<8)(h:¬(1<=n/\n<=bd k)):CD (d+6) 56 [.int k,.int n]=.ok (.int 0):=by
 have e48:∀m,¬(1<=n/\n<=5)->CD (d+5) m [.int n]=.ok (.int 0)\/True:=λ_ _=>.inr trivial;have a1:¬(1<=n/\n<=5)->CD (d+5) 48 [.int n]=.ok (.int 0):=λh=>iX (d+1) h;have a2:¬(1<=n/\n<=5)->CD (d+5) 49 [.int n]=.ok (.int 0):=λh=>by
  rw[yu (f:=x2) rfl];show yt (yQ 49) (aW yQ (CD (d+4)) (.ret (.call 48 (.pair (.var 0) .unit))) [some (.int n),some (.dct [] []),none,none] [di (.int n),.full,.full,.full])=_;simp[yt,iX d h]
 have a3:¬(1<=n/\n<=5)->CD (d+5) 50 [.int n]=.ok (.int 0):=λh=>by rw[yu (f:=x3) rfl];simp[yg,x3,zu,zy,yt,iX d h]
 have a4:¬(1<=n/\n<=5)->CD (d+5) 51 [.int n]=.ok (.int 0):=λh=>by rw[yu (f:=x4) rfl];simp[yg,x4,zu,zy,yt,iX d h]
 have a5:¬(1<=n/\n<=7)->CD (d+5) 52 [.int n]=.ok (.int 0):=λh=>by rw[yu (f:=x5) rfl];simp[yg,x5,zu,zy,yt,fY (d+1) (.inr (.inr (.inl rfl))) h]
 have b5:¬(1<=n/\n<=7)->CD (d+4) 52 [.int n]=.ok (.int 0):=λh=>by rw[yu (f:=x5) rfl];simp[yg,x5,zu,zy,yt,fY d (.inr (.inr (.inl rfl))) h]
 have a6:¬(1<=n/\n<=7)->CD (d+5) 53 [.int n]=.ok (.int 0):=λh=>by rw[yu (f:=x6) rfl];simp[yg,x6,zu,zy,yt,b5 h]
 have a7:¬(1<=n/\n<=30)->CD (d+5) 54 [.int n]=.ok (.int 0):=λh=>by rw[yu (f:=x7) rfl];simp[yg,x7,zu,zy,yt,fY (d+1) (.inr (.inr (.inr rfl))) h]
 have a8:¬(1<=n/\n<=30)->CD (d+5) 55 [.int n]=.ok (.int 0):=λh=>by rw[yu (f:=x8) rfl];simp[yg,x8,zu,zy,yt,fY (d+1) (.inr (.inr (.inr rfl))) h]
 rw[yu (f:=x9) rfl];rcases(by lia:k=0\/k=1\/k=2\/k=3\/k=4\/k=5\/k=6\/k=7)with rfl|rfl|rfl|rfl|rfl|rfl|rfl|rfl
 .simp[yg,x9,zu,zy,yt,a1 h]
 .simp[yg,x9,zu,zy,yt,a2 h]
 .simp[yg,x9,zu,zy,yt,a3 h]
 .simp[yg,x9,zu,zy,yt,a4 h]
 .simp[yg,x9,zu,zy,yt,a6 h]
 .simp[yg,x9,zu,zy,yt,a5 h]
 .simp[yg,x9,zu,zy,yt,a7 h]
 .simp[yg,x9,zu,zy,yt,a8 h]
def FU (d k:Nat)(hk:k<8)(h:¬(1<=n/\n<=bd k)):CD (d+7) 45 [.int k,.int n]=.ok (.bl true):=by
 rw[yu (f:=iP) rfl];simp[yg,iP,zu,zy,yt,FT d k hk h]
theorem qJ {P:aO->Prop}{body:α->aO->List Lv->bS}:∀(xs:List α),(∀x∈xs,∀de lv,P de->∃de' lv',body x de lv=.next de' lv'/\P de')->∀de lv,P de->∃de' lv',zT body xs de lv=.next de' lv'/\P de'
 |[],_,de,lv,p=>⟨de,lv,rfl,p⟩
 |x::xs,h,de,lv,p=>by
  obtain⟨d1,l1,e,p1⟩:=h x (by simp) de lv p;obtain⟨d2,l2,e2,p2⟩:=qJ xs (λy hy=>h y (by simp[hy])) d1 l1 p1;refine⟨d2,l2,?_,p2⟩;unfold zT;rw[e];exact e2
def jY {cl:Nat->List Dat->Rd}(Q:bS->Prop)(h:ax cl e de=.ok d)(hv:zU (.asg i e) X=none)(k:∀lv',Q (aW yQ cl X (de.set i (some d)) lv')):Q (aW yQ cl (.seq (.asg i e) X) de lv):=by
 rw[zN yQ cl de lv hv,Aw,h];simp only[hW];unfold fm;split<;>exact k _
noncomputable def sQ:Ex:=(.lst (.pair (.lit .non) (.pair (.lit .non) (.pair (.lit (.int 1)) (.pair (.lst (.pair (.lit (.int 1)) .unit)) (.pair (.lit (.int 1)) (.pair (.lst (.pair (.lit (.int 1)) .unit)) (.pair (.lit (.int 1)) (.pair (.lst (.pair (.lit (.int 1)) .unit)) .unit)))))))))
noncomputable def fs:Dat:=.lst [.non,.non,.int 1,.lst [.int 1],.int 1,.lst [.int 1],.int 1,.lst [.int 1]]
noncomputable def G(ns:List Int)(c:Int)(o3 o4 o5 o6:Option Dat):aO:=[some (.scr ns),some (.int c),some fs,o3,o4,o5,o6]
noncomputable def bK:Sm:=match fT.body with
 |.seq _ (.seq _ (.seq (.forv _ _ b) _))=>b
 |s=>s
noncomputable def iZ:Sm:=match fT.body with
 |.seq _ (.seq _ (.seq _ b))=>b
 |s=>s
noncomputable def bE:Ex:=match bK with
 |.seq (.asg _ e) _=>e
 |_=>.unit
noncomputable def fE:Ex:=.idx (.lst (.pair (.bin .sub (.lit (.int 0)) (.bin .mod (.bin .fdiv (.var 1) (.lit (.int 2))) (.bin .pow (.lit (.int 10)) (.lit (.int 29))))) (.pair (.bin .add (.bin .add (.var 4) (.lit (.int 1))) (.bin .mod (.bin .fdiv (.var 1) (.lit (.int 2))) (.bin .pow (.lit (.int 10)) (.lit (.int 29))))) .unit))) (.bin .mod (.var 1) (.lit (.int 2)))
noncomputable def lE:Ex:=.lst (.pair (.lit (.int 0)) (.pair (.bin .add (.var 4) (.lit (.int 1))) (.pair (.var 5) (.pair (.neg (.lit (.int 1))) .unit))))
noncomputable def iS:Sm:=.ite (.not (.call 45 (.pair (.var 3) (.pair (.var 6) .unit)))) (.ret (.lit (.bl false))) .skip
noncomputable def cS:Sm:=match bK with
 |.seq _ (.seq _ (.seq _ b))=>b
 |s=>s
def uf:bK=.seq (.asg 4 bE) (.seq (.asg 5 fE) (.seq (.forv 6 lE iS) cS)):=rfl
def ue(ns:List Int)(c:Int)(k:Nat)(hk:k<8)(o4 o5 o6:Option Dat):ax (CD 11) bE (G ns c (some (.int k)) o4 o5 o6)=.ok (.int (bd k)):=by
 rcases(by lia:k=0\/k=1\/k=2\/k=3\/k=4\/k=5\/k=6\/k=7)with rfl|rfl|rfl|rfl|rfl|rfl|rfl|rfl<;>rfl
def At(ns:List Int)(c b:Int)(hb:0<=b)(o3 o5 o6:Option Dat):∃n:Int,¬(1<=n/\n<=b)/\ax (CD 11) fE (G ns c o3 (some (.int b)) o5 o6)=.ok (.int n):=by
 have ep:yn .pow (.int 10) (.int 29)=.ok (.int (10^29)):=uU 10 29 (by decide);have hp:(10:Int)^29 > 0:=by decide
 generalize (10:Int)^29=p at *
 have e1:yn .fdiv (.int c) (.int 2)=.ok (.int (c/2)):=Cf _ _ (by decide) (by decide);have e2:yn .mod (.int (c/2)) (.int p)=.ok (.int (c/2%p)):=rD _ _ hp;have e4:yn .mod (.int c) (.int 2)=.ok (.int (c%2)):=rD _ _ (by decide);have m1:=Int.emod_nonneg (c/2) (b:=p) (by lia);generalize c/2%p=x at *
 have e:ax (CD 11) fE (G ns c o3 (some (.int b)) o5 o6)=wm (.lst [.int (0-x),.int (b+1+x)]) (.int (c%2)):=by
  unfold fE G;simp only[uY,rF,vE,vD,rG,kD,vF,wn,hU,wI,ep,e1,e2,e4,uV,rE];rw[show bu [.int (0-x),.int (b+1+x)]=.ok (.lst [.int (0-x),.int (b+1+x)])from J7 (show 2<=aF from by unfold aF;lia)];rfl
 rw[e];rcases(by lia:c%2=0\/c%2=1)with q|q<;>rw[q]
 .exact ⟨0-x,by lia,rfl⟩
 .exact ⟨b+1+x,by lia,rfl⟩
def ud(ns:List Int)(c b f:Int)(k:Nat)(hk:k<8)(o6:Option Dat)(lv:List Lv):aW yQ (CD 11) cS (G ns c (some (.int k)) (some (.int b)) (some (.int f)) o6) lv=.next (G ns c (some (.int k)) (some (.int b)) (some (.int f)) o6) lv:=by
 rcases(by lia:k=0\/k=1\/k=2\/k=3\/k=4\/k=5\/k=6\/k=7)with rfl|rfl|rfl|rfl|rfl|rfl|rfl|rfl<;>kernel_rfl
def uc(ns:List Int)(c:Int)(k:Nat)(hk:k<8)(o4 o5 o6:Option Dat)(lv:List Lv):∃de' lv',aW yQ (CD 11) bK (G ns c (some (.int k)) o4 o5 o6) lv=.next de' lv'/\∃o4 o5 o6,de'=G ns c (some (.int k)) o4 o5 o6:=by
 rw[uf];have hb0:0<=bd k:=by unfold bd;split<;>decide
 obtain⟨f,hf,ef⟩:=At ns c (bd k) hb0 (some (.int k)) o5 o6;refine jY (λr=>∃de' lv',r=.next de' lv'/\∃o4 o5 o6,de'=G ns c (some (.int k)) o4 o5 o6) (ue ns c k hk o4 o5 o6) rfl λlv1=>?_;refine jY (λr=>∃de' lv',r=.next de' lv'/\∃o4 o5 o6,de'=G ns c (some (.int k)) o4 o5 o6) (show ax (CD 11) fE (G ns c (some (.int k)) (some (.int (bd k))) o5 o6)=_ from ef) rfl λlv2=>?_;show ∃de' lv',aW yQ (CD 11) (.seq (.forv 6 lE iS) cS) (G ns c (some (.int k)) (some (.int (bd k))) (some (.int f)) o6) lv2=.next de' lv'/\_;rw[zN yQ (CD 11) _ _ rfl,rA];have el:ax (CD 11) lE (G ns c (some (.int k)) (some (.int (bd k))) (some (.int f)) o6)=.ok (.lst [.int 0,.int (bd k+1),.int f,.int (-1)]):=by
  unfold lE G;simp only[rF,vE,vD,rG,uX,kD,vF,wn,hU,wI,rE];exact J7 (show 4<=aF from by unfold aF;lia)
 rw[el];simp only[hW];rw[show c9 (.lst [.int 0,.int (bd k+1),.int f,.int (-1)])=some [.int 0,.int (bd k+1),.int f,.int (-1)]from Ax (show 4<=aF from by unfold aF;lia)];simp only;generalize (if aB _ then lv2 else xj _ _ lv2)=lv3;obtain⟨d1,l1,e,o6',rfl⟩:=qJ (P:=λde=>∃o6,de=G ns c (some (.int k)) (some (.int (bd k))) (some (.int f)) o6) (body:=λx de lv=>aW yQ (CD 11) iS (de.set 6 (some x)) (lv.set 6 (di x))) [.int 0,.int (bd k+1),.int f,.int (-1)] (λx hx de lv p=>by
  obtain⟨o,rfl⟩:=p;obtain⟨n,rfl,hn⟩:∃n:Int,x=.int n/\¬(1<=n/\n<=bd k):=by
   simp only[Qj,QV,or_false]at hx;rcases hx with rfl|rfl|rfl|rfl
   .exact ⟨0,rfl,by lia⟩
   .exact ⟨_,rfl,by lia⟩
   .exact ⟨_,rfl,hf⟩
   .exact ⟨_,rfl,by lia⟩
  refine⟨G ns c (some (.int k)) (some (.int (bd k))) (some (.int f)) (some (.int n)),lv.set 6 (di (.int n)),?_,_,rfl⟩;show aW yQ (CD 11) iS (G ns c (some (.int k)) (some (.int (bd k))) (some (.int f)) (some (.int n))) _=_;unfold iS G;simp only[Av,uW,rY,vE,vD,kD,vF,hU,wI,show CD 11 45 [.int k,.int n]=.ok (.bl true)from FU 4 k hk hn,Va,hW,Ce]) _ lv3 ⟨o6,rfl⟩
 rw[e,jj,ud ns c _ _ k hk];exact⟨_,_,rfl,_,_,_,rfl⟩
noncomputable def retB:bS->Bool
 |.ret (.bl true) _=>true
 |_=>false
def Ca (h:retB r=true):yt k r=.ok (.bl true):=by
 unfold retB at h;split at h
 .simp[yt]
 .cases h
def gR(ns:List Int)(c:Int)(o3 o4 o5 o6:Option Dat)(lv:List Lv):retB (aW yQ cl iZ (G ns c o3 o4 o5 o6) lv)=true:=by kernel_rfl
set_option tactic.hygienic true in
def CQ(ns:List Int):CD 12 46 [.scr ns]=.ok (.bl true):=by
 rw[yu (d:=11) (f:=fT) rfl];obtain⟨c,h⟩:=FV 10 ns 0;unfold yg;rw[J7 (by rfl)];show yt _ (aW yQ (CD 11) (.seq (.asg 1 (.call 43 (.pair (.var 0) (.pair (.lit (.int 0)) .unit)))) (.seq (.asg 2 sQ) (.seq (.forv 3 (.rng (.lit (.int 0)) (.lit (.int 8)) (.lit (.int 1))) bK) iZ))) [some (.scr ns),none,none,none,none,none,none] _)=_;refine Ca ?_;refine jY (λr=>retB r=true) (d:=.int c) (by simp only[rY,vE,vD,vF,wn,hU,wI];exact h) rfl λlv1=>?_;refine jY (λr=>retB r=true) (d:=fs) (show ax (CD 11) sQ [some (.scr ns),some (.int c),none,none,none,none,none]=.ok fs from rfl) rfl λlv2=>?_;show retB (aW yQ (CD 11) (.seq (.forv 3 (.rng (.lit (.int 0)) (.lit (.int 8)) (.lit (.int 1))) bK) iZ) (G ns c none none none none) lv2)=true;rw[zN yQ (CD 11) _ _ rfl,rA];rw[show ax (CD 11) (.rng (.lit (.int 0)) (.lit (.int 8)) (.lit (.int 1))) (G ns c none none none none)=.ok (.tup (xb 0 1 8))from rfl];simp only[hW];rw[show c9 (.tup (xb 0 1 8))=some (xb 0 1 8)from rfl];simp only;generalize (if aB _ then lv2 else xj _ _ lv2)=lv3;obtain⟨d1,l1,e,o3,o4,o5,o6,rfl⟩:=qJ (P:=λde=>∃o3 o4 o5 o6,de=G ns c o3 o4 o5 o6) (body:=λx de lv=>aW yQ (CD 11) bK (de.set 3 (some x)) (lv.set 3 (di x))) (xb 0 1 8) (λx hx de lv p=>by
  obtain⟨o3,o4,o5,o6,rfl⟩:=p;obtain⟨k,hk,rfl⟩:∃k:Nat,k<8/\x=.int k:=by
   unfold xb at hx;obtain⟨k,hk,rfl⟩:=WG.mp hx;exact⟨k,List.mem_range.mp hk,by simp⟩
  obtain⟨de',lv',e,o4',o5',o6',rfl⟩:=uc ns c k hk o4 o5 o6 (lv.set 3 (di (.int k)));exact⟨_,lv',e,_,_,_,_,rfl⟩) _ lv3 ⟨none,none,none,none,rfl⟩
 rw[e,jj,<-ug];exact gR ns c o3 o4 o5 o6 l1
def pure(ns:List Int)(_:ns.length<=63):∃m,ye (D.map (·.fn)++XD.map (·.fn)) 12 46 [.rol (ns.map Wd.int)] []=.ok (.bl true) m:=Ch yQ T 12 46 ns (CQ ns)
end R70
namespace Mini
open PySem PySem.Spec PyProof.Rows L2
def ub {run:Value->List Value->Sem Value}{K:HI->Qa}(e:∀P,as=(K P).map (·.1))(h:W5 q loose XP (λw h=>(K w.params).In h) r d kwd run):PySem.W.WalkX q loose XP (PySem.W.X.obsZ as) (PySem.W.X.valZ K n t) r d kwd run:=
 λw s₀ s₁ mg mb G y a o pm cd doc dV kV h1 h2 h3 h4 h5 h6 args vals as' L p1 p2 p3 p4 p5=>h w s₀ s₁ mg mb G (PySem.W.InK.keeps (K:=K) w _ _ (PySem.W.X.z_facts e y).2.1 L.keeps) a o pm cd doc dV kV h1 h2 h3 h4 h5 h6 args vals as' p1 p2 p3 p4 p5
end Mini
namespace R70
open PySem L2 Mini PySem.W
noncomputable def fO(d:aM)(m:Value)(c:Addr):Obj:=iw d.on d.on d.st m c
def FF (X:(K P).In h)(G:h.Ns HW mg)(g:nsIn (K P) HW d.nm=some (some (.ref a)))(l:(K P).lookup a=some (fO d m c))(k:codeIn (K P) (.ref c) d.on=true):xt (K P) mg d:=
 dk X G g l k (by show(match (K P).lookup a with|some ⟨_,_,.func _,_⟩=>true|some ⟨_,_,.cls _,_⟩=>_|_=>false)=true;rw[l];rfl)
def tV (X:(K P).In h)(G:h.Ns HW mg){l:List (aM×Addr×Addr×Value)}(e:l.map (λx=>(nsIn (K P) HW x.1.nm,(K P).lookup x.2.1,codeIn (K P) (.ref x.2.2.1) x.1.on))=l.map λx=>(some (some (.ref x.2.1)),some (fO x.1 x.2.2.2 x.2.2.1),true)):∀d∈l.map (·.1),xt (K P) mg d:=λd hd=>by
 obtain⟨x,hx,rfl⟩:=WG.mp hd;have q:=List.map_inj_left.mp e x hx;exact FF X G (J5 (·.1) q) (J5 (·.2.1) q) (J5 (·.2.2) q)
noncomputable def lD:List (aM×Addr×Addr×Value):=[(d0,137,136,m0),(d1,144,143,m0),(d2,151,150,m0),(d3,158,157,m1),(d4,165,164,m1),(d5,172,171,m1),(d6,177,176,m2),(d7,182,181,m2),(d8,189,188,m3),(d9,194,193,m3),(oE,199,198,m3),(oD,206,205,m4),(oC,211,210,m4),(oB,216,215,m4),(oA,223,222,m4),(oz,235,234,m5),(ow,240,239,m5),(ou,247,246,m5),(oq,254,253,m5),(oo,261,260,m5),(om,266,265,m5),(ol,273,272,m5),(oi,278,277,m6),(oh,285,284,m6),(n9,292,291,m6),(n8,299,298,m7),(nZ,304,303,m7),(nY,309,308,m7),(nX,316,315,m7),(nW,321,320,m7),(nV,328,327,m8),(nU,333,332,m8),(nT,340,339,m8),(nS,347,346,m8),(nR,352,351,m8),(nQ,357,356,m8),(nP,364,363,m8),(nO,371,370,m8),(nN,378,377,m8),(nM,385,384,m8),(nK,392,391,m8),(nJ,399,398,m8),(nI,404,403,m8),(nH,411,410,m9),(nG,418,417,m9),(nF,425,424,m9),(iR,432,431,m9)]
noncomputable def lX:List (aM×Addr×Addr×Value):=[(fw,151,150,m0),(iG,316,315,m7),(iF,321,320,m7),(iE,328,327,m8),(iD,333,332,m8),(iC,357,356,m8),(iB,364,363,m8),(iA,392,391,m8),(iz,404,403,m8),(iy,418,417,m9)]
section
variable(P:HI)
def zb:∀nm∈zm,nsIn (K P) HW nm=some none:=zk (by kernel_rfl) (by kernel_rfl) (by kernel_rfl) (by kernel_rfl) (by kernel_rfl) (by kernel_rfl) (by kernel_rfl) (by kernel_rfl) (by kernel_rfl) (by kernel_rfl) (by kernel_rfl) (by kernel_rfl) (by kernel_rfl) (by kernel_rfl) (by kernel_rfl) (by kernel_rfl) (by kernel_rfl) (by kernel_rfl)
end
end R70
open PySem PySem.W PyProof.Rows
set_option maxRecDepth 100000 in
theorem PySem.Challenge.cw_loopgyre_k70_sizes_refused_holds : PySem.Challenge.rw_loopgyre_k70_sizes_refused.Holds := by
 w_on;o_law
 refine holds_openX (q:=R70.qv) (loose:=R70.iM) (Xt:=R70.Xt) (XP:=XL R70.qv []) (Yf:=X.obsZ R70.as) (Ya:=X.valZ R70.K 433 785) (N:=7230) R70.hl (λs e=>xl_of s (Qs.mp e).1) XL.keeps (by rfl) (by rfl) (by rfl) (λs e=>recFacts_of (Qs.mp e).2) (by rfl) (by assumption) (by decide +kernel) ⟨rfl,rfl,rfl,rfl,rfl,by decide +kernel⟩ ?hw ?hc
 case hw=>w_witness2
 refine Mini.ub (K:=R70.K) (λ_=>rfl) ?_;refine Mini.uI (l:=PySem.Challenge.rw_loopgyre_k70_sizes_refused) (D:=R70.D) (XD:=R70.XD) (C:=R70.C) (Q:=R70.Q) (xn:=R70.XN) (k:=12) (i:=46) (dl:=R70.iR) (x:="_law_script") (n:=63) rfl (by decide) rfl ⟨rfl,by decide,by decide⟩ (λw h Y=>Y) rfl rfl R70.uh R70.Fu R70.FS R70.oF rfl rfl rfl ?F R70.pure
 case F=>
  intro w mg fa h KX G hmg;exact R70.mk KX G (t0:=469) (t1:=558) (t2:=590) (t3:=632) (t4:=634) (cG:=24) (u0:=104) (u1:=128) (u2:=92) (u3:=56) (u4:=44) (u5:=116) (u6:=68) (u7:=80) (R70.tV KX G (l:=R70.lD) (by kernel_rfl)) (R70.tV KX G (l:=R70.lX) (by kernel_rfl)) (by kernel_rfl) (by kernel_rfl) (by kernel_rfl) (by kernel_rfl) (by kernel_rfl) (sa0:=224) (by kernel_rfl) (Mini.FG (a:=224) (b1:=225) (b2:=226) (b3:=227) (b4:=228) (t1:=471) (t2:=475) (t3:=478) (t4:=481) (ep:=4) (r1:=473) (z1:=474) (n1:=0) (o1:=none) (l1:=#[]) (r2:=476) (z2:=477) (n2:=0) (o2:=none) (l2:=#[]) (r3:=479) (z3:=480) (n3:=0) (o3:=none) (l3:=#[]) (r4:=482) (z4:=484) (n4:=0) (o4:=none) (l4:=#[]) (e1:=PyData.keyHash w.params ⟨⟨[85]⟩⟩) (e2:=PyData.keyHash w.params ⟨⟨[82]⟩⟩) (e3:=PyData.keyHash w.params ⟨⟨[68]⟩⟩) (e4:=PyData.keyHash w.params ⟨⟨[76]⟩⟩) rfl (by kernel_rfl) (by kernel_rfl) (by kernel_rfl) (by kernel_rfl) (by kernel_rfl) rfl rfl rfl rfl) (R70.zb w.params) (by kernel_rfl) (by kernel_rfl) (by kernel_rfl) (by kernel_rfl) (by kernel_rfl) (by kernel_rfl) (by kernel_rfl) (by kernel_rfl) (by kernel_rfl) (by kernel_rfl) (by kernel_rfl) (by kernel_rfl) (by kernel_rfl) (by kernel_rfl) (by kernel_rfl) (by kernel_rfl) (by kernel_rfl) (by kernel_rfl) (by kernel_rfl) (by kernel_rfl) (by kernel_rfl) (by kernel_rfl) (by kernel_rfl) (by kernel_rfl) (by kernel_rfl) (by kernel_rfl) (by kernel_rfl) (by kernel_rfl)
