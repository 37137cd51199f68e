import PyProof.Rows.All
import Wide.All
import OpenK.AllK
import Wide.FinOn
import Lean
import PyProof.EqAt
import PyProof.EqKinds
import PyProof.NeKinds
import PyProof.TupleCall
import OpenK.KOwn
import PyProof.WalkInts
import KE.KIsAll
import KE.RegKIsAll
import PyProof.ExcAttrAll.ValueError
import OpenK.KMake
import PyProof.ExcInit
import PySem.Challenge.RW_loopgyre_k67_books
open PySem renaming Scope→LR,Params→LS,Program→LU,World→LV,treeTable→LW,hashStr→LX,Heap→LY,sysModules→LZ,mainGlobals→L0,bootBuiltins→L1,Around→L3,wpAny→L5,model→L6,backTo→L7,starEach→L8,wpAny_mono→L9,wpAny_loadName_local→Ma,wpAny_loadName_cell→Mb,wpAny_truthy_bool→Mc,wpAny_execs_nil→Md,swapsWith→Mf,assignEach→Mg,setItem→Mh,Operator→Mi,wpAny_bind→Mj,wpAny_holding→Mk,wpAny_standAt→Ml,wpAny_passesOwn→Mm,pyNext→Mn,letOwnedTupleGo→Mo,wpAny_pure→Mp,rawInt→Mq,wpAny_pyIter_list→Mr,wpAny_pyIter_tuple→Ms,foldedSetIterable→Mt,binaryOp→Mu,compareOp→Mv,CmpOp→Mw,behindInMarks→Mx,sizeLine_eq→My,cLine→Mz,FuncData→MA,codeAny→MB,codeAny_mono→MC,wpAny_Call_Name_kw→MD,NameKind→ME,bindL→MF,bindC→MG,cellsFrom→MI,richCompare→MJ,concat_meets→MK,noFill_tuple_add→ML,seq_tuple_add→MM,seqIndex_of→MN,seqIndex_neg→MO,attributeBase→MQ,wpAny_Call_method0_late→MR,backToKw→MS,keywordEach→MT,Keyword→MU,wpAny_Call_method_late→MV,call_meets→MW,callerA→MY,pushCells→MZ,pushCells_keeps→M0,newFunctionEnv→M1,relabel→M5,notedBy→M6,wpAny_comprehension_free→M7,wpAny_newObj_type→M8,intKind→M9,wpAny_rule→Na,putAt→Nb,wpAny_callSpecial?_slot→Nc,wpAny_call_entry→Nf,wpAny_notOrdered_dict→Ng,IsTupleKey→Nh,tupleKind→Ni,atKey→Nj,wpAny_forIn_list→Nk,wpAny_dictEntries→Nl,wpAny_dictEpoch→Nm,wpAny_loadPart'→Nn,plainId_quiet→No,codeAny_builtin→Np,richCompare_meets_room→Nq,wpAny_attempt→NF,wpAny_newList→NL,argBest→NO,call_min_walk→NP,valueAt→NQ,wpAny_pyIter_keyiter→NR,wpAny_setField→NS,wpAny_typeNameOfWhole_keyiter→NT,wpAny_fieldsOf→NU,wpAny_isOneOf_keyiter→NV,wpAny_typeNameOfWhole_valiter→NW,wpAny_isOneOf_valiter→NX
open PyProof.Rows renaming AllBare→L4,envOfC→MH,subscriptTail_builtinR→MP,IntsAre→MX,minRun'→Nr,SortKind→Nt,KeyOrd→Nu,Keyed→Nv,SortSt→Nw,wpS_pure→Nx,failedOf→Ny,pendingOf→Nz,arrOf→NA,wpS_bind→NB,wpS_get→NC,wpS_forRange→ND,wpS_mono→NE,seqObj→NG,sortedHeap→NH,listUpdate_at→NI,get?_update_seq→NJ,seqEpoch_at→NK,size_push'→NM,sortedAll→NN
open List renaming getElem?_eq_some_iff→Qa,getElem?_append_right→Qd,getElem?_append_left→Qf,mem_cons_of_mem→Qg,getElem?_set_ne→Qi,getElem?_eq_getElem→Ql,getElem?_map→Qm,mem_cons→Qn,mem_of_getElem?→Qo,getElem?_eq_none→Qq,length_map→Qs,mem_append_right→Qv,nodup_append→Qw,all_eq_true→Qx,getD_eq_getElem?_getD→Qz,size_toArray→QA,nodup_nil→QB,nodup_cons→QC,getElem?_set→QE,range→QF,getElem?_of_mem→QG,replicate→QH,getElem?_take_of_lt→QI,mem_append→QJ,mem_singleton→QK,set_cons_zero→QN,set_cons_succ→QO,length_append→QP,map_cons→QS,getElem?_eq_none_iff→QT,getElem?_set_self→QU,lookup_cons→QV,append_nil→QX,mem_append_left→QY,append_assoc→QZ,mem_cons_self→Q0,pairwise_iff_getElem→Q4,pairwise_map→Q6,flatten_cons→Q7,mem_range→Q9,replicate_succ→Wa,mem_map→Wc,getElem?_zip_eq_some→Wg,drop_eq_getElem_cons→Wh,not_mem_nil→Wi,reverse_cons→Wj,length_take→Wm,cons_append→Wn,take_append_drop→Wo,nil_append→Wp,ext_getElem?→Wq,drop_drop→Ws,zip_cons_cons→Wu,map_map→Wv,map_append→Ww,length_set→Wx,length_cons→WB,set_eq_of_length_le→WH,find?_cons→WI,pairwise_cons→WJ,getElem?_drop→WK,dropLast_eq_take→WN,getElem_inj→WO,any_eq_true→WP,all_cons→WQ,take_append_of_le_length→WR,mem_iff_getElem→WS,any_cons→W1,take_length→W5,map_snd_zip→W6,getElem?_replicate→W7,range_succ_eq_map→W9,length_take_of_le→Va,drop_eq_nil_of_le→Vb,length_zip→Vd,set_append_right→Vg,getElem?_reverse→Vh,filterMap_cons→Vj,mem_filterMap→Vm,reverse_perm→Vn,map_fst_zip→Vq,getElem_mem→Vr,ext_getElem→Vs,eq_nil_of_length_eq_zero→Vt,range_succ→Vu,of_mem_zip→Vv,mem_filter→Vw,foldl→Vz,Nodup→VA,take_of_length_le→VF,map_nil→VG
open PySem.W renaming Frag→Qb,nsIn→QM,kia_one→Q8,kitOne→Wr,fnOf→Wz,keepIn→WL,mg_of→WV,cellsFrom_some→W4,codeIn→Vc,kitx_list→Vk,WalkO→Vx
open PySem.Heap renaming get?_push_of_some→Qc,lt_size→Qe,get?_push_size→Qh,SameBut→We,get?_update_ne→Wf,get?_update_self→Wy,size_update→WC,get?_push_ne→WX,size_push→VB,get?_update_other→VH
open Nat renaming lt_of_lt_of_le→Qj,le_refl→Qk,le_trans→Qp,ne_of_lt→Qu,lt_irrefl→Q3,lt_succ_self→Wb,lt_succ_of_lt→Wk,le_add_right→Wt,ne_of_gt→WD,lt_trans→WE,le_of_lt→WF,zero_le→WT,le_succ→W0,le_of_eq→Vp,min_eq_left→Vy,add_sub_cancel_left→VE
open Bool renaming and_eq_true→Qr,and_eq_true_iff→QD,false_eq_true→QL,false_ne_true→QQ,eq_iff_iff→WU,not_eq_true'→WY,or_eq_true→Ve,beq_eq_decide_eq→Vi,not_true→VD
open Option renaming bind_eq_some_iff→Qt,map_eq_some_iff→Qy,map_some→QR,bind_some→QW,isSome_iff_exists→WG,getD_some→WZ,bind→Vo
open Array renaming getElem?_toList→Q5,length_toList→Wl,getElem?_eq_some_iff→WA,toList→WM,getElem?_eq_getElem→WW,getElem?_eq_none→W8,mem_of_getElem?→Vf
open Int renaming toNat_natCast→W2,le_refl→W3,fdiv_eq_ediv_of_nonneg→VC
set_option Elab.async false
set_option linter.all false
set_option maxRecDepth 100000
set_option genSizeOf false
set_option maxHeartbeats 0
set_option tactic.hygienic false
set_option bootstrap.genMatcherCode false
set_option compiler.extract_closed false
set_option backward.eqns.nonrecursive false
set_option backward.eqns.deepRecursiveSplit false
section
open PySem PySem.Spec PyProof.Rows
abbrev _root_.N7:=Value->Shared->Prop
abbrev _root_.N8:=Str->Option Value
abbrev _root_.O0:=List (Addr×Obj)
abbrev _root_.O1:=List (List Int)
abbrev _root_.O2:=Nat->List Nat
abbrev _root_.O3:=Option Value
abbrev _root_.O4:=Array Value
abbrev _root_.O5:=Option Bool
abbrev _root_.O6:=Option Addr
abbrev _root_.O7:=List Value
abbrev _root_.O9:=List Addr
abbrev _root_.P5:=Nat->Prop
abbrev _root_.P6:=List Expr
abbrev _root_.P7:=List Stmt
abbrev _root_.P8:=List Int
abbrev _root_.R0:=List Str
abbrev _root_.R5:=List Nat
abbrev _root_.R6:=List Env
end
noncomputable section
noncomputable def NY.{u,v}:=@congrArg.{u,v}
noncomputable def NZ:=@decide_eq_false
noncomputable def N0.{u}:=@if_pos.{u}
noncomputable def N1.{u}:=@if_neg.{u}
noncomputable def N2.{u}:=@absurd.{u}
noncomputable def N3:=@decide_eq_true
noncomputable def N4:=@of_decide_eq_true
noncomputable def N5:=@decide_eq_true_eq
namespace L2
open PySem PySem.Spec PyProof.Rows
noncomputable def xp(s:Stmt):Arguments:=match s with
 |.FunctionDef _ a _ _ _ _ _ _ _ _=>a
 |_=>{posonlyargs:=[],args:=[],vararg:=none,kwonlyargs:=[],kw_defaults:=[],kwarg:=none,defaults:=[]}
noncomputable def yR(s:Stmt):P7:=match s with
 |.FunctionDef _ _ b _ _ _ _ _ _ _=>b
 |_=>[]
noncomputable def zK(s:Stmt):LR:=match s with
 |.FunctionDef _ _ _ _ _ _ A _ _ _=>A
 |_=>{kind:=.function,names:=[],isGenerator:=false,isCoroutine:=false}
end L2
namespace R67
open PySem L2 PySem.W
noncomputable def top(i:Nat):Stmt:=PySem.Challenge.pw_loopgyre_k67_books.main.body.getD i (.Pass ⟨0,0,0,0⟩)
noncomputable def cZ(l:O7):Obj:=⟨.type "tuple",none,.seq l.toArray 0,#[]⟩
noncomputable def ij(l:O7):Obj:=⟨.none,none,.fields l.toArray,#[]⟩
noncomputable def iZ(s:String)(v:Value):Obj:=⟨.type "builtin_function_or_method",none,.fields #[.builtin s,v],#[]⟩
noncomputable def mC(a b:Nat)(v:Value):Obj:=⟨.type "frame",none,.plain,#[some (.ref a),some (.ref 3),some (.ref b),none,some v,none,some (.ref 0)]⟩
noncomputable def fw(P:LS)(e:Nat)(l:List (Str×Nat×Value)):Obj:=⟨.type "dict",none,.dict (l.map λx=>⟨PyData.keyHash P x.1,.str x.1 x.2.1,x.2.2⟩).toArray e,#[]⟩
noncomputable def ik(s q:Str)(t l n f a:Nat)(z:Bool)(b:Nat)(c d e:Value)(u:Nat):Obj:=⟨.type "code",none,.fields #[.str s t,.str q (t+1),.str "/claim/cut.py" (t+2),.int l 0,.int n 0,.int 0 0,.int 0 0,.int f 0,.ref a,.bool z,.int 181 0,.ref b,.none,c,d,e,.int u 0,.int l 0,.str "/claim/cut.py" (u+1)],#[]⟩
noncomputable def AO(n q:Str)(d:Stmt):Obj:=⟨.none,none,.func {name:=n,qualname:=q,params:=xp d,body:=.stmts (yR d),scope:=zK d,globals:=0,closure:=[],defaults:=.none,kwdefaults:=.none},#[]⟩
noncomputable def mD(n q:Str)(d:Stmt)(m:Value)(c:Addr):Obj:=⟨.type "function",none,.func (fnOf n q (xp d) (yR d) (zK d) .none .none .none m none (.ref c) .none),#[]⟩
noncomputable def ii(a:List Obj)(b:List (Str×Nat×Value))(c:O7):List Obj×List (Str×Nat×Value)×O7:=(a,b,c)
noncomputable def Jf(t:Nat)(l:R0):O7:=(l.zipIdx t).map λx=>.str x.1 x.2
noncomputable def bz(m:Value)(a t i:Nat):List Obj×List (Str×Nat×Value)×O7:=match top i with
 |.FunctionDef n g b _ _ _ c _ _ p=>
  let d:=top i
  let v:=c.names.filterMap λx=>match x.2 with |.local=>some x.1|_=>none
  if c.more.isEmpty then([cZ [],ij [],cZ (Jf (t+3) v),cZ [],AO n n d,ik n n t p.line g.args.length 3 a true (a+1) (.ref (a+2)) (.ref (a+3)) (.ref (a+4)) (t+3+v.length),mD n n d m (a+5)],[(n,t+5+v.length,.ref (a+6))],[.int p.line 0,.int p.col 0,.ref (a+5)])
  else([cZ [],ij [],AO n n d,ik n n t p.line g.args.length 3 a true (a+1) .none .none (.ref (a+2)) (t+3),mD n n d m (a+3)],[(n,t+5,.ref (a+4))],[.int p.line 0,.int p.col 0,.ref (a+3)])
 |_=>([],[],[])
noncomputable def Jg(P:LS)(m:Value)(a t i:Nat):List Obj×List (Str×Nat×Value)×O7:=match top i with
 |.ClassDef n _ _ _ _ _ _ _ _ _ p=>
  let k (l:List (Str×Nat×Value)):List (Str×Nat×Value):=.cons ("__module__",t+7,m) (.append l [("__firstlineno__",t+11,.int p.line (t+10)),("__static_attributes__",t+12,.ref (a+7))])
  ([cZ [.ref 24],iZ "type.__prepare__" (.type "type"),fw P 4 (k [("__qualname__",t+9,.str n (t+8))]),cZ [],ij [],ik n n (t+2) p.line 0 0 (a+3) false (a+4) .none .none .none (t+5),mC (a+5) (a+2) m,cZ [],fw P 2 (.append (k []) [("__doc__",t+13,.none)]),⟨.type "type",none,.cls ⟨n,[.ref 24],[.ref (a+9),.ref 24,.type "ValueError",.type "Exception",.type "BaseException",.type "object"],a+8,n,true,[],[],false,none,false⟩,#[some (.ref a),none,some (.str n t),some (.str n (t+8)),some (.builtin "ValueError.__new__"),some (.bool true)]⟩,⟨.type "super",none,.fields #[.ref (a+9),.ref (a+9),.ref (a+9)],#[]⟩,iZ "object.__init_subclass__" (.ref (a+9))],[(n,t+15,.ref (a+9))],[.int p.line 0,.int p.col 0,.ref (a+5)])
 |_=>([],[],[])
noncomputable def m0:Value:=.str "loopgyre.kinds" 223
noncomputable def m1:Value:=.str "loopgyre.floors" 248
noncomputable def m2:Value:=.str "loopgyre.signs" 279
noncomputable def m3:Value:=.str "loopgyre.arrows" 293
noncomputable def m4:Value:=.str "loopgyre.sides" 317
noncomputable def m5:Value:=.str "loopgyre.links" 346
noncomputable def m6:Value:=.str "loopgyre.webs" 435
noncomputable def m7:Value:=.str "loopgyre.books" 467
noncomputable def m8:Value:=.str "law_loopgyre_k67_books" 509
noncomputable def m9:Value:=.str "loopgyre.errors" 187
noncomputable def mB(P:LS):List (List Obj×List (Str×Nat×Value)×O7):=[ii [cZ [(.type "ValueError")],iZ "type.__prepare__" (.type "type"),fw P 4 [("__module__",196,.str "loopgyre.errors" 187),("__qualname__",198,.str "GyreError" 197),("__firstlineno__",200,.int 2 199),("__static_attributes__",201,.ref 22)],cZ [],ij [],ik "GyreError" "GyreError" 191 2 0 0 18 false 19 .none .none .none 194,mC 20 17 (.str "loopgyre.errors" 187),cZ [],fw P 3 [("__module__",196,.str "loopgyre.errors" 187),("__firstlineno__",200,.int 2 199),("__static_attributes__",201,.ref 22),("__weakref__",203,.ref 25),("__doc__",204,.none)],⟨.type "type",none,.cls ⟨"GyreError",[(.type "ValueError")],[(.ref 24),(.type "ValueError"),(.type "Exception"),(.type "BaseException"),(.type "object")],23,"GyreError",true,[],[(.ref 37)],false,none,false⟩,#[(some (.ref 15)),none,(some (.str "GyreError" 189)),(some (.str "GyreError" 197)),(some (.builtin "ValueError.__new__")),(some (.bool true))]⟩,⟨.type "getset_descriptor",none,.fields #[(.str "__weakref__" 202),(.ref 24),(.builtin "ExceptionGroup.__weakref__"),.none],#[]⟩,⟨.type "super",none,.fields #[(.ref 24),(.ref 24),(.ref 24)],#[]⟩,iZ "object.__init_subclass__" (.ref 24)] [("GyreError",206,.ref 24)] [.int 2 0,.int 0 0,.ref 20],
 Jg P m9 28 207 2,
 bz m0 40 225 4,
 bz m0 47 232 5,
 bz m0 54 240 6,
 bz m1 61 250 8,
 bz m1 68 259 9,
 bz m1 75 269 10,
 bz m2 82 281 12,
 bz m2 87 287 13,
 bz m3 92 295 15,
 bz m3 99 305 16,
 bz m3 104 311 17,
 bz m4 109 319 19,
 bz m4 116 326 20,
 bz m4 121 332 21,
 bz m4 126 338 22,
 ii [] [("WALKED",349,.int 1 348)] [],
 ii [fw P 4 [("U",350,.ref 134),("R",354,.ref 135),("D",357,.ref 136),("L",360,.ref 137)],cZ [(.int (-1) 352),(.int 0 353)],cZ [(.int 0 355),(.int 1 356)],cZ [(.int 1 358),(.int 0 359)],cZ [(.int 0 361),(.int (-1) 363)]] [("STEPS",368,.ref 133)] [],
 bz m5 138 369 26,
 bz m5 145 381 27,
 bz m5 150 387 28,
 bz m5 157 399 29,
 bz m5 164 410 30,
 bz m5 171 422 31,
 bz m5 176 428 32,
 ii [] [("GREATEST_LISTED",438,.int 6 437)] [],
 bz m6 183 439 35,
 bz m6 188 445 36,
 bz m6 195 458 37,
 ii [] [("GREATEST_WALKED",470,.int 5 469)] [],
 bz m7 202 471 40,
 bz m7 209 482 41,
 bz m7 214 488 42,
 bz m7 219 494 43,
 bz m7 226 503 44,
 bz m8 231 511 46,
 bz m8 238 519 47,
 bz m8 245 526 48,
 bz m8 252 533 49,
 bz m8 259 545 50,
 bz m8 266 554 51,
 bz m8 271 560 52,
 bz m8 276 566 53,
 bz m8 281 572 54,
 bz m8 288 585 55,
 bz m8 293 591 56,
 bz m8 300 599 57,
 bz m8 305 605 58,
 bz m8 310 611 59,
 bz m8 315 617 60,
 bz m8 320 623 61,
 bz m8 325 629 62]
noncomputable def AQ(P:LS):List Obj:=cZ []::ij ((mB P).flatMap (·.2.2))::ik "<module>" "<module>" 182 1 0 0 11 false 12 .none .none .none 185::mC 13 3 (.str "__main__" 164)::(mB P).flatMap (·.1)
noncomputable def AR(P:LS):Obj:=fw P 62 (.append [("__name__",165,.str "law_loopgyre_k67_books" 509),("__doc__",166,.none),("__package__",167,.none),("__loader__",168,.builtin "__main__.__loader__#opaque"),("__spec__",169,.none),("__annotations__",170,.ref 6),("__builtins__",171,.ref 4),("__file__",173,.str "/claim/cut.py" 172),("__cached__",174,.none)] ((mB P).flatMap (·.2.1)))
noncomputable def as:O9:=[3,45,46,52,53,59,60,66,67,73,74,80,81,85,86,90,91,97,98,102,103,107,108,114,115,119,120,124,125,131,132,133,134,135,136,137,143,144,148,149,155,156,162,163,169,170,174,175,181,182,186,187,193,194,200,201,207,208,212,213,217,218,224,225,229,230,236,237,243,244,250,251,257,258,264,265,269,270,274,275,279,280,286,287,291,292,298,299,303,304,308,309,313,314,318,319,323,324,328,329]
noncomputable def K(P:LS):Frag:=(3,AR P)::as.tail.map λa=>(a,(AQ P).getD (a-11) (cZ []))
noncomputable def qv:LU:={PySem.Challenge.pw_loopgyre_k67_books with main:={PySem.Challenge.pw_loopgyre_k67_books.main with body:=[1,2,4,5,6,8,9,10,12,13,15,16,17,19,20,21,22,24,25,26,27,28,29,30,31,32,34,35,36,37,39,40,41,42,43,44,46,47,48,49,50,51,52,53,54,55,56,57,58,59,60,61,62].map top} }
noncomputable def lp:R0:=["STEPS"]
noncomputable def Xt(s:Shared):Bool:=xlAt qv [] s&&recOk (RowW.records PySem.Challenge.rw_loopgyre_k67_books.row.toRowW) s
noncomputable def zS(w:LV):Shared:=
 let b:=(((fencedOpening LW PySem.Challenge.pw_loopgyre_k67_books w 4060).map λs=>s.heap.objs.toList).getD [])
 {heap:={objs:=(b.take 3++AR w.params::((b.drop 4).take 7++AQ w.params)).toArray},toks:=635}
noncomputable def iY(b:Bool)(w:LV):LV:=w.withFollow "special-get-raises" b
theorem ES(w:LV):openEnds LW PySem.Challenge.pw_loopgyre_k67_books (iY false w) 4060=some (zS w):=by kernel_rfl
theorem ER(w:LV):openEnds LW PySem.Challenge.pw_loopgyre_k67_books (iY true w) 4060=some (zS w):=by kernel_rfl
theorem E4(w:LV):openSeen qv lp (importedModules PySem.Challenge.pw_loopgyre_k67_books.main.body) Xt true (zS w)=openGood qv lp:=by kernel_rfl
theorem E3(w:LV):X.obsZ as (zS w)=X.valZ K 330 635 w:=by kernel_rfl
theorem hl:LeftO PySem.Challenge.pw_loopgyre_k67_books qv lp Xt (X.obsZ as) (X.valZ K 330 635) 4060:=λw=>by
 have e:iY (w.params.followText "special-get-raises") w=w:=World.withFollow_self w "special-get-raises";have H:∀b,openEnds LW PySem.Challenge.pw_loopgyre_k67_books (iY b w) 4060=some (zS w):=by
  intro b;cases b
  .exact ES w
  .exact ER w
 have h:=H (w.params.followText "special-get-raises");rw[e]at h;rw[h];exact NY some (Prod.ext (E4 w) (E3 w))
end R67
namespace L2
open PySem PySem.Spec PyProof.Rows
abbrev bH:=Sum Int Str
noncomputable def jM:bH->Value->Bool
 |.inl k,v=>Value.isInt k v
 |.inr x,v=>Value.isStrOf x v
noncomputable def oy(w:LV):bH->Int
 |.inl k=>hashInt k
 |.inr x=>LX w x
def zM:∀{k:bH}{v:Value},jM k v=true->(∃i t,k=Sum.inl i/\v=Value.int i t)\/(∃x t,k=Sum.inr x/\v=Value.str x t)
 |.inl i,v,h=>by
  obtain⟨t,e⟩:=Value.isInt_shape (k:=i) (v:=v) h;exact .inl ⟨i,t,rfl,e⟩
 |.inr x,v,h=>by
  obtain⟨t,e⟩:=Value.isStrOf_shape (x:=x) (v:=v) h;exact .inr ⟨x,t,rfl,e⟩
def Iv(i:Int)(t:Tok):jM (.inl i) (.int i t)=true:=by simp[jM,Value.isInt]
def jN(x:Str)(t:Tok):jM (.inr x) (.str x t)=true:=by simp[jM,Value.isStrOf]
def EQ(a b:Int):decide ((Sum.inl a:bH)=Sum.inl b)=(a==b):=by
 by_cases e:a=b
 .subst e;simp
 .have h:¬(Sum.inl a:bH)=Sum.inl b:=λq=>e (Sum.inl.inj q);rw[NZ h];exact(beq_eq_false_iff_ne.mpr e).symm
def EO(a b:Str):decide ((Sum.inr a:bH)=Sum.inr b)=decide (a=b):=by
 by_cases e:a=b
 .subst e;simp
 .have h:¬(Sum.inr a:bH)=Sum.inr b:=λq=>e (Sum.inr.inj q);rw[NZ h,NZ e]
def EN(a:Int)(b:Str):decide ((Sum.inl a:bH)=Sum.inr b)=false:=NZ (λq=>nomatch q)
def E5(a:Str)(b:Int):decide ((Sum.inr a:bH)=Sum.inl b)=false:=NZ (λq=>nomatch q)
noncomputable def zO(prog:LU)(w:LV):PySem.KeyKind prog w bH where
 is:=jM
 hash:=oy w
 inj:=λv a b G E=>by
  rcases zM G with⟨i,t,rfl,rfl⟩|⟨x,t,rfl,rfl⟩
  .rcases zM E with⟨j,u,rfl,e⟩|⟨y,u,rfl,e⟩
   .injection e with A _;rw[A]
   .exact nomatch e
  .rcases zM E with⟨j,u,rfl,e⟩|⟨y,u,rfl,e⟩
   .exact nomatch e
   .injection e with A _;rw[A]
 byValue:=λk v h=>by
  rcases zM h with⟨i,t,rfl,rfl⟩|⟨x,t,rfl,rfl⟩<;>rfl
 pyHash:=λB h=>by
  rcases zM B with⟨i,t,rfl,rfl⟩|⟨x,t,rfl,rfl⟩
  .exact wpAny_pyHash_int h
  .exact wpAny_pyHash_str h
 eqBool:=λH B h=>by
  rcases zM H with⟨i,t,rfl,rfl⟩|⟨x,t,rfl,rfl⟩
  .rcases zM B with⟨j,u,rfl,rfl⟩|⟨y,u,rfl,rfl⟩
   .rw[EQ]at h;exact wpAny_eqBool_int h
   .rw[EN]at h;exact SeqAt.EqAt.int_str i t y u _ _ _ _ h
  .rcases zM B with⟨j,u,rfl,rfl⟩|⟨y,u,rfl,rfl⟩
   .rw[E5]at h;exact SeqAt.EqAt.str_int x t j u _ _ _ _ h
   .rw[EO]at h;exact wpAny_eqBool_str h
 «strs»:=λk x t v h=>by
  rcases zM h with⟨i,u,rfl,e⟩|⟨y,u,rfl,e⟩
  .exact nomatch e
  .injection e with A _
   subst A;cases v<;>rfl
def qu(prog:LU)(w:LV)(i:Int)(t:Tok):(zO prog w).is (.inl i) (.int i t)=true:=Iv i t
def qw(prog:LU)(w:LV)(x:Str)(t:Tok):(zO prog w).is (.inr x) (.str x t)=true:=jN x t
set_option genInjectivity false in
inductive V where
 |N|bl (b:Bool)|int (i:Int)|str (x:Str)|byt (b:Array UInt8)|flt (b:UInt64)|ref (a:Addr)|ty (n:String)
 deriving DecidableEq
abbrev _root_.S6:=List V
noncomputable def RelV:V->Value->Prop
 |.N,u=>u=Value.none
 |.bl b,u=>u=Value.bool b
 |.int i,u=>∃t,u=Value.int i t
 |.str x,u=>∃t,u=Value.str x t
 |.byt b,u=>∃t,u=Value.bytes b t
 |.flt b,u=>∃t,u=Value.float b t
 |.ref a,u=>u=Value.ref a
 |.ty n,u=>u=Value.type n
abbrev az:S6->O7->Prop:=Paired RelV
theorem az.length (r:az xs A):xs.length=A.length:=Paired.length r
theorem az.get:∀{xs:S6}{A:O7}{i:Nat}{x:V},az xs A->xs[i]?=some x->∃u,A[i]?=some u/\RelV x u
 |_,_,_,_,.nil,e=>by simp at e
 |_,_,0,_,.cons r _,e=>by simp at e;subst e;exact⟨_,rfl,r⟩
 |_,_,i+1,x,.cons _ t,e=>by
  obtain⟨u,B,E⟩:=az.get (i:=i) (x:=x) t (by simpa using e);exact⟨u,by simpa using B,E⟩
theorem az.set (r:RelV x u):∀{xs:S6}{A:O7}(i:Nat),az xs A->az (xs.set i x) (A.set i u)
 |_,_,_,.nil=>.nil
 |_,_,0,.cons _ t=>.cons r t
 |_,_,i+1,.cons q t=>.cons q (az.set r i t)
theorem az.append:∀{xs ys:S6}{A ws:O7},az xs A->az ys ws->az (xs++ys) (A++ws)
 |_,_,_,_,.nil,s=>s
 |_,_,_,_,.cons r t,s=>.cons r (az.append t s)
noncomputable def iD:Option V->O3->Prop
 |some v,some u=>RelV v u
 |none,none=>True
 |_,_=>False
noncomputable def KV{A:Type}:List (A×V)->List (A×Value)->Prop:=Paired λ(p:A×V) (q:A×Value)=>p.1=q.1/\RelV p.2 q.2
noncomputable def kV:bH->V
 |.inl i=>.int i
 |.inr x=>.str x
set_option genInjectivity false in
inductive HO where
 |L (xs:S6)
 |T (xs:S6)
 |dK (kvs:List (bH×V))
 |own (x:Addr)
 |frz (o:Obj) (u:HO)
 |tbl (ps:O4)
 |ext (φ:LY->Prop)
abbrev Hp:=Addr->Option HO
noncomputable def aG(H:Hp)(a:Addr)(o:HO):Hp:=λb=>if b=a then some o else H b
def zf:aG H a o a=some o:=by unfold aG;rw[N0 rfl]
def ze (h:b≠a):aG H a o b=H b:=by unfold aG;rw[N1 h]
def zo {H:Hp}(h:H a=some o)(h':H b=none):a≠b:=by
 intro e;subst e;rw[h]at h';cases h'
section
variable(P:LU)(w:LV)
noncomputable def bc(H:Hp)(h:LY)(a:Addr):HO->Prop
 |.L B=>B.length<=sizeLine/\∃(A:O7) (n:Nat),az B A/\h.get? a=some {cls:=.type "list",data:=.seq A.toArray n}
 |.T B=>B.length<=sizeLine/\∃A:O7,az B A/\IsTup h a A.toArray
 |.dK E=>E.length<=sizeLine/\(a==LZ)=false/\∃I,KV E I/\h.DictOf (zO P w) a I
 |.own _=>∃o,h.get? a=some o
 |.frz o u=>h.get? a=some o/\bc H h a u
 |.tbl N=>h.get? a=some {cls:=.none,data:=.fields N}
 |.ext G=>G h/\(∃o,h.get? a=some o)/\∀J M:LY,G J->(∀o,J.get? a=some o->M.get? a=some o)->G M
noncomputable def cf(H:Hp)(h:LY):Prop:=∀a o,H a=some o->bc P w H h a o
end
section
variable{P:LU}{w:LV}{H H':Hp}{h h':LY}{a:Addr}{o:HO}
theorem bc.lt(x:bc P w H h a o):a<h.objs.size:=by
 cases o with
 |L A=>obtain⟨_,_,_,_,e⟩:=x;exact Qe e
 |T A=>obtain⟨_,_,_,p⟩:=x;exact p.lt
 |dK B=>obtain⟨_,_,_,_,o,_,_,e,_⟩:=x;exact Qe e
 |own y=>obtain⟨_,e⟩:=x;exact Qe e
 |frz E u=>obtain⟨e,_⟩:=x;exact Qe e
 |tbl G=>exact Qe (show h.get? a=some _ from x)
 |ext I=>obtain⟨_,⟨_,e⟩,_⟩:=x;exact Qe e
def bc.stay(x:bc P w H h a o)(k:∀b u,(b=a\/H b=some (.own a))->h.get? b=some u->h'.get? b=some u)
  (O:∀b,H b=some (.own a)->H' b=some (.own a)) (Q:∀b xs,H b=some (.T xs)->H' b=some (.T xs)):bc P w H' h' a o:=by
 induction o with
 |L xs=>obtain⟨z,A,n,r,e⟩:=x;exact⟨z,A,n,r,k _ _ (.inl rfl) e⟩
 |T xs=>obtain⟨z,A,r,B,e,c⟩:=x;exact⟨z,A,r,B,k _ _ (.inl rfl) e,c⟩
 |dK G=>obtain⟨z,y,I,r,B,J,M,e,c⟩:=x;exact⟨z,y,I,r,B,J,M,k _ _ (.inl rfl) e,c⟩
 |own y=>obtain⟨B,e⟩:=x;exact⟨B,k _ _ (.inl rfl) e⟩
 |frz B u N=>obtain⟨e,q⟩:=x;exact⟨k _ _ (.inl rfl) e,N q⟩
 |tbl E=>
  have e:h.get? a=some {cls:=.none,data:=.fields E}:=x;show h'.get? a=some {cls:=.none,data:=.fields E};exact k a _ (.inl rfl) e
 |ext U=>obtain⟨p,⟨o,e⟩,st⟩:=x;exact⟨st _ _ p λo q=>k _ _ (.inl rfl) q,⟨o,k _ _ (.inl rfl) e⟩,st⟩
theorem cf.lt(x:cf P w H h)(e:H a=some o):a<h.objs.size:=(x a o e).lt
def cf.fresh(x:cf P w H h)(e:h.objs.size<=a):H a=none:=by
 cases q:H a with
 |none=>rfl
 |some u=>exact N2 (Qj (x.lt q) e) (Q3 _)
def cf.kept(x:cf P w H h)(k:∀b u,h.get? b=some u->h'.get? b=some u):cf P w H h':=λa o e=>
 (x a o e).stay (λb u _ q=>k b u q) (λ_ q=>q) λ_ _ q=>q
def cf.laid(x:cf P w H h)(k:∀b u,h.get? b=some u->h'.get? b=some u)(E:h.objs.size<=a)(new:bc P w (aG H a o) h' a o):cf P w (aG H a o) h':=λb u e=>by
 have A:=x.fresh E;by_cases B:b=a
 .subst B;rw[zf]at e;cases e;exact new
 .rw[ze B]at e;exact(x b u e).stay (λc v _ q=>k c v q) (λc q=>by rw[ze (zo q A)];exact q) λc G q=>by rw[ze (zo q A)];exact q
end
noncomputable def Rd(H:Hp)(a:Addr)(u:HO):Prop:=H a=some u\/∃o,H a=some (.frz o u)
def Rd.ok (r:Rd H a u)(x:cf P w H h):bc P w H h a u:=by
 rcases r with r|⟨o,r⟩
 .exact x a u r
 .obtain ⟨_,q⟩:=x a _ r;exact q
noncomputable def iE:Option HO->Prop
 |some (.L _)=>True
 |some (.dK _)=>True
 |some (.ext _)=>True
 |_=>False
section
variable{P:LU}{w:LV}{H:Hp}{h h':LY}{x e:Addr}{o':HO}
def cf.write(ok:cf P w H h)(G:iE (H x))(N:e=x\/H e=some (.own x))(k:∀b u,b≠e->h.get? b=some u->h'.get? b=some u)(M:∃u,h'.get? e=some u)
  (new:bc P w (aG H x o') h' x o'):cf P w (aG H x o') h':=λb u q=>by
 have B:∀c y,H c=some (.own y)->c≠x:=λc y r z=>by subst z;rw[r]at G;exact G
 have E:∀c I,H c=some (.T I)->c≠x:=λc I r z=>by subst z;rw[r]at G;exact G
 by_cases J:b=x
 .subst J;rw[zf]at q;cases q;exact new
 .rw[ze J]at q;by_cases A:b=e
  .have O:H b=some (.own x):=by
    rcases N with z|z
    .exact N2 (A.trans z) J
    .rw[A];exact z
   rw[q]at O;cases O;obtain⟨v,Q⟩:=M;exact⟨v,by rw[A];exact Q⟩
  .refine (ok b u q).stay (λc v hc r=>k c v ?_ r) (λc r=>by rw[ze (B c b r)];exact r) λc I r=>by rw[ze (E c I r)];exact r
   rcases hc with rfl|hc
   .exact A
   .rintro rfl;rcases N with z|z
    .exact B c b hc z
    .rw[hc]at z;cases z;exact J rfl
end
structure Un(fs ex:O9)(H H':Hp)(h h':LY):Prop where
 keep:∀b o,h.get? b=some o->H b=none->b∉fs->b∉ex->h'.get? b=some o
 slot:∀b o,h.get? b=some o->H b=none->b∈fs->b∉ex->∃sl,h'.get? b=some {o with slots:=sl}
 free:∀b o,h.get? b=some o->H b=none->b∉ex->H' b=none
 there:∀b o,h.get? b=some o->b∉ex->∃o',h'.get? b=some o'
 tups:∀b xs,H b=some (.T xs)->H' b=some (.T xs)
 frzs:∀b o u,H b=some (.frz o u)->H' b=some (.frz o u)
 tbls:∀b ps,H b=some (.tbl ps)->∃more,H' b=some (.tbl (ps++more))
section
variable{fs ex:O9}{H H1:Hp}{h h1 h':LY}{a x e:Addr}{o:HO}
def Un.any (u:Un fs ex H H1 h h1)(q:h.get? b=some ob)(n:H b=none)(A:b∉ex):∃E,h1.get? b=some {ob with slots:=E}:=by
 by_cases B:b∈fs
 .exact u.slot b ob q n B A
 .exact ⟨ob.slots,u.keep b ob q n B A⟩
def Un.kept(k:∀b u,h.get? b=some u->h'.get? b=some u):Un fs ex H H h h':=
 ⟨λb A q _ _ _=>k b A q,λb A q _ _ _=>⟨A.slots,k b A q⟩,λ_ _ _ n _=>n,λb A q _=>⟨A,k b A q⟩,λ_ _ q=>q,λ_ _ _ q=>q,λ_ B q=>⟨#[],by rw[q];simp⟩⟩
def Un.refl:Un fs ex H H h h:=Un.kept λ_ _ q=>q
def Un.laid(k:∀b u,h.get? b=some u->h'.get? b=some u)(B:h.objs.size<=a)(A:H a=none):Un fs ex H (aG H a o) h h' where
 keep:=λb u q _ _ _=>k b u q
 slot:=λb u q _ _ _=>⟨u.slots,k b u q⟩
 free:=λb u q n _=>by rw[ze (Qu (Qj (Qe q) B))];exact n
 there:=λb u q _=>⟨u,k b u q⟩
 tups:=λb E q=>by rw[ze (zo q A)];exact q
 frzs:=λb u E q=>by rw[ze (zo q A)];exact q
 tbls:=λb G q=>⟨#[],by rw[ze (zo q A),q];simp⟩
def Un.write(B:iE (H x))(M:e=x\/H e=some (.own x))(k:∀b u,b≠e->h.get? b=some u->h'.get? b=some u)(E:∃u,h'.get? e=some u):Un fs ex H (aG H x o) h h':=by
 have I:∀b,H b=none->b≠x:=λb n z=>by subst z;rw[n]at B;exact B
 have J:∀b,H b=none->b≠e:=λb n z=>by
  subst z;rcases M with r|r
  .exact I b n r
  .rw[n]at r;cases r
 have G:∀b u,H b=some u->¬iE (some u)->b≠x:=λb u q N z=>by subst z;rw[q]at B;exact N B
 refine⟨λb u q n _ _=>k b u (J b n) q,λb u q n _ _=>⟨u.slots,k b u (J b n) q⟩,λb u q n _=>by rw[ze (I b n)];exact n,λb u q _=>?_,
  λb O q=>by rw[ze (G b _ q λz=>z)];exact q,λb u O q=>by rw[ze (G b _ q λz=>z)];exact q,λb Q q=>⟨#[],by rw[ze (G b _ q λz=>z),q];simp⟩⟩
 by_cases A:b=e
 .subst A;exact E
 .exact ⟨u,k b u A q⟩
end
noncomputable def i8(h:LY)(H:Hp):O9:=(QF h.objs.size).filter λa=>(H a).isSome
noncomputable def gq(h:LY)(H:Hp):LY:=PySem.W.hideAll h (i8 h H)
def Iu(h:LY)(H:Hp):(gq h H).objs.size=h.objs.size:=PySem.W.hideAll_size _ _
def Hm (e:h.get? b=some o)(n:H b=none):(gq h H).get? b=some o:=
 PySem.W.hideAll_get _ e λA=>by
  have q:(H b).isSome=true:=(Vw.mp A).2;rw[n]at q;simp at q
def Go (e:(gq h H).get? b=some o):h.get? b=some o/\H b=none:=by
 have A:h.get? b=some o:=PySem.W.of_hideAll (i8 h H) e;refine⟨A,?_⟩;cases q:H b with
 |none=>rfl
 |some x=>
  have B:b∈i8 h H:=Vw.mpr ⟨Q9.mpr (Qe A),by simp[q]⟩;have z:(gq h H).get? b=none:=PySem.W.hideAll_none (i8 h H) B;rw[z]at e;cases e
structure Mod(K:Qb)(mg:N8)(base:LY):Prop where
 kin:K.In base
 glob:base.Ns L0 mg
 blt:∃mb,base.Ns builtinsNs mb/\∀x:Str,x ≠ "__name__" -> mb x=L1 x
 nolimit:base.NoLimit
set_option genInjectivity false in
structure Cx where
 prog:LU
 w:LV
 K:Qb
 mg:Str->O3
 base:LY
 A:L3
 N:R0
 s₀:Shared
 H₀:Hp
 env:Env
 outer:R6
 stack:R6
 ex:O9
 fn:Str->Bool
 calm:Bool
 pn:O0
 xe:Value->Shared->Prop
noncomputable def dI(l:R6):O9:=l.filterMap (·.frame)
abbrev Cx.fs(X:Cx):O9:=dI X.outer
noncomputable def fH(A:LR)(x:Str):Prop:=A.names.lookup x=some .local\/A.names.lookup x=some .cell\/A.names.lookup x=some .free
noncomputable def Loc(A:LR)(x:Str):Prop:=A.names.lookup x=some .local\/A.names.lookup x=some .cell
noncomputable def Look(env:Env)(h:LY)(m:N8)(x:Str)(u:Value):Prop:=
 (env.kindOf x=some .local/\m x=some u)\/((env.kindOf x=some .cell\/env.kindOf x=some .free)/\∃c,env.cells.lookup x=some c/\h.IsCell c (some u))
structure Cx.Ok(X:Cx):Prop where
 mod:Mod X.K X.mg X.base
 kind:X.env.scope.kind=.function
 glob:X.env.globals=L0
 blt:X.env.builtins=builtinsNs
 above:X.s₀.heap.objs.size<=X.env.locals
 inj:∀x y c,X.env.cells.lookup x=some c->X.env.cells.lookup y=some c->x=y
 has:∀x,(X.env.kindOf x=some .cell\/X.env.kindOf x=some .free)->∃c,X.env.cells.lookup x=some c
 cab:∀x c,X.fn x=true->X.env.cells.lookup x=some c->X.s₀.heap.objs.size<=c
 hd:X.calm=true->X.A.handled=none
 frames:X.A.frames=some X.stack
 stk:X.stack=X.outer\/(X.stack=X.env::X.outer/\X.env.frame=some X.env.locals)
 exf:∀b∈X.ex,b≠X.env.locals/\∀x c,X.env.cells.lookup x=some c->c≠b
 bs:∀b o,X.base.get? b=some o->X.s₀.heap.get? b=some o/\X.H₀ b=none
 bsz:X.base.objs.size<=X.s₀.heap.objs.size
 noex:∀b o,X.base.get? b=some o->b∉X.ex
 exfs:∀b∈X.ex,b∉X.fs
 funs:X.s₀.heap.FunFrames X.base X.outer
 frf:∀b∈X.fs,X.H₀ b=none
structure Inv(X:Cx)(pins:O0)(σ:List (Option V))(H:Hp)(s:Shared):Prop where
 ok:X.Ok
 os:s.os=X.s₀.os
 bare:L4 s.gens
 base:Un X.fs X.ex X.H₀ H X.s₀.heap s.heap
 loc:∃m,s.heap.Ns X.env.locals m/\∀(i:Nat) (x:Str) (v:V),X.N[i]?=some x->σ[i]?=some (some v)->fH X.env.scope x->∃u,RelV v u/\Look X.env s.heap m x u
 cell:∀x c,X.env.cells.lookup x=some c->∃v,s.heap.IsCell c v
 free:H X.env.locals=none
 freeC:∀x c,X.env.cells.lookup x=some c->H c=none
 pin:∀p∈X.pn++pins,s.heap.get? p.1=some p.2/\H p.1=none/\p.1≠X.env.locals/\p.1∉X.fs/\∀v,p.2.data≠.cell v
 hok:cf X.prog X.w H s.heap
 len:σ.length=X.N.length
section
variable{X:Cx}{pins:O0}{σ:List (Option V)}{H H':Hp}{s:Shared}{h':LY}
def Cx.Ok.nofr (ok:X.Ok)(e:X.base.get? b=some o):b∉X.fs:=λA=>by
 have:=(ok.funs.mem A).1;rw[e]at this;cases this
theorem Inv.bs(I:Inv X pins σ H s):∀b o,X.base.get? b=some o->s.heap.get? b=some o/\H b=none:=λb o e=>
 ⟨I.base.keep b o (I.ok.bs b o e).1 (I.ok.bs b o e).2 (I.ok.nofr e) (I.ok.noex b o e),I.base.free b o (I.ok.bs b o e).1 (I.ok.bs b o e).2 (I.ok.noex b o e)⟩
def Inv.bk(I:Inv X pins σ H s):∀b o,X.base.get? b=some o->s.heap.get? b=some o:=λb o e=>(I.bs b o e).1
theorem Inv.mod(I:Inv X pins σ H s):Mod X.K X.mg X.base:=I.ok.mod
def Inv.kIn(I:Inv X pins σ H s):X.K.In s.heap:=I.ok.mod.kin.keeps I.bk
theorem Inv.lt(I:Inv X pins σ H s):X.env.locals<s.heap.objs.size:=let⟨_,A,_⟩:=I.loc;A.lt
def Inv.sz(I:Inv X pins σ H s):X.s₀.heap.objs.size<=s.heap.objs.size:=Qp I.ok.above (WF I.lt)
def Inv.nofs (I:Inv X pins σ H s)(h:s.heap.objs.size<=a):a∉X.fs:=λA=>by
 obtain⟨_,o,B,_⟩:=I.ok.funs.mem A;exact N2 (Qj (Qe B) (Qp I.sz h)) (Q3 _)
def Inv.cne(I:Inv X pins σ H s):∀x c,X.env.cells.lookup x=some c->c≠X.env.locals:=λx c e z=>by
 obtain⟨v,o,E,G⟩:=I.cell x c e;obtain⟨m,⟨J,M,N,A,B,_⟩,_⟩:=I.loc;rw[z,A]at E;cases E;rw[B]at G;cases G
theorem Inv.funs(I:Inv X pins σ H s):s.heap.FunFrames X.base X.outer:=by
 have all:∀(l:R6),(∀b∈dI l,b∈X.fs)->X.s₀.heap.FunFrames X.base l->s.heap.FunFrames X.base l:=by
  intro l
  induction l with
  |nil=>intro _ _;trivial
  |cons J r M=>
   intro G hl;obtain⟨N,⟨L,o,A,O,Q,U⟩,Y⟩:=hl;have B:L∈X.fs:=G L (by unfold dI;rw[Vj,A];exact Q0);obtain⟨j,e⟩:=I.base.slot L o Q (I.ok.frf L B) B λz=>I.ok.exfs L z B;exact⟨N,⟨L,_,A,O,e,U⟩,M (λb E=>G b (by unfold dI;rw[Vj,A];exact Qg _ E)) Y⟩
 exact all X.outer (λ_ E=>E) I.ok.funs
theorem Inv.stack(I:Inv X pins σ H s):s.heap.FunFrames X.base X.stack:=by
 rcases I.ok.stk with e|⟨e,A⟩
 .rw[e];exact I.funs
 .rw[e];obtain⟨m,B,_⟩:=I.loc;refine .cons (by rw[I.ok.kind];decide) A B ?_ I.funs;exact Heap.get?_none_of_le (Qp I.ok.bsz I.ok.above)
def Inv.stkSub(I:Inv X pins σ H s):∀b∈dI X.stack,b∈X.env.locals::X.fs:=λb A=>by
 rcases I.ok.stk with e|⟨e,B⟩
 .rw[e]at A;exact Qg _ A
 .rw[e]at A;unfold dI at A;rw[Vj,B]at A;exact A
def Inv.stkFree(I:Inv X pins σ H s):∀b∈dI X.stack,H b=none:=λb hb=>by
 rcases Qn.mp (I.stkSub b hb)with e|hb
 .rw[e];exact I.free
 .obtain ⟨_,o,A,_⟩:=I.ok.funs.mem hb;exact I.base.free b o A (I.ok.frf b hb) λz=>I.ok.exfs b z hb
def Inv.step{g':Array GenState}{t':Nat}{d':Drawn}{ch:O9}(I:Inv X pins σ H s)
  (E:∀b∈ch,(b∈X.ex\/X.s₀.heap.objs.size<=b)/\b≠X.env.locals/\(∀x c,X.env.cells.lookup x=some c->c≠b)/\∀p∈X.pn++pins,p.1≠b)
  (keep:∀b o,b≠X.env.locals->b∉X.fs->b∉ch->s.heap.get? b=some o->H b=none->h'.get? b=some o)
  (O:∀b o,b≠X.env.locals->b∈X.fs->b∉ch->s.heap.get? b=some o->H b=none->∃y,h'.get? b=some {o with slots:=y}) (B:∀b o,b∉ch->s.heap.get? b=some o->H b=none->H' b=none)
  (Q:∀b o,b∉ch->s.heap.get? b=some o->∃j,h'.get? b=some j)
  (g:∀b xs,H b=some (.T xs)->H' b=some (.T xs)) (f:∀b o u,H b=some (.frz o u)->H' b=some (.frz o u)) (t:∀b ps,H b=some (.tbl ps)->∃h,H' b=some (.tbl (ps++h)))
  (ns:∀m,s.heap.Ns X.env.locals m->h'.Ns X.env.locals m) (hok:cf X.prog X.w H' h') (hg:L4 g') :
  Inv X pins σ H' {s with heap:=h',gens:=g',drawn:=d',toks:=t' }:=by
 have a:∀b o,X.s₀.heap.get? b=some o->b≠X.env.locals:=λb o e=>Qu (Qj (Qe e) I.ok.above);have M:∀b o,X.s₀.heap.get? b=some o->b∉X.ex->b∉ch:=λb o e A U=>by
  rcases(E b U).1 with z|z
  .exact A z
  .exact N2 (Qj (Qe e) z) (Q3 _)
 have G:∀x c,X.env.cells.lookup x=some c->∀v,s.heap.IsCell c v->h'.IsCell c v:=λx c e v ⟨o,Y,hd⟩=>by
  have J:c∉ch:=λz=>(E c z).2.2.1 x c e rfl;by_cases hc:c∈X.fs
  .obtain ⟨y,q⟩:=O c o (I.cne x c e) hc J Y (I.freeC x c e);exact⟨_,q,hd⟩
  .exact ⟨o,keep c o (I.cne x c e) hc J Y (I.freeC x c e),hd⟩
 refine⟨I.ok,I.os,hg,⟨λb o e n U A=>?_,λb o e n U A=>?_,λb o e n A=>?_,λb o e A=>?_,λb xs e=>g b xs (I.base.tups b xs e),λb o xs e=>f b o xs (I.base.frzs b o xs e),λb ps e=>?_⟩,?_,λx c e=>?_,?_,λx c e=>?_,λp hp=>?_,hok,I.len⟩
 .exact keep b o (a b o e) U (M b o e A) (I.base.keep b o e n U A) (I.base.free b o e n A)
 .obtain ⟨y,N⟩:=I.base.slot b o e n U A;obtain⟨sl',w⟩:=O b _ (a b o e) U (M b o e A) N (I.base.free b o e n A);exact⟨sl',w⟩
 .obtain ⟨j,N⟩:=I.base.there b o e A;exact B b j (M b o e A) N (I.base.free b o e n A)
 .obtain ⟨j,N⟩:=I.base.there b o e A;exact Q b j (M b o e A) N
 .obtain ⟨m1,N⟩:=I.base.tbls b ps e;obtain⟨m2,w⟩:=t b _ N;exact⟨m1++m2,by rw[w,Array.append_assoc]⟩
 .obtain ⟨m,hn,hl⟩:=I.loc;refine⟨m,ns m hn,λi x v N w e3=>?_⟩;obtain⟨u,r,l⟩:=hl i x v N w e3;refine⟨u,r,?_⟩;rcases l with l|⟨k,c,e,z⟩
  .exact .inl l
  .exact .inr ⟨k,c,e,G x c e _ z⟩
 .obtain ⟨v,z⟩:=I.cell x c e;exact⟨v,G x c e v z⟩
 .obtain ⟨m,⟨o,_,_,Y,_⟩,_⟩:=I.loc;exact B _ o (λz=>(E _ z).2.1 rfl) Y I.free
 .obtain ⟨v,o,Y,hd⟩:=I.cell x c e;exact B c o (λz=>(E c z).2.2.1 x c e rfl) Y (I.freeC x c e)
 .obtain ⟨e,n,ne,nf,d⟩:=I.pin p hp;have J:p.1∉ch:=λz=>(E p.1 z).2.2.2 p hp rfl;exact⟨keep p.1 p.2 ne nf J e n,B p.1 p.2 J e n,ne,nf,d⟩
def Inv.un{t':Nat}(I:Inv X pins σ H s)(u:Un X.fs [] H H' s.heap h')(B:cf X.prog X.w H' h'):Inv X pins σ H' {s with heap:=h',toks:=t' }:=by
 obtain⟨m,⟨o,U,Y,M,r⟩,_⟩:=id I.loc;obtain⟨j,N⟩:=u.any M I.free (by simp);exact I.step (g':=s.gens) (d':=s.drawn) (ch:=[]) (λ_ z=>nomatch z) (λb o _ E _ e n=>u.keep b o e n E (by simp)) (λb o _ E _ e n=>u.slot b o e n E (by simp)) (λb o _ e n=>u.free b o e n (by simp)) (λb o _ e=>u.there b o e (by simp)) u.tups u.frzs u.tbls (λd O=>by
  obtain⟨l,G,J,A,Q⟩:=O;rw[M]at A;cases A;exact⟨_,G,J,N,Q⟩) B I.bare
def Inv.call{g':Array GenState}{t':Nat}{d':Drawn}{ch:O9}(I:Inv X pins σ H s)(u:Un (dI X.stack) ch H H' s.heap h')(G:cf X.prog X.w H' h')(Q:L4 g')
  (B:∀b∈ch,(b∈X.ex\/X.s₀.heap.objs.size<=b)/\b≠X.env.locals/\(∀x c,X.env.cells.lookup x=some c->c≠b)/\∀p∈X.pn++pins,p.1≠b) :
  Inv X pins σ H' {s with heap:=h',gens:=g',drawn:=d',toks:=t' }:=by
 obtain⟨m,⟨o,d,l,O,r⟩,_⟩:=id I.loc;obtain⟨g,J⟩:=u.any O I.free λz=>(B _ z).2.1 rfl;exact I.step (ch:=ch) B (λb o J U A e n=>u.keep b o e n (λz=>(Qn.mp (I.stkSub b z)).elim J U) A) (λb o _ _ A e n=>u.any e n A) (λb o A e n=>u.free b o e n A) (λb o A e=>u.there b o e A) u.tups u.frzs u.tbls (λf Y=>by
  obtain⟨t,M,N,E,j⟩:=Y;rw[O]at E;cases E;exact⟨_,M,N,J,j⟩) G Q
def Inv.turned{t':Nat}{it:Addr}(I:Inv X pins σ H s)(k:∀b o,b≠it->s.heap.get? b=some o->h'.get? b=some o)(G:H it=none)(E:it≠X.env.locals)
  (J:it∈X.ex\/X.s₀.heap.objs.size<=it) (M:∀x c,X.env.cells.lookup x=some c->c≠it) (N:∀p∈X.pn++pins,p.1≠it):Inv X pins σ H {s with heap:=h',toks:=t' }:=by
 have B:∀b u,H b=some u->b≠it:=λb u e z=>by rw[z,G]at e;cases e
 refine I.step (g':=s.gens) (d':=s.drawn) (ch:=[it]) (λb O=>?_) (λb o _ _ A e _=>k b o (λz=>A (by simp[z])) e) (λb o _ _ A e _=>⟨o.slots,k b o (λz=>A (by simp[z])) e⟩) (λ_ _ _ _ n=>n)
  (λb o A e=>⟨o,k b o (λz=>A (by simp[z])) e⟩) (λ_ _ e=>e) (λ_ _ _ e=>e) (λb d e=>⟨#[],by rw[e];simp⟩) (λm Q=>?_) (λb u e=>?_) I.bare
 .have e:b=it:=by simpa using O
  subst e;exact⟨J,E,M,N⟩
 .obtain ⟨o,U,Y,j,r⟩:=Q;exact⟨o,U,Y,k _ o (Ne.symm E) j,r⟩
 .refine (I.hok b u e).stay (λc v A q=>k c v ?_ q) (λ_ q=>q) λ_ _ q=>q;rcases A with z|z
  .rw[z];exact B b u e
  .exact B c _ z
def Inv.tok(I:Inv X pins σ H s)(t:Nat):Inv X pins σ H {s with toks:=t}:=I.un (h':=s.heap) (t':=t) Un.refl I.hok
theorem Inv.kept{t':Nat}(I:Inv X pins σ H s)(k:∀b u,s.heap.get? b=some u->h'.get? b=some u):Inv X pins σ H {s with heap:=h',toks:=t' }:=I.un (Un.kept k) (I.hok.kept k)
theorem Inv.laid{a:Addr}{o:HO}{t':Nat}(I:Inv X pins σ H s)(k:∀b u,s.heap.get? b=some u->h'.get? b=some u)(A:s.heap.objs.size<=a)(new:bc X.prog X.w (aG H a o) h' a o):
  Inv X pins σ (aG H a o) {s with heap:=h',toks:=t' }:=I.un (Un.laid k A (I.hok.fresh A)) (I.hok.laid k A new)
theorem Inv.write{x e:Addr}{o:HO}{t':Nat}(I:Inv X pins σ H s)(B:iE (H x))(E:e=x\/H e=some (.own x))(k:∀b u,b≠e->s.heap.get? b=some u->h'.get? b=some u)(A:∃u,h'.get? e=some u)
  (new:bc X.prog X.w (aG H x o) h' x o):Inv X pins σ (aG H x o) {s with heap:=h',toks:=t' }:=I.un (Un.write B E k A) (I.hok.write B E k A new)
def Inv.pins_of{A:O0}(I:Inv X pins σ H s)(h:∀p∈A,s.heap.get? p.1=some p.2/\H p.1=none/\p.1≠X.env.locals/\p.1∉X.fs/\∀v,p.2.data≠.cell v):Inv X A σ H s:=
 ⟨I.ok,I.os,I.bare,I.base,I.loc,I.cell,I.free,I.freeC,λp B=>(QJ.mp B).elim (λz=>I.pin p (QY _ z)) (h p),I.hok,I.len⟩
def qx {N:R0}(A:N.Nodup){j:Nat}(a:N[i]?=some x)(b:N[j]?=some x):i=j:=by
 obtain⟨G,B⟩:=Qa.mp a;obtain⟨I,E⟩:=Qa.mp b;exact(WO A).mp (B.trans E.symm)
def jO (I:Inv X pins σ H s)(hN:X.N.Nodup)(t:X.N[i]?=some x)(N:Loc X.env.scope x)(r:RelV v u)(h:∀s',Inv X pins (σ.set i (some v)) H s'->(∃a,We a s.heap s'.heap/\(a=X.env.locals\/X.env.cells.lookup x=some a))->Q () s')(hf:X.fn x=true\/X.env.scope.names.lookup x=some .local:=by first|exact .inl rfl|exact .inr rfl|assumption):L5 M A (storeName X.env x u) Q E s:=by
 obtain⟨m,hn,hl⟩:=id I.loc;have w:(X.env.scope.kind == .class || (X.env.scope.kind == .module&&X.env.locals != X.env.globals))=false:=by rw[I.ok.kind];rfl
 have Y:i<σ.length:=by rw[I.len];exact(Qa.mp t).1
 have cne:=I.cne;have G:∀{a:Addr}{h':LY},(∃o,s.heap.get? a=some o/\H a=none)->We a s.heap h'->cf X.prog X.w H h':=λ{a h'} ha B b ob e=>by
  obtain⟨_,_,O⟩:=ha;refine(I.hok b ob e).stay (λc w' hc q=>(B.2 c ?_).trans q) (λ_ q=>q) λ_ _ q=>q;rintro rfl;rcases hc with rfl|hc
  .rw[O]at e;cases e
  .rw[O]at hc;cases hc
 rcases N with hk|hk
 .refine wpAny_storeName_local hk hn (λh' hn' B=>?_) w;obtain⟨oL,_,_,hoL,_⟩:=id hn;refine h _ ⟨I.ok,I.os,I.bare,⟨λb o e n l N=>?_,λb o e n l N=>?_,I.base.free,λb o e N=>?_,I.base.tups,I.base.frzs,I.base.tbls⟩,⟨_,hn',λj y v' J U e3=>?_⟩,λy c e=>?_,I.free,I.freeC,λp hp=>?_,G ⟨oL,hoL,I.free⟩ B,by simpa using I.len⟩ ⟨_,B,.inl rfl⟩
  .exact (B.2 b (Qu (Qj (Qe e) I.ok.above))).trans (I.base.keep b o e n l N)
  .obtain ⟨sl,J⟩:=I.base.slot b o e n l N;exact⟨sl,(B.2 b (Qu (Qj (Qe e) I.ok.above))).trans J⟩
  .obtain ⟨o',J⟩:=I.base.there b o e N;exact⟨o',(B.2 b (Qu (Qj (Qe e) I.ok.above))).trans J⟩
  .by_cases g:j=i
   .subst g;rw[t]at J;cases J;rw[QU Y]at U;cases U;exact⟨u,r,.inl ⟨hk,by simp⟩⟩
   .rw[Qi (Ne.symm g)]at U;obtain⟨u',r',q⟩:=hl j y v' J U e3;refine⟨u',r',?_⟩;rcases q with⟨k,e⟩|⟨k,c,e,z⟩
    .refine .inl ⟨k,?_⟩;have:y≠x:=λe=>g (qx hN J (e▸t));simp[this,e]
    .exact .inr ⟨k,c,e,z.sameBut B (cne y c e)⟩
  .obtain ⟨w',z⟩:=I.cell y c e;exact⟨w',z.sameBut B (cne y c e)⟩
  .obtain ⟨e,n,ne,nf,d⟩:=I.pin p hp;exact⟨(B.2 p.1 ne).trans e,n,ne,nf,d⟩
 .have f:X.fn x=true:=by
   rcases hf with z|z
   .exact z
   .rw[z]at hk;cases hk
  obtain⟨c,hc⟩:=I.ok.has x (.inl hk);obtain⟨w',z⟩:=I.cell x c hc;refine wpAny_storeName_cell I.ok.kind hk hc z (λh' hc' B=>?_);obtain⟨oc,hoc,hocd⟩:=id z;refine h {s with heap:=h' } ⟨I.ok,I.os,I.bare,⟨λb o e n l N=>?_,λb o e n l N=>?_,I.base.free,λb o e N=>?_,I.base.tups,I.base.frzs,I.base.tbls⟩,⟨m,hn.sameBut B (Ne.symm (cne x c hc)),λj y v' J U e3=>?_⟩,λy c' e=>?_,I.free,I.freeC,λp hp=>?_,G ⟨oc,hoc,I.freeC x c hc⟩ B,by simpa using I.len⟩ ⟨c,B,.inr hc⟩
  .exact (B.2 b (Qu (Qj (Qe e) (I.ok.cab x c f hc)))).trans (I.base.keep b o e n l N)
  .obtain ⟨sl,J⟩:=I.base.slot b o e n l N;exact⟨sl,(B.2 b (Qu (Qj (Qe e) (I.ok.cab x c f hc)))).trans J⟩
  .obtain ⟨o',J⟩:=I.base.there b o e N;exact⟨o',(B.2 b (Qu (Qj (Qe e) (I.ok.cab x c f hc)))).trans J⟩
  .by_cases g:j=i
   .subst g;rw[t]at J;cases J;rw[QU Y]at U;cases U;exact⟨u,r,.inr ⟨.inl hk,c,hc,hc'⟩⟩
   .rw[Qi (Ne.symm g)]at U;obtain⟨u',r',q⟩:=hl j y v' J U e3;refine⟨u',r',?_⟩;rcases q with q|⟨k,c',e,z'⟩
    .exact .inl q
    .refine .inr ⟨k,c',e,z'.sameBut B ?_⟩;rintro rfl;exact g (qx hN J (I.ok.inj _ _ _ e hc▸t))
  .by_cases hcc:c'=c
   .subst hcc;exact⟨_,hc'⟩
   .obtain ⟨w2,z2⟩:=I.cell y c' e;exact⟨w2,z2.sameBut B hcc⟩
  .obtain ⟨e,n,ne,nf,d⟩:=I.pin p hp;refine⟨(B.2 p.1 ?_).trans e,n,ne,nf,d⟩;intro q;rw[q,hoc]at e;have q':oc=p.2:=Option.some.inj e;exact d w' (by rw[<-q'];exact hocd)
def kL (I:Inv X pins σ H s)(B:X.N.Nodup)(G:X.N[i]?=some x)(J:Loc X.env.scope x)(r:RelV v u)(h:∀s',Inv X pins (σ.set i (some v)) H s'->Q () s')(N:X.fn x=true\/X.env.scope.names.lookup x=some .local:=by first|exact .inl rfl|exact .inr rfl|assumption):L5 M A (storeName X.env x u) Q E s:=
 jO I B G J r (λs' O _=>h s' O) N
def Inv.call'{s':Shared}{ch:O9}(I:Inv X pins σ H s)(E:s'.os=s.os)(u:Un (dI X.stack) ch H H' s.heap s'.heap)(A:cf X.prog X.w H' s'.heap)(G:L4 s'.gens)
  (B:∀b∈ch,(b∈X.ex\/X.s₀.heap.objs.size<=b)/\b≠X.env.locals/\(∀x c,X.env.cells.lookup x=some c->c≠b)/\∀p∈X.pn++pins,p.1≠b):Inv X pins σ H' s':=by
 obtain⟨h',J,M,N,O⟩:=s';have e:O=s.os:=E;subst e;exact I.call (g':=J) (t':=N) (d':=M) u A G B
end
abbrev XK:=Value->O6->Hp->Prop
abbrev St:=List (Option V)
abbrev VK:=V->Hp->Prop
abbrev TE:=St->Hp->VK->Prop
abbrev TT:=St->Hp->(Bool->Hp->Prop)->Prop
abbrev TA:=St->Hp->(S6->Hp->Prop)->Prop
set_option genInjectivity false in
structure bP where
 nx:St->Hp->Prop
 rt:VK
 bk:St->Hp->Prop:=λ_ _=>False
 ct:St->Hp->Prop:=λ_ _=>False
abbrev TS:=bP->St->Hp->Prop
noncomputable def EP(X:Cx)(A:O0)(σ:St)(Q:VK)(u:Value)(s':Shared):Prop:=∃v B,Inv X A σ B s'/\RelV v u/\Q v B
noncomputable def TP(X:Cx)(A:O0)(σ:St)(Q:Bool->Hp->Prop)(b:Bool)(s':Shared):Prop:=∃B,Inv X A σ B s'/\Q b B
noncomputable def AP(X:Cx)(A:O0)(σ:St)(Q:S6->Hp->Prop)(G:O7)(s':Shared):Prop:=∃B E,Inv X A σ E s'/\az B G/\Q B E
noncomputable def SP(X:Cx)(B:O0)(D:bP)(f:Flow)(s':Shared):Prop:=
 match f with
 |.next=>∃A E,Inv X B A E s'/\D.nx A E
 |.brk=>∃A E,Inv X B A E s'/\D.bk A E
 |.cont=>∃A E,Inv X B A E s'/\D.ct A E
 |.ret u=>∃v A E,Inv X B A E s'/\RelV v u/\D.rt v E
noncomputable def PE(X:Cx)(e:Expr)(t:TE):Prop:=
 ∀(A:O0) (s:Shared) (B:St) (H:Hp) (Q:VK),Inv X A B H s->t B H Q->L5 (L6 X.prog X.w) X.A (eval e X.env) (EP X A B Q) X.xe s
noncomputable def PT(X:Cx)(e:Expr)(t:TT):Prop:=
 ∀(A:O0) (s:Shared) (B:St) (H:Hp) (Q:Bool->Hp->Prop),Inv X A B H s->t B H Q->L5 (L6 X.prog X.w) X.A (isTrue e X.env (eval e X.env)) (TP X A B Q) X.xe s
noncomputable def PW(X:Cx)(e:Expr)(t:TT):Prop:=
 ∀(B:Sem Value) (A:O0) (s:Shared) (E:St) (H:Hp) (Q:Bool->Hp->Prop),Inv X A E H s->t E H Q->L5 (L6 X.prog X.w) X.A (isTrue e X.env B) (TP X A E Q) X.xe s
def PW.pt (h:PW X e t):PT X e t:=h _
noncomputable def PA(X:Cx)(G:P6)(t:TA):Prop:=
 ∀(B:Pos) (A:O0) (s:Shared) (E:St) (H:Hp) (Q:S6->Hp->Prop),Inv X A E H s->t E H Q->L5 (L6 X.prog X.w) X.A (spliced (L7 B (L8 G X.env))) (AP X A E Q) X.xe s
noncomputable def PS(X:Cx)(st:Stmt)(t:TS):Prop:=
 ∀(A:O0) (s:Shared) (B:St) (H:Hp) (D:bP),Inv X A B H s->t D B H->L5 (L6 X.prog X.w) X.A (exec st X.env) (SP X A D) X.xe s
noncomputable def ci(X:Cx)(st:P7)(t:TS):Prop:=
 ∀(A:O0) (s:Shared) (B:St) (H:Hp) (D:bP),Inv X A B H s->t D B H->L5 (L6 X.prog X.w) X.A (execs st X.env) (SP X A D) X.xe s
def aT (h:L5 M A t Q E s)(B:∀a s,Q a s->G a s):L5 M A t G E s:=L9 h B λ_ _ x=>x
section
variable{X:Cx}
noncomputable def jG(i:Nat):TE:=λA H Q=>∃v,A[i]?=some (some v)/\Q v H
noncomputable def tC(v:V):TE:=λ_ H Q=>Q v H
def kM (N:X.N[i]?=some x)(O:fH X.env.scope x)(G:(x==("__debug__":Str))=false:=by decide)(J:(x==("__classdict__":Str))=false:=by decide):PE X (.Name x pos) (jG i):=by
 intro E s U H Q I h;obtain⟨v,e,h⟩:=h;obtain⟨m,Y,hl⟩:=I.loc;obtain⟨u,r,l⟩:=hl i x v N e O;have B:EP X E U Q u s:=⟨v,H,I,r,h⟩;rcases l with⟨hk,j⟩|⟨hk,c,M,A⟩
 .exact wpAny_Name (Ma I.ok.kind hk Y j B) G
 .rcases hk with hk|hk
  .exact wpAny_Name (Mb I.ok.kind hk M A B) G
  .exact wpAny_Name (wpAny_loadName_free I.ok.kind hk M A B J) G
def EZ{i j pos}:PE X (.Constant (.int i) j pos) (tC (.int i)):=λ_ _ _ H _ I h=>wpAny_Constant_int ⟨.int i,H,I.tok _,⟨_,rfl⟩,h⟩
def Df{b j pos}:PE X (.Constant (.bool b) j pos) (tC (.bl b)):=λ_ _ _ H _ I h=>Constant_bool ⟨.bl b,H,I,rfl,h⟩
def EY{j pos}:PE X (.Constant .none j pos) (tC .N):=λ_ _ _ H _ I h=>Constant_none ⟨.N,H,I,rfl,h⟩
def kN{x j pos}:PE X (.Constant (.str x) j pos) (tC (.str x)):=λ_ _ _ H _ I h=>Calls.Constant_str ⟨.str x,H,I.tok _,⟨_,rfl⟩,h⟩
noncomputable def Gl(X:Cx)(x:Str):Prop:=X.env.kindOf x=some .globalImplicit
def uS (I:Inv X A σ H s)(B:Gl X x)(G:X.mg x=some u)(h:Q u s)(J:(x==("__debug__":Str))=false:=by decide):L5 (L6 X.prog X.w) X.A (eval (.Name x pos) X.env) Q E s:=
 Calls.Name_function_global I.ok.kind B (Calls.loadGlobal_global (by rw[I.ok.glob];exact I.mod.glob.keeps I.bk) G h) J
def wK (I:Inv X A σ H s)(B:Gl X x)(G:X.mg x=none)(J:L1 x=some u)(h:Q u s)(M:x ≠ "__name__":=by decide)(N:(x==("__debug__":Str))=false:=by decide):L5 (L6 X.prog X.w) X.A (eval (.Name x pos) X.env) Q E s:=by
 obtain⟨Y,O,U⟩:=I.mod.blt;exact Calls.Name_function_global I.ok.kind B (Calls.loadGlobal_builtin (by rw[I.ok.glob];exact I.mod.glob.keeps I.bk) G (by rw[I.ok.blt];exact O.keeps I.bk) ((U x M).trans J) h) N
def uR (A:Gl X x)(B:X.mg x=some u)(r:RelV v u)(E:(x==("__debug__":Str))=false:=by decide):PE X (.Name x pos) (tC v):=
 λ_ _ _ H _ I h=>uS I A B ⟨v,H,I,r,h⟩ E
def Gn (A:Gl X x)(B:X.mg x=none)(E:L1 x=some u)(r:RelV v u)(G:x ≠ "__name__":=by decide)(J:(x==("__debug__":Str))=false:=by decide):PE X (.Name x pos) (tC v):=
 λ_ _ _ H _ I h=>wK I A B E ⟨v,H,I,r,h⟩ G J
variable{a b:Expr}{ta tb:TE}{pos:Pos}
noncomputable def tB(t:TE):TT:=λA H Q=>t A H λx B=>∃c,x=.bl c/\Q c B
def EX (h:PE X e t)(E:∀A,isTrue e X.env A=(do let v <-A;standAt e.pos;holding [v] (truthy v)):=by intro _;rfl):PT X e (tB t):=by
 intro B s G H Q I J;refine isTrue_plain (aT (h B s G H _ I J) λv Y ⟨x,M,N,O,U⟩=>?_) (E _);obtain⟨d,rfl,q⟩:=U;cases O;exact Mc ⟨M,N,q⟩
variable{tA tB':TT}{rest:P6}
noncomputable def mR(t u:TT):TT:=λA H Q=>t A H λc B=>if c=true then u A B Q else Q false B
noncomputable def Jj(t u:TT):TT:=λA H Q=>t A H λc B=>if c=true then Q true B else u A B Q
noncomputable def mK(t:TT):TT:=λA H Q=>t A H λc B=>Q (! c) B
def GH(B:PT X a tA):PW X (.BoolOp .And [a] pos) tA:=by
 intro G A s E H Q I h;refine isTrue_and (aT (B A s E H Q I h) λc J e=>?_);cases c with
 |true=>exact isTrue_and_nil e
 |false=>exact e
def EW(B:PT X a tA):PW X (.BoolOp .Or [a] pos) tA:=by
 intro G A s E H Q I h;refine isTrue_or (aT (B A s E H Q I h) λc J e=>?_);cases c with
 |false=>exact isTrue_or_nil e
 |true=>exact e
def EV(M:PT X a tA)(N:PW X (.BoolOp .And (b::rest) pos) tB'):PW X (.BoolOp .And (a::b::rest) pos) (mR tA tB'):=by
 intro O A s B H Q I h;refine isTrue_and (aT (M A s B H _ I h) λc U ⟨E,G,J⟩=>?_);cases c with
 |true=>exact N O A U B E Q G J
 |false=>exact⟨E,G,J⟩
def De(M:PT X a tA)(N:PW X (.BoolOp .Or (b::rest) pos) tB'):PW X (.BoolOp .Or (a::b::rest) pos) (Jj tA tB'):=by
 intro O A s B H Q I h;refine isTrue_or (aT (M A s B H _ I h) λc U ⟨E,G,J⟩=>?_);cases c with
 |true=>exact⟨E,G,J⟩
 |false=>exact N O A U B E Q G J
def EU(B:PT X a tA):PT X (.UnaryOp .Not a pos) (mK tA):=by
 intro A s E H Q I h;exact isTrue_not (B A s E H (λc G=>Q (! c) G) I h)
noncomputable def Dd(ta tb:TE):TE:=λA H Q=>ta A H λx B=>∃c,x=.bl c/\if c=true then tb A B Q else Q (.bl false) B
noncomputable def mJ(ta tb:TE):TE:=λA H Q=>ta A H λx B=>∃c,x=.bl c/\if c=true then Q (.bl true) B else tb A B Q
noncomputable def Dc(ta:TE):TE:=λA H Q=>ta A H λx B=>∃c,x=.bl c/\Q (.bl (! c)) B
def tS {op}(h:PE X a t):PE X (.BoolOp op [a] pos) t:=λA s B H Q I E=>BoolOp_one (h A s B H Q I E)
def ET(M:PE X a ta)(N:PE X (.BoolOp .And (b::rest) pos) tb):PE X (.BoolOp .And (a::b::rest) pos) (Dd ta tb):=by
 intro A s E H Q I h;refine BoolOp_and (aT (M A s E H _ I h) λv O ⟨x,G,J,U,B⟩=>?_);obtain⟨c,rfl,B⟩:=B;cases U;refine Mc ?_;cases c with
 |true=>exact N A O E G Q J B
 |false=>exact⟨.bl false,G,J,rfl,B⟩
def Db(M:PE X a ta)(N:PE X (.BoolOp .Or (b::rest) pos) tb):PE X (.BoolOp .Or (a::b::rest) pos) (mJ ta tb):=by
 intro A s E H Q I h;refine BoolOp_or (aT (M A s E H _ I h) λv O ⟨x,G,J,U,B⟩=>?_);obtain⟨c,rfl,B⟩:=B;cases U;refine Mc ?_;cases c with
 |false=>exact N A O E G Q J B
 |true=>exact⟨.bl true,G,J,rfl,B⟩
def DL(E:PE X a ta):PE X (.UnaryOp .Not a pos) (Dc ta):=by
 intro A s G H Q I h;refine UnaryOp_ (aT (E A s G H _ I h) λv O ⟨x,J,M,N,B⟩=>?_);obtain⟨c,rfl,B⟩:=B;cases N;exact not_of (Mc ⟨.bl (! c),J,M,rfl,B⟩)
noncomputable def AU(t:TT)(ta tb:TE):TE:=λA H Q=>t A H λc B=>if c=true then ta A B Q else tb A B Q
def HW (N:PT X c tA)(O:PE X a ta)(U:PE X b tb):PE X (.IfExp c a b pos) (AU tA ta tb):=by
 intro A s B H Q I h;refine wpAny_IfExp (aT (N A s B H _ I h) λd E ⟨G,J,M⟩=>?_);cases d with
 |true=>exact O A E B G Q J M
 |false=>exact U A E B G Q J M
end
noncomputable def bb(K:Qb)(H:Hp)(a:Addr)(xs:S6):Prop:=
 Rd H a (.L xs) \/
  ∃(o:Obj) (A:O4) (n:Nat),K.lookup a=some o/\o.cls=.type "list" /\ o.dict=none/\o.data=.seq A n/\A.size<=sizeLine/\az xs A.toList
noncomputable def bC(K:Qb)(H:Hp)(a:Addr)(xs:S6):Prop:=
 Rd H a (.T xs) \/
  ∃(o:Obj) (A:O4) (n:Nat),K.lookup a=some o/\o.cls=.type "tuple" /\ o.data=.seq A n/\A.size<=sizeLine/\az xs A.toList
noncomputable def pS:Value->Option V
 |.none=>some .N
 |.bool b=>some (.bl b)
 |.int i _=>some (.int i)
 |.str x _=>some (.str x)
 |.bytes b _=>some (.byt b)
 |.float b _=>some (.flt b)
 |.ref a=>some (.ref a)
 |.type n=>some (.ty n)
 |_=>none
def RelV.abs (r:RelV x u):pS u=some x:=by
 cases x with
 |N=>cases r;rfl
 |bl _=>cases r;rfl
 |int _=>obtain⟨t,rfl⟩:=r;rfl
 |str _=>obtain⟨t,rfl⟩:=r;rfl
 |byt _=>obtain⟨t,rfl⟩:=r;rfl
 |flt _=>obtain⟨t,rfl⟩:=r;rfl
 |ref _=>cases r;rfl
 |ty _=>cases r;rfl
theorem RelV.inj (r:RelV x u)(q:RelV y u):x=y:=Option.some.inj (r.abs.symm.trans q.abs)
theorem az.inj:∀{xs ys:S6}{A:O7},az xs A->az ys A->xs=ys
 |_,_,_,.nil,.nil=>rfl
 |_,_,_,.cons r t,.cons B E=>by rw[r.inj B,az.inj t E]
section
variable{X:Cx}{pins:O0}{σ:St}{H:Hp}{s:Shared}{a:Addr}{xs ys:S6}
def bb.of{K:Qb}(h:H a=some (.L xs)):bb K H a xs:=.inl (.inl h)
def bC.of{K:Qb}(h:H a=some (.T xs)):bC K H a xs:=.inl (.inl h)
def Inv.list(I:Inv X pins σ H s)(h:bb X.K H a xs):∃its:O7,az xs its/\PlainL s.heap a its.toArray/\xs.length<=sizeLine:=by
 rcases h with h|⟨o,its,n,A,B,E,G,J,r⟩
 .obtain ⟨z,its,n,r,e⟩:=h.ok I.hok;exact⟨its,r,⟨_,n,e,rfl,rfl,rfl⟩,z⟩
 .refine ⟨its.toList,r,⟨o,n,I.kIn a o A,B,E,by simpa using G⟩,?_⟩;have e:=r.length;simp only[Wl]at e;lia
def Inv.tuple(I:Inv X pins σ H s)(h:bC X.K H a xs):∃its:O7,az xs its/\IsTup s.heap a its.toArray/\xs.length<=sizeLine:=by
 rcases h with h|⟨o,its,n,A,B,E,G,r⟩
 .obtain ⟨z,its,r,p⟩:=h.ok I.hok;exact⟨its,r,p,z⟩
 .refine ⟨its.toList,r,⟨o,I.kIn a o A,B,n,by simpa using E⟩,?_⟩;have e:=r.length;simp only[Wl]at e;lia
def Inv.list_inj(I:Inv X pins σ H s)(h:bb X.K H a xs)(h':bb X.K H a ys):xs=ys:=by
 obtain⟨B,r,⟨o,n,e,_,_,d⟩,_⟩:=I.list h;obtain⟨A,J,⟨M,N,E,_,_,G⟩,_⟩:=I.list h';rw[e]at E;cases E;rw[d]at G;injection G with d1 _
 have:B=A:=by simpa using NY WM d1
 subst this;exact r.inj J
def Inv.tuple_inj(I:Inv X pins σ H s)(h:bC X.K H a xs)(h':bC X.K H a ys):xs=ys:=by
 obtain⟨B,r,⟨o,e,_,n,d⟩,_⟩:=I.tuple h;obtain⟨A,J,⟨M,E,_,N,G⟩,_⟩:=I.tuple h';rw[e]at E;cases E;rw[d]at G;injection G with d1 _
 have:B=A:=by simpa using NY WM d1
 subst this;exact r.inj J
end
abbrev Cx.wish(X:Cx)(E:N7):Cx:={X with xe:=E}
abbrev Cx.nox(X:Cx):Cx:=X.wish λ_ _=>False
theorem Cx.Ok.wish{X:Cx}(ok:X.Ok)(E:N7):(X.wish E).Ok:=
 ⟨ok.mod,ok.kind,ok.glob,ok.blt,ok.above,ok.inj,ok.has,ok.cab,ok.hd,ok.frames,ok.stk,ok.exf,ok.bs,ok.bsz,ok.noex,ok.exfs,ok.funs,ok.frf⟩
def Cx.Ok.unwish {X:Cx}(ok:(X.wish E).Ok):X.Ok:=
 ⟨ok.mod,ok.kind,ok.glob,ok.blt,ok.above,ok.inj,ok.has,ok.cab,ok.hd,ok.frames,ok.stk,ok.exf,ok.bs,ok.bsz,ok.noex,ok.exfs,ok.funs,ok.frf⟩
section
variable{X:Cx}{pins:O0}{σ:St}{H:Hp}{s:Shared}{E:N7}
theorem Inv.wish(I:Inv X pins σ H s)(E:N7):Inv (X.wish E) pins σ H s:=⟨I.ok.wish E,I.os,I.bare,I.base,I.loc,I.cell,I.free,I.freeC,I.pin,I.hok,I.len⟩
theorem Inv.unwish(I:Inv (X.wish E) pins σ H s):Inv X pins σ H s:=⟨I.ok.unwish,I.os,I.bare,I.base,I.loc,I.cell,I.free,I.freeC,I.pin,I.hok,I.len⟩
theorem SP.unwish{D:bP}{f:Flow}{s':Shared}(h:SP (X.wish E) pins D f s'):SP X pins D f s':=by
 cases f with
 |next=>obtain⟨A,B,I,q⟩:=h;exact⟨A,B,I.unwish,q⟩
 |brk=>obtain⟨A,B,I,q⟩:=h;exact⟨A,B,I.unwish,q⟩
 |cont=>obtain⟨A,B,I,q⟩:=h;exact⟨A,B,I.unwish,q⟩
 |ret u=>obtain⟨v,A,B,I,r,q⟩:=h;exact⟨v,A,B,I.unwish,r,q⟩
theorem ci.nox{st:P7}{t:TS}(h:ci X.nox st t):ci X st t:=λpins s σ H D I A=>
 L9 (h pins s σ H D (I.wish _) A) (λ_ _ q=>q.unwish) λ_ _ z=>False.elim z
end
section
variable{X:Cx}{st:Stmt}{rest:P7}{t u:TS}{e:Expr}{te:TE}{pos:Pos}
noncomputable def Da:TS:=λD A H=>D.nx A H
noncomputable def mH(t u:TS):TS:=λD A H=>t {D with nx:=u D} A H
def GG:ci X [] Da:=λ_ _ A H _ I h=>Md ⟨A,H,I,h⟩
set_option tactic.hygienic true in
def qy(E:PS X st t)(G:ci X rest u):ci X (st::rest) (mH t u):=by
 intro A s J H D I h;refine wpAny_execs_cons (aT (E A s J H {D with nx:=u D} I h) λf M q=>?_);cases f with
 |next=>
  obtain⟨B,N,O,q⟩:=q;exact G A M B N D O q
 |ret v=>exact q
 |brk=>exact q
 |cont=>exact q
def uQ(B:PS X st t):ci X [st] t:=by
 intro A s E H D I h;refine wpAny_execs_cons (aT (B A s E H D I h) λf G q=>?_);cases f with
 |next=>exact Md q
 |ret v=>exact q
 |brk=>exact q
 |cont=>exact q
def Inv.quiet (I:Inv X A σ H s):interactive X.env=false:=by simp[interactive,I.ok.kind]
noncomputable def C9(te:TE):TS:=λD A H=>te A H λ_ B=>D.nx A B
def GF(E:PE X e te)(G:Mf e none pos.line X.env=pure false:=by rfl):PS X (.Expr e pos) (C9 te):=by
 intro A s B H D I h;exact wpAny_Expr_any (aT (E A s B H _ I h) λv O ⟨x,J,M,Q,N⟩=>⟨B,J,M,N⟩) I.quiet G
noncomputable def mI(te:TE):TS:=λD A H=>te A H D.rt
def t5(E:PE X e te):PS X (.Return (some e) pos) (mI te):=by
 intro A s B H D I h;exact wpAny_Return_some (aT (E A s B H _ I h) λv O ⟨x,G,J,M,N⟩=>⟨x,B,G,J,M,N⟩)
noncomputable def mM(c:TT)(t u:TS):TS:=λD A H=>c A H λb B=>if b=true then t D A B else u D A B
def C8 (N:PT X c tc)(O:ci X a t)(Q:ci X b u):PS X (.If c a b pos) (mM tc t u):=by
 intro A s B H D I h;refine wpAny_If (aT (N A s B H _ I h) λd E ⟨G,J,M⟩=>?_);cases d with
 |true=>exact O A E B G D J M
 |false=>exact Q A E B G D J M
noncomputable def DK:TS:=λ_ _ _=>False
def HV:PS X st DK:=λ_ _ _ _ _ _ h=>h.elim
end
abbrev TG:=V->St->Hp->(St->Hp->Prop)->Prop
abbrev fe:=S6->St->Hp->(St->Hp->Prop)->Prop
noncomputable def PG(X:Cx)(A:Expr)(t:TG):Prop:=
 ∀(B:O0) (s:Shared) (G:St) (H:Hp) (v:V) (u:Value) (Q:St->Hp->Prop),Inv X B G H s->RelV v u->t v G H Q ->
  L5 (L6 X.prog X.w) X.A (assign A X.env u) (λ_ J=>∃E I,Inv X B E I J/\Q E I) X.xe s
noncomputable def lF(X:Cx)(M:P6)(t:fe):Prop:=
 ∀(A:O0) (s:Shared) (E:St) (H:Hp) (G:S6) (I:O7) (Q:St->Hp->Prop),Inv X A E H s->az G I->t G E H Q ->
  L5 (L6 X.prog X.w) X.A (assignInOrder ((Mg M X.env).map (·.2)) I) (λ_ N=>∃B J,Inv X A B J N/\Q B J) X.xe s
abbrev lL:=V->V->V->Hp->(Hp->Prop)->Prop
noncomputable def lK(X:Cx)(t:lL):Prop:=
 ∀(A:O0) (s:Shared) (B:St) (H:Hp) (o i v:V) (E G u:Value) (Q:Hp->Prop),Inv X A B H s->RelV o E->RelV i G->RelV v u->t o i v H Q ->
  L5 (L6 X.prog X.w) X.A (Mh E G u) (λ_ J=>∃I,Inv X A B I J/\Q I) X.xe s
abbrev iC:=V->V->Hp->VK->Prop
noncomputable def lE(X:Cx)(op:Mi)(t:iC):Prop:=
 ∀(A:O0) (s:Shared) (B:St) (H:Hp) (x y:V) (v u:Value) (Q:VK),Inv X A B H s->RelV x v->RelV y u->t x y H Q ->
  L5 (L6 X.prog X.w) X.A (inplaceOp op v u) (EP X A B Q) X.xe s
section
variable{X:Cx}{pos:Pos}
noncomputable def xh(i:Nat):TG:=λv A H Q=>Q (A.set i (some v)) H
def yI (B:X.N.Nodup)(E:X.N[i]?=some x)(G:Loc X.env.scope x)(J:X.fn x=true\/X.env.scope.names.lookup x=some .local:=by first|exact .inl rfl|exact .inr rfl|assumption):PG X (.Name x pos) (xh i):=by
 intro A s N H v u Q I r h;exact wpAny_assign_Name (kL I B E G r (λO M=>⟨_,H,M,h⟩) J)
noncomputable def fV:fe:=λA B H Q=>A=[]/\Q B H
noncomputable def w5(t:TG)(u:fe):fe:=λB E H Q=>∃v r,B=v::r/\t v E H λA G=>u r A G Q
def kz:lF X [] fV:=by
 intro A s B H E G Q I r h;obtain⟨e,h⟩:=h;subst e;cases r;exact assignInOrder_nil ⟨B,H,I,h⟩
def yU (G:PG X e t)(J:lF X B u)(M:(Mg (e::B) X.env).map (·.2)=assign e X.env::(Mg B X.env).map (·.2):=by rfl):lF X (e::B) (w5 t u):=by
 intro A s N H d l Q I r h;obtain⟨v,g,O,h⟩:=h;subst O;cases r with
 |cons r U=>
  rw[M];refine assignInOrder_cons (aT (G A s N H _ _ _ I r h) λ_ Y ⟨E,j,z,o⟩=>?_);exact J A Y E j _ _ Q z U o
noncomputable def fU(K:Qb)(n:Nat)(t:fe):TG:=λv B H Q=>∃a A,v=.ref a/\bC K H a A/\A.length=n/\t A B H Q
def gr (N:X.calm=true)(h:lF X B t)(O:(Mg B X.env).length=n:=by rfl)(E:(Mg B X.env).findIdx? (·.1)=none:=by rfl):PG X (.Tuple B k pos) (fU X.K n t):=by
 intro A s J H v u Q I r G;obtain⟨a,U,Y,j,hl,G⟩:=G;subst Y;cases r;obtain⟨z,M,d,m⟩:=I.tuple j;refine assign_Tuple_tuple (I.ok.hd N) d (by simp[O,<-hl,M.length]) E λl g=>?_;have f:Inv X A J H {s with heap:=l }:=I.kept (t':=s.toks) λb o e=>g b o (Qu (Qe e)) e;exact h A _ J H U _ Q f (by simpa using M) G
noncomputable def oH(B E:TE)(t:lL):TG:=λv A H Q=>B A H λo G=>E A G λi I=>t o i v I λJ=>Q A J
def tZ (J:PE X o M)(N:PE X i O)(U:lK X t)(Y:∀v,assign (.Subscript o i pos) X.env v=(do
   let B <-holding [v] (eval o X.env)
   let E <-holding [v,B] (eval i X.env)
   standAt pos
   holding [v,B,E] (Mh B E v)
   release [v,B,E] []):=by intro _;rfl):PG X (.Subscript o i pos) (oH M O t):=by
 intro A s G H v u Q I r h;rw[Y];refine Mj (Mk (aT (J A s G H _ I h) λB j ⟨x,z,d,l,g⟩=>?_));refine Mj (Mk (aT (N A j G z _ d g) λE f ⟨y,e,m,b,n⟩=>?_));refine Mj (Ml (Mj (Mk (aT (U A f G e x y v B E u _ m l b r n) λ_ s3 ⟨a,w,q3⟩=>?_))));exact wpAny_release ⟨G,a,w,q3⟩
noncomputable def fT(te:TE)(g:TG):TS:=λD A H=>te A H λx B=>g x A B D.nx
def mA (G:PE X e te)(J:PG X B g)(M:swapsWithSole [B] e pos.line X.env=pure false:=by rfl)(N:swappedStores [B] e X.env=pure none:=by rfl)(O:(Mg [B] X.env).map (·.2)=[assign B X.env]:=by rfl):PS X (.Assign [B] e pos) (fT te g):=by
 intro A s E H D I h;refine wpAny_Assign_stores (aT (G A s E H _ I h) λv Q ⟨x,U,Y,j,u⟩=>?_) M N;rw[O];exact aT (J A Q E U x v _ Y j u) λ_ z q=>q
def mw (E:X.N.Nodup)(G:X.N[i]?=some x)(J:Loc X.env.scope x)(M:PE X e te)(N:Mf e (some (.Name x A)) pos.line X.env=pure false:=by rfl)(O:X.fn x=true\/X.env.scope.names.lookup x=some .local:=by first|exact .inl rfl|exact .inr rfl|assumption):
  PS X (.Assign [.Name x A] e pos) (fT te (xh i)):=by
 intro B s Q H D I h;refine wpAny_Assign_Name (aT (M B s Q H _ I h) λv o ⟨y,U,Y,j,u⟩=>?_) N;exact kL Y E G J j (λd z=>⟨_,U,z,u⟩) O
noncomputable def mQ(i:Nat)(te:TE)(B:iC):TS:=λD A H=>∃x,A[i]?=some (some x)/\te A H λy E=>B x y E λz G=>D.nx (A.set i (some z)) G
def DJ (U:X.N.Nodup)(N:X.N[i]?=some x)(J:Loc X.env.scope x)(Y:PE X e te)(j:lE X op o)(d:X.fn x=true\/X.env.scope.names.lookup x=some .local:=by first|exact .inl rfl|exact .inr rfl|assumption):
  PS X (.AugAssign (.Name x O) op e pos) (mQ i te o):=by
 intro A s Q H D I h;obtain⟨v,g,h⟩:=h;obtain⟨m,f,hl⟩:=I.loc;have M:fH X.env.scope x:=by rcases J with k|k;exact .inl k;exact .inr (.inl k)
 obtain⟨u,r,l⟩:=hl i x v N g M;refine wpAny_AugAssign_Name ?_;have go:L5 (L6 X.prog X.w) X.A (eval e X.env) (λw E=>L5 (L6 X.prog X.w) X.A (inplaceOp op u w) (λr G=>L5 (L6 X.prog X.w) X.A (storeName X.env x r) (λ_=>SP X A D .next) X.xe G) X.xe E) X.xe s:=by
  refine aT (Y A s Q H _ I h) λw t ⟨y,b,n,a,q1⟩=>?_;refine aT (j A t Q b v y u w _ n r a q1) λz s2 ⟨zv,H2,I2,r2,q2⟩=>?_;exact kL I2 U N J r2 (λs3 I3=>⟨_,H2,I3,q2⟩) d
 rcases l with⟨hk,hm⟩|⟨hk,c,hc,B⟩
 .exact Ma I.ok.kind hk f hm go
 .rcases hk with hk|hk
  .exact Mb I.ok.kind hk hc B go
  .rcases J with k|k
   .have:X.env.scope.names.lookup x=some .free:=hk;rw[k]at this;cases this
   .have:X.env.scope.names.lookup x=some .free:=hk;rw[k]at this;cases this
noncomputable def A9(f:Int->Int->Int):iC:=λx y H Q=>∃i j,x=.int i/\y=.int j/\Q (.int (f i j)) H
def DI:lE X .Add (A9 λi j=>i+j):=by
 intro A s M H x y v u Q I B E h;obtain⟨i,j,G,J,q⟩:=h;subst G;subst J;obtain⟨t,rfl⟩:=B;obtain⟨N,rfl⟩:=E;exact iadd_int ⟨.int _,H,I.tok _,⟨_,rfl⟩,q⟩
def DH:lE X .Sub (A9 λi j=>i-j):=by
 intro A s M H x y v u Q I B E h;obtain⟨i,j,G,J,q⟩:=h;subst G;subst J;obtain⟨t,rfl⟩:=B;obtain⟨N,rfl⟩:=E;exact isub_int ⟨.int _,H,I.tok _,⟨_,rfl⟩,q⟩
end
section
variable{X:Cx}{pos:Pos}
noncomputable def tY(c:TT)(J:TS):TS:=λD A H=>∃W:Nat->St->Hp->Prop,(∃m,W m A H)/\∀m A H,W m A H ->
 c A H λb E=>if b=true then ∃N:St->Hp->Prop,(∀B G,N B G->∃I,I<m/\W I B G)/\J {D with nx:=N,ct:=N,bk:=D.nx} A E else D.nx A E
set_option tactic.hygienic true in
def HU (o:PassesOwn (L6 X.prog X.w) X.A X.env X.xe)(m:PT X c tc)(i:ci X body a):PS X (.While c body [] pos) (tY tc a):=by
 intro A s w H D I h;obtain⟨W,⟨m0,y⟩,G⟩:=h;refine wpAny_While (codeAny_whileLoop (λn s'=>∃J d,Inv X A J d s'/\W n J d) ?_ m0 ⟨w,H,I,y⟩);rintro n s1 ⟨E,l,I1,w1⟩;refine Mm o (aT (m A s1 E l _ I1 (G n E l w1)) λb s2 ⟨g,e,O⟩=>?_);cases b with
 |true=>
  obtain⟨N,t,O⟩:=O;rw[N0 rfl];refine Mm o (aT (i A s2 E g _ e O) λf s3 Q=>?_);cases f with
  |next=>
   obtain⟨B,M,U,Y⟩:=Q;obtain⟨j,u,z⟩:=t B M Y;exact⟨j,u,B,M,U,z⟩
  |cont=>
   obtain⟨B,M,U,Y⟩:=Q;obtain⟨j,u,z⟩:=t B M Y;exact⟨j,u,B,M,U,z⟩
  |brk=>exact Q
  |ret v=>exact Q
 |false=>
  rw[N1 QQ];exact Md ⟨E,g,e,O⟩
end
set_option genInjectivity false in
structure It where
 go:Nat->Hp->Prop
 yld:Nat->Hp->V->Hp->Prop
 stop:Nat->Hp->Prop
noncomputable def kn(X:Cx)(A:O0)(H:Hp)(b:Addr):Prop:=
 H b=none/\b≠X.env.locals/\b∉X.fs/\(b∈X.ex\/X.s₀.heap.objs.size<=b)/\(∀x c,X.env.cells.lookup x=some c->c≠b)/\∀p∈X.pn++A,p.1≠b
def Inv.fpOk (I:Inv X A σ H s)(B:s.heap.objs.size<=b)(E:G b=none):kn X A G b:=by
 refine⟨E,WD (Qj I.lt B),I.nofs B,.inr (Qp I.sz B),λx c e z=>?_,λp J z=>?_⟩
 .obtain ⟨v,q⟩:=I.cell x c e;exact N2 (Qj q.lt (by rw[z];exact B)) (Q3 _)
 .exact N2 (Qj (Qe (I.pin p J).1) (by rw[z];exact B)) (Q3 _)
structure cN(P:LU)(w:LV)(K:Qb)(tg:Expr)(J:It)(fp:O9)(it:Addr)(tn:Nat->LY->Prop):Prop where
 mem:it∈fp
 obj:∀i h,tn i h->∀b∈fp,∃o,h.get? b=some o/\∀v,o.data≠.cell v
 keep:∀i h h',tn i h->(∀b∈fp,∀o,h.get? b=some o->h'.get? b=some o)->tn i h'
 item:∀(X:Cx),X.prog=P->X.w=w->X.K=K->X.calm=true->∀(i:Nat) (pins:O0) (s:Shared) (σ:St) (H:Hp) (E:N7),Inv X pins σ H s->(∀b∈fp,kn X pins H b)->tn i s.heap->J.go i H ->
  L5 (L6 P w) X.A (Mn (.ref it)) (λr s1=>∃u,r=some u /\
   L5 (L6 P w) X.A (Mo tg (.ref it) u) (λ_ s2=>∃x H',Inv X pins σ H' s2/\RelV x u/\J.yld i H x H'/\tn (i+1) s2.heap/\∀b∈fp,H' b=none) E s1) E s
 done:∀(X:Cx),X.prog=P->X.w=w->X.K=K->X.calm=true->∀(i:Nat) (pins:O0) (s:Shared) (σ:St) (H:Hp) (E:N7),Inv X pins σ H s->(∀b∈fp,kn X pins H b)->tn i s.heap->J.stop i H ->
  L5 (L6 P w) X.A (Mn (.ref it)) (λr s1=>r=none/\Inv X pins σ H s1) E s
 self:∀(A:L3) (i:Nat) (s:Shared) (Q:N7) (E:N7),tn i s.heap->Q (.ref it) s->L5 (L6 P w) A (pyIter (.ref it)) Q E s
abbrev TI:=St->Hp->(It->Hp->Prop)->Prop
noncomputable def BR(X:Cx)(A:O0)(σ:St)(N:Expr)(R:It->Hp->Prop)(B:Value)(G:Shared):Prop:=
 ∃(H:Addr) (I:O9) (M:Nat->LY->Prop) (J:It) (E:Hp),B=.ref H/\Inv X A σ E G/\cN X.prog X.w X.K N J I H M/\M 0 G.heap/\(∀b∈I,kn X A E b)/\R J E
noncomputable def PI(X:Cx)(E iter:Expr)(G:TI):Prop:=
 ∀(A:O0) (s:Shared) (B:St) (H:Hp) (R:It->Hp->Prop),Inv X A B H s->G B H R ->
  L5 (L6 X.prog X.w) X.A (eval iter X.env) (λv I=>L5 (L6 X.prog X.w) X.A (pyIter v) (BR X A B E R) X.xe I) X.xe s
def qz (G:s.heap.get? it=some o)(H:o.cls=.type n)(I:o.data=.fields vs)(J:["enumerate","zip","dict_itemiterator","dict_reverseitemiterator","odict_iterator","itertools.zip_longest","itertools.pairwise"].contains n=false)(B:Q () s):L5 M A (Mo N (.ref it) u) Q E s:=by
 unfold Mo;cases N<;>first
  |exact Mp B
  | (cases u <;> first
    |exact Mp B
    | (refine Mj (wpAny_load G ?_)
       rw[H,I];show L5 M A (if(["enumerate","zip","dict_itemiterator","dict_reverseitemiterator","odict_iterator","itertools.zip_longest","itertools.pairwise"].contains n&&vs[0]?==some (Mq _))=true then _ else _) Q E s;rw[N1 (by intro h;rw[J,Bool.false_and]at h;cases h)];exact Mp B))
noncomputable def pW(K:Qb)(a:Addr):It:=
 ⟨λi H=>∃A x,bb K H a A/\A[i]?=some x,λi H x B=>B=H/\∀A,bb K H a A->A[i]?=some x,λi H=>∃A,bb K H a A/\A.length<=i⟩
noncomputable def BS(K:Qb)(a:Addr):It:=
 ⟨λi H=>∃A x,bC K H a A/\A[i]?=some x,λi H x B=>B=H/\∀A,bC K H a A->A[i]?=some x,λi H=>∃A,bC K H a A/\A.length<=i⟩
noncomputable def fI(lo:Int)(n:Nat):It:=⟨λi _=>i<n,λi H x A=>A=H/\x=.int (lo+i),λi _=>n<=i⟩
def Ir {K:Qb}(a it:Addr):cN P w K tg (pW K a) [it] it (λi h=>h.IsListIter it a i) where
 mem:=by simp
 obj:=λi h st b B=>by
  have e:b=it:=by simpa using B
  subst e;obtain⟨o,e,c,d⟩:=st;exact⟨o,e,λv z=>by rw[d]at z;cases z⟩
 keep:=λi h J st k=>st.at λo e=>k it (by simp) o e
 item:=by
  intro X O Q U f i A s t H E I M st Y;subst O Q U;obtain⟨m,x,N,j⟩:=Y;obtain⟨l,g,p,n⟩:=I.list N;obtain⟨u,y,ru⟩:=g.get j;obtain⟨f0,f1,f2,f3,f4,f5⟩:=M it (by simp);refine wpAny_pyNext_list_item st p.isList (x:=u) (by simpa using y) λJ G sb=>?_;have I1:Inv X A t H {s with heap:=J }:=I.turned (t':=s.toks) (λb o B e=>(sb.2 b B).trans e) f0 f1 f3 f4 f5;obtain⟨o,e,c,d⟩:=id G;exact⟨u,rfl,qz (s:={s with heap:=J }) e c d (by decide) ⟨x,H,I1,ru,⟨rfl,λys hy=>by rw[I.list_inj hy N];exact j⟩,G,λb B=>(M b B).1⟩⟩
 done:=by
  intro X O Q U f i A s t H E I M st Y;subst O Q U;obtain⟨m,N,j⟩:=Y;obtain⟨l,g,p,n⟩:=I.list N;obtain⟨f0,f1,f2,f3,f4,f5⟩:=M it (by simp);have hl:=g.length;exact wpAny_pyNext_list_end (I.ok.hd f) st p.isList (by simp;lia) λJ eb=>⟨rfl,I.turned (t':=s.toks) (λb o B e=>eb b o B e) f0 f1 f3 f4 f5⟩
 self:=λ_ _ _ _ _ st h=>wpAny_pyIter_listiter st h
def Je {K:Qb}(a it:Addr):cN P w K tg (BS K a) [it] it (λi h=>h.IsTupleIter it a i) where
 mem:=by simp
 obj:=λi h st b B=>by
  have e:b=it:=by simpa using B
  subst e;obtain⟨o,e,c,d⟩:=st;exact⟨o,e,λv z=>by rw[d]at z;cases z⟩
 keep:=λi h M st k=>st.at λo e=>k it (by simp) o e
 item:=by
  intro X Q U Y f i A s t H E I N st j;subst Q U Y;obtain⟨m,x,O,l⟩:=j;obtain⟨G,g,p,n⟩:=I.tuple O;obtain⟨u,y,ru⟩:=g.get l;obtain⟨f0,f1,f2,f3,f4,f5⟩:=N it (by simp);refine wpAny_pyNext_tuple_item st (show s.heap.IsTuple a G.toArray from p) (x:=u) (by simpa using y) λM J sb=>?_;have I1:Inv X A t H {s with heap:=M }:=I.turned (t':=s.toks) (λb o B e=>(sb.2 b B).trans e) f0 f1 f3 f4 f5;obtain⟨o,e,c,d⟩:=id J;exact⟨u,rfl,qz (s:={s with heap:=M }) e c d (by decide) ⟨x,H,I1,ru,⟨rfl,λys hy=>by rw[I.tuple_inj hy O];exact l⟩,J,λb B=>(N b B).1⟩⟩
 done:=by
  intro X Q U Y f i A s t H E I N st j;subst Q U Y;obtain⟨m,O,l⟩:=j;obtain⟨G,g,p,n⟩:=I.tuple O;obtain⟨f0,f1,f2,f3,f4,f5⟩:=N it (by simp);have hl:=g.length;exact wpAny_pyNext_tuple_end (I.ok.hd f) st (show s.heap.IsTuple a G.toArray from p) (by simp;lia) λM eb=>⟨rfl,I.turned (t':=s.toks) (λb o B e=>eb b o B e) f0 f1 f3 f4 f5⟩
 self:=λ_ _ _ _ _ st h=>wpAny_pyIter_tupleiter st h
def Jd {K:Qb}(it:Addr)(lo:Int)(n:Nat):cN P w K a (fI lo n) [it] it (λi h=>IsRangeIter h it (lo+(i:Nat)*1) ((n:Int)-(i:Nat)) 1) where
 mem:=by simp
 obj:=λi h st b B=>by
  have e:b=it:=by simpa using B
  subst e;exact⟨_,st,λv z=>by
   have d:Data.fields _=Data.cell v:=z;cases d⟩
 keep:=λi h J st k=>k it (by simp) _ st
 item:=by
  intro X N O Q U i A s j H E I M st Y;subst N O Q;obtain⟨f0,f1,f2,f3,f4,f5⟩:=M it (by simp);have W:=Walks.range (prog:=X.prog) (w:=X.w) (I.ok.hd U) it lo 1 n;refine W.item i s _ _ Y st λv J u l G g=>?_;obtain⟨t,rfl⟩:=l;have f:Inv X A j H {s with heap:=J,toks:=u}:=I.turned (λb o B e=>g b o (by simpa using B) e) f0 f1 f3 f4 f5;refine⟨_,rfl,qz (s:={s with heap:=J,toks:=u}) (n:="range_iterator") G rfl rfl (by decide) ⟨.int (lo+i),H,f,⟨t,?_⟩,⟨rfl,rfl⟩,G,λb B=>(M b B).1⟩⟩;rw[Int.mul_one]
 done:=by
  intro X N O Q U i A s j H E I M st Y;subst N O Q;obtain⟨f0,f1,f2,f3,f4,f5⟩:=M it (by simp);exact wpAny_pyNext_range_end (I.ok.hd U) st (by have:n<=i:=Y;lia) λJ m=>⟨rfl,I.turned (t':=s.toks) (λb o B e=>m b o B e) f0 f1 f3 f4 f5⟩
 self:=λ_ _ _ _ _ st h=>wpAny_pyIter_rangeiter st h
section
variable{X:Cx}{tg:Expr}
noncomputable def C7(K:Qb)(B:TE):TI:=λE H R=>B E H λx A=>∃a,x=.ref a/\(∃G,bb K A a G)/\R (pW K a) A
noncomputable def oF(K:Qb)(B:TE):TI:=λE H R=>B E H λx A=>∃a,x=.ref a/\(∃G,bC K A a G)/\R (BS K a) A
def GE (hl:PE X l G):PI X tg l (C7 X.K G):=by
 intro A s J H R I h;refine aT (hl A s J H _ I h) λv B ⟨x,M,E,N,O⟩=>?_;obtain⟨a,e,⟨j,Q⟩,q⟩:=O;subst e;cases N;obtain⟨U,u,p,z⟩:=E.list Q;refine Mr p.isList ?_;refine⟨B.heap.objs.size,[B.heap.objs.size],_,_,M,rfl,E.kept (t':=B.toks) λb o e=>Qc _ e,Ir a _,⟨_,Qh _ rfl,rfl,rfl⟩,λb Y=>?_,q⟩;have e:b=B.heap.objs.size:=by simpa using Y
 subst e;exact E.fpOk (Qk _) (E.hok.fresh (Qk _))
def DG (hl:PE X l J):PI X tg l (oF X.K J):=by
 intro A s M H R I h;refine aT (hl A s M H _ I h) λv B ⟨x,N,E,O,Q⟩=>?_;obtain⟨a,e,⟨j,U⟩,q⟩:=Q;subst e;cases O;obtain⟨G,u,p,z⟩:=E.tuple U;refine Ms (show B.heap.IsTuple a G.toArray from p) ?_;refine⟨B.heap.objs.size,[B.heap.objs.size],_,_,N,rfl,E.kept (t':=B.toks) λb o e=>Qc _ e,Je a _,⟨_,Qh _ rfl,rfl,rfl⟩,λb Y=>?_,q⟩;have e:b=B.heap.objs.size:=by simpa using Y
 subst e;exact E.fpOk (Qk _) (E.hok.fresh (Qk _))
def qA {lo:Int}(I:Inv X B σ H s)(M:-(2^62)<=lo)(N:lo<2^62)(O:-(2^62)<=A)(Q:A<2^62)(q:R (fI lo (A-lo).toNat) H):L5 (L6 X.prog X.w) X.A (pyIter (.ref s.heap.objs.size)) (BR X B σ tg R) E {s with heap:=s.heap.push {cls:=.type "range",data:=.fields #[.int lo t,.int A u,.int 1 v]},toks:=J}:=by
 refine wpAny_pyIter_range (IsRange.new ..) (small_one M N O Q) ?_;have G:Inv X B σ H {s with heap:=s.heap.push {cls:=.type "range",data:=.fields #[.int lo t,.int A u,.int 1 v]},toks:=J}:=I.kept λb o e=>Qc _ e;refine⟨(s.heap.push {cls:=.type "range",data:=.fields #[.int lo t,.int A u,.int 1 v]}).objs.size,[(s.heap.push {cls:=.type "range",data:=.fields #[.int lo t,.int A u,.int 1 v]}).objs.size],_,_,H,rfl,
  G.kept (t':=J) λb o e=>Qc _ e,Jd _ lo (A-lo).toNat,?_,λb U=>?_,q⟩
 .have Y:lo+((0:Nat):Int)*1=lo:=by simp
  have j:(((A-lo).toNat:Nat):Int)-((0:Nat):Int)=Builtin.Range.rangeSize lo A 1:=by rw[rangeSize_one];split<;>lia
  show IsRangeIter _ _ (lo+((0:Nat):Int)*1) ((((A-lo).toNat:Nat):Int)-((0:Nat):Int)) 1;rw[Y,j];exact Qh _ rfl
 .have e:b=(s.heap.push {cls:=.type "range",data:=.fields #[.int lo t,.int A u,.int 1 v]}).objs.size:=by simpa using U
  subst e;exact G.fpOk (Qk _) (G.hok.fresh (Qk _))
noncomputable def C6(A:TA):TI:=λB H R=>A B H λE G=>∃j:Int,E=[.int j]/\-(2^62)<=j/\j<2^62/\R (fI 0 j.toNat) G
noncomputable def C5(A:TA):TI:=λB H R=>A B H λE G=>∃i j:Int,E=[.int i,.int j]/\(-(2^62)<=i/\i<2^62/\-(2^62)<=j/\j<2^62)/\R (fI i (j-i).toNat) G
def Iq (E:Gl X "range")(G:X.mg "range"=none)(J:PA X [a] M)(N:L8 [a] X.env=[(false,eval a X.env)]:=by rfl):PI X tg (.Call (.Name "range" p) [a] [] pos) (C6 M):=by
 intro A s O H R I h;refine Call_ (wK I E G boot_range (PyProof.Rows.callWith_type1 (aT (J pos A s O H _ I h) λz o ⟨d,l,Q,U,B⟩=>?_) N rfl));obtain⟨j,e,B,Y,q⟩:=B;subst e;cases U with
 |cons r u=>
  cases u;obtain⟨t,rfl⟩:=r;exact call_range_1 (qA Q (by lia) (by lia) B Y (by simpa using q))
def Ip (J:Gl X "range")(M:X.mg "range"=none)(N:PA X [a,b] O)(Q:L8 [a,b] X.env=[(false,eval a X.env),(false,eval b X.env)]:=by rfl)(A:L8 [b] X.env=[(false,eval b X.env)]:=by rfl):
  PI X tg (.Call (.Name "range" p) [a,b] [] pos) (C5 O):=by
 intro B s U H R I h;refine Call_ (wK I J M boot_range (PyProof.Rows.callWith_type1 (aT (N pos B s U H _ I h) λg f ⟨m,n,Y,u,E⟩=>?_) (by rw[Q,A]) (by rw[A];rfl)));obtain⟨i,j,e,⟨E,z,o,d⟩,q⟩:=E;subst e;cases u with
 |cons r G=>
  cases G with
  |cons l G=>
   cases G;obtain⟨t,rfl⟩:=r;obtain⟨w,rfl⟩:=l;exact call_range_2 (qA Y E z o d q)
noncomputable def iP(M:TI)(g:TG)(O:TS):TS:=λD A H=>M A H λJ Q=>∃W:Nat->Nat->St->Hp->Prop,(∃m,W 0 m A Q)/\∀i m A H,W i m A H ->
 (J.stop i H/\D.nx A H)\/(J.go i H/\∃N:St->Hp->Prop,(∀B E,N B E->∃I,I<m/\W (i+1) I B E)/\∀x E,J.yld i H x E->g x A E λG U=>O {D with nx:=N,ct:=N,bk:=D.nx} G U)
noncomputable def kO(A:O9)(h:LY):O0:=A.filterMap λb=>(h.get? b).map λo=>(b,o)
def xJ (A:b∈B)(e:h.get? b=some o):(b,o)∈kO B h:=Vm.mpr ⟨b,A,by rw[e];rfl⟩
def Io (A:p∈kO B h):p.1∈B/\h.get? p.1=some p.2:=by
 obtain⟨b,E,e⟩:=Vm.mp A;cases q:h.get? b with
 |none=>rw[q]at e;cases e
 |some o=>
  rw[q]at e;have G:(b,o)=p:=Option.some.inj e;subst G;exact⟨E,q⟩
def Inv.pinned{A:O0}{σ:St}{H:Hp}{s:Shared}{B:O9}(I:Inv X A σ H s)(J:∀b∈B,kn X A H b)(M:∀b∈B,∃o,s.heap.get? b=some o/\∀v,o.data≠.cell v):Inv X (A++kO B s.heap) σ H s:=
 I.pins_of λp N=>(QJ.mp N).elim (λz=>I.pin p (Qv _ z)) λz=>by
  obtain⟨E,e⟩:=Io z;obtain⟨f0,f1,f2,_⟩:=J p.1 E;obtain⟨o,G,d⟩:=M p.1 E;rw[e]at G;cases G;exact⟨e,f0,f1,f2,d⟩
def Inv.unpinned{A B:O0}{σ:St}{H:Hp}{s:Shared}(I:Inv X (A++B) σ H s):Inv X A σ H s:=I.pins_of λp E=>I.pin p (Qv _ (QY _ E))
def gs (t:PassesOwn (L6 X.prog X.w) X.A X.env X.xe)(hc:X.calm=true)(hi:PI X tg iter wi)(hg:PG X tg g)(E:ci X body tb)(hs:∀x,Mt iter X.env x=pure x:=by intro _;rfl):PS X (.For tg iter body [] pos) (iP wi g tb):=by
 intro A s σ H D I h;refine wpAny_For (aT (hi A s σ H _ I h) λv s1 h1=>aT h1 λitv s2 h2=>?_) hs;obtain⟨it,a,tn,J,H2,e,I2,T,st2,f2,W,⟨m0,w0⟩,w⟩:=h2;subst e
 -- what stays true of the j y through the loop
 have G:∀{Y:Hp},(∀b∈a,Y b=none)->∀b∈a,kn X A Y b:=λhn b E=>⟨hn b E,(f2 b E).2⟩;refine codeAny_forLoop_any (λn s'=>∃i M Y,Inv X A M Y s'/\tn i s'.heap/\(∀b∈a,Y b=none)/\W i n M Y) ?_ m0 ⟨0,σ,H2,I2,st2,λb E=>(f2 b E).1,w0⟩;rintro n s3 ⟨i,O,H3,I3,st3,fr3,w3⟩;rcases w i n O H3 w3 with⟨stop,qn⟩|⟨go,N,hN,step⟩
 .refine Mm t (aT (T.done X rfl rfl rfl hc i A s3 O H3 X.xe I3 (G fr3) st3 stop) λr s4 ⟨hr,I4⟩=>?_);subst hr;exact Md ⟨O,H3,I4,qn⟩
 .refine Mm t (aT (T.item X rfl rfl rfl hc i A s3 O H3 X.xe I3 (G fr3) st3 go) λr s4 ⟨u,hr,h4⟩=>?_);subst hr;refine Mm t (aT h4 λ_ s5 ⟨x,H5,I5,r5,y5,l,fr5⟩=>?_);have I5':=I5.pinned (G fr5) (T.obj _ _ l);refine Mm t (aT (hg _ s5 O H5 x u _ I5' r5 (step x H5 y5)) λ_ s6 ⟨σ6,H6,I6,q6⟩=>?_);refine Mm t (aT (E _ s6 σ6 H6 _ I6 q6) λf s7 z=>?_);have again:∀{B:St}{Q:Hp},Inv X (A++kO a s5.heap) B Q s7->N B Q->∃m,m<n/\∃i M Y,Inv X A M Y s7/\tn i s7.heap/\(∀b∈a,Y b=none)/\W i m M Y:=λ{B Q} U n7=>by
   obtain⟨m',hm,w7⟩:=hN B Q n7;refine⟨m',hm,i+1,B,Q,U.unpinned,T.keep _ _ _ l λb E o e=>(U.pin (b,o) (Qv _ (Qv _ (xJ E e)))).1,λb E=>?_,w7⟩;obtain⟨o,e,d⟩:=T.obj _ _ l b E;exact(U.pin (b,o) (Qv _ (Qv _ (xJ E e)))).2.1
  cases f with
  |next=>obtain⟨B,Q,U,n7⟩:=z;exact again U n7
  |cont=>obtain⟨B,Q,U,n7⟩:=z;exact again U n7
  |brk=>obtain⟨B,Q,U,z⟩:=z;exact⟨B,Q,U.unpinned,z⟩
  |ret v=>obtain⟨x7,B,Q,U,r7,z⟩:=z;exact⟨x7,B,Q,U.unpinned,r7,z⟩
end
abbrev R2:=V->V->Hp->VK->Prop
noncomputable def bV(X:Cx)(f:Value->Value->Sem Value)(r:R2):Prop:=
 ∀(A:O0) (s:Shared) (B:St) (H:Hp) (x y:V) (v u:Value) (Q:VK),Inv X A B H s->RelV x v->RelV y u->r x y H Q ->
  L5 (L6 X.prog X.w) X.A (f v u) (EP X A B Q) X.xe s
noncomputable def pT(X:Cx)(f:Value->Sem Value)(r:V->Hp->VK->Prop):Prop:=
 ∀(A:O0) (s:Shared) (B:St) (H:Hp) (x:V) (v:Value) (Q:VK),Inv X A B H s->RelV x v->r x H Q ->
  L5 (L6 X.prog X.w) X.A (f v) (EP X A B Q) X.xe s
noncomputable def aW(X:Cx)(f:Value)(r:S6->Hp->VK->Prop):Prop:=
 ∀(A:O0) (s:Shared) (B:St) (H:Hp) (E:S6) (G:O7) (Q:VK),Inv X A B H s->az E G->r E H Q ->
  L5 (L6 X.prog X.w) X.A (call f G) (EP X A B Q) X.xe s
noncomputable def dM(r:R2)(B E:TE):TE:=λA H Q=>B A H λx G=>E A G λy I=>r x y I Q
noncomputable def Ji(r:V->Hp->VK->Prop)(A:TE):TE:=λB H Q=>A B H λx E=>r x E Q
noncomputable def rI(C:Int->Int->Prop)(g:Int->Int->V):R2:=λx y H Q=>∃i j,x=.int i/\y=.int j/\C i j/\Q (g i j) H
noncomputable def dA(g:Int->Int->V):R2:=λx y H Q=>∃i j,x=.int i/\y=.int j/\Q (g i j) H
noncomputable def rU(g:Int->V):V->Hp->VK->Prop:=λx H Q=>∃i,x=.int i/\Q (g i) H
section
variable{X:Cx}{a b:Expr}{ta tb:TE}{pos:Pos}
def lJ (N:PE X a ta)(O:PE X b tb){R:V->V->Hp->Prop}(I:Inv X A σ H s)(h:ta σ H λx M=>tb σ M λy B=>R x y B){f:Value->Value->Sem Value}(U:∀v u J x y B,Inv X A σ B J->RelV x v->RelV y u->R x y B->L5 (L6 X.prog X.w) X.A (f v u) Q X.xe J):
  L5 (L6 X.prog X.w) X.A (eval a X.env) (λv E=>L5 (L6 X.prog X.w) X.A (eval b X.env) (λu G=>L5 (L6 X.prog X.w) X.A (f v u) Q X.xe G) X.xe E) X.xe s:=by
 refine aT (N A s σ H _ I h) λv Y ⟨x,M,j,z,o⟩=>?_;refine aT (O A Y σ M _ j o) λu J ⟨y,B,d,l,g⟩=>?_;exact U v u J x y B d z l g
def C4 (B:bV X (Mu op) r)(E:PE X a ta)(G:PE X b tb):PE X (.BinOp a op b pos) (dM r ta tb):=by
 intro A s J H Q I h;exact wpAny_BinOp (lJ E G I h λv u M x y N O U Y q=>B A M J N x y v u Q O U Y q)
def C3 (E:pT X (unaryOp op) r)(G:PE X a ta):PE X (.UnaryOp op a pos) (Ji r ta):=by
 intro A s B H Q I h;exact UnaryOp_ (aT (G A s B H _ I h) λv J ⟨x,M,N,O,U⟩=>E A J B M x v Q N O U)
def ln {g:Int->Int->Int}(rule:∀(i j:Int) (t u:Tok) (s:Shared) (Q:N7) (E:N7),C i j->Q (.int (g i j) s.toks) {s with toks:=s.toks+1}->L5 (L6 X.prog X.w) X.A (f (.int i t) (.int j u)) Q E s):
  bV X f (rI C λi j=>.int (g i j)):=by
 intro A s N H x y v u Q I B G h;obtain⟨i,j,rfl,rfl,J,q⟩:=h;obtain⟨t,rfl⟩:=B;obtain⟨M,rfl⟩:=G;exact rule i j t M s _ _ J ⟨.int (g i j),H,I.tok _,⟨_,rfl⟩,q⟩
def lI {g:Int->Int->Int}(rule:∀(i j:Int) (t u:Tok) (s:Shared) (Q:N7) (E:N7),Q (.int (g i j) s.toks) {s with toks:=s.toks+1}->L5 (L6 X.prog X.w) X.A (f (.int i t) (.int j u)) Q E s):
  bV X f (dA λi j=>.int (g i j)):=by
 intro A s M H x y v u Q I B G h;obtain⟨i,j,rfl,rfl,q⟩:=h;obtain⟨t,rfl⟩:=B;obtain⟨J,rfl⟩:=G;exact rule i j t J s _ _ ⟨.int (g i j),H,I.tok _,⟨_,rfl⟩,q⟩
def iO {g:Int->Int->Bool}(rule:∀(i j:Int) (t u:Tok) (s:Shared) (Q:N7) (E:N7),Q (.bool (g i j)) s->L5 (L6 X.prog X.w) X.A (f (.int i t) (.int j u)) Q E s):
  bV X f (dA λi j=>.bl (g i j)):=by
 intro A s M H x y v u Q I B G h;obtain⟨i,j,rfl,rfl,q⟩:=h;obtain⟨t,rfl⟩:=B;obtain⟨J,rfl⟩:=G;exact rule i j t J s _ _ ⟨.bl (g i j),H,I,rfl,q⟩
noncomputable def sd(i j:Int):Prop:=0<j/\j<1073741824
noncomputable def eB(i j:Int):Prop:=(-(2^64)<i/\i<2^64)\/(-(2^64)<j/\j<2^64)
def eB.ok (h:eB i j):IntMulOk i j:=by
 rcases h with⟨A,B⟩|⟨A,B⟩
 .exact .of_left (intBits_le_64 A B)
 .exact .of_right (intBits_le_64 A B)
def Jc(k:Nat):(0:Int)<=2^k:=by
 rw[two_pow_cast];exact Int.natCast_nonneg _
def eV:bV X (Mu .Add) (dA λi j=>.int (i+j)):=lI λ_ _ _ _ _ _ _ q=>add_int q
def DF:bV X (Mu .Sub) (dA λi j=>.int (i-j)):=lI λ_ _ _ _ _ _ _ q=>sub_int q
def eT:bV X (Mu .Mult) (rI eB λi j=>.int (i*j)):=ln λ_ _ _ _ _ _ _ A q=>mul_int q A.ok
def GD:bV X (Mu .FloorDiv) (rI sd λi j=>.int (i/j)):=ln λi j _ _ _ _ _ A q=>by
 have B:(0:Int)<j:=A.1;have E:j<1073741824:=A.2;exact floordiv_int (by lia) (by rw[VC i (by lia)];exact q) (.inl (PyProof.noPylong_small (by lia)))
def DE:bV X (Mu .Mod) (rI (λ_ j=>0<j) λi j=>.int (i%j)):=ln λi j _ _ _ _ _ A q=>by
 have B:(0:Int)<j:=A;exact mod_int' (by lia) (by rw[Int.fmod_eq_emod_of_nonneg i (by lia)];exact q)
def DD:bV X (Mu .RShift) (rI (λ_ j=>0<=j) λi j=>.int (i/2^j.toNat)):=ln λi j _ _ _ _ _ A q=>
 rshift_int A (by rw[VC i (Jc _)];exact q)
def DC:bV X (Mu .BitAnd) (dA λi j=>.int (Builtin.bitAnd i j)):=lI λ_ _ _ _ _ _ _ q=>and_int q
def Jh {g:Int->Int}(rule:∀(i:Int) (t:Tok) (s:Shared) (Q:N7) (E:N7),Q (.int (g i) s.toks) {s with toks:=s.toks+1}->L5 (L6 X.prog X.w) X.A (f (.int i t)) Q E s):
  pT X f (rU λi=>.int (g i)):=by
 intro A s G H x v Q I B h;obtain⟨i,rfl,q⟩:=h;obtain⟨t,rfl⟩:=B;exact rule i t s _ _ ⟨.int (g i),H,I.tok _,⟨_,rfl⟩,q⟩
def DB:pT X (unaryOp .USub) (rU λi=>.int (-i)):=Jh λ_ _ _ _ _ q=>neg_int q
end
section
variable{X:Cx}{a b c:Expr}{ta tb tc:TE}{pos:Pos}
def tX (I:Inv X A σ H s)(q:Q (.bl k) H)(e:k=B):EP X A σ Q (.bool B) s:=by
 subst e;exact⟨.bl k,H,I,rfl,q⟩
def C2:bV X (Mv .Lt) (dA λi j=>.bl (decide (i<j))):=iO λ_ _ _ _ _ _ _ q=>lt_int q
def Dq:bV X (Mv .LtE) (dA λi j=>.bl (decide (i<=j))):=iO λ_ _ _ _ _ _ _ q=>le_int q
def Dp:bV X (Mv .Gt) (dA λi j=>.bl (decide (j<i))):=iO λ_ _ _ _ _ _ _ q=>gt_int q
def Do:bV X (Mv .GtE) (dA λi j=>.bl (decide (j<=i))):=iO λ_ _ _ _ _ _ _ q=>ge_int q
def DA:bV X (Mv .Is) (λx y H Q=>y=.N/\Q (.bl (decide (x=.N))) H):=by
 intro A s G H x y v u Q I B E h;obtain⟨rfl,q⟩:=h;cases E;refine is_none_gen (tX I q ?_);cases x<;>first
  |(cases B;rfl)
  |(obtain⟨t,rfl⟩:=B;rfl)
def GC:bV X (Mv .IsNot) (λx y H Q=>y=.N/\Q (.bl (! decide (x=.N))) H):=by
 intro A s G H x y v u Q I B E h;obtain⟨rfl,q⟩:=h;cases E;refine isnot_none_gen (tX I q ?_);cases x<;>first
  |(cases B;rfl)
  |(obtain⟨t,rfl⟩:=B;rfl)
def bV.or{f:Value->Value->Sem Value}{r B:R2}(h:bV X f r)(h':bV X f B):bV X f (λx y H Q=>r x y H Q\/B x y H Q):=by
 intro A s E H x y v u Q I G J q;rcases q with q|q
 .exact h A s E H x y v u Q I G J q
 .exact h' A s E H x y v u Q I G J q
def uP (B:bV X (Mv op) r)(E:PE X a ta)(G:PE X b tb)(J:Mx op b=false):PE X (.Compare a [op] [b] pos) (dM r ta tb):=by
 intro A s M H Q I h;exact wpAny_Compare1 (lJ E G I h λv u N x y O U Y j q=>B A N M O x y v u Q U Y j q) J
noncomputable def iW(t:TE):TT:=λA H Q=>t A H λx B=>∃k,x=.bl k/\Q k B
def gu (E:bV X (Mv op) r)(G:PE X a ta)(J:PE X b tb)(M:Mx op b=false):PT X (.Compare a [op] [b] pos) (iW (dM r ta tb)):=by
 intro A s B H Q I h;refine wpAny_isTrue_Compare1 (aT (G A s B H _ I h) λv N ⟨x,O,U,Y,j⟩=>aT (J A N B O _ U j) λu o ⟨y,d,l,g,f⟩=>
  aT (E A o B d x y v u _ l Y g f) λc w ⟨z,t,m,n,k,e,i⟩=>?_) M
 subst e;cases n;exact Mc ⟨t,m,i⟩
noncomputable def mv(r E:R2)(ta tb tc:TE):TE:=λA H Q=>ta A H λx G=>tb A G λy I=>r x y I λz B=>∃k,z=.bl k /\
 (if k=true then tc A B λJ M=>E y J M Q else Q (.bl false) B)
def HS (U:bV X (Mv op) r)(G:bV X (Mv B) Y)(j:PE X a ta)(o:PE X b tb)(l:PE X c tc)(g:lastMarks [op,B] [b,c]=false:=by with_unfolding_all rfl):PE X (.Compare a [op,B] [b,c] pos) (mv r Y ta tb tc):=by
 intro A s E H Q I h;refine Compare_chain (aT (j A s E H _ I h) λv f ⟨x,t,m,n,i⟩=>chain_link (aT (o A f E t _ m i) λu w ⟨y,H2,I2,J,q2⟩=>
  aT (U A w E H2 x y v u _ I2 n J q2) λd s3 ⟨z,M,N,r3,k,e,O⟩=>?_)) g
 subst e;cases r3;refine Mc ?_;cases k with
 |false=>exact ite_ff ⟨.bl false,M,N,rfl,O⟩
 |true=>exact ite_tt (chain_last (aT (l A s3 E M _ N O) λw' s4 ⟨z',H4,I4,r4,q4⟩=>G A s4 E H4 y z' u w' Q I4 J r4 q4))
def HR (U:bV X (Mv op) r)(G:bV X (Mv B) Y)(j:PE X a ta)(o:PE X b tb)(l:PE X c tc)(g:lastMarks [op,B] [b,c]=false:=by with_unfolding_all rfl):PT X (.Compare a [op,B] [b,c] pos) (iW (mv r Y ta tb tc)):=by
 intro A s E H Q I h;refine isTrue_chain (aT (j A s E H _ I h) λv f ⟨x,t,m,n,i⟩=>test_link (aT (o A f E t _ m i) λu w ⟨y,H2,I2,J,q2⟩=>
  aT (U A w E H2 x y v u _ I2 n J q2) λd s3 ⟨z,M,N,r3,k,e,O⟩=>?_)) g
 subst e;cases r3;refine Mc ?_;cases k with
 |false=>
  obtain⟨k',e',q'⟩:=O;cases e';exact ite_ff ⟨M,N,q'⟩
 |true=>
  refine ite_tt (test_last (aT (l A s3 E M _ N O) λw' s4 ⟨z',H4,I4,r4,q4⟩=>aT (G A s4 E H4 y z' u w' _ I4 J r4 q4) λd' s5 ⟨z2,H5,I5,r5,k2,e2,q5⟩=>?_));subst e2;cases r5;exact Mc ⟨H5,I5,q5⟩
def kP:(sizeLine:Nat)<2^63:=by rw[My];decide
def xb (r:az [x] A):∃u,A=[u]/\RelV x u:=by
 cases r with
 |cons B E=>cases E;exact⟨_,rfl,B⟩
def l7 (r:az [x,y] B):∃u A,B=[u,A]/\RelV x u/\RelV y A:=by
 cases r with
 |cons E G=>
  cases G with
  |cons H I=>cases I;exact⟨_,_,rfl,E,H⟩
def Im(E:X.calm=true):aW X (.builtin "max") (λxs H Q=>∃i j,xs=[.int i,.int j]/\Q (.int (if j > i then j else i)) H):=by
 intro B s G H xs J Q I r h;obtain⟨i,j,rfl,q⟩:=h;obtain⟨u,M,rfl,⟨t,rfl⟩,⟨N,rfl⟩⟩:=l7 r;refine max_two_ints (I.ok.hd E) λO U k=>⟨_,H,I.kept k,?_,q⟩;by_cases A:j > i
 .rw[N0 A,N0 A];exact⟨_,rfl⟩
 .rw[N1 A,N1 A];exact⟨_,rfl⟩
def Il(E:X.calm=true):aW X (.builtin "min") (λxs H Q=>∃i j,xs=[.int i,.int j]/\Q (.int (if j<i then j else i)) H):=by
 intro B s G H xs J Q I r h;obtain⟨i,j,rfl,q⟩:=h;obtain⟨u,M,rfl,⟨t,rfl⟩,⟨N,rfl⟩⟩:=l7 r;refine min_two_ints (I.ok.hd E) λO U k=>⟨_,H,I.kept k,?_,q⟩;by_cases A:j<i
 .rw[N0 A,N0 A];exact⟨_,rfl⟩
 .rw[N1 A,N1 A];exact⟨_,rfl⟩
def Ik:aW X (.type "int") (λxs H Q=>(∃i,xs=[.int i]/\Q (.int i) H)\/∃k,xs=[.bl k]/\Q (.int (if k then 1 else 0)) H):=by
 intro A s E H xs G Q I r h;rcases h with⟨i,rfl,q⟩|⟨k,rfl,q⟩
 .obtain ⟨u,rfl,t,rfl⟩:=xb r;exact call_int_int ⟨.int i,H,I,⟨_,rfl⟩,q⟩
 .obtain ⟨u,rfl,B⟩:=xb r;cases B;exact call_int_bool ⟨.int (if k then 1 else 0),H,I.tok _,⟨_,rfl⟩,q⟩
end
def rp (r:iD (some v) o):∃u,o=some u/\RelV v u:=by
 cases o with
 |none=>exact(show False from r).elim
 |some u=>exact⟨u,rfl,r⟩
section
variable{X:Cx}{pins:O0}{σ:St}{H:Hp}{s:Shared}{A:L3}{E:N7}{Q:N7}{c:Value}{b:Bool}
inductive cr(K:Qb)(H:Hp):V->Value->Prop where
 |N:cr K H .N (.type "NoneType")
 |bl (x:Bool):cr K H (.bl x) (.type "bool")
 |int (i:Int):cr K H (.int i) (.type "int")
 |str (x:Str):cr K H (.str x) (.type "str")
 |flt (x:UInt64):cr K H (.flt x) (.type "float")
 |L {a:Addr}{xs:S6}(e:H a=some (.L xs)):cr K H (.ref a) (.type "list")
 |frz {a:Addr}{o:Obj}{xs:S6}(e:H a=some (.frz o (.L xs))):cr K H (.ref a) (.type "list")
 |T {a:Addr}{xs:S6}(e:H a=some (.T xs)):cr K H (.ref a) (.type "tuple")
 |dK {a:Addr}{kvs:List (bH×V)}(e:H a=some (.dK kvs)):cr K H (.ref a) (.type "dict")
def xA (I:Inv X pins σ H s)(B:RelV x u)(Y:cr X.K H x t)(e:Wr X.K t c=some b)(h:∀j,Q (.bool b) {s with toks:=j}):
  L5 (L6 X.prog X.w) A (call (.builtin "isinstance") [u,c]) Q E s:=by
 cases Y with
 |N=>cases(show u=Value.none from B);exact Q8 PySem.W.kitx_none I.kIn True.intro e (λz=>nomatch z) h
 |bl y=>cases(show u=Value.bool y from B);exact Q8 PySem.W.kitx_bool I.kIn True.intro e (λz=>nomatch z) h
 |int i=>obtain⟨t,q⟩:=(show ∃t,u=Value.int i t from B);cases q;exact Q8 PySem.W.kitx_int I.kIn True.intro e (λz=>nomatch z) h
 |str y=>obtain⟨t,q⟩:=(show ∃t,u=Value.str y t from B);cases q;exact Q8 PySem.W.kitx_str I.kIn True.intro e (λz=>nomatch z) h
 |flt y=>obtain⟨t,q⟩:=(show ∃t,u=Value.float y t from B);cases q;exact Q8 PySem.W.kitx_float I.kIn True.intro e (λz=>nomatch z) h
 |@L a M G=>
  cases(show u=Value.ref a from B);obtain⟨_,_,n,_,J⟩:=(show bc X.prog X.w H s.heap a (.L M)from I.hok a _ G);exact Q8 Vk I.kIn ⟨_,J,rfl⟩ e (λz=>nomatch z) h
 |@frz a d M G=>
  cases(show u=Value.ref a from B);obtain⟨_,_,_,n,_,J⟩:=(show bc X.prog X.w H s.heap a (.frz d (.L M))from I.hok a _ G);exact Q8 Vk I.kIn ⟨_,J,rfl⟩ e (λz=>nomatch z) h
 |@T a M G=>
  cases(show u=Value.ref a from B);obtain⟨_,_,_,p⟩:=(show bc X.prog X.w H s.heap a (.T M)from I.hok a _ G);obtain⟨o,J,O,_⟩:=p;exact Q8 PySem.W.kitx_tuple I.kIn ⟨o,J,O⟩ e (λz=>nomatch z) h
 |@dK a U G=>
  cases(show u=Value.ref a from B);obtain⟨_,_,l,_,p⟩:=(show bc X.prog X.w H s.heap a (.dK U)from I.hok a _ G);obtain⟨o,g,f,J,O,_⟩:=p;exact Q8 PySem.W.kitx_dict I.kIn ⟨o,J,O.1⟩ e (λz=>nomatch z) h
end
structure bY(k:Nat)(A:L3):Prop where
 hd:A.handled=none
 dp:A.depth+3*k+5<recursionLimit
 un:A.units+16*k+200<Mz
theorem bY.deeper{k:Nat}{A:L3}(r:bY (k+1) A)(env:Env):bY k (A.deeper env):=
 ⟨r.hd,by have:=r.dp;show A.depth+1+3*k+5<_;lia,by have:=r.un;show A.units+3+16*k+200<_;lia⟩
theorem bY.depth (r:bY k A):A.depth<recursionLimit:=by have:=r.dp;lia
theorem bY.units (r:bY k A):A.units+64<Mz:=by have:=r.un;lia
noncomputable def iN:TA:=λ_ H Q=>Q [] H
noncomputable def qB(B:TE)(E:TA):TA:=λA H Q=>B A H λx G=>E A G λI J=>Q (x::I) J
section
variable{X:Cx}{e:Expr}{es:P6}{te:TE}{t:TA}{pos:Pos}
def yj:PA X [] iN:=λ_ _ _ _ H Q I h=>Calls.spliced_nil ⟨[],H,I,.nil,h⟩
def zA(E:PE X e te)(G:PA X es t)(J:L8 (e::es) X.env=(false,eval e X.env)::L8 es X.env:=by rfl):PA X (e::es) (qB te t):=by
 intro pos A s B H Q I h;rw[J];show L5 _ _ (spliced ((false,eval e X.env)::L7 pos (L8 es X.env))) _ _ s;refine Calls.spliced_cons (aT (E A s B H _ I h) λu M ⟨x,N,O,U,Y⟩=>?_);exact aT (G pos A M B N _ O Y) λg f ⟨j,z,o,d,l⟩=>⟨x::j,z,o,.cons U d,l⟩
noncomputable def mG(t:TA):TE:=λE H Q=>t E H λA B=>A.length<=sizeLine/\∀p,B p=none->Q (.ref p) (aG B p (.T A))
noncomputable def mL(t:TA):TE:=λE H Q=>t E H λA B=>A.length<=sizeLine/\∀p,B p=none->Q (.ref p) (aG B p (.L A))
def Dz{J}(h:PA X es t):PE X (.Tuple es J pos) (mG t):=by
 intro A s M H Q I N;refine wpAny_Tuple_spliced (aT (h pos A s M H _ I N) λO B ⟨U,E,G,r,z,q⟩=>⟨by rw[<-r.length];exact z,?_⟩);have Y:E B.heap.objs.size=none:=G.hok.fresh (Qk _);refine⟨.ref B.heap.objs.size,aG E B.heap.objs.size (.T U),G.laid (t':=B.toks) (λb u e=>Qc _ e) (Qk _) ?_,rfl,q _ Y⟩;exact⟨z,O,r,⟨_,Qh _ rfl,rfl,_,rfl⟩⟩
def Dy(h:PA X es t):PE X (.List es pos) (mL t):=by
 intro A s J H Q I M;refine wpAny_List_spliced (aT (h pos A s J H _ I M) λN B ⟨O,E,G,r,z,q⟩=>⟨by rw[<-r.length];exact z,?_⟩);have U:E B.heap.objs.size=none:=G.hok.fresh (Qk _);refine⟨.ref B.heap.objs.size,aG E B.heap.objs.size (.L O),G.laid (t':=B.toks) (λb u e=>Qc _ e) (Qk _) ?_,rfl,q _ U⟩;exact⟨z,N,0,r,Qh _ rfl⟩
end
abbrev Sp:=S6->Hp->VK->XK->Prop
abbrev dO:=R6->Hp->Shared->XK->Value->Shared->Prop
structure eA(P:LU)(w:LV)(K:Qb)(mg:N8)(base:LY)(A:L3)(outer:R6)(s:Shared)(H:Hp):Prop where
 frames:A.frames=some outer
 mod:Mod K mg base
 bs:∀b o,base.get? b=some o->s.heap.get? b=some o/\H b=none
 bsz:base.objs.size<=s.heap.objs.size
 funs:s.heap.FunFrames base outer
 frf:∀b∈dI outer,H b=none
 hok:cf P w H s.heap
 bare:L4 s.gens
noncomputable def CE(A:R6)(P:LU)(w:LV)(H:Hp)(s:Shared)(Q:VK)(u:Value)(s':Shared):Prop:=
 ∃v B,s'.os=s.os/\L4 s'.gens/\Un (dI A) [] H B s.heap s'.heap/\cf P w B s'.heap/\RelV v u/\Q v B
noncomputable def CR(CX:dO)(A:R6)(P:LU)(w:LV)(H:Hp)(s:Shared)(Q:VK)(E:XK)(r:Result)(s':Shared):Prop:=
 match r with
 |.ok (.ret u)=>CE A P w H s Q u s'
 |.ok _=>False
 |.error e=>CX A H s E e s'
structure cx(P:LU)(w:LV)(K:Qb)(mg:N8)(base:LY)(CX:dO)(k:Nat)(f:Addr)(fd:MA)(ps:R0)(sp:Sp):Prop where
 len:∀vs H Q E,sp vs H Q E->vs.length=ps.length
 run:∀(A:L3) (outer:R6) (s:Shared) (H:Hp) (args:Args) (us:O7) (vs:S6) (Q:VK) (E:XK),bY k A->eA P w K mg base A outer s H->BindsTo s fd args (ps.zip us)->az vs us->sp vs H Q E ->
  MB (L6 P w) A (.call (.ref f) args) (CR CX outer P w H s Q E) s
section
variable{X:Cx}{pins:O0}{σ:St}{H:Hp}{s s':Shared}
def Inv.env0(I:Inv X pins σ H s):eA X.prog X.w X.K X.mg X.base X.A X.stack s H:=
 ⟨I.ok.frames,I.ok.mod,I.bs,Qp I.ok.bsz I.sz,I.stack,I.stkFree,I.hok,I.bare⟩
def Inv.after (I:Inv X pins σ H s)(h:CE X.stack X.prog X.w H s Q u s'):EP X pins σ Q u s':=by
 obtain⟨v,G,os,A,un,B,r,q⟩:=h;obtain⟨J,g,d,t,E⟩:=s';obtain rfl:E=s.os:=os;exact⟨v,G,I.call (h':=J) (g':=g) (d':=d) (t':=t) (ch:=[]) un B A (λb z=>N2 z (by simp)),r,q⟩
end
noncomputable def Dn(sp:Sp)(A:S6)(E:XK)(t:TA):TE:=λB H Q=>t B H λG I=>sp (G++A) I Q E
noncomputable def Binds(K:Qb)(B:MA)(ps:R0)(ds:O7):Prop:=
 ∀(s:Shared) (A:O7),K.In s.heap->(A++ds).length=ps.length->BindsTo s B ⟨A,[]⟩ (ps.zip (A++ds))
def Binds.all{K:Qb}{B:MA}{ps:R0}(h:∀A:O7,A.length=ps.length->bindArgs B ⟨A,[]⟩=pure (ps.zip A)):Binds K B ps []:=λs A _ hl=>by
 rw[QX]at hl ⊢;exact .of_eq (h A hl)
noncomputable def mr(CX:dO)(X:Cx)(E:XK):Prop:=∀(A:O0) (G:St) (H:Hp) (s:Shared) (e:Value) (B:Shared),Inv X A G H s->CX X.stack H s E e B->X.xe e B
section
variable{X:Cx}{CX:dO}{k:Nat}{f:Addr}{fd:MA}{ps:R0}{sp:Sp}{dvs:S6}{ds:O7}{E:XK}{x:Str}{p pos:Pos}{e:Expr}{es:P6}{t:TA}
def Dx (F:cx X.prog X.w X.K X.mg X.base CX k f fd ps sp)(M:bY k X.A)(N:Binds X.K fd ps ds)(O:az dvs ds)(U:mr CX X E)(I:Inv X A σ H s)(r:az vs B)(h:sp (vs++dvs) H Q E):L5 (L6 X.prog X.w) X.A (call (.ref f) B) (EP X A σ Q) X.xe s:=by
 have J:az (vs++dvs) (B++ds):=r.append O;have hl:(B++ds).length=ps.length:=by rw[<-J.length];exact F.len _ _ _ _ h
 refine wpAny_call (MC (F.run X.A X.stack s H ⟨B,[]⟩ (B++ds) (vs++dvs) Q E M I.env0 (N s B I.kIn hl) J h) λr Y G=>?_);cases r with
 |error e=>exact U A σ H s e Y I G
 |ok fl=>
  cases fl with
  |ret u=>exact I.after G
  |next=>exact False.elim G
  |brk=>exact False.elim G
  |cont=>exact False.elim G
def GB(F:cx X.prog X.w X.K X.mg X.base CX k f fd ps sp)(M:bY k X.A)(N:Gl X x)(O:X.mg x=some (.ref f))(U:WL X.K (.ref f)=true)(Y:Binds X.K fd ps ds)(j:az dvs ds)(u:mr CX X E)
  (z:PA X (e::es) t) (B:(x==("__debug__":Str))=false:=by decide) (o:L8 (e::es) X.env=(false,eval e X.env)::L8 es X.env:=by rfl) (G:(L7 pos (L8 es X.env)).any (·.1)=false:=by rfl) :
  PE X (.Call (.Name x p) (e::es) [] pos) (Dn sp dvs E t):=by
 intro A s d H Q I h;refine MD (uS I N O ?_ B);refine PySem.W.callWith_K (h₀:=X.base) I.ok.mod.kin U (aT (z pos A s d H _ I h) λl g ⟨m,b,J,r,q⟩=>⟨J.kIn,?_⟩) o G;exact Dx F M Y j u J r q
end
structure ck(N P:R0)(sc:LR):Prop where
 kind:sc.kind=.function
 co:sc.isCoroutine=false
 gen:sc.isGenerator=false
 nd:N.Nodup
 pre:N.take P.length=P
 par:∀x∈P,sc.names.lookup x=some .local\/sc.names.lookup x=some .cell
 nofree:∀y∈sc.names,y.2≠.free
theorem jP {kindOf:Str->Option ME}:∀{binds:List (Str×Value)}{m:N8},(∀v,(x,v)∉binds)->MF kindOf binds m x=m x
 |[],_,_=>rfl
 |(n,v)::r,m,h=>by
  unfold MF;rw[jP λw A=>h w (Qg _ A)];split
  .have:x≠n:=by rintro rfl;exact h v Q0
   simp[this]
  .rfl
theorem jQ {kindOf:Str->Option ME}:∀{binds:List (Str×Value)}{m:N8},(∀v,(x,v)∉binds)->MG kindOf binds m x=m x
 |[],_,_=>rfl
 |(n,v)::r,m,h=>by
  unfold MG;rw[jQ λw A=>h w (Qg _ A)];split
  .rfl
  .have:x≠n:=by rintro rfl;exact h v Q0
   simp[this]
theorem jR {kindOf:Str->Option ME}:∀{P:R0}{vs:O7}{i:Nat}{m:N8},P.Nodup->P[i]?=some x->vs[i]?=some v->kindOf x=some .local ->
  MF kindOf (P.zip vs) m x=some v
 |[],_,_,_,_,h,_,_=>by simp at h
 |_::_,[],_,_,_,_,h,_=>by simp at h
 |p::P,w::vs,0,m,E,A,B,G=>by
  simp at A B;subst A;subst B;show MF kindOf ((p,w)::P.zip vs) m p=_;unfold MF;rw[jP λv H=>(QC.mp E).1 (Vv H).1,N0 G];simp
 |p::P,w::vs,i+1,m,E,A,B,G=>by
  show MF kindOf ((p,w)::P.zip vs) m x=_;unfold MF;exact jR (i:=i) (QC.mp E).2 (by simpa using A) (by simpa using B) G
theorem jS {kindOf:Str->Option ME}:∀{P:R0}{vs:O7}{i:Nat}{m:N8},P.Nodup->P[i]?=some x->vs[i]?=some v->kindOf x≠some .local ->
  MG kindOf (P.zip vs) m x=some v
 |[],_,_,_,_,h,_,_=>by simp at h
 |_::_,[],_,_,_,_,h,_=>by simp at h
 |p::P,w::vs,0,m,E,A,B,G=>by
  simp at A B;subst A;subst B;show MG kindOf ((p,w)::P.zip vs) m p=_;unfold MG;rw[jQ λv H=>(QC.mp E).1 (Vv H).1,N1 G];simp
 |p::P,w::vs,i+1,m,E,A,B,G=>by
  show MG kindOf ((p,w)::P.zip vs) m x=_;unfold MG;exact jS (i:=i) (QC.mp E).2 (by simpa using A) (by simpa using B) G
noncomputable def start(N:R0)(vs:S6):St:=vs.map some++QH (N.length-vs.length) none
noncomputable def qC(CX:dO)(P:LU)(w:LV)(K:Qb)(mg:N8)(base:LY)(N:R0)(G:Str)(B:LR)(f:Addr)(cd:Value)(A:L3)(outer:R6)(s:Shared)(H:Hp)(E:XK):Cx where
 prog:=P
 w:=w
 K:=K
 mg:=mg
 base:=base
 A:=A.deeper (MH G B s.heap.objs.size f cd)
 N:=N
 s₀:=s
 H₀:=H
 env:=MH G B s.heap.objs.size f cd
 outer:=outer
 stack:=MH G B s.heap.objs.size f cd::outer
 ex:=[]
 calm:=true
 fn:=λ_=>true
 pn:=[]
 xe:=λe J=>L5 (L6 P w) (A.deeper (MH G B s.heap.objs.size f cd)) (leaving (MH G B s.heap.objs.size f cd) e) (λ_ I=>CX outer H s E e I) (λM I=>CX outer H s E M I) J
def qD {A:LR}(h:A.names.lookup x=some .cell):∃c,(MI n A.names []).lookup x=some c:=by
 have q:=W4 A.names n [] (.inl h);exact WG.mp q
def Ij {K:Qb}(S:ck N ps B)(m:A.handled=none)(M:eA P w K d O A I s H)(hl:vs.length=ps.length)(r:az vs l)(x:InCallC s s.heap.objs.size (MF (MH J B s.heap.objs.size f cd).kindOf (ps.zip l) λ_=>none) (MI (s.heap.objs.size+1) B.names []) (MG (MH J B s.heap.objs.size f cd).kindOf (ps.zip l) λ_=>none) s1):
  Inv (qC CX P w K d O N J B f cd A I s H E) [] (start N vs) H s1:=by
 have hpl:ps.length<=N.length:=by have:=NY List.length S.pre;rw[Wm]at this;lia
 obtain⟨j,tk,rfl,g⟩:=x.done;have Q:∀b:Addr,b∉(qC CX P w K d O N J B f cd A I s H E).ex:=λb z=>N2 (show b∈([]:O9)from z) (by simp);refine⟨⟨M.mod,S.kind,rfl,rfl,Qk _,λy z c j G=>?_,λy hy=>?_,λy c _ h=>?_,λ_=>m,Around.frames_deeper M.frames,.inr ⟨rfl,rfl⟩,λb z=>N2 z (Q b),M.bs,M.bsz,λb _ _=>Q b,λb z=>N2 z (Q b),M.funs,M.frf⟩,
  rfl,M.bare,Un.kept g,⟨_,x.toInCall.ns,λi y v j G h3=>?_⟩,λy c h=>⟨_,x.cell y c h⟩,M.hok.fresh (Qk _),λy c h=>?_,λp U=>N2 (show p∈([]:O0)from U) (by simp),M.hok.kept g,?_⟩
 .exact name_of_addr x.apart (PySem.mem_of_lookup j) (PySem.mem_of_lookup G)
 .have hy:B.names.lookup y=some .cell\/B.names.lookup y=some .free:=hy;rcases hy with hy|hy
  .exact qD hy
  .exact N2 rfl (S.nofree _ (PySem.mem_of_lookup hy))
 .exact WF (x.above y c (PySem.mem_of_lookup h))
 .have o:i<vs.length:=by
   unfold start at G;by_cases o:i<vs.length
   .exact o
   .rw[Qd (by simpa using o)]at G;rw[W7]at G;split at G<;>cases G
  have ha:vs[i]?=some v:=by
   unfold start at G;rw[Qf (by simpa using o),Qm]at G;cases e:vs[i]? with
   |none=>rw[e]at G;cases G
   |some a=>rw[e]at G;cases G;rfl
  obtain⟨u,t,rv⟩:=r.get ha;have U:ps[i]?=some y:=by
   rw[<-S.pre,QI (by lia)];exact j
  have Y:ps.Nodup:=by rw[<-S.pre];exact S.nd.sublist (List.take_sublist _ _)
  refine⟨u,rv,?_⟩;rcases S.par y (Qo U)with k|k
  .exact .inl ⟨k,jR Y U t k⟩
  .obtain ⟨c,e⟩:=qD (n:=s.heap.objs.size+1) k;refine .inr ⟨.inl k,c,e,?_⟩;have q:=x.cell y c e;rw[jS Y U t (by show B.names.lookup y≠_;rw[k];decide)]at q;exact q
 .exact M.hok.fresh (WF (x.above y c (PySem.mem_of_lookup h)))
 .unfold start;show _=N.length;rw[QP,Qs,List.length_replicate];lia
set_option tactic.hygienic true in
def Dm {K:Qb}{kV:Value}(lk:K.lookup f=some ⟨oc,od,.func (Wz name M Y body B dV kV doc pm an O ct),osl⟩)(a:Vc K O M=true)(S:ck N ps B)(len:∀vs H Q E,sp vs H Q E->vs.length=ps.length)(d:∀(A:L3) (G:R6) (s:Shared) (H:Hp) (vs:S6) (Q:VK) (E:XK),bY k (A.deeper (MH M B s.heap.objs.size f O))->sp vs H Q E ->
   ∃t,ci (qC CX P w K mg U N M B f O A G s H E) body t/\t {nx:=λ_ z=>Q .N z,rt:=Q} (start N vs) H):
  cx P w K mg U CX (k+1) f (Wz name M Y body B dV kV doc pm an O ct) ps sp:=by
 refine⟨len,λA G s H args us vs Q E hr m hb r h=>?_⟩;have hl:=len _ _ _ _ h;have KX:K.In s.heap:=m.mod.kin.keeps λb o e=>(m.bs b o e).1;have aA:s.heap.NoLimit:=m.mod.nolimit.keeps λb o e=>(m.bs b o e).1;have l:∀y∈ps.zip us,B.names.lookup y.1=some .local\/(B.names.lookup y.1=some .cell/\((MI (s.heap.objs.size+1) B.names []).lookup y.1).isSome=true):=λ⟨n,v⟩ hy=>by
  rcases S.par n (Vv hy).1 with q|q
  .exact .inl q
  .exact .inr ⟨q,W4 _ _ _ (.inl q)⟩
 refine codeAny_call_function hr.depth (KX _ _ lk) rfl S.co S.gen rfl (PySem.W.codeRec_of KX a) (hb _ _ _ _ ?_);refine wpAny_newFunctionEnv_cells S.kind l λenv he s1 x=>?_;subst he;refine⟨aA.keeps x.toInCall.keep,codeAny_func ?_⟩;obtain⟨t,ht,hq⟩:=d A G s H vs Q E (hr.deeper _) h;have I:Inv (qC CX P w K mg U N M B f O A G s H E) [] (start N vs) H s1:=Ij S hr.hd m hl r x;refine L9 (ht [] s1 (start N vs) H _ I hq) (λfl s' g=>?_) λe s' g=>g;have i:∀{j:St}{z:Hp}{v:V}{u:Value},Inv (qC CX P w K mg U N M B f O A G s H E) [] j z s'->RelV v u->Q v z->CE G P w H s Q u s':=
  λ{j z v u} J rv q=>⟨v,z,J.os,J.bare,J.base,J.hok,rv,q⟩
 cases fl with
 |ret u=>
  obtain⟨v,j,z,J,rv,q⟩:=g;exact i J rv q
 |next=>
  obtain⟨j,z,J,q⟩:=g;exact i (v:=V.N) (u:=Value.none) J rfl q
 |brk=>
  obtain⟨_,_,_,q⟩:=g;exact False.elim q
 |cont=>
  obtain⟨_,_,_,q⟩:=g;exact False.elim q
section
variable{X:Cx}{x:Str}{p pos:Pos}{e:Expr}{es:P6}{t:TA}{id T:String}{r:S6->Hp->VK->Prop}
noncomputable def mO(r:S6->Hp->VK->Prop)(t:TA):TE:=λA H Q=>t A H λB E=>r B E Q
def zP(J:aW X (.builtin id) r)(M:Gl X x)(N:X.mg x=none)(O:L1 x=some (.builtin id))(U:PA X (e::es) t)(Y:x ≠ "__name__":=by decide)(B:(x==("__debug__":Str))=false:=by decide)
  (j:L8 (e::es) X.env=(false,eval e X.env)::L8 es X.env:=by rfl) (E:(L7 pos (L8 es X.env)).any (·.1)=false:=by rfl):PE X (.Call (.Name x p) (e::es) [] pos) (mO r t):=by
 intro A s G H Q I h;refine MD (wK I M N O ?_ Y B);exact PyProof.Rows.callWith_builtin1 (aT (U pos A s G H _ I h) λu z ⟨o,d,l,g,f⟩=>J A z G d o u Q l g f) j E
def vF(J:aW X (.type T) r)(M:Gl X x)(N:X.mg x=none)(O:L1 x=some (.type T))(U:PA X (e::es) t)(Y:x ≠ "__name__":=by decide)(B:(x==("__debug__":Str))=false:=by decide)
  (j:L8 (e::es) X.env=(false,eval e X.env)::L8 es X.env:=by rfl) (E:(L7 pos (L8 es X.env)).any (·.1)=false:=by rfl):PE X (.Call (.Name x p) (e::es) [] pos) (mO r t):=by
 intro A s G H Q I h;refine MD (wK I M N O ?_ Y B);exact PyProof.Rows.callWith_type1 (aT (U pos A s G H _ I h) λu z ⟨o,d,l,g,f⟩=>J A z G d o u Q l g f) j E
end
end L2
namespace HT
open PySem PyProof.Rows
noncomputable def lexLt:P8->P8->Bool
 |[],[]=>false
 |[],_::_=>true
 |_::_,[]=>false
 |x::A,y::B=>if x=y then lexLt A B else decide (x<y)
def aQ(x y:Int)(xs ys:P8):lexLt (x::xs) (y::ys)=if x=y then lexLt xs ys else decide (x<y):=rfl
def cR(A:L3)(s:Shared)(a:Int)(t:Tok)(c:Int)(u:Tok)(prog:LU)(w:LV)(E:N7)(Q:N7)(h:Q (.bool (decide (a<c))) s):
  L5 (L6 prog w) A (MJ .Lt (.int a t) (.int c u)) Q E s:=
 (PyProof.Rows.lt_int h:L5 (L6 prog w) A (Mv .Lt (.int a t) (.int c u)) Q E s)
section
variable{prog:LU}{w:LV}{A:L3}{E:N7}{s:Shared}
def eh (g:IsTup s.heap t vs.toArray)(f:IsTup s.heap b ws.toArray)(U:vs≠[])(m:ws=[]->Q (.ref t) s)(h:ws≠[]->Q (.ref s.heap.objs.size) {s with heap:=s.heap.push {cls:=.type "tuple",data:=.seq (vs++ws).toArray} })(O:vs.length+ws.length<=sizeLine):L5 (L6 prog w) A (Mu .Add (.ref t) (.ref b)) Q E s:=by
 obtain⟨⟨i,Y,j,u⟩,M,z,n,o⟩:=id g;obtain⟨⟨d,G,data2,H⟩,B,I,l,J⟩:=id f;simp only at z o I J;subst z o I J;have e:vs.toArray++ws.toArray=(vs++ws).toArray:=by simp
 by_cases N:ws=[]
 .exact MK ⟨_,M,rfl⟩ ⟨_,B,rfl⟩ ML MM PySem.F.slot_tuple_add PySem.F.entry_tuple_add (PySem.F.args_tuple_add_2 _ _)
   (tuple_addW1 t b vs.toArray ws.toArray n l Y G u H (by simpa using U) (by simp[N])) ⟨M,B,m N⟩
 .refine MK ⟨_,M,rfl⟩ ⟨_,B,rfl⟩ ML MM PySem.F.slot_tuple_add PySem.F.entry_tuple_add (PySem.F.args_tuple_add_2 _ _)
   (tuple_addW2 t b vs.toArray ws.toArray n l Y G u H (by simpa using U) (by simpa using N) (by rw[QA,QA];exact O)) ⟨M,B,?_⟩
  rw[e];exact h N
noncomputable def Jn(n d:Nat):Option Int->Nat
 |none=>d
 |some v=>if v<0 then(v+(n:Int)).toNat else min v.toNat n
end
end HT
namespace L2
open PySem PySem.Spec PyProof.Rows
abbrev TO:=St->Hp->(Option Int->Hp->Prop)->Prop
section
variable{X:Cx}{p2:Pos}
noncomputable def so(K:Qb):R2:=λx y H Q=>∃a b B A,x=.ref a/\y=.ref b/\bC K H a B/\bC K H b A/\B≠[]/\B.length+A.length<=sizeLine /\
 (A=[]->Q (.ref a) H)/\(A≠[]->∀p,H p=none->Q (.ref p) (aG H p (.T (B++A))))
def az.nil_iff (r:az xs A):A=[]↔xs=[]:=by
 cases r with
 |nil=>simp
 |cons _ _=>simp
def dT:bV X (Mu .Add) (so X.K):=by
 intro E s t H x y v u Q I M N h;obtain⟨a,b,O,U,rfl,rfl,Y,j,d,G,l,g⟩:=h;cases M;cases N;obtain⟨f,B,e,_⟩:=I.tuple Y;obtain⟨J,A,p2,_⟩:=I.tuple j;refine HT.eh e p2 (λz=>d (B.nil_iff.mp z)) (λz=>⟨.ref a,H,I,rfl,l (A.nil_iff.mp z)⟩) (λz=>?_) (by rw[<-B.length,<-A.length];exact G);refine⟨.ref s.heap.objs.size,_,I.laid (t':=s.toks) (o:=.T (O++U)) (λb m q=>Qc _ q) (Qk _) ?_,rfl,g (λw=>z (A.nil_iff.mpr w)) _ (I.hok.fresh (Qk _))⟩;exact⟨by rw[QP];exact G,_,B.append A,IsTup.new _ _⟩
end
noncomputable def fF(n:Nat)(i:Int):Option Nat:=if 0<=i then(if i<n then some i.toNat else none)else if -(n:Int)<=i then some (i+n).toNat else none
noncomputable def e8{A:Type}(xs:List A)(i:Int):Option A:=(fF xs.length i).bind λj=>xs[j]?
def uO (h:fF n i=some j):seqIndex? i n=some j/\j<n/\-(n:Int)<=i/\i<n:=by
 unfold fF at h;by_cases B:0<=i
 .rw[N0 B]at h;by_cases A:i<n
  .rw[N0 A]at h;have e:i.toNat=j:=Option.some.inj h;exact⟨by rw[MN B A,e],by lia,by lia,A⟩
  .rw[N1 A]at h;cases h
 .rw[N1 B]at h;by_cases A:-(n:Int)<=i
  .rw[N0 A]at h;have e:(i+n).toNat=j:=Option.some.inj h;exact⟨by rw[MO (by lia) A,e],by lia,A,by lia⟩
  .rw[N1 A]at h;cases h
def gw (h:e8 xs i=some v):∃j,seqIndex? i xs.length=some j/\xs[j]?=some v/\j<xs.length/\-(xs.length:Int)<=i/\i<xs.length:=by
 unfold e8 at h;cases e:fF xs.length i with
 |none=>rw[e]at h;cases h
 |some j=>
  rw[e]at h;obtain⟨A,B,E,G⟩:=uO e;exact⟨j,A,h,B,E,G⟩
noncomputable def gy(b:Expr):Prop:=∀o i,subscripted b false o i=operate [o,i] (getItem o i)
noncomputable def dF(X:Cx)(r:R2):Prop:=
 ∀(E A:Expr) (B:O0) (s:Shared) (G:St) (H:Hp) (x y:V) (v u:Value) (Q:VK),Inv X B G H s->RelV x v->RelV y u->r x y H Q ->
  subscripted A false v u=operate [v,u] (getItem v u)->L5 (L6 X.prog X.w) X.A (subscriptTail E A v u) (EP X B G Q) X.xe s
noncomputable def eJ(X:Cx)(id:String)(r:V->S6->Hp->VK->Prop):Prop:=
 ∀(A:O0) (s:Shared) (B:St) (H:Hp) (x:V) (E:S6) (v:Value) (G:O7) (Q:VK),Inv X A B H s->RelV x v->az E G->r x E H Q ->
  L5 (L6 X.prog X.w) X.A (call (.builtin id) (v::G)) (EP X A B Q) X.xe s
section
variable{X:Cx}{a b:Expr}{ta tb:TE}{pos:Pos}
def dF.or{r G:R2}(h:dF X r)(h':dF X G):dF X (λx y H Q=>r x y H Q\/G x y H Q):=by
 intro A B E s J H x y v u Q I M N q O;rcases q with q|q
 .exact h A B E s J H x y v u Q I M N q O
 .exact h' A B E s J H x y v u Q I M N q O
def iV (B:dF X r)(E:PE X a ta)(G:PE X b tb)(J:gy b):PE X (.Subscript a b pos) (dM r ta tb):=by
 intro A s M H Q I h;exact Subscript_ (lJ E G I h λv u N x y O U Y j q=>B a b A N M O x y v u Q U Y j q (J _ _))
noncomputable def sk(K:Qb):R2:=λx y H Q=>∃p A i v,x=.ref p/\y=.int i/\bb K H p A/\e8 A i=some v/\Q v H
noncomputable def si(K:Qb):R2:=λx y H Q=>∃p A i v,x=.ref p/\y=.int i/\bC K H p A/\e8 A i=some v/\Q v H
noncomputable def sg:R2:=λx y H Q=>∃z i c,x=.str z/\y=.int i/\z.length<=sizeLine/\e8 z.cps.toList i=some c/\Q (.str ⟨#[c]⟩) H
def dZ:dF X (sk X.K):=by
 intro G J A s Y H x y v u Q I g f h o;obtain⟨p,xs,i,z,rfl,rfl,e,m,q⟩:=h;cases g;obtain⟨t,rfl⟩:=f;obtain⟨M,r,N,hz⟩:=I.list e;obtain⟨j,E,n,h3,h4,h5⟩:=gw m;obtain⟨w,d,O⟩:=r.get n;have hl:=r.length;have hn:=kP;have B:EP X A Y Q w s:=⟨z,H,I,O,q⟩;by_cases l:0<=i
 .have U:i.toNat=j:=by
   rw[MN l h5]at E;exact Option.some.inj E
  exact item_listR N.isList l (by lia) (by rw[U];simpa using d) B o
 .have U:(i+(M.toArray.size:Int)).toNat=j:=by
   rw[MO (by lia) h4]at E;rw[QA,<-hl];exact Option.some.inj E
  exact MP (x:=w) N.isList.typeIs slot_list_getitem.lookup
   (wpAny_getItem_list_neg (Q:=λr s'=>r=w/\EP X A Y Q r s') N.isList (by lia) (by rw[QA]<;>lia) (by lia) (by rw[U];simpa using d) ⟨rfl,B⟩) o
def eY:dF X (si X.K):=by
 intro B E A s M H x y v u Q I O U h Y;obtain⟨p,n,i,z,rfl,rfl,o,d,q⟩:=h;cases O;obtain⟨t,rfl⟩:=U;obtain⟨l,r,N,hz⟩:=I.tuple o;obtain⟨j,g,f,h3,h4,h5⟩:=gw d;obtain⟨w,e,G⟩:=r.get f;have hl:=r.length;have hn:=kP;have J:EP X A M Q w s:=⟨z,H,I,G,q⟩;exact MP (x:=w) N.typeIs slot_tuple_getitem.lookup
  (getItem_tuple (j:=j) (Q:=λr m=>r=w/\EP X A M Q r m) N (by lia) (by lia) (by rw[QA,<-hl];exact g) (by simpa using e) ⟨rfl,J⟩) Y
def Dw:dF X sg:=by
 intro A B E s g H x y v u Q I J M h N;obtain⟨z,i,c,rfl,rfl,f,O,q⟩:=h;obtain⟨t,rfl⟩:=J;obtain⟨e,rfl⟩:=M;obtain⟨j,G,U,m,Y,o⟩:=gw O;have hl:z.cps.toList.length=z.length:=by simp[Str.length]
 rw[hl]at G Y o;have n:=kP;exact tail_any (typeIs_str s z t) slot_str_getitem.lookup (getItem_str (c:=c) (by
  have d:decide (i < -(2^63:Int))=false:=NZ (by lia);have l:decide (i ≥ 2^63)=false:=NZ (by lia);rw[d,l,Bool.or_false]) (by rw[G];simpa using U) ⟨.str ⟨#[c]⟩,H,I.tok _,⟨_,rfl⟩,q⟩) N
noncomputable def AV(K:Qb):R2:=λx y H Q=>sk K x y H Q\/si K x y H Q\/sg x y H Q
def Dv:dF X (AV X.K):=dZ.or (eY.or Dw)
def Jb(its:O7)(n j:Nat)(u:Value):Obj.mapSeq (·.setIfInBounds j u) {cls:=.type "list",data:=.seq its.toArray n}={cls:=.type "list",data:=.seq (its.set j u).toArray n}:=by
 simp[Obj.mapSeq]
theorem Inv.L (I:Inv X A σ H s)(h:H p=some (.L xs)):
  ∃(its:O7) (n:Nat),az xs its/\s.heap.get? p=some {cls:=.type "list",data:=.seq its.toArray n}/\xs.length<=sizeLine:=by
 obtain⟨z,its,n,r,e⟩:=I.hok p _ h;exact⟨its,n,r,e,z⟩
def Inv.lstUpd{A:O0}{σ:St}{H:Hp}{s:Shared}{p:Addr}{xs ys:S6}{its its':O7}{n B:Nat}{f:Obj->Obj}(I:Inv X A σ H s)(h:H p=some (.L xs))
  (G:s.heap.get? p=some {cls:=.type "list",data:=.seq its.toArray n}) (E:f {cls:=.type "list",data:=.seq its.toArray n}={cls:=.type "list",data:=.seq its'.toArray B }) (r:az ys its') (J:ys.length<=sizeLine) (t:Nat) :
  Inv X A σ (aG H p (.L ys)) {s with heap:=s.heap.update p f,toks:=t}:=by
 have e:(s.heap.update p f).get? p=some {cls:=.type "list",data:=.seq its'.toArray B }:=by
  rw[Wy f G (by rw[E]<;>rfl),E]
 refine I.write (x:=p) (e:=p) (by rw[h];trivial) (.inl rfl) (λb u M q=>(VH _ _ (Ne.symm M)).trans q) ⟨_,e⟩ ?_;exact⟨J,its',B,r,e⟩
noncomputable def l6:V->V->V->Hp->(Hp->Prop)->Prop:=λo i v H Q=>∃p A k j,o=.ref p/\i=.int k/\H p=some (.L A)/\fF A.length k=some j/\Q (aG H p (.L (A.set j v)))
def HQ:lK X l6:=by
 intro A s z H o i v w y u Q I d l g h;obtain⟨p,f,k,j,rfl,rfl,M,e,q⟩:=h;cases d;obtain⟨t,rfl⟩:=l;obtain⟨B,n,r,G,m⟩:=I.L M;obtain⟨E,h2,N,O⟩:=uO e;have hl:=r.length;have hn:=kP;have U:Inv X A z (aG H p (.L (f.set j v))) {s with heap:=s.heap.update p (Obj.mapSeq (·.setIfInBounds j u))} :=
  I.lstUpd M G (Jb B n j u) (r.set g j) (by rw[Wx];exact m) s.toks
 by_cases Y:0<=k
 .have J:k.toNat=j:=by
   rw[MN Y O]at E;exact Option.some.inj E
  exact PySem.W.ki_setAt G Y (by lia) (by rw[QA,<-hl];exact O) (by rw[J];exact⟨_,U,q⟩)
 .have J:(k+(B.toArray.size:Int)).toNat=j:=by
   rw[MO (by lia) N]at E;rw[QA,<-hl];exact Option.some.inj E
  exact PySem.W.ki_setBack G (by lia) (by rw[QA,<-hl];exact N) (by lia) (by rw[J];exact⟨_,U,q⟩)
def gA:aW X (.builtin "len") (λxs H Q=>∃p ys,xs=[.ref p]/\(bb X.K H p ys\/bC X.K H p ys)/\Q (.int ys.length) H):=by
 intro J s O H xs U Q I r h;obtain⟨p,ys,rfl,hq,q⟩:=h;obtain⟨u,rfl,M⟩:=xb r;cases M;have Y:=kP;rcases hq with hq|hq
 .obtain ⟨B,E,G,N⟩:=I.list hq;have A:=E.length;exact Calls.call_len_list G.isList (by simp only[QA]<;>lia) ⟨.int ys.length,H,I.tok _,⟨s.toks+1,by rw[QA,A]⟩,q⟩
 .obtain ⟨B,E,G,N⟩:=I.tuple hq;have A:=E.length;exact len_tuple G (by simp only[QA]<;>lia) ⟨.int ys.length,H,I.tok _,⟨s.toks+1,by rw[QA,A]⟩,q⟩
def gB:aW X (.type "list") (λxs H Q=>∃p ys,xs=[.ref p]/\(bb X.K H p ys\/bC X.K H p ys)/\∀l,H l=none->Q (.ref l) (aG H l (.L ys))):=by
 intro J s g H xs t Q I r h;obtain⟨p,ys,rfl,hq,q⟩:=h;obtain⟨u,rfl,f⟩:=xb r;cases f;have M:∀(A:O7),az ys A->ys.length<=sizeLine->∀(B:LY) (E:Nat),(∀b d,s.heap.get? b=some d->B.get? b=some d) ->
   B.get? s.heap.objs.size=some {cls:=.type "list",dict:=none,data:=.seq A.toArray E,slots:=#[]}->EP X J g Q (.ref s.heap.objs.size) {s with heap:=B }:=λA G N B E kp e=>
  ⟨.ref s.heap.objs.size,_,I.laid (t':=s.toks) kp (Qk _) (show bc X.prog X.w _ B _ (.L ys)from⟨N,A,E,G,e⟩),rfl,q _ (I.hok.fresh (Qk _))⟩
 rcases hq with hq|hq
 .obtain ⟨A,G,U,N⟩:=I.list hq;have O:=G.length;obtain⟨o,Y,j,n,z⟩:=U.isList;exact call_list_seq p (.inl rfl) Y j z (λB E kp e=>M A G N B E kp e) (by simp only[QA]<;>lia)
 .obtain ⟨A,G,U,N⟩:=I.tuple hq;have O:=G.length;obtain⟨o,Y,j,n,z⟩:=U;exact call_list_seq p (.inr rfl) Y j z (λB E kp e=>M A G N B E kp e) (by simp only[QA]<;>lia)
def jH:aW X (.type "tuple") (λxs H Q=>∃p ys,xs=[.ref p]/\((bb X.K H p ys/\∀l,H l=none->Q (.ref l) (aG H l (.T ys)))\/(bC X.K H p ys/\Q (.ref p) H))):=by
 intro A s N H xs d Q I r h;obtain⟨p,ys,rfl,h⟩:=h;obtain⟨u,rfl,j⟩:=xb r;cases j;rcases h with⟨G,q⟩|⟨G,q⟩
 .obtain ⟨B,J,M,O⟩:=I.list G;have U:=J.length;refine call_tuple_list M.isList (λE kp=>?_) (by simp only[QA]<;>lia);have Y:Inv X A N H {s with heap:=E }:=I.kept (t':=s.toks) kp;have z:Inv X A N (aG H E.objs.size (.T ys)) {s with heap:=E.push {cls:=.type "tuple",data:=.seq B.toArray} } :=
   Y.laid (t':=s.toks) (λb o e=>Qc _ e) (Qk _) (show bc X.prog X.w _ _ _ (.T ys)from⟨O,B,J,IsTup.new _ _⟩)
  exact⟨.ref E.objs.size,_,z,rfl,q _ (Y.hok.fresh (Qk _))⟩
 .obtain ⟨B,J,M,O⟩:=I.tuple G;exact call_tuple_same M ⟨.ref p,H,I,rfl,q⟩
noncomputable def i7(K:Qb)(T:String)(x:V)(H:Hp):Prop:=match x with
 |.ref p=>T="list" /\ ∃A,bb K H p A
 |_=>False
def tW (I:Inv X A σ H s)(r:RelV x v)(B:i7 X.K T x H):
  s.TypeIs v T/\∀a,v=.ref a->∃ob,s.heap.get? a=some ob/\ob.dict=none:=by
 cases x with
 |ref p=>
  cases r;obtain⟨rfl,N,G⟩:=B;obtain⟨J,_,E,_⟩:=I.list G;refine⟨E.isList.typeIs,λa e=>?_⟩;cases e;obtain⟨o,n,e,c,M,_⟩:=E;exact⟨o,e,M⟩
 |_=>exact False.elim B
noncomputable def mP(K:Qb)(T:String)(r:V->S6->Hp->VK->Prop)(B:TE):TE:=λE H Q=>B E H λx A=>i7 K T x A/\r x [] A Q
noncomputable def Jl(K:Qb)(T:String)(r:V->S6->Hp->VK->Prop)(E:TE)(t:TA):TE:=λA H Q=>E A H λx B=>i7 K T x B/\t A B λG I=>r x G I Q
variable{o e:Expr}{es:P6}{to:TE}{t:TA}{name:Str}{apos cpos:Pos}{T id:String}{r:V->S6->Hp->VK->Prop}
def Du(pa:PlainAttrs T)(G:Slot T name id)(J:typeOf (.builtin id)=pure (.type "method_descriptor"))(U:eJ X id r)(Y:PE X o to)
  (B:MQ o name X.env (eval o X.env)=eval o X.env:=by rfl) (E:(apos.endLine==cpos.line)=true:=by rfl):PE X (.Call (.Attribute o name apos) [] [] cpos) (mP X.K T r to):=by
 intro A s M H Q I h;refine MR B E (aT (Y A s M H _ I h) λv j ⟨x,u,N,O,z,d⟩=>?_);obtain⟨l,g⟩:=tW N O z;exact⟨T,id,pa,G,J,l,g,Calls.callWith_builtin rfl (PySem.evalArgs_none (U A j M u x [] v [] Q N O .nil d))⟩
def sn(pa:PlainAttrs T)(J:Slot T name id)(N:typeOf (.builtin id)=pure (.type "method_descriptor"))(u:eJ X id r)(z:PE X o to)(d:PA X (e::es) t)
  (E:MQ o name X.env (eval o X.env)=eval o X.env:=by rfl)
  (M:((L7 cpos (L8 (e::es) X.env)).all (λx=>! x.1)&&(MS cpos (MT [] X.env)).all (λx=>x.1.isSome)
   && decide ((e::es).length+([]:List MU).length+(if([]:List MU).isEmpty then 0 else 1)<30))=true:=by rfl)
  (G:(apos.endLine==cpos.line)=true:=by rfl) (l:L8 (e::es) X.env=(false,eval e X.env)::L8 es X.env:=by rfl) (B:(L7 cpos (L8 es X.env)).any (·.1)=false:=by rfl) :
  PE X (.Call (.Attribute o name apos) (e::es) [] cpos) (Jl X.K T r to t):=by
 intro A s O H Q I h;refine MV E M G rfl (aT (z A s O H _ I h) λv g ⟨x,f,U,Y,m,n⟩=>?_);obtain⟨i,w⟩:=tW U Y m;refine⟨T,id,pa,J,N,i,w,?_⟩;have j:=d cpos A g O f _ U n;rw[l]at j ⊢;refine Calls.callWith_builtin (by show(false || (L7 cpos (L8 es X.env)).any (·.1))=false;rw[B]<;>rfl) (Calls.evalArgs_plain ?_);exact aT j λy s2 ⟨vs,H2,I2,r2,q2⟩=>u A s2 O H2 x vs v y Q I2 Y r2 q2
end
noncomputable def iF(X:Cx)(id:String)(r:V->S6->Hp->VK->Prop):Prop:=
 ∀(A:O0) (s:Shared) (B:St) (H:Hp) (x:V) (E:S6) (v:Value) (G:O7) (Q:VK),Inv X A B H s->RelV x v->az E G->r x E H Q ->
  L5 (L6 X.prog X.w) X.A (call (.builtin id) (v::G)) (EP X A B Q) X.xe s
def az.one:∀{x:V}{A:O7},az [x] A->∃u,A=[u]/\RelV x u
 |_,_,.cons r .nil=>⟨_,rfl,r⟩
def az.zero:∀{A:O7},az [] A->A=[]
 |_,.nil=>rfl
theorem az.dropLast{xs:S6}{A:O7}(h:az xs A):az xs.dropLast A.dropLast:=by
 induction h with
 |nil=>exact .nil
 |cons r t B=>
  cases t with
  |nil=>exact .nil
  |cons q E=>exact .cons r B
theorem az.eraseIdx:∀{xs:S6}{A:O7}(i:Nat),az xs A->az (xs.eraseIdx i) (A.eraseIdx i)
 |_,_,_,.nil=>.nil
 |_,_,0,.cons _ t=>t
 |_,_,i+1,.cons r t=>.cons r (az.eraseIdx i t)
theorem az.reverse{xs:S6}{A:O7}(h:az xs A):az xs.reverse A.reverse:=by
 induction h with
 |nil=>exact .nil
 |cons r t B=>rw[Wj,Wj];exact az.append B (.cons r .nil)
theorem az.rep (h:az xs A):∀k:Nat,az (QH k xs).flatten (QH k A).flatten
 |0=>.nil
 |k+1=>by
  rw[Wa,Wa,Q7,Q7];exact az.append h (az.rep h k)
def Ja{A:Type}(l:List A):l.eraseIdx (l.length-1)=l.dropLast:=by
 induction l with
 |nil=>rfl
 |cons a r B=>
  cases r with
  |nil=>rfl
  |cons b r=>
   have e:(a::b::r).length-1=((b::r).length-1)+1:=by
    have E:(a::b::r).length=r.length+2:=rfl;have G:(b::r).length=r.length+1:=rfl;lia
   rw[e,List.eraseIdx_cons_succ,B]
   all_goals rfl
theorem jT(its:O7):∀(k:Nat) (acc:O7),
  Vz (λA B=>A++B) acc.toArray (QH k its.toArray)=(acc++(QH k its).flatten).toArray
 |0,acc=>by simp
 |k+1,acc=>by
  have e:acc.toArray++its.toArray=(acc++its).toArray:=by simp
  have E:(acc++its)++(QH k its).flatten=acc++(QH (k+1) its).flatten:=by
   rw[Wa,Q7,QZ]
  rw[<-E,<-jT its k (acc++its),<-e,Wa,List.foldl_cons]
section
variable{X:Cx}{pins:O0}{σ:St}{H:Hp}{s:Shared}{l:Addr}{xs ys:S6}
def Inv.lset{its its':O7}{n:Nat}{f:O4->O4}{t':Nat}(I:Inv X pins σ H s)(A:H l=some (.L xs))
  (e:s.heap.get? l=some {cls:=.type "list",data:=.seq its.toArray n}) (B:f its.toArray=its'.toArray) (E:az ys its') (G:ys.length<=sizeLine) :
  Inv X pins σ (aG H l (.L ys)) {s with heap:=s.heap.update l (Obj.mapSeq f),toks:=t' }:=by
 have q:=PySem.IsL.update e f;rw[B]at q;refine I.write (x:=l) (e:=l) (by rw[A];exact trivial) (.inl rfl) (λN u J M=>(VH s.heap (Obj.mapSeq f) (Ne.symm J)).trans M) ⟨_,q⟩ ?_;exact⟨G,its',_,E,q⟩
def Inv.lnew{its:O7}{t':Nat}(I:Inv X pins σ H s)(A:az ys its)(B:ys.length<=sizeLine):
  Inv X pins σ (aG H s.heap.objs.size (.L ys)) {s with heap:=s.heap.push {cls:=.type "list",data:=.seq its.toArray},toks:=t' } :=
 I.laid (λ_ _ q=>Qc _ q) (Qk _) ⟨B,its,0,A,Qh _ rfl⟩
theorem Inv.fresh(I:Inv X pins σ H s):H s.heap.objs.size=none:=I.hok.fresh (Qk _)
def Inv.lstM(I:Inv X pins σ H s)(A:H l=some (.L xs)):xs.length<=sizeLine/\∃(its:O7) (n:Nat),az xs its/\xs.length=its.length/\s.heap.get? l=some {cls:=.type "list",data:=.seq its.toArray n}:=by
 obtain⟨z,its,n,r,e⟩:=I.hok l _ A;exact⟨z,its,n,r,r.length,e⟩
def HP (h:n<=sizeLine):Builtin.List.listTooLong n=false:=by
 unfold Builtin.List.listTooLong;exact NZ (by lia)
end
section
variable{X:Cx}
noncomputable def Fv:V->S6->Hp->VK->Prop:=λx B H Q=>∃l A y,x=.ref l/\B=[y]/\H l=some (.L A)/\A.length<sizeLine/\Q .N (aG H l (.L (A++[y])))
def jU:iF X "list.append" Fv:=by
 intro B s N H x O v U Q I G J h;obtain⟨l,Y,y,rfl,rfl,E,j,q⟩:=h;cases G;obtain⟨u,rfl,M⟩:=J.one;obtain⟨z,A,n,r,hl,e⟩:=I.lstM E;refine MW F.slot_list_append ⟨_,e,rfl⟩ F.entry_list_append (F.args_list_append_2 _ _) (PySem.list_append l A.toArray n u (by rw[QA];lia)) ⟨e,?_⟩;refine⟨.N,_,I.lset (its':=A++[u]) E e (by simp) (r.append (.cons M .nil)) ?_,rfl,q⟩;rw[QP,List.length_singleton];lia
noncomputable def mX:V->S6->Hp->VK->Prop:=λx B H Q=>∃l A y,x=.ref l/\B=[]/\H l=some (.L A)/\A[A.length-1]?=some y/\Q y (aG H l (.L A.dropLast))
def Dt:iF X "list.pop" mX:=by
 intro G s j H x o v d Q I M N h;obtain⟨l,g,y,rfl,rfl,J,O,q⟩:=h;cases M;have B:=N.zero;subst B;obtain⟨z,A,n,r,hl,e⟩:=I.lstM J;obtain⟨u,U,Y⟩:=r.get O;have E:A.toArray[A.toArray.size-1]?=some u:=by
  show A.toArray[A.length-1]?=some u;rw[<-Q5,<-hl];exact U
 refine MW F.slot_list_pop ⟨_,e,rfl⟩ F.entry_list_pop (F.args_list_pop_1 _) (MeetsSeq.list_pop_last l A.toArray n u E (by rw[QA];lia)) ⟨e,?_⟩;refine⟨y,_,I.lset (its':=A.dropLast) J e ?_ r.dropLast ?_,Y,q⟩
 .show A.toArray.eraseIdxIfInBounds (A.toArray.size-1)=A.dropLast.toArray;rw[QA,List.eraseIdxIfInBounds_toArray,Ja]
 .rw[List.length_dropLast];lia
noncomputable def HN:V->S6->Hp->VK->Prop:=λx B H Q=>∃l A,x=.ref l/\B=[]/\H l=some (.L A)/\Q .N (aG H l (.L A.reverse))
def IZ:iF X "list.reverse" HN:=by
 intro E s N H x O v U Q I J M h;obtain⟨l,Y,rfl,rfl,G,q⟩:=h;cases J;have B:=M.zero;subst B;obtain⟨z,A,n,r,hl,e⟩:=I.lstM G;refine MW F.slot_list_reverse ⟨_,e,rfl⟩ F.entry_list_reverse (F.args_list_reverse_1 _) (AutoSeq1.list_reverse_list_0 l A.toArray n (by rw[QA];lia)) ⟨e,?_⟩;refine⟨.N,_,I.lset (its':=A.reverse) G e (by simp) r.reverse ?_,rfl,q⟩;rw[List.length_reverse];lia
noncomputable def Ds:V->S6->Hp->VK->Prop:=λx A H Q=>∃l B,x=.ref l/\A=[]/\H l=some (.L B)/\Q .N (aG H l (.L []))
def HM:iF X "list.clear" Ds:=by
 intro E s N H x O v U Q I J M h;obtain⟨l,Y,rfl,rfl,G,q⟩:=h;cases J;have A:=M.zero;subst A;obtain⟨z,B,n,r,hl,e⟩:=I.lstM G;refine MW F.slot_list_clear ⟨_,e,rfl⟩ F.entry_list_clear (F.args_list_clear_1 _) (AutoSeq1.list_clear_list_0 l B.toArray n (by rw[QA];lia)) ⟨e,?_⟩;exact⟨.N,_,I.lset (its':=[]) (ys:=[]) G e rfl .nil (WT _),rfl,q⟩
noncomputable def sf:R2:=λx y H Q=>∃l b A B,x=.ref l/\y=.ref b/\H l=some (.L A)/\H b=some (.L B)/\A.length+B.length<=sizeLine/\∀p,H p=none->Q (.ref p) (aG H p (.L (A++B)))
def eU:bV X (Mu .Add) sf:=by
 intro E s o H x y v u Q I G J h;obtain⟨l,b,d,g,rfl,rfl,M,N,f,q⟩:=h;cases G;cases J;obtain⟨z,B,n,r,hl,e⟩:=I.lstM M;obtain⟨t,A,m,O,U,Y⟩:=I.lstM N;refine PySem.P.add_list e Y ?_ (by rw[QA,QA];lia);have j:B.toArray++A.toArray=(B++A).toArray:=by simp
 rw[j];exact⟨.ref _,_,I.lnew (t':=s.toks) (r.append O) (by rw[QP];lia),rfl,q _ I.fresh⟩
noncomputable def se:R2:=λx y H Q=>∃l k A,x=.ref l/\y=.int k/\H l=some (.L A)/\-(2^63)<=k/\k<2^63/\A.length*k.toNat<=sizeLine /\
 ∀p,H p=none->Q (.ref p) (aG H p (.L (QH k.toNat A).flatten))
def uN{A:Type}(xs:List A)(k:Nat):(QH k xs).flatten.length=k*xs.length:=by
 induction k with
 |zero=>simp
 |succ k B=>rw[Wa,Q7,QP,B,Nat.succ_mul,Nat.add_comm]
def Dr:bV X (Mu .Mult) se:=by
 intro Y s w H x y v u Q I o d h;obtain⟨l,k,xs,rfl,rfl,g,f,b,j,q⟩:=h;cases o;obtain⟨t,rfl⟩:=d;obtain⟨z,A,n,r,hl,e⟩:=I.lstM g;have E:A.toArray.size*k.toNat<=sizeLine:=by rw[QA,<-hl];exact j
 have G:¬A.toArray.size*k.toNat > (2^63-1)/8:=by
  have:(sizeLine:Nat)<=(2^63-1)/8:=by decide
  lia
 have J:¬(! Builtin.List.listFitsIndex k)=true:=by
  rw[fitsIndex_both f b];exact QQ
 have B:¬Builtin.List.listTooLong (A.toArray.size*k.toNat)=true:=by
  rw[HP E];exact QQ
 have M:Vz (λN O=>N++O) #[] (QH (if A.toArray.isEmpty=true then 0 else k.toNat) A.toArray)=(QH k.toNat A).flatten.toArray:=by
  have f0:∀m:Nat,Vz (λN O=>N++O) #[] (QH m A.toArray)=(QH m A).flatten.toArray:=λm=>by
   have:=jT A m [];rw[Wp]at this;exact this
  rw[f0];cases A with
  |nil=>simp
  |cons a r'=>rw[N1 (by simp)]
 refine wpAny_binaryOp_repeat_ref (T:="list") (U:="int") (by decide) ⟨_,e,rfl⟩ (λi=>typeIs_int i k t) noFill_list_mul F.fills_int_mul F.slot_int_rmul repeat_list F.slot_int_index.lookup
  (MW F.slot_int_rmul (typeIs_int s k t) F.entry_int_rmul (F.args_int_rmul_2 _ _) (int___rmul___int_list k t l A.toArray n)
   ⟨e,rfl,⟨_,e,rfl⟩,MW F.slot_list_mul ⟨_,e,rfl⟩ F.entry_list_mul (F.args_list_mul_2 _ _) (AutoListH.list___mul___list_int_3 l A.toArray n k t J G B) ⟨e,?_⟩⟩)
 rw[M];exact⟨.ref _,_,I.lnew (t':=s.toks) (r.rep k.toNat) (by rw[uN,Nat.mul_comm];exact j),rfl,q _ I.fresh⟩
end
end L2
namespace Att
open PySem PySem.W PySem.Calls PyProof.Rows
def ko:∀(A:P8) (vs:O7),WellAll P h vs (A.map WData.int)->MX vs A:=by
 intro A
 induction A with
 |nil=>
  intro vs w;rw[VG]at w;cases w;exact .nil
 |cons n A B=>
  intro vs w;rw[QS]at w;cases w with
  |cons a b=>
   cases a;exact .cons _ _ (B _ b)
def Ii {l:OpenLaw}(U:l.most=some n)(E:l.row.toRowW.claim.pre A=true)(N:WellAll P h G A):
  ∃a vs B,G=[Value.ref a]/\A=[WData.list (B.map WData.int)]/\h.get? a=some {cls:=.type "list",data:=.seq vs.toArray}/\MX vs B/\B.length<=n:=by
 have O:WShape.hasAll [] A [.list .int]=true:=(pre_splitW E).1;have Q:l.pre.holds [] {args:=A}=true:=(pre_splitW E).2;obtain⟨d,r,rfl,Y,j⟩:=hasAllW_cons O;obtain rfl:=hasAllW_nil j;obtain⟨e,rfl,u⟩:=hasW_list Y;obtain⟨B,rfl⟩:=items_int u;have H:B.length<=n:=by
  unfold OpenLaw.pre at Q;have J:(WTm.not (.lt (.lit (.int (n:Int))) (.len (.arg 0)))).holds [] {args:=[.list (B.map .int)]}=true:=by
   have J:=(holds_andW Q).1;rw[U]at J;exact J
  have M:=condW_of J (w_not (w_lt w_lit (w_len_list (w_arg rfl))));rw[Qs]at M;refine Nat.le_of_not_lt λq=>?_;have z:(n:Int)<((B.length:Nat):Int):=by lia
  first
   |(rw[N3 z]at M;exact N2 M (by decide))
   |(simp at M;lia)
 cases N with
 |cons o g=>
  cases g;cases o with
  |list f I=>exact⟨_,_,B,rfl,rfl,f,ko B _ I,H⟩
def Ih(l:OpenLaw)(A:List WData):l.row.toRowW.claim.post A (.bool true) A=true:=
 postW_of (r:=l.row.toRowW) (X:=(true==true))
  (show WShape.has [] (.bool true) .bool=true by first|rfl|decide|simp[WShape.has,WShape.arms,WShape.armsAll])
  (show(WTm.eq .res (.lit (.bool true))).value [] {args:=A,res:=some (.bool true),after:=A}=some (.bool (true==true))from w_eq_bool (w_res rfl) w_lit) rfl
def cU {l:OpenLaw}(b:l.most=some n)(Q:d.params.defaults=[])(call:∀(w:LV) (B A:Shared) (N U:N8) (H:Addr) (o:Obj) (pm cd doc:Value) (a:Addr) (vs:O7) (O:P8),
   Ground q loose [] XP w B N U A.heap->h w A.heap ->
   A.heap.get? H=some o->o.data=.func (docDef d.name d.params d.body d.scope pm cd doc)->A.heap.CodeRec cd d.name->N d.name=some (.ref H) ->
   A.heap.get? a=some {cls:=.type "list",data:=.seq vs.toArray}->MX vs O->O.length<=n->A.gens=#[] ->
   MB (L6 l.prog w) MY (.call (.ref H) ⟨[.ref a],[]⟩) (λr s'=>r=.ok (.ret (.bool true))/\OldK A.heap s'.heap/\s'.os=A.os/\L4 s'.gens) A):
  WalkO q loose XP h l.row.toRowW d [] (λf vs=>PySem.call f vs):=by
 intro w B A N U G Y H o pm cd doc i kV y hd j g u hg e t as I m hrd z hlo;obtain rfl:i=.none:=Dflts.none g Q;obtain rfl:kV=.none:=Dflts.noKw g;obtain⟨a,vs,O,rfl,rfl,J,E,M⟩:=Ii b I z;refine enter_call (MC (call w B A N U H o pm cd doc a vs O G Y y (fd_plain hd) j u J E M hg) λr s' hq=>?_);obtain⟨rfl,h2,h3,h4⟩:=hq;exact⟨.inl ⟨.bool true,.bool true,[],rfl,λ_=>rfl,.bool true,Ih l _,λ_=>⟨List.Pairwise.nil,λ_ hm=>(nomatch hm)⟩⟩,h2,h3,h4⟩
end Att
namespace L2
open PySem PySem.Spec PyProof.Rows
theorem jV:∀{vs:O7}{A:P8},MX vs A->az (A.map V.int) vs
 |_,_,.nil=>.nil
 |_,_,.cons n t h=>.cons ⟨t,rfl⟩ (jV h)
noncomputable def iL(H:Hp):Prop:=∀b,H b=none\/∃o A,H b=some (.frz o (.L A))
def HL {K:Qb}(KX:K.In A.heap)(Q:A.heap.Ns L0 mg)(B:A.heap.Ns builtinsNs mb)(hbb:∀x:Str,x ≠ "__name__" -> mb x=L1 x)(U:A.heap.NoLimit)(hg:A.gens=#[])(ha:A.heap.get? a=some {cls:=.type "list",data:=.seq vs.toArray})(hi:MX vs ns)(hl:ns.length<=sizeLine)(hr:bY k MY)(F:∀E:LY,K.In E->E.Ns L0 mg->cx P w K mg E CX k fa fd [x] sp)(M:∀(s:Shared) (u:Value),BindsTo s fd ⟨[u],[]⟩ [(x,u)])(hsp:∀H:Hp,iL H->bb K H a (ns.map V.int)->sp [.ref a] H (λv _=>v=.bl true) λ_ _ _=>False)(hCX:∀H e s',CX [] H A (λ_ _ _=>False) e s'->False):
  MB (L6 P w) MY (.call (.ref fa) ⟨[.ref a],[]⟩) (λr s'=>r=.ok (.ret (.bool true))/\OldK A.heap s'.heap/\s'.os=A.os/\L4 s'.gens) A:=by
 have rv:=jV hi;have Y:=hi.length
 -- from an N heap in which j but l G may be g
 have J:∀H:Hp,iL H->bb K H a (ns.map V.int)->cf P w H A.heap->(∀b,H b≠none->b=a)->(H a≠none->K.lookup a=none) ->
   MB (L6 P w) MY (.call (.ref fa) ⟨[.ref a],[]⟩) (λr s'=>r=.ok (.ret (.bool true))/\OldK A.heap s'.heap/\s'.os=A.os/\L4 s'.gens) A:=by
  intro H hO hS f hA hK;have bp:∀{b:Addr}{o:Obj},A.heap.get? b=some o->H b=none->(gq A.heap H).get? b=some o:=λe n=>Hm e n;have noA:∀{b:Addr}{o:Obj}{t:Array DictEntry}{i:Nat},A.heap.get? b=some o->o.data=.dict t i->H b=none:=λ{b o t i} e d=>by
   cases q:H b with
   |none=>rfl
   |some u=>
    have e':b=a:=hA b (by rw[q];simp);subst e';rw[ha]at e;cases e;have d':Data.seq vs.toArray _=Data.dict t i:=d;cases d'
  have I:∀{b:Addr}{m:N8},A.heap.Ns b m->(gq A.heap H).Ns b m:=λ{b m} ⟨o,t,i,e,d,r⟩=>⟨o,t,i,bp e (noA e d),d,r⟩;have y:K.In (gq A.heap H):=λb o e=>bp (KX b o e) (by
   cases q:H b with
   |none=>rfl
   |some u=>
    have e':b=a:=hA b (by rw[q];simp);subst e';rw[hK (by rw[q];simp)]at e;cases e)
  have hM:Mod K mg (gq A.heap H):=⟨y,I Q,⟨mb,I B,hbb⟩,let⟨mc,h1,h2⟩:=U;⟨mc,I h1,h2⟩⟩;have e0:eA P w K mg (gq A.heap H) MY [] A H:=⟨rfl,hM,λb o e=>Go e,Vp (Iu _ _),trivial,λb B=>N2 (show b∈([]:O9)from B) (by simp),f,.of_eq hg⟩;refine MC ((F _ y (I Q)).run MY [] A H ⟨[.ref a],[]⟩ [.ref a] [.ref a] _ _ hr e0 (M A (.ref a)) (.cons rfl .nil) (hsp H hO hS)) λr s' h=>?_;cases r with
  |error e=>exact(hCX H e s' h).elim
  |ok fl=>
   cases fl with
   |next=>exact False.elim h
   |brk=>exact False.elim h
   |cont=>exact False.elim h
   |ret u=>
    obtain⟨v,H',os,bare,un,hok',r',q⟩:=h;have q':v=.bl true:=q;subst q';obtain rfl:u=Value.bool true:=r';refine⟨rfl,OldK.of_keep λb o e=>?_,os,bare⟩;cases q:H b with
    |none=>exact un.keep b o e q (by intro z;exact N2 (show b∈([]:O9)from z) (by simp)) (by simp)
    |some u=>
     rcases hO b with z|⟨ob,xs,z⟩
     .rw[q]at z;cases z
     .have z2:=un.frzs b ob _ z;obtain⟨e1,_⟩:=f b _ z;obtain⟨e2,_⟩:=hok' b _ z2;rw[e]at e1;cases e1;exact e2
 cases hk:K.lookup a with
 |some o=>
  -- l G is one of l O own objects
  have e:=KX a o hk;rw[ha]at e;cases e;refine J (λ_=>none) (λ_=>.inl rfl) (.inr ⟨_,vs.toArray,_,hk,rfl,rfl,rfl,by rw[QA,Y];exact hl,by simpa using rv⟩) (λb u z=>by have z':(none:Option HO)=some u:=z;cases z') (λb z=>N2 rfl z) λz=>N2 rfl z
 |none=>
  refine J (λb=>if b=a then some (.frz {cls:=.type "list",data:=.seq vs.toArray} (.L (ns.map V.int)))else none) (λb=>?_) (.inl (.inr ⟨{cls:=.type "list",data:=.seq vs.toArray},N0 rfl⟩)) (λb u z=>?_) (λb z=>?_) λ_=>hk
  .by_cases B:b=a
   .exact .inr ⟨_,_,N0 B⟩
   .exact .inl (N1 B)
  .by_cases B:b=a
   .have z':=(N0 B).symm.trans z;cases z';subst B;exact⟨ha,by rw[Qs];exact hl,vs,_,rv,ha⟩
   .have z':=(N1 B).symm.trans z;cases z'
  .by_cases B:b=a
   .exact B
   .exact N2 (N1 B) z
def cD {l:PySem.W.OpenLaw}{K:LS->Qb}{CX:LV->dO}{sp:LV->Sp}(i:l.most=some n)(Q:n<=sizeLine)(U:d.params.defaults=[])(y:bY k MY)(hY:∀(w:LV) (h:LY),YP w h->(K w.params).In h)(F:∀(w:LV) (I:N8) (N:Addr) (h:LY),(K w.params).In h->h.Ns L0 I->I d.name=some (.ref N) ->
   ∃j:MA,(∀(s:Shared) (u:Value),BindsTo s j ⟨[u],[]⟩ [(x,u)]) /\
    ∀A:LY,(K w.params).In A->A.Ns L0 I->cx l.prog w (K w.params) I A (CX w) k N j [x] (sp w))(z:∀(w:LV) (H:Hp) (a:Addr) (O:P8),O.length<=n->iL H->bb (K w.params) H a (O.map V.int)->sp w [.ref a] H (λv _=>v=.bl true) λ_ _ _=>False)(g:∀(w:LV) (H:Hp) (s:Shared) (e:Value) (s':Shared),CX w [] H s (λ_ _ _=>False) e s'->False):
  Vx q loose XP YP l.row.toRowW d [] (λf vs=>PySem.call f vs):=by
 refine Att.cU i U λw m J I mb N o pm cd doc a vs O G Y ho hd hcd t M E B hg=>?_;have b:=hY w _ Y;obtain⟨j,hb,hF⟩:=F w I N _ b G.T.g t;exact HL b G.T.g G.T.b G.T.builtins G.T.nolimit hg M E (Qp B Q) y hF hb (λH hO hS=>z w H a O B hO hS) λH e s'=>g w H J e s'
abbrev dP:dO:=λ_ _ _ _ _ _=>False
abbrev E0:XK:=λ_ _ _=>False
def Cv:mr dP X E0:=λ_ _ _ _ _ _ _ h=>h.elim
structure eK(K:Qb)(x qual:Str)(st:Stmt)(f:Addr)(fd:MA):Prop where
 ex:∃(oc:Value) (od:O6) (kV doc pm:Value) (an:O6) (cdv ct:Value) (osl:Array O3),
  fd=Wz x qual (xp st) (yR st) (zK st) .none kV doc pm an cdv ct/\K.lookup f=some ⟨oc,od,.func fd,osl⟩/\Vc K cdv qual=true
 kp:WL K (.ref f)=true
section
variable{P:LU}{w:LV}{K:Qb}{mg:N8}{base:LY}
def eK.ok {st:Stmt}(F:eK K x I st f U)(S:ck N ps (zK st))(len:∀vs H Q E,sp vs H Q E->vs.length=ps.length)(J:∀(G:Value) (A:L3) (B:R6) (s:Shared) (H:Hp) (vs:S6) (Q:VK) (E:XK),bY k (A.deeper (MH I (zK st) s.heap.objs.size f G))->sp vs H Q E ->
   ∃t,ci (qC dP P w K mg base N I (zK st) f G A B s H E).nox (yR st) t/\t {nx:=λ_ Y=>Q .N Y,rt:=Q} (start N vs) H):cx P w K mg base dP (k+1) f U ps sp:=by
 obtain⟨o,d,kV,doc,pm,l,G,g,j,rfl,u,M⟩:=F.ex;refine Dm u M S len λA B s H vs Q E z O=>?_;obtain⟨t,h,q⟩:=J G A B s H vs Q E z O;exact⟨t,h.nox,q⟩
def eK.binds {st:Stmt}(F:eK K x B st f I)(h:∀(kV doc pm:Value) (E:O6) (A G:Value) (H:O7),H.length=ps.length->bindArgs (Wz x B (xp st) (yR st) (zK st) .none kV doc pm E A G) ⟨H,[]⟩=pure (ps.zip H)):Binds K I ps []:=by
 obtain⟨N,O,kV,doc,pm,E,A,G,J,rfl,Q,M⟩:=F.ex;exact .all (h kV doc pm E A G)
def Ed {st:Stmt}{kV:Value}(l:K.lookup f=some ⟨I,J,.func (Wz x A (xp st) (yR st) (zK st) .none kV doc pm G B H),E⟩)(c:Vc K B A=true)(k:WL K (.ref f)=true):eK K x A st f (Wz x A (xp st) (yR st) (zK st) .none kV doc pm G B H):=⟨⟨I,J,kV,doc,pm,G,B,H,E,rfl,l,c⟩,k⟩
end
def qE {B:Prop}(h:B):if false=true then A else B:=by
 rw[N1 QQ];exact h
def qF {B:Prop}(h:A):if true=true then A else B:=by
 rw[N0 rfl];exact h
noncomputable def wL(env:Env):List (Str×ME)->List (Str×Addr)->List (Str×Addr)
 |[],A=>A
 |(n,k)::r,A=>if k == .free then wL env r ((n,(env.cells.lookup n).getD 0)::A)else wL env r A
theorem w6 (f:Str×ME->List (Str×Addr)->Sem (ForInStep (List (Str×Addr))))(G:∀n k B,f (n,k) B=if k == .free then(do let a <-cellOf env n;pure (.yield ((n,a)::B)))else pure (.yield B)):
  ∀(names:List (Str×ME)) (acc:List (Str×Addr)),(∀y∈names,y.2=.free->∃c,env.cells.lookup y.1=some c)->forIn names acc f=pure (wL env names acc)
 |[],acc,_=>by rw[List.forIn_nil];rfl
 |(n,k)::r,acc,h=>by
  have H:=w6 f G r;rw[List.forIn_cons,G];unfold wL;cases I:k==NameKind.free with
  |true=>
   obtain⟨c,J⟩:=h (n,k) Q0 (by simpa using I);have A:env.cells.lookup n=some c:=J;have M:cellOf env n=pure c:=by unfold cellOf;rw[A]
   simp only[if_true,M,A,WZ,pure_bind];exact H _ λy E=>h y (Qg _ E)
  |false=>
   simp only[QL,if_false,pure_bind];exact H _ λy E=>h y (Qg _ E)
def kQ (h:∀y∈A.names,y.2=.free->∃c,env.cells.lookup y.1=some c):closureFor A env=pure (wL env A.names []):=by
 unfold closureFor;simp only[];rw[w6 (env:=env) _ (λn k E=>by cases B:k==NameKind.free<;>simp[B]) A.names [] h];rfl
theorem wm:∀{names:List (Str×ME)}{acc:List (Str×Addr)},(∀z∈names,z.2=.free->∃c,env.cells.lookup z.1=some c)->(wL env names acc).lookup y=some c ->
  acc.lookup y=some c\/((y,NameKind.free)∈names/\env.cells.lookup y=some c)
 |[],acc,_,e=>.inl e
 |(n,k)::r,acc,h,e=>by
  unfold wL at e;have M:∀z∈r,z.2=.free->∃c,env.cells.lookup z.1=some c:=λz N=>h z (Qg _ N);cases B:k==NameKind.free with
  |true=>
   have E:k=.free:=by simpa using B
   subst E;rw[B,N0 rfl]at e;rcases wm M e with q|⟨G,H⟩
   .rw[QV]at q;cases I:y==n with
    |true=>
     rw[I]at q;have:y=n:=by simpa using I
     subst this;obtain⟨O,J⟩:=h (y,.free) Q0 rfl;have A:env.cells.lookup y=some O:=J;rw[A]at q;refine .inr ⟨Q0,?_⟩;rw[A];exact q
    |false=>rw[I]at q;exact .inl q
   .exact .inr ⟨Qg _ G,H⟩
  |false=>
   rw[B,N1 (by simp)]at e;rcases wm M e with q|⟨G,H⟩
   .exact .inl q
   .exact .inr ⟨Qg _ G,H⟩
theorem vG:∀{names:List (Str×ME)}{acc:List (Str×Addr)},((y,NameKind.free)∈names\/(acc.lookup y).isSome=true)->((wL env names acc).lookup y).isSome=true
 |[],acc,h=>by
  rcases h with h|h
  .cases h
  .exact h
 |(n,k)::r,acc,h=>by
  unfold wL;cases A:k==NameKind.free with
  |true=>
   rw[N0 rfl];refine vG ?_;rcases h with h|h
   .rcases Qn.mp h with e|e
    .cases e;exact .inr (by rw[QV];simp)
    .exact .inl e
   .refine .inr ?_;rw[QV];split
    .rfl
    .exact h
  |false=>
   rw[N1 (by simp)];refine vG ?_;rcases h with h|h
   .rcases Qn.mp h with e|e
    .cases e;cases A
    .exact .inl e
   .exact .inr h
theorem l5:∀{names:List (Str×ME)}{h:LY}{acc:List (Str×Addr)},(MI h.objs.size names acc).lookup y=some c ->
  acc.lookup y=some c\/(h.objs.size<=c/\(MZ h names).IsCell c none/\(y,NameKind.cell)∈names)
 |[],h,acc,e=>.inl e
 |(n,k)::r,h,acc,e=>by
  unfold MI at e;cases A:k==NameKind.cell with
  |true=>
   have E:k=.cell:=by simpa using A
   subst E;rw[A,N0 rfl]at e;have N:=l5 (y:=y) (c:=c) (names:=r) (h:=h.push {cls:=.type "cell",data:=.cell none}) (acc:=(n,h.objs.size)::acc);rw[VB]at N;have B:MZ h ((n,NameKind.cell)::r)=MZ (h.push {cls:=.type "cell",data:=.cell none}) r:=by
    exact N0 A
   rcases N e with q|⟨G,H,I⟩
   .rw[QV]at q;cases J:y==n with
    |true=>
     rw[J]at q;cases q;have M:y=n:=by simpa using J
     subst M;refine .inr ⟨Qk _,?_,Q0⟩;rw[B];exact⟨_,M0 _ _ _ _ (Qh _ rfl),rfl⟩
    |false=>rw[J]at q;exact .inl q
   .exact .inr ⟨Qp (W0 _) G,by rw[B];exact H,Qg _ I⟩
  |false=>
   rw[A,N1 (by simp)]at e;have B:MZ h ((n,k)::r)=MZ h r:=by
    show(if(k==NameKind.cell)=true then _ else _)=_;rw[A,N1 (by simp)]
   rcases l5 e with q|⟨G,H,I⟩
   .exact .inl q
   .exact .inr ⟨G,by rw[B];exact H,Qg _ I⟩
theorem lZ {lo:Nat}:∀{names:List (Str×ME)}{n:Nat}{acc:List (Str×Addr)},((y,NameKind.cell)∈names\/∀c,acc.lookup y=some c->lo<=c)->lo<=n->(MI n names acc).lookup y=some c->lo<=c
 |[],n,acc,h,_,e=>by
  rcases h with h|h
  .cases h
  .exact h c e
 |(m,k)::r,n,acc,h,B,e=>by
  unfold MI at e;cases E:k==NameKind.cell with
  |true=>
   rw[E,N0 rfl]at e;refine lZ ?_ (Qp B (W0 _)) e;by_cases G:y=m
   .subst G;refine .inr λc A=>?_;rw[QV,beq_self_eq_true]at A;cases A;exact B
   .rcases h with h|h
    .rcases Qn.mp h with z|z
     .cases z;exact N2 rfl G
     .exact .inl z
    .refine .inr λc A=>?_;rw[QV]at A;have:(y==m)=false:=by simpa using G
     rw[this]at A;exact h c A
  |false=>
   rw[E,N1 (by simp)]at e;refine lZ ?_ B e;rcases h with h|h
   .rcases Qn.mp h with z|z
    .cases z;cases E
    .exact .inl z
   .exact .inr h
theorem mh:∀{names:List (Str×ME)}{n:Nat}{acc:List (Str×Addr)},(∀y z c,acc.lookup y=some c->acc.lookup z=some c->y=z)->(∀y c,acc.lookup y=some c->c<n) ->
  ∀y z c,(MI n names acc).lookup y=some c->(MI n names acc).lookup z=some c->y=z
 |[],n,acc,E,_=>E
 |(m,k)::r,n,acc,E,hl=>by
  unfold MI;cases I:k==NameKind.cell with
  |true=>
   rw[N0 rfl];refine mh (λy z c A B=>?_) λy c e=>?_
   .rw[QV]at A B;cases G:y==m<;>cases H:z==m<;>rw[G]at A<;>rw[H]at B
    .exact E y z c A B
    .cases B;exact N2 (hl y _ A) (Q3 _)
    .cases A;exact N2 (hl z _ B) (Q3 _)
    .exact (by simpa using G:y=m).trans (by simpa using H:z=m).symm
   .rw[QV]at e;cases G:y==m<;>rw[G]at e
    .exact Wk (hl y c e)
    .cases e;exact Wb _
  |false=>
   rw[N1 (by simp)];exact mh E hl
def qG (U:Q {scope:=B,locals:=s.heap.objs.size,globals:=globals,cells:=MI (s.heap.objs.size+1) B.names cl,qual:=H,func:=none,code:=G.code,frame:=G.frame,builtins:=G.builtins}
   {s with heap:=MZ (s.heap.push {cls:=.type "dict",data:=.dict #[]}) B.names}):
  L5 M A (M1 B globals cl [] H none .none (some G)) Q E s:=by
 simp only[M1,Option.isSome_some,if_true];refine Mj (wpAny_alloc ?_);refine Mj (wpAny_layCells _ (λO I J=>by cases N:I==NameKind.cell<;>simp[N]) _ _ _ _ ?_);rw[show({s with heap:=s.heap.push {cls:=.type "dict",data:=.dict #[]} }:Shared).heap.objs.size=s.heap.objs.size+1 from VB ..];simp only[List.forIn_nil];exact Mj (Mp (Mp U))
def zQ:(M5 A env).names.lookup y=(A.names.lookup y).map λk=>if(k==NameKind.free&&env.scope.kind == .function&&env.kindOf y==some .cell)then NameKind.cell else k:=by
 have all:∀l:List (Str×ME),(l.map λ(n,k)=>if(k==NameKind.free&&env.scope.kind == .function&&env.kindOf n==some .cell)then(n,NameKind.cell)else(n,k)).lookup y=(l.lookup y).map λk=>if(k==NameKind.free&&env.scope.kind == .function&&env.kindOf y==some .cell)then NameKind.cell else k:=by
  intro l
  induction l with
  |nil=>rfl
  |cons p r G=>
   obtain⟨n,k⟩:=p;rw[QS,QV];by_cases B:(k==NameKind.free&&env.scope.kind == .function&&env.kindOf n==some .cell)=true
   .simp only[B,if_true,QV];cases E:y==n with
    |true=>
     have:y=n:=by simpa using E
     subst this;simp only[QR,B,if_true]
    |false=>exact G
   .simp only[N1 B,QV];cases E:y==n with
    |true=>
     have:y=n:=by simpa using E
     subst this;simp only[QR,N1 B]
    |false=>exact G
 exact all A.names
noncomputable def lA(x:Str):Str:=⟨x.cps.push 0⟩
noncomputable def zR(N xs:R0):R0:=(N.map λy=>if y∈xs then lA y else y)++xs
def Ig(N xs:R0):(zR N xs).length=N.length+xs.length:=by simp[zR]
def wM(N xs:R0)(j:Nat):(zR N xs)[N.length+j]?=xs[j]?:=by
 unfold zR;rw[Qd (by simp)];simp
def Ie (A:i<N.length)(h:(zR N xs)[i]?=some y):(∃x∈xs,y=lA x)\/(N[i]?=some y/\y∉xs):=by
 unfold zR at h;rw[Qf (by simpa using A),Qm]at h;obtain⟨z,B⟩:∃z,N[i]?=some z:=⟨N[i],by simp[A]⟩;rw[B]at h;by_cases e:z∈xs
 .simp only[QR,N0 e]at h;exact .inl ⟨z,e,(Option.some.inj h).symm⟩
 .simp only[QR,N1 e]at h;have E:z=y:=Option.some.inj h;subst E;exact .inr ⟨B,e⟩
structure bi(X:Cx)(scope:LR)(xs:R0)(Xc:Cx):Prop where
 prog:Xc.prog=X.prog
 w:Xc.w=X.w
 K:Xc.K=X.K
 mg:Xc.mg=X.mg
 base:Xc.base=X.base
 A:Xc.A=X.A
 N:Xc.N=zR X.N xs
 sc:Xc.env.scope=M5 scope X.env
 calm:Xc.calm=true
 stack:Xc.stack=X.stack
noncomputable def ff(X:Cx)(B:P6)(t:TT):Prop:=
 ∀(A:O0) (s:Shared) (E:St) (H:Hp) (Q:Bool->Hp->Prop),Inv X A E H s->t E H Q ->
  L5 (L6 X.prog X.w) X.A (forIn B true λc r=>if r=true then do let ok <-isTrue c X.env (eval c X.env);pure (ForInStep.yield ok)else pure (ForInStep.yield r)) (TP X A E Q) X.xe s
def wn:ff X [] (λ_ H Q=>Q true H):=λ_ _ _ H _ I h=>wpAny_tests_nil ⟨H,I,h⟩
def kB (h:PT X c t):ff X [c] t:=λA s B H Q I q=>wpAny_tests_one (h A s B H Q I q)
structure bx(X:Cx)(scope:LR)(xs:R0):Prop where
 kind:scope.kind=.function
 own:∀x∈xs,scope.names.lookup x=some .local\/scope.names.lookup x=some .cell
 locs:∀y∈scope.names,y.2=.local->scope.names.lookup y.1=some .local
 free:∀y∈scope.names,y.2=.free->X.env.scope.names.lookup y.1=some .cell\/X.env.scope.names.lookup y.1=some .free
 alone:∀y∈X.N,y∉xs->scope.names.lookup y≠some .local/\scope.names.lookup y≠some .cell
 one:∀y∈scope.names,y.2=.cell->scope.names.lookup y.1≠some .free
 nd:(zR X.N xs).Nodup
 dumN:∀x∈xs,scope.names.lookup (lA x)=none
def gC{prog:LU}{w:LV}{A:L3}{R:Result->Shared->Prop}{s:Shared}{elt B iter:Expr}{j:P6}{E:LR}{pos:Pos}{it acc:Value}{env:Env}(I:Nat->Shared->Prop)
  (z:∀n s,I n s->L5 (L6 prog w) A (Mn it) (λr G=>match r with
   |none=>R (.ok .next) G
   |some v=>L5 (L6 prog w) A (Mo B it v) (λ_ H=>L5 (L6 prog w) A (assign B env v) (λ_ N=>
     L5 (L6 prog w) A (forIn j true λc r=>if r=true then do let ok <-isTrue c env (eval c env);pure (ForInStep.yield ok)else pure (ForInStep.yield r)) (λok J=>
      if ok=true then L5 (L6 prog w) A (eval elt env) (λx O=>
       L5 (L6 prog w) A (call (.builtin "list.append") [acc,x]) (λ_ Q=>∃m,m<n/\I m Q) (M6 (L6 prog w) A env λe s'=>R (.error e) s') O) (M6 (L6 prog w) A env λe s'=>R (.error e) s') J
      else ∃m,m<n/\I m J) (M6 (L6 prog w) A env λe s'=>R (.error e) s') N) (M6 (L6 prog w) A env λe s'=>R (.error e) s') H) (M6 (L6 prog w) A env λe s'=>R (.error e) s') G) (M6 (L6 prog w) A env λe s'=>R (.error e) s') s)
  (n:Nat) (h:I n s):MB (L6 prog w) A (.compLoop (.ListComp elt [⟨B,iter,j,0⟩] E pos) 0 it acc env) R s:=by
 refine codeAny_loop rfl I (λn s g=>?_) n h;show L5 _ A ((compTurn (.ListComp elt [⟨B,iter,j,0⟩] E pos) 0 it acc env).onRaise (λx=>do noteFrame x env;theTreesLotGoes x)) _ _ s;refine wpAny_noted ?_;rw[compTurn_list];refine Mj (Ml (Mj (L9 (z n s g) (λr G U=>?_) λ_ _ M=>M)));cases r with
 |none=>exact Mp U
 |some v=>
  refine Mj (L9 U (λ_ H u=>?_) λ_ _ M=>M);refine Mj (L9 u (λ_ N o=>Mj (L9 o (λok J Y=>?_) λ_ _ M=>M)) λ_ _ M=>M);cases ok with
  |false=>exact Mp ⟨rfl,Y⟩
  |true=>
   exact Mj (Mj (L9 Y (λx O d=>Mj (L9 d (λ_ Q l=>Mp (Mp ⟨rfl,l⟩)) λ_ _ M=>M)) λ_ _ M=>M))
noncomputable def v8(un:V->Hp->S6->Prop)(U:TI)(tc:TT)(te:TE):TE:=λE H Q=>U E H λJ M=>∀D,M D=none->∃W:Nat->Nat->S6->Hp->Prop,(∃m,W 0 m [] (aG M D (.L [])))/\∀i m A H,W i m A H ->
 (J.stop i H/\Q (.ref D) H)\/(J.go i H/\∀v G,J.yld i H v G->∃I,un v G I/\tc (E++I.map some) G λb N=>if b=true then te (E++I.map some) N λy O=>O D=some (.L A)/\A.length<sizeLine/\∃B,B<m/\W (i+1) B (A++[y]) (aG O D (.L (A++[y])))
  else ∃B,B<m/\W (i+1) B A N)
def kR {un:V->Hp->S6->Prop}(B:bx X A xs)(hc:X.calm=true)(hpg:∀E,bi X A xs E->(∀x∈xs,Loc E.env.scope x/\(E.fn x=true\/E.env.scope.names.lookup x=some .local))->PG E tg g)(hun:∀v H vs os,os.length=xs.length->un v H vs->vs.length=xs.length/\g v (σ++os) H λσ2 H2=>σ2=σ++vs.map some/\H2=H)(hbody:∀E,bi X A xs E->ff E ifs tc/\PE E elt te)(I:Inv X pins σ H s)(T:cN X.prog X.w X.K tg J fp it tn)(st:tn 0 s.heap)(U:∀b∈fp,kn X pins H b)(W:Nat->Nat->S6->Hp->Prop)(m0:Nat)(w0:W 0 m0 [] H)(turn:∀i m ys H,W i m ys H->(J.stop i H/\∀s' m' C,Inv X pins σ H s'->s'.heap.Ns C m'->s.heap.objs.size<=C->H C=none->compPost (L6 X.prog X.w) X.A X.xe use Q (.ref D) C (.ok .next) s') \/
   (J.go i H/\∀v H',J.yld i H v H'->∃vs,un v H' vs/\tc (σ++vs.map some) H' λb H2=>if b=true then te (σ++vs.map some) H2 λy H3=>H3 D=some (.L ys)/\ys.length<sizeLine/\∃m',m'<m/\W (i+1) m' (ys++[y]) (aG H3 D (.L (ys++[y])))
    else ∃m',m'<m/\W (i+1) m' ys H2)):
  L5 (L6 X.prog X.w) X.A (M1 A X.env.globals (wL X.env A.names []) [] X.env.qual none .none (some X.env)) (λO s₄=>
   MB (L6 X.prog X.w) X.A (.compStart (.ListComp elt [⟨tg,iter,ifs,0⟩] A pos) 0 (.ref it) (.ref D) {O with scope:=M5 A X.env}) (compPost (L6 X.prog X.w) X.A X.xe use Q (.ref D) O.locals) s₄) X.xe s:=by
 refine qG ?_;have hcl:∀y∈A.names,y.2=.free->∃c,X.env.cells.lookup y.1=some c:=λy hy hf=>by
  rcases B.free y hy hf with q|q
  .exact I.ok.has y.1 (.inl q)
  .exact I.ok.has y.1 (.inr q)
 -- the block's own parts
 generalize hC:s.heap.objs.size=C;generalize hcs:MI (C+1) A.names (wL X.env A.names [])=cs;generalize hh4:MZ (s.heap.push {cls:=.type "dict",data:=.dict #[]}) A.names=h4;have szP:(s.heap.push {cls:=.type "dict",data:=.dict #[]}).objs.size=C+1:=by rw[VB,hC]
 have M:∀b o,s.heap.get? b=some o->h4.get? b=some o:=λb o e=>hh4▸M0 _ _ _ _ (Qc _ e);have nsC:h4.Ns C (λ_=>none):=by
  have q:=(Heap.Ns.new s.heap (.type "dict")).keeps (M0 A.names (s.heap.push {cls:=.type "dict",data:=.dict #[]}));rw[hC,hh4]at q;exact q
 -- a cell of the block: one of its own,or one of those around
 have t:∀y c,cs.lookup y=some c->((y,NameKind.free)∈A.names/\X.env.cells.lookup y=some c)\/(C+1<=c/\h4.IsCell c none/\(y,NameKind.cell)∈A.names):=λy c e=>by
  have q:=l5 (y:=y) (c:=c) (names:=A.names) (h:=s.heap.push {cls:=.type "dict",data:=.dict #[]}) (acc:=wL X.env A.names []);rw[szP,hcs,hh4]at q;rcases q e with q|q
  .rcases wm hcl q with z|z
   .cases z
   .exact .inl z
  .exact .inr q
 have oldC:∀y c,X.env.cells.lookup y=some c->c<C:=λy c e=>by
  obtain⟨v,q⟩:=I.cell y c e;rw[<-hC];exact q.lt
 have fpC:∀b∈fp,b<C:=λb G=>by
  obtain⟨o,e,_⟩:=T.obj _ _ st b G;rw[<-hC];exact Qe e
 let O:Env:={scope:=M5 A X.env,locals:=C,globals:=X.env.globals,cells:=cs,qual:=X.env.qual,func:=none,code:=X.env.code,frame:=X.env.frame,builtins:=X.env.builtins}
 let RR:Result->Shared->Prop:=compPost (L6 X.prog X.w) X.A X.xe use Q (.ref D) C
 let E:Cx:={X with N:=zR X.N xs,s₀:=s,H₀:=H,env:=O,outer:=X.stack,stack:=X.stack,ex:=fp,fn:=λy=>decide (A.names.lookup y=some .cell),calm:=true,pn:=[],xe:=M6 (L6 X.prog X.w) X.A O λe s'=>RR (.error e) s' }
 have hXc:bi X A xs E:=⟨rfl,rfl,rfl,rfl,rfl,rfl,rfl,rfl,rfl,rfl⟩;obtain⟨hT,hE⟩:=hbody E hXc;have ok:E.Ok:=by
  refine⟨I.ok.mod,B.kind,I.ok.glob,I.ok.blt,Vp hC,?_,λy hy=>?_,λy c hf e=>?_,λ_=>I.ok.hd hc,I.ok.frames,.inl rfl,λb G=>⟨Qu (fpC b G),λy c e=>?_⟩,I.bs,Qp I.ok.bsz I.sz,λb o e G=>?_,λb G hf=>?_,I.stack,I.stkFree⟩
  .show ∀y z c,cs.lookup y=some c->cs.lookup z=some c->y=z;rw[<-hcs];refine mh (λy z c e1 e2=>?_) λy c e=>?_
   .rcases wm hcl e1 with q|q
    .cases q
    .rcases wm hcl e2 with q'|q'
     .cases q'
     .exact I.ok.inj y z c q.2 q'.2
   .rcases wm hcl e with q|q
    .cases q
    .exact Wk (oldC y c q.2)
  .have f:(M5 A X.env).names.lookup y=some .cell\/(M5 A X.env).names.lookup y=some .free:=hy;rw[zQ]at f;show ∃c,cs.lookup y=some c;rw[<-hcs];refine WG.mp (W4 _ _ _ ?_);cases hk:A.names.lookup y with
   |none=>rw[hk]at f;rcases f with z|z<;>cases z
   |some k=>
    rw[hk]at f;have kk:k=.cell\/k=.free:=by
     simp only[QR]at f;by_cases j:(k==NameKind.free&&X.env.scope.kind == .function&&X.env.kindOf y==some .cell)=true
     .refine .inr ?_;have:=(QD.mp (QD.mp j).1).1;simpa using this
     .rw[N1 j]at f;rcases f with z|z
      .exact .inl (Option.some.inj z)
      .exact .inr (Option.some.inj z)
    rcases kk with rfl|rfl
    .exact .inl rfl
    .exact .inr (vG (.inl (PySem.mem_of_lookup hk)))
  .show s.heap.objs.size<=c;rw[hC];have e':cs.lookup y=some c:=e;rw[<-hcs]at e';exact Qp (W0 _) (lZ (lo:=C+1) (.inl (PySem.mem_of_lookup (N4 hf))) (Qk _) e')
  .show c≠b;rintro rfl;rcases t y c e with⟨_,z⟩|⟨z,_,_⟩
   .exact (U c G).2.2.2.2.1 y c z rfl
   .exact N2 (Qj (fpC c G) (Qp (W0 _) z)) (Q3 _)
  .rcases (U b G).2.2.2.1 with z|z
   .exact I.ok.noex b o e z
   .exact N2 (Qj (Qe (I.ok.bs b o e).1) z) (Q3 _)
  .rcases Qn.mp (I.stkSub b hf)with z|z
   .exact (U b G).2.1 z
   .exact (U b G).2.2.1 z
 have frC:H C=none:=I.hok.fresh (Vp hC);have frN:∀c,C<=c->H c=none:=λc hc'=>I.hok.fresh (by rw[hC];exact hc');have hσ:σ.length=X.N.length:=I.len;have I4:Inv E [] (σ++xs.map λ_=>none) H {s with heap:=h4}:=by
  refine⟨ok,rfl,I.bare,Un.kept M,⟨_,nsC,λi y v e1 e2 e3=>?_⟩,λy c e=>?_,frC,λy c e=>?_,λp hp=>N2 (show p∈([]:O0)from hp) (by simp),I.hok.kept M,?_⟩
  .have hi:i<σ.length:=by
    by_cases hi:i<σ.length
    .exact hi
    .rw[Qd (by lia),Qm]at e2;cases hz:xs[i-σ.length]? with
     |none=>rw[hz]at e2;simp at e2
     |some k=>rw[hz]at e2;simp at e2
   rw[Qf hi]at e2;have vis:A.names.lookup y=some .local\/A.names.lookup y=some .cell\/A.names.lookup y=some .free:=by
    have d:fH (M5 A X.env) y:=e3;unfold fH at d;rw[zQ]at d;cases hk:A.names.lookup y with
    |none=>rw[hk]at d;rcases d with z|z|z<;>cases z
    |some k=>
     rw[hk]at d;simp only[QR]at d;by_cases j:(k==NameKind.free&&X.env.scope.kind == .function&&X.env.kindOf y==some .cell)=true
     .have:=(QD.mp (QD.mp j).1).1;exact .inr (.inr (by rw[show k=.free by simpa using this]))
     .rw[N1 j]at d;exact d
   rcases Ie (by rw[<-hσ];exact hi) e1 with z|⟨z,zx⟩
   .obtain ⟨x,hx,z⟩:=z;subst z;rw[B.dumN x hx]at vis;rcases vis with q|q|q<;>cases q
   .have Y:A.names.lookup y=some .free:=by
     rcases vis with q|q|q
     .exact N2 q (B.alone y (Qo z) zx).1
     .exact N2 q (B.alone y (Qo z) zx).2
     .exact q
    have kout:=B.free _ (PySem.mem_of_lookup Y) rfl;obtain⟨m,hn,hl⟩:=I.loc;obtain⟨u,r,l⟩:=hl i y v z e2 (kout.elim (λq=>.inr (.inl q)) λq=>.inr (.inr q));refine⟨u,r,?_⟩;rcases l with⟨k,_⟩|⟨_,c,ec,zc⟩
    .have k':X.env.scope.names.lookup y=some .local:=k;rcases kout with q|q<;>rw[k']at q<;>cases q
    .have hsome:∃c',cs.lookup y=some c':=ok.has y (by
      show(M5 A X.env).names.lookup y=some .cell\/(M5 A X.env).names.lookup y=some .free;rw[zQ,Y];simp only[QR];split
      .exact .inl rfl
      .exact .inr rfl)
     obtain⟨c',ec'⟩:=hsome;refine .inr ⟨?_,c',ec',?_⟩
     .show (M5 A X.env).names.lookup y=some .cell\/(M5 A X.env).names.lookup y=some .free;rw[zQ,Y];simp only[QR];split
      .exact .inl rfl
      .exact .inr rfl
     .rcases t y c' ec' with⟨_,q⟩|⟨_,_,q⟩
      .rw[ec]at q;cases q;exact zc.keeps M
      .exact N2 Y (B.one (y,.cell) q rfl)
  .rcases t y c e with⟨_,q⟩|⟨_,q,_⟩
   .obtain ⟨v,z⟩:=I.cell y c q;exact⟨v,z.keeps M⟩
   .exact ⟨_,q⟩
  .rcases t y c e with⟨_,q⟩|⟨q,_,_⟩
   .exact I.freeC y c q
   .exact frN c (by lia)
  .show (σ++xs.map λ_=>none).length=(zR X.N xs).length;rw[Ig,QP,hσ,Qs]
 -- the w
 have hLoc:∀x∈xs,Loc E.env.scope x/\(E.fn x=true\/E.env.scope.names.lookup x=some .local):=λx hx=>by
  constructor
  .show (M5 A X.env).names.lookup x=some .local\/(M5 A X.env).names.lookup x=some .cell;rw[zQ];rcases B.own x hx with q|q<;>rw[q]
   .exact .inl rfl
   .exact .inr rfl
  .rcases B.own x hx with q|q
   .refine .inr ?_;show(M5 A X.env).names.lookup x=some .local;rw[zQ,q];rfl
   .exact .inl (N3 q)
 have hg:PG E tg g:=hpg E hXc hLoc;have fpX:∀{H':Hp},(∀b∈fp,H' b=none)->∀b∈fp,kn E [] H' b:=λhn b G=>
  ⟨hn b G,Qu (fpC b G),λz=>ok.exfs b G z,.inl G,λy c e=>(ok.exf b G).2 y c e,λp hp=>N2 (show p∈([]:O0)from hp) (by simp)⟩
 have w:MB (L6 X.prog X.w) X.A (.compLoop (.ListComp elt [⟨tg,iter,ifs,0⟩] A pos) 0 (.ref it) (.ref D) O) RR {s with heap:=h4}:=by
  refine gC (λn s'=>∃i os ys H',os.length=xs.length/\Inv E [] (σ++os) H' s'/\tn i s'.heap/\(∀b∈fp,H' b=none)/\W i n ys H') ?_ m0 ⟨0,_,[],H,Qs _,I4,T.keep _ _ _ st λb _ o e=>M b o e,λb G=>(U b G).1,w0⟩;rintro n s3 ⟨i,os,ys,H3,hos,I3,st3,fr3,w3⟩;rcases turn i n ys H3 w3 with⟨stop,fin⟩|⟨go,step⟩
  .refine aT (T.done E rfl rfl rfl rfl i [] s3 (σ++os) H3 E.xe I3 (fpX fr3) st3 stop) λr s4 ⟨hr,I4⟩=>?_;subst hr;obtain⟨m,hn,_⟩:=id I4.loc;refine fin s4 m C ?_ hn (Vp hC) I4.free;exact I.call' (ch:=fp) I4.os I4.base I4.hok I4.bare λb G=>⟨(U b G).2.2.2.1,(U b G).2.1,(U b G).2.2.2.2.1,(U b G).2.2.2.2.2⟩
  .refine aT (T.item E rfl rfl rfl rfl i [] s3 (σ++os) H3 E.xe I3 (fpX fr3) st3 go) λr s4 ⟨u,hr,h4'⟩=>?_;subst hr;refine aT h4' λ_ s5 ⟨v,H5,I5,r5,y5,st5,fr5⟩=>?_;have I5':=I5.pinned (fpX fr5) (T.obj _ _ st5);obtain⟨vs,hvs,step5⟩:=step v H5 y5;obtain⟨hvl,hset⟩:=hun v H5 vs os hos hvs;refine aT (hg _ s5 (σ++os) H5 v u (λσ2 H2=>σ2=σ++vs.map some/\H2=H5) I5' r5 hset) λ_ s6 ⟨σ6,H6,I6,e6,e6'⟩=>?_;subst e6;subst e6';have back:∀{H7:Hp}{s7:Shared},Inv E ([]++kO fp s5.heap) (σ++vs.map some) H7 s7->tn (i+1) s7.heap/\(∀b∈fp,H7 b=none)/\Inv E [] (σ++vs.map some) H7 s7:=λ{H7 s7} I7=>by
    refine⟨T.keep _ _ _ st5 λb G ob e=>(I7.pin (b,ob) (Qv _ (Qv _ (xJ G e)))).1,λb G=>?_,I7.unpinned⟩;obtain⟨ob,e,_⟩:=T.obj _ _ st5 b G;exact(I7.pin (b,ob) (Qv _ (Qv _ (xJ G e)))).2.1
   refine aT (hT _ s6 (σ++vs.map some) H6 _ I6 step5) λb s7 ⟨H7,I7,q7⟩=>?_;cases b with
   |false=>
    rw[N1 QQ]at q7 ⊢;obtain⟨m',hm,w7⟩:=q7;obtain⟨t1,t2,t3⟩:=back I7;exact⟨m',hm,i+1,_,ys,H7,(by rw[Qs];exact hvl),t3,t1,t2,w7⟩
   |true=>
    rw[N0 rfl]at q7 ⊢;refine aT (hE _ s7 (σ++vs.map some) H7 _ I7 q7) λyv s8 ⟨y,H8,I8,r8,hD8,hl8,m',hm,w8⟩=>?_;refine aT (jU (X:=E) _ s8 (σ++vs.map some) H8 (.ref D) [y] (.ref D) [yv] (λ_ H9=>H9=aG H8 D (.L (ys++[y]))) I8 rfl (.cons r8 .nil) ⟨D,ys,y,rfl,rfl,hD8,hl8,rfl⟩) λ_ s9 ⟨_,H9,I9,_,e9⟩=>?_;subst e9;obtain⟨t1,t2,t3⟩:=back I9;exact⟨m',hm,i+1,_,ys++[y],_,(by rw[Qs];exact hvl),t3,t1,t2,w8⟩
 refine codeAny_compStart_list w ?_;exact T.self X.A 0 _ _ _ (T.keep _ _ _ st λb _ o e=>M b o e) w
section
variable{X:Cx}{elt iter tg:Expr}{xs:R0}{y:Str}{g:TG}{un:V->Hp->S6->Prop}{py:Pos}{ifs:P6}{scope:LR}{pos spos:Pos}{wi:TI}{tc:TT}{te:TE}
def Inv.aside{A:O0}{σ:St}{H:Hp}{s:Shared}{C lo:Addr}{h':LY}(I:Inv X A σ H s)(B:lo<=C)(J:X.env.locals<lo)(E:∀y c,X.env.cells.lookup y=some c->c<lo)(G:∀p∈X.pn++A,p.1<lo)
  (M:H C=none) (N:We C s.heap h'):Inv X A σ H {s with heap:=h' } :=
 I.turned (it:=C) (t':=s.toks) (λb o O e=>(N.2 b O).trans e) M (WD (Qj J B)) (.inr (Qp I.ok.above (Qp (WF J) B)))
  (λy c e=>Qu (Qj (E y c e) B)) λp Q=>Qu (Qj (G p Q) B)
def Inv.below (I:Inv X A σ H s):X.env.locals<s.heap.objs.size/\(∀y c,X.env.cells.lookup y=some c->c<s.heap.objs.size)/\∀p∈X.pn++A,p.1<s.heap.objs.size:=
 ⟨I.lt,λy c e=>let⟨_,z⟩:=I.cell y c e;z.lt,λp B=>Qe (I.pin p B).1⟩
def wG(B:bx X scope xs)(ok:X.Ok):closureFor scope X.env=pure (wL X.env scope.names []):=
 kQ λy A E=>(B.free y A E).elim (λq=>ok.has y.1 (.inl q)) λq=>ok.has y.1 (.inr q)
structure iB(X:Cx)(scope:LR)(xs:R0)(tg:Expr)(g:TG)(un:V->Hp->S6->Prop):Prop where
 pg:∀Xc,bi X scope xs Xc->(∀x∈xs,Loc Xc.env.scope x/\(Xc.fn x=true\/Xc.env.scope.names.lookup x=some .local))->PG Xc tg g
 un:∀v H vs os (σ:St),σ.length=X.N.length->os.length=xs.length->un v H vs->vs.length=xs.length/\g v (σ++os) H λσ2 H2=>σ2=σ++vs.map some/\H2=H
noncomputable def i6(v:V)(_:Hp)(vs:S6):Prop:=vs=[v]
def tV{A:Type}{l:List A}(h:l.length=1):∃a,l=[a]:=by
 cases l with
 |nil=>cases h
 |cons a t=>
  cases t with
  |nil=>exact⟨a,rfl⟩
  |cons b t=>cases h
def tU{A:Type}{l:List A}(h:l.length=2):∃a b,l=[a,b]:=by
 cases l with
 |nil=>cases h
 |cons a t=>
  obtain⟨b,rfl⟩:=tV (Nat.succ.inj h);exact⟨a,b,rfl⟩
def kC (B:bx X scope [x]):iB X scope [x] (.Name x I) (xh X.N.length) i6:=by
 refine⟨λJ c h=>?_,λv H M os N A E G=>?_⟩
 .exact yI (by rw[c.N];exact B.nd) (by rw[c.N];exact wM X.N [x] 0) (h x (by simp)).1 (h x (by simp)).2
 .cases G;refine⟨rfl,?_,rfl⟩;obtain⟨o,rfl⟩:=tV E;rw[<-A,Vg _ _ (Qk _)];simp
noncomputable def io(K:Qb)(v:V)(H:Hp)(vs:S6):Prop:=∃a,v=.ref a/\bC K H a vs/\vs.length=2
def wq (Q:X.calm=true)(B:bx X scope [x,y]):iB X scope [x,y] (.Tuple [.Name x U,.Name y py] k pt) (fU X.K 2 (w5 (xh X.N.length) (w5 (xh (X.N.length+1)) fV))) (io X.K):=by
 refine⟨λG c h=>?_,λv H Y os j A I J=>?_⟩
 .have E:G.N.Nodup:=by rw[c.N];exact B.nd
  rw[<-c.K];exact gr c.calm (yU (yI E (by rw[c.N];exact wM X.N [x,y] 0) (h x (by simp)).1 (h x (by simp)).2) (yU (yI E (by rw[c.N];exact wM X.N [x,y] 1) (h y (by simp)).1 (h y (by simp)).2) kz))
 .obtain ⟨a,M,N,O⟩:=J;obtain⟨u,w,rfl⟩:=tU O;obtain⟨o,p,rfl⟩:=tU I;refine⟨rfl,a,[u,w],M,N,rfl,u,[w],rfl,w,[],rfl,rfl,?_,rfl⟩;rw[<-A,Vg _ _ (Qk _),Vg _ _ (by lia)];simp
def xK(B:bx X scope xs)(hc:X.calm=true)(f:iB X scope xs tg g un)(hi:PI X tg iter wi)(E:∀U,bi X scope xs U->ff U ifs tc/\PE U elt te)
  (hs:∀v,Mt iter X.env v=pure v:=by intro _;rfl):PE X (.ListComp elt [⟨tg,iter,ifs,0⟩] scope pos) (v8 un wi tc te):=by
 intro A s t H Q I h;rw[eval_ListComp];refine M7 (use:=none) (cl:=wL X.env scope.names []) rfl hs (wG B I.ok) B.kind B.locs ?_;refine aT (hi A s t H _ I h) λxv s1 Y=>aT Y λitv O j=>?_;obtain⟨it,fp,tn,J,H2,e,n,T,G,f2,q2⟩:=j;subst e;refine M8 ?_;have a:=n.lnew (its:=[]) (ys:=[]) (t':=O.toks) .nil (WT _);obtain⟨W,⟨m0,w0⟩,M⟩:=q2 O.heap.objs.size (n.hok.fresh (Qk _));have u:∀b∈fp,kn X A (aG H2 O.heap.objs.size (.L [])) b:=λb z=>by
  obtain⟨o,e,_⟩:=T.obj _ _ G b z;exact⟨by rw[ze (Qu (Qe e))];exact(f2 b z).1,(f2 b z).2⟩
 obtain⟨b1,b2,b3⟩:=a.below;refine kR B hc f.pg (λv H vs os Y j=>f.un v H vs os t I.len Y j) E a T (T.keep _ _ _ G λb _ o e=>Qc _ e) u W m0 w0 λi m ys H4 w=>?_;rcases M i m ys H4 w with⟨N,q⟩|r
 .exact .inl ⟨N,λs' m' C I' hn hC d=>⟨m',hn,λh' l=>⟨.ref O.heap.objs.size,H4,I'.aside hC b1 b2 b3 d l,rfl,q⟩⟩⟩
 .exact .inr r
def IR (B:bx X scope xs)(hc:X.calm=true)(hT:iB X scope xs tg g un)(hi:PI X tg iter wi)(E:∀U,bi X scope xs U->ff U ifs tc/\PE U elt te)(hN:X.N.Nodup)(hy:X.N[i]?=some y)(hx:Loc X.env.scope y)(hf:X.fn y=true\/X.env.scope.names.lookup y=some .local)(Y:Mf (.ListComp elt [⟨tg,iter,ifs,0⟩] scope pos) (some (.Name y py)) spos.line X.env=pure true)(hs:∀v,Mt iter X.env v=pure v:=by intro _;rfl):PS X (.Assign [.Name y py] (.ListComp elt [⟨tg,iter,ifs,0⟩] scope pos) spos) (fT (v8 un wi tc te) (xh i)):=by
 intro A s σ H D I h;rw[exec_Assign_Name_used _ _ _ _ Y];refine Mj (Ml (Mj ?_));show L5 _ X.A (do let _ <-comprehension (.ListComp elt [⟨tg,iter,ifs,0⟩] scope pos) scope X.env _ (newList []) false (eval iter X.env) (some (assign (.Name y py) X.env))) _ _ s;refine Mj (L9 (M7 (use:=some (assign (.Name y py) X.env)) (cl:=wL X.env scope.names []) (Q:=λ_ j=>SP X A D .next j) rfl hs (wG B I.ok) B.kind B.locs ?_)
  (λ_ j hq=>Mp (Mp hq)) λ_ _ e=>e)
 refine aT (hi A s σ H _ I h) λxv s1 u=>aT u λitv O z=>?_;obtain⟨it,fp,tn,J,H2,e,I2,T,G,f2,q2⟩:=z;subst e;refine M8 ?_;have I3:=I2.lnew (its:=[]) (ys:=[]) (t':=O.toks) .nil (WT _);obtain⟨W,⟨m0,w0⟩,M⟩:=q2 O.heap.objs.size (I2.hok.fresh (Qk _));have d:∀b∈fp,kn X A (aG H2 O.heap.objs.size (.L [])) b:=λb l=>by
  obtain⟨o,e,_⟩:=T.obj _ _ G b l;exact⟨by rw[ze (Qu (Qe e))];exact(f2 b l).1,(f2 b l).2⟩
 obtain⟨b1,b2,b3⟩:=I3.below;refine kR B hc hT.pg (λv H vs os u z=>hT.un v H vs os σ I.len u z) E I3 T (T.keep _ _ _ G λb _ o e=>Qc _ e) d W m0 w0 λi' m ys H4 w=>?_;rcases M i' m ys H4 w with⟨N,q⟩|r
 .refine .inl ⟨N,λj m' C I' hn f t=>?_⟩;refine wpAny_assign_Name (jO I' hN hy hx (v:=.ref O.heap.objs.size) rfl (λs'' n ⟨a,sb,ha⟩=>?_) hf);have hCa:C≠a:=by
   rcases ha with rfl|ha
   .exact WD (Qj b1 f)
   .exact WD (Qj (b2 _ _ ha) f)
  exact⟨m',hn.sameBut sb hCa,λh' hsb=>⟨_,H4,n.aside f b1 b2 b3 t hsb,q⟩⟩
 .exact .inr r
end
section
variable{X:Cx}
theorem az.at (h:az xs E){i:Nat}(e:E[i]?=some u):∃x,xs[i]?=some x/\RelV x u:=by
 have hl:=h.length;have H:=(Qa.mp e).1;have A:xs[i]?=some xs[i]:=Ql (by lia);obtain⟨I,B,G⟩:=h.get A;rw[e]at B;cases B;exact⟨_,A,G⟩
def Ic(bs:List Bool):(QF bs.length).all (λi=>bs.getD i true)=bs.all id:=by
 rw[WU,Qx,Qx];constructor
 .intro h b E;obtain⟨i,B,e⟩:=List.getElem_of_mem E;have:=h i (by simpa using B);rw[Qz,Ql B]at this;simpa [e]using this
 .intro h i B;have A:i<bs.length:=by simpa using B
  rw[Qz,Ql A];exact h _ (Vr A)
def qH(d:X.calm=true):aW X (.builtin "all") (λxs H Q=>∃(p:Addr) (bs:List Bool),xs=[.ref p]/\bb X.K H p (bs.map V.bl)/\Q (.bl (bs.all id)) H):=by
 intro j s σ H xs us Q I r h;obtain⟨p,bs,rfl,l,q⟩:=h;obtain⟨u,rfl,g⟩:=xb r;cases g;obtain⟨B,z,N,hz⟩:=I.list l;have E:=z.length;have f:∃o,s.heap.get? p=some o:=by obtain⟨o,O,_⟩:=N.isList;exact⟨o,O⟩
 obtain⟨o,O⟩:=f;have U:=Qe O;refine call_all_walk (Mr N.isList ?_);refine⟨s.heap.objs.size,_,_,_,_,_,λi=>bs.getD i true,rfl,Walks.list (A:=X.A.in1) (I.ok.hd d) s.heap.objs.size p (Qu U) B.toArray,⟨⟨_,Qh _ rfl,rfl,rfl⟩,N.isList.at λo e=>Qc _ e⟩,?_,λh' t m=>?_⟩
 .intro i v n a E2 w hQ;have Y:B[i]?=some v:=by simpa using w
  obtain⟨y,G,ry⟩:=z.at Y;rw[Qm]at G;cases J:bs[i]? with
  |none=>rw[J]at G;cases G
  |some b=>
   rw[J]at G;cases G;have:v=.bool b:=ry;subst this;have e:bs.getD i true=b:=by rw[Qz,J];rfl
   have M:a (bs.getD i true) n:=hQ;rw[e]at M;exact Mc M
 .have e:B.toArray.size=bs.length:=by simp at E ⊢;lia
  rw[e,Ic];exact⟨.bl (bs.all id),H,I.kept (t':=t) λb o e=>m b o (λJ=>by
   have:b=s.heap.objs.size:=by simpa using J
   exact N2 (Qe e) (by rw[this];exact Q3 _)) (Qc _ e),rfl,q⟩
theorem xW(A:P8):∀n,n<=A.length->preSum (λi=>A.getD i 0) n=(A.take n).sum
 |0,_=>by simp[preSum]
 |n+1,h=>by
  have e:A[n]?=some (A.getD n 0):=by rw[Qz,Ql (by lia)];rfl
  rw[preSum,xW A n (by lia),List.take_add_one,e,List.sum_append];simp
def qI(l:X.calm=true):aW X (.builtin "sum") (λxs H Q=>∃(p:Addr) (B:P8),xs=[.ref p]/\bb X.K H p (B.map V.int)/\Q (.int B.sum) H):=by
 intro j s σ H xs us Q I r h;obtain⟨p,B,rfl,g,q⟩:=h;obtain⟨u,rfl,f⟩:=xb r;cases f;obtain⟨E,z,O,hz⟩:=I.list g;have J:=z.length;have m:∃o,s.heap.get? p=some o:=by obtain⟨o,U,_⟩:=O.isList;exact⟨o,U⟩
 obtain⟨o,U⟩:=m;have M:=Qe U;refine call_sum_walkG (Mr O.isList ?_);refine⟨s.heap.objs.size,_,_,_,_,_,λi=>B.getD i 0,rfl,Walks.list (A:=X.A.in1) (I.ok.hd l) s.heap.objs.size p (Qu M) E.toArray,⟨⟨_,Qh _ rfl,rfl,rfl⟩,O.isList.at λo e=>Qc _ e⟩,?_,?_,λh' n a w=>?_⟩
 .intro b G;have d:s.heap.objs.size<(s.heap.push {cls:=.type "list_iterator",data:=.fields #[.ref p,.int 0 0]}).objs.size:=Qe (Qh _ rfl);have:b=s.heap.objs.size\/b=p:=by simpa using G
  rcases this with rfl|rfl
  .exact d
  .exact WE M d
 .intro i v hv;have Y:E[i]?=some v:=by simpa using hv
  obtain⟨y,N,ry⟩:=z.at Y;rw[Qm]at N;cases G:B[i]? with
  |none=>rw[G]at N;cases N
  |some b=>
   rw[G]at N;cases N;obtain⟨t,rfl⟩:=(ry:∃t,v=.int b t);have e:B.getD i 0=b:=by rw[Qz,G];rfl
   exact⟨t,by show Value.int b t=Value.int (B.getD i 0) t;rw[e]⟩
 .have e:E.toArray.size=B.length:=by simp at J ⊢;lia
  rw[e,xW B B.length (Qk _),W5];exact⟨.int B.sum,H,I.kept (t':=n) λb o e=>w b o (λG=>by
   have:b=s.heap.objs.size:=by simpa using G
   exact N2 (Qe e) (by rw[this];exact Q3 _)) (Qc _ e),⟨a,rfl⟩,q⟩
end
abbrev TK:=P8×Addr×Value
noncomputable def kS(x:TK):DictEntry:=⟨reduceHash (Builtin.Tuple.tupleHashOf (x.1.map hashInt)),.ref x.2.1,x.2.2⟩
noncomputable def xS(d:Addr)(xs:List TK):HO:=.ext λh=>(d==LZ)=false/\∃o A,h.get? d=some o/\o.ExactDict/\o.data=.dict A xs.length/\A.toList=xs.map kS/\(xs.map (·.1)).Nodup
theorem uM:∀{k:P8}{A:O7},az (k.map V.int) A->ItemsAre (M9 P w) k A
 |[],_,.nil=>.nil
 |i::_,_,.cons p q=>by
  obtain⟨t,rfl⟩:=p;exact .cons (by show Value.isInt i (.int i t)=true;simp[Value.isInt]) (uM q)
noncomputable def yn(K:Qb)(H:Hp)(d:Addr)(xs:List TK):Prop:=H d=some (xS d xs)/\∀x∈xs,bC K H x.2.1 (x.1.map V.int)
section
variable{prog:LU}{w:LV}{T:Type}[DecidableEq T]{kd:HeapKind prog w T}{A:L3}{E:N7}{s:Shared}{d a:Addr}{k:T}{xs:List (T×Addr×Value)}
noncomputable def iU(kd:HeapKind prog w T)(h:LY)(d:Addr)(xs:List (T×Addr×Value)):Prop:=∃o B,h.get? d=some o/\o.ExactDict/\o.data=.dict B xs.length/\B.toList=xs.map (entryOfKey kd)/\(xs.map (·.1)).Nodup
def mU (H:kd.room A)(U:kd.is s.heap k a)(D:iU kd s.heap d xs)(all:∀x∈xs,kd.is s.heap x.1 x.2.1)(m:xs.length<=sizeLine)(I:∀h',iU kd h' d (storedH xs k a v)->We d s.heap h'->R () {s with heap:=h',toks:=s.toks+kd.draws k}):L5 (L6 prog w) A (dictSet d (.ref a) v) R E s:=by
 obtain⟨o,Y,g,u,B,G,M⟩:=D;have sz:=size_of_entries G
 let O:Shared:={s with toks:=s.toks+kd.draws k}
 unfold dictSet;apply Mk;apply Mj;apply kd.pyHash H U;unfold dictSetHashed;apply Mk;apply Mj;apply wpAny_dictFind_heap (s:=O) H U g B G all M
 .intro no;have J:storedH xs k a v=xs++[(k,a,v)]:=storedH_new (atKey_none_of_get no) a v;have Q:=Wy (Obj.mapDictKeys (·.push ⟨kd.hash k,.ref a,v⟩)) g (Obj.isFreed_of_dict (Obj.data_mapDictKeys B _));apply Mj;apply Na;apply wpAny_updateDictKeys (s:=O) g B _ (by lia);refine I _ ⟨_,Y.push ⟨kd.hash k,.ref a,v⟩,Q,u.mapDictKeys _,?_,?_,?_⟩ (We.update ..)
  .rw[J,QP];exact Obj.data_mapDictKeys B _
  .simp[J,G,entryOfKey]
  .have z:=not_mem_keys_of_get no;rw[J,Ww,Qw];refine⟨M,by simp,λx l y t e=>?_⟩;have f:y=k:=by simpa using t
   exact z (f▸e▸l)
 .intro j p N;have J:storedH xs k a v=xs.map (Nb k v):=storedH_old (atKey_of_get M N) a v;have Q:=Wy (Obj.mapDict (·.modify j λe=>{e with val:=v})) g (Obj.isFreed_of_dict (Obj.data_mapDict B _));apply Mj;apply Na;apply Mj;apply wpAny_updateDict (s:=O) g B;apply wpAny_point;refine I _ ⟨_,Y.modify j λe=>{e with val:=v},Q,u.mapDict _,?_,?_,?_⟩ (We.update ..)
  .rw[J,Qs];exact Obj.data_mapDict B _
  .have q:=modify_map_putAt (entryOfKey kd) (λe:DictEntry=>{e with val:=v}) k v (λ_ _=>rfl) M N;rw[<-G]at q;rw[J,Array.toList_modify];exact q
  .rw[J,keys_map_putAt];exact M
def HK (B:kd.room A.in1)(I:kd.is s.heap k a)(D:iU kd s.heap d xs)(all:∀x∈xs,kd.is s.heap x.1 x.2.1)(J:xs.length<=sizeLine)(G:∀h',iU kd h' d (storedH xs k a v)->We d s.heap h'->R () {s with heap:=h',toks:=s.toks+kd.draws k}):L5 (L6 prog w) A (Mh (.ref d) (.ref a) v) R E s:=by
 have H:s.TypeIs (.ref d) "dict":=let⟨o,_,g,M,_⟩:=D;⟨o,g,M.1⟩;unfold Mh;apply Mk;apply Mj;apply wpAny_sequenceKey H (by decide);apply Mj;apply Nc H slot_dict_setitem;refine Nf slot_dict_setitem H entry_dict_setitem ?_ (args_dict_setitem _ _ _);apply Mj (m:=Builtin.Dict.notOrdered "__setitem__" ⟨[.ref d,.ref a,v],[]⟩);apply Ng H;apply Mj (m:=dictSet d (.ref a) v);exact mU B I D all J λh' q N=>Mp ⟨.none,rfl,Mp (G h' q N)⟩
end
section
variable{X:Cx}{pins:O0}{σ:St}{H:Hp}{s:Shared}
def xL (I:Inv X pins σ H s)(h:bC X.K H a (k.map V.int)):Nh (M9 X.prog X.w) s.heap k a:=by
 obtain⟨A,r,⟨o,B,E,n,G⟩,_⟩:=I.tuple h;exact⟨o,A.toArray,n,B,E,G,uM r⟩
def xi (I:Inv X pins σ H s)(h:yn X.K H d xs):(d==LZ)=false/\s.heap.DictOfH (Ni (M9 X.prog X.w)) d xs:=by
 obtain⟨A,B⟩:=h;obtain⟨⟨E,o,G,J,M,N,O,Q⟩,_,_⟩:=I.hok d _ A;exact⟨E,o,G,_,J,M,N,O,λx U=>xL I (B x U),Q⟩
def Ib:PE X (.Dict [] [] pos) (λ_ H Q=>∀d,H d=none->Q (.ref d) (aG H d (xS d []))):=by
 intro pins s σ H Q I h;have A:(s.heap.objs.size==LZ)=false:=by
  obtain⟨o,_,_,B,_⟩:=I.ok.mod.glob;have E:(3:Nat)<X.base.objs.size:=Qe B;have G:=Qp I.ok.bsz I.sz;have:s.heap.objs.size≠(1:Nat):=by lia
  exact beq_eq_false_iff_ne.mpr this
 refine wpAny_Dict_empty ⟨.ref s.heap.objs.size,aG H s.heap.objs.size (xS s.heap.objs.size []),I.laid (t':=s.toks) (λb u e=>Qc _ e) (Qk _) ?_,rfl,h _ I.fresh⟩;refine⟨⟨A,_,#[],Qh _ rfl,⟨rfl,rfl,rfl⟩,rfl,rfl,QB⟩,⟨_,Qh _ rfl⟩,λE G J k=>?_⟩;obtain⟨M,o,N,O,r⟩:=J;exact⟨M,o,N,k o O,r⟩
noncomputable def sm(K:Qb):V->V->V->Hp->(Hp->Prop)->Prop:=λo i v H Q=>∃d a B A,o=.ref d/\i=.ref a/\bC K H a (B.map V.int)/\yn K H d A/\A.length<=100000/\∀u,RelV v u->Q (aG H d (xS d (storedH A B a u)))
def Cu(hu:X.A.units+64<Mz):lK X (sm X.K):=by
 intro pins s σ H o i v ov iv u Q I N O U h;obtain⟨d,a,Y,j,rfl,rfl,z,A,hl,q⟩:=h;cases N;cases O;obtain⟨d0,dm⟩:=xi I A;obtain⟨⟨_,l,B,E,g,f,t,m⟩,_,_⟩:=I.hok d _ A.1;refine HK (kd:=Ni (M9 X.prog X.w)) (by show X.A.units+1<Mz;lia) (xL I z) ⟨l,B,E,g,f,t,m⟩ (λx G=>xL I (A.2 x G)) (Qp hl (by decide)) λh' ⟨n,J,M,w,y,a4,a6⟩ sb=>?_;refine⟨aG H d (xS d (storedH j Y a u)),?_,q u U⟩;refine I.write (x:=d) (e:=d) (by rw[A.1];trivial) (.inl rfl) (λb u' hb e=>(sb.2 b hb).trans e) ⟨_,M⟩ ?_;refine⟨⟨d0,n,J,M,w,y,a4,a6⟩,⟨_,M⟩,λh1 h2 G k=>?_⟩;obtain⟨b0,o,J,E,r⟩:=G;exact⟨b0,o,J,k o E,r⟩
noncomputable def sQ(K:Qb):R2:=λx y H Q=>∃d a A B p,x=.ref d/\y=.ref a/\bC K H a (A.map V.int)/\yn K H d B/\Nj B A=some p/\∃v,RelV v p.2/\Q v H
def oz(o:X.A.units+64<Mz):dF X (sQ X.K):=by
 intro A B pins s σ H x y v u Q I G J h M;obtain⟨d,a,l,g,p,rfl,rfl,N,O,U,z,Y,q⟩:=h;cases G;cases J;obtain⟨d0,E⟩:=xi I O;exact MP (x:=p.2) E.typeIs slot_dict_getitem.lookup
  (wpAny_getItem_heap (knd:=Ni (M9 X.prog X.w)) (Q:=λr j=>r=p.2/\EP X pins σ Q r j) (by show X.A.units+1<Mz;lia) (xL I N) E U ⟨rfl,z,H,I.tok _,Y,q⟩) M
end
end L2
namespace Mini
inductive Wd where
 |N|bl (b:Bool)|int (i:Int)|str (s:R5)|T (xs:List Wd)|rol (xs:List Wd)|ref (l:Nat)
deriving Inhabited
abbrev _root_.R7:=List Wd
set_option genInjectivity false in
inductive Ob where
 |L (xs:R7)|D (ks:O1) (ws:R7)
deriving Inhabited
abbrev Me:=List Ob
set_option tactic.hygienic true in
abbrev En:=List (Option Wd)
set_option genInjectivity false in
inductive Rz where
 |ok (w:Wd) (m:Me)|no
deriving Inhabited
abbrev _root_.N6:=Nat->List Wd->Me->Rz
set_option genInjectivity false in
inductive Rs where
 |next (e:En) (m:Me)|ret (w:Wd) (m:Me)
 |no
deriving Inhabited
inductive Bo where|add|sub|mul|fdiv|mod|shr|band
deriving DecidableEq
inductive Co where|eq|ne|lt|le|gt|ge|isN|notN|isin
deriving DecidableEq
inductive Tg where|int|bool|list|tuple|str|dict
deriving DecidableEq
inductive dL where|len|int|list|tuple|sum|all|min2|max2|minS|maxS|sorted
deriving DecidableEq
inductive dE where|append|pop|reverse|clear
deriving DecidableEq
inductive Kd where|zip|enum|prs|ptp
deriving DecidableEq
inductive Dk where|get|sum|lix|mnv|sok|lle|dln
deriving DecidableEq
set_option genInjectivity false in
inductive Ex where
 |V (i:Nat)|lit (w:Wd)
 |bin (op:Bo) (a b:Ex)|neg (a:Ex)|not (a:Ex)|and (a b:Ex)|or (a b:Ex)
 |cmp (op:Co) (a b:Ex)|chain (p q:Co) (a b c:Ex)|ife (c a b:Ex)
 |u|P (a b:Ex)
 |call (k:Nat) (args:Ex)|blt (b:dL) (args:Ex)|isi (t:Tg) (a:Ex)
 |L (args:Ex)|T (args:Ex)|dict0
 |i (a b:Ex)
 |meth (n:dE) (o args:Ex)
 |rng (a b c:Ex)
 |comp (elt it cond:Ex)
 |compP (k:Kd) (elt a b cond:Ex)
 |dget (a b:Ex)
 |dop (k:Dk) (a b c:Ex)
deriving Inhabited
set_option genInjectivity false in
inductive Sm where
 |skip|seq (a b:Sm)
 |a (i:Nat) (e:Ex)|asgS (o i e:Ex)  |aug (i:Nat) (op:Bo) (e:Ex)
 |ite (c:Ex) (a b:Sm)|forv (i:Nat) (it:Ex) (body:Sm)|fort (i j:Nat) (it:Ex) (body:Sm)|while (c:Ex) (body:Sm)
 |ret (e:Ex)  |expr (e:Ex)|never
 |clrT (i k x:Nat)
 |bor (i:Nat) (e c d:Ex)
 |forE (i j:Nat) (a:Ex) (body:Sm)
 |popI (j:Nat) (e:Ex) (a b:Sm)
 |dput (x:Nat) (k e:Ex)
 |forD (i x:Nat) (body:Sm)
deriving Inhabited
noncomputable def aA:Nat:=100000
noncomputable def pQ:Int:=18446744073709551616
noncomputable def w9(i:Int):Bool:=decide (-pQ<i)&&decide (i<pQ)
noncomputable def cz(p:Wd->Wd->O5):R7->R7->O5
 |x::A,y::B=>match p x y with
  |some a=>(cz p A B).map (a && ·)
  |none=>none
 |_,_=>some true
noncomputable def b2i(b:Bool):Int:=if b then 1 else 0
noncomputable def aN(m:Me)(l:Nat):Bool:=match m[l]? with
 |some (.L _)=>true
 |_=>false
noncomputable def tT:Wd->Bool
 |.rol _=>false
 |_=>true
noncomputable def bZ(m:Me):Nat->Wd->Wd->O5
 |0,_,_=>none
 |k+1,x,y=>match x,y with
  |.T a,.T b=>(cz (bZ m k) a b).map (· && decide (a.length=b.length))
  |.ref a,.ref b=>if a=b then(if aN m a then some true else none)else match m[a]?,m[b]? with
   |some (.L A),some (.L B)=>if A.length=B.length then cz (bZ m k) A B else some false
   |_,_=>none
  |.ref a,y=>if aN m a&&tT y then some false else none
  |x,.ref b=>if aN m b&&tT x then some false else none
  |.rol _,_=>none
  |_,.rol _=>none
  |.N,.N=>some true
  |.bl a,.bl b=>some (a==b)
  |.int a,.int b=>some (decide (a=b))
  |.bl a,.int b=>some (decide (b2i a=b))
  |.int a,.bl b=>some (decide (a=b2i b))
  |.str a,.str b=>some (decide (a=b))
  |_,_=>some false
noncomputable def ym:Nat:=12
noncomputable def ef(p:Wd->Wd->O5)(x:Wd):R7->O5
 |[]=>some false
 |y::A=>match p y x with
  |some a=>(ef p x A).map (a || ·)
  |none=>none
noncomputable def ix(n:Nat)(i:Int):Option Nat:=
 if 0<=i then(if i<n then some i.toNat else none)else if -(n:Int)<=i then some (i+n).toNat else none
noncomputable def alloc(m:Me)(xs:R7):Rz:=if xs.length<=aA then .ok (.ref m.length) (m++[.L xs])else .no
noncomputable def zh(m:Me)(l:Nat):Option R7:=match m[l]? with
 |some (.L A)=>some A
 |_=>none
noncomputable def yE(m:Me):Wd->Option R7
 |.T A=>some A
 |.rol A=>some A
 |.ref l=>zh m l
 |_=>none
noncomputable def cB(op:Bo)(x y:Wd)(m:Me):Rz:=match x,y with
 |.int i,.int j=>match op with
  |.add=>.ok (.int (i+j)) m
  |.sub=>.ok (.int (i-j)) m
  |.mul=>if w9 i || w9 j then .ok (.int (i*j)) m else .no
  |.fdiv=>if 0<j/\j<1073741824 then .ok (.int (i/j)) m else .no
  |.mod=>if 0<j then .ok (.int (i%j)) m else .no
  |.shr=>if 0<=j/\j<=1000 then .ok (.int (i/2^j.toNat)) m else .no
  |.band=>if 0<=i/\j=1 then .ok (.int (i%2)) m else .no
 |.ref a,.ref b=>match op,m[a]?,m[b]? with
  |.add,some (.L A),some (.L B)=>alloc m (A++B)
  |_,_,_=>.no
 |.ref a,.int k=>match op,m[a]? with
  |.mul,some (.L A)=>if -aA<=k/\k<=aA then alloc m (QH k.toNat A).flatten else .no
  |_,_=>.no
 |.T A,.T B=>match op with
  |.add=>if A.length+B.length<=aA then .ok (.T (A++B)) m else .no
  |_=>.no
 |_,_=>.no
noncomputable def di(o:O5)(m:Me):Rz:=match o with
 |some b=>.ok (.bl b) m
 |none=>.no
noncomputable def kT(r:Int->Int->Bool)(x y:Wd)(m:Me):Rz:=match x,y with
 |.int i,.int j=>.ok (.bl (r i j)) m
 |_,_=>.no
noncomputable def zT:R7->Option P8
 |[]=>some []
 |.int i::r=>(zT r).map (i::·)
 |_=>none
noncomputable def ls(m:Me)(x y:Wd):O5:=match y with
 |.ref l=>match m[l]? with
  |some (.D A _)=>match x with
   |.int _=>some false
   |.T B=>(zT B).map λk=>decide (k∈A)
   |_=>none
  |_=>none
 |_=>none
noncomputable def cA(op:Co)(x y:Wd)(m:Me):Rz:=match op with
 |.eq=>di (bZ m ym x y) m
 |.ne=>di ((bZ m ym x y).map (!·)) m
 |.isN=>match y,x with
  |.N,.N=>.ok (.bl true) m
  |.N,_=>.ok (.bl false) m
  |_,_=>.no
 |.notN=>match y,x with
  |.N,.N=>.ok (.bl false) m
  |.N,_=>.ok (.bl true) m
  |_,_=>.no
 |.isin=>match yE m y with
  |some A=>di (ef (bZ m ym) x A) m
  |none=>di (ls m x y) m
 |.lt=>kT (λi j=>decide (i<j)) x y m
 |.le=>kT (λi j=>decide (i<=j)) x y m
 |.gt=>kT (λi j=>decide (j<i)) x y m
 |.ge=>kT (λi j=>decide (j<=i)) x y m
noncomputable def c7(t:Tg)(x:Wd)(m:Me):O5:=match t,x with
 |.int,.int _=>some true
 |.int,.bl _=>some true
 |.bool,.bl _=>some true
 |.str,.str _=>some true
 |.tuple,.T _=>some true
 |.list,.rol _=>some true
 |t,.ref l=>match m[l]? with
  |some (.L _)=>some (decide (t=.list))
  |some (.D _ _)=>some (decide (t=.dict))
  |none=>none
 |_,_=>some false
noncomputable def Jn(n d:Nat):Option Int->Nat
 |none=>d
 |some v=>if v<0 then(v+(n:Int)).toNat else min v.toNat n
noncomputable def jI:R7->Option Int
 |[]=>some 0
 |.int i::r=>(jI r).map (i+·)
 |_=>none
noncomputable def eP:R7->O5
 |[]=>some true
 |.bl b::r=>(eP r).map (b && ·)
 |_=>none
noncomputable def gD(m:Me):Wd->Option R7
 |.rol A=>some A
 |.ref l=>zh m l
 |_=>none
noncomputable def cg:P8->P8->Bool
 |[],[]=>false
 |[],_::_=>true
 |_::_,[]=>false
 |x::A,y::B=>if x=y then cg A B else decide (x<y)
noncomputable def v9(m:Me):R7->Option O1
 |[]=>some []
 |.ref l::r=>match zh m l with
  |some A=>match zT A,v9 m r with
   |some k,some B=>some (k::B)
   |_,_=>none
  |none=>none
 |_=>none
noncomputable def iT:O1->Option P8
 |r::A=>if r.length≠0/\A.all (λq=>q.length==r.length)=true then some (((r.length:Int)+1)::(r::A).flatten)else none
 |[]=>none
noncomputable def qJ(m:Me)(xs:R7):Option P8:=match zT xs with
 |some k=>some (0::k)
 |none=>(v9 m xs).bind iT
noncomputable def xX(m:Me):R7->Option O1
 |[]=>some []
 |.ref l::r=>match zh m l with
  |some A=>match qJ m A,xX m r with
   |some k,some B=>some (k::B)
   |_,_=>none
  |none=>none
 |_=>none
noncomputable def xV:Int->P8->Int
 |a,[]=>a
 |a,b::r=>xV (if b<a then b else a) r
noncomputable def wN:Int->P8->Int
 |a,[]=>a
 |a,b::r=>wN (if b > a then b else a) r
noncomputable def yk:O1->Bool
 |x::y::r=>cg x y&&(decide (x.length=y.length)&&decide (x.head?=y.head?))&&yk (y::r)
 |_=>true
noncomputable def fk{A B:Type}:List A->(List A->B)->B
 |[],k=>k []
 |x::E,k=>fk E λG=>k (x::G)
theorem ve:∀(xs:List A) (k:List A->E),fk xs k=k xs
 |[],_=>rfl
 |x::xs,k=>ve xs λB=>k (x::B)
noncomputable def lN{A:Type}(i:Int)(k:Int->A):A:=match i with
 |.ofNat 0=>k 0
 |.ofNat (n+1)=>k (.ofNat (n+1))
 |.negSucc 0=>k (-1)
 |.negSucc (n+1)=>k (.negSucc (n+1))
def Fu (i:Int)(k:Int->A):lN i k=k i:=by
 cases i with
 |ofNat n=>cases n<;>rfl
 |negSucc n=>cases n<;>rfl
noncomputable def fY{A:Type}:P8->(P8->A)->A
 |[],k=>k []
 |x::B,k=>lN x λy=>fY B λE=>k (y::E)
theorem uL:∀(xs:P8) (k:P8->B),fY xs k=k xs
 |[],_=>rfl
 |x::xs,k=>by
  show lN x (λy=>fY xs λA=>k (y::A))=_;rw[Fu,uL]
noncomputable def iS{A:Type}:O1->(O1->A)->A
 |[],k=>k []
 |x::B,k=>fY x λy=>iS B λE=>k (y::E)
theorem qK:∀(xs:O1) (k:O1->B),iS xs k=k xs
 |[],_=>rfl
 |x::xs,k=>by
  show fY x (λy=>iS xs λA=>k (y::A))=_;rw[uL,qK]
noncomputable def zZ{A:Type}(p:P8×A):List (P8×A)->List (P8×A)
 |[]=>[p]
 |q::r=>if cg p.1 q.1 then p::q::r else q::zZ p r
noncomputable def zt{A:Type}:List (P8×A)->List (P8×A)
 |[]=>[]
 |p::r=>fk (zt r) λs=>zZ p s
def zU (p:P8×A)(r:List (P8×A)):zt (p::r)=zZ p (zt r):=ve (zt r) λs=>zZ p s
noncomputable def yF(A:Type)(ks:O1)(xs:List A):Option (List A):=iS ks λks=>fk xs λxs=>fk (ks.zip xs) λz=>fk (zt z) λs=>if yk (s.map Prod.fst)then some (s.map Prod.snd)else none
def xY(A:Type)(ks:O1)(xs:List A):yF A ks xs=if yk ((zt (ks.zip xs)).map Prod.fst)then some ((zt (ks.zip xs)).map Prod.snd)else none:=by
 unfold yF;rw[qK,ve,ve,ve]
noncomputable def dt(o:Option O1):Option O1:=match o with
 |some A=>if A.length<64\/yk A=true then some A else none
 |none=>none
noncomputable def vf(b:dL)(ws:R7)(m:Me):Rz:=match b with
 |.sorted=>match ws with
  |[.ref l]=>match zh m l with
   |some A=>match (dt (xX m A)).bind λB=>yF Wd B A with
    |some E=>alloc m E
    |none=>.no
   |none=>.no
  |_=>.no
 |.minS=>match ws with
  |[x]=>match (yE m x).bind zT with
   |some (i::r)=>.ok (.int (xV i r)) m
   |_=>.no
  |_=>.no
 |.maxS=>match ws with
  |[x]=>match (yE m x).bind zT with
   |some (i::r)=>.ok (.int (wN i r)) m
   |_=>.no
  |_=>.no
 |.len=>match ws with
  |[x]=>match yE m x with
   |some A=>.ok (.int A.length) m
   |none=>.no
  |_=>.no
 |.int=>match ws with
  |[.int i]=>.ok (.int i) m
  |[.bl b]=>.ok (.int (b2i b)) m
  |_=>.no
 |.list=>match ws with
  |[x]=>match yE m x with
   |some A=>alloc m A
   |none=>.no
  |_=>.no
 |.tuple=>match ws with
  |[x]=>match yE m x with
   |some A=>.ok (.T A) m
   |none=>.no
  |_=>.no
 |.sum=>match ws with
  |[x]=>match (gD m x).bind jI with
   |some i=>.ok (.int i) m
   |none=>.no
  |_=>.no
 |.all=>match ws with
  |[x]=>match (gD m x).bind eP with
   |some i=>.ok (.bl i) m
   |none=>.no
  |_=>.no
 |.max2=>match ws with
  |[.int i,.int j]=>.ok (.int (if j > i then j else i)) m
  |_=>.no
 |.min2=>match ws with
  |[.int i,.int j]=>.ok (.int (if j<i then j else i)) m
  |_=>.no
noncomputable def cS(n:dE)(o:Wd)(ws:R7)(m:Me):Rz:=match o with
 |.ref l=>match m[l]? with
  |some (.L A)=>match n,ws with
   |.append,[y]=>if A.length<aA then .ok .N (m.set l (.L (A++[y])))else .no
   |.pop,[]=>match A[A.length-1]? with
    |some y=>.ok y (m.set l (.L A.dropLast))
    |none=>.no
   |.reverse,[]=>.ok .N (m.set l (.L A.reverse))
   |.clear,[]=>.ok .N (m.set l (.L []))
   |_,_=>.no
  |_=>.no
 |_=>.no
noncomputable def yB(x:Wd)(m:Me):Bool:=match x with
 |.ref l=>aN m l
 |_=>false
noncomputable def gE(o i v:Wd)(m:Me):Rz:=match o,i with
 |.ref l,.int k=>match m[l]? with
  |some (.L A)=>match ix A.length k with
   |some j=>.ok .N (m.set l (.L (A.set j v)))
   |none=>.no
  |_=>.no
 |_,_=>.no
noncomputable def wO(x y:Wd)(m:Me):Rz:=match y with
 |.int i=>match yE m x with
  |some A=>match (ix A.length i).bind λj=>A[j]? with
   |some v=>.ok v m
   |none=>.no
  |none=>.no
 |_=>.no
noncomputable def gF:Wd->Option P8
 |.T A=>zT A
 |_=>none
noncomputable def bX{A:Type}:O1->List A->P8->Option A
 |k::B,w::E,q=>if k=q then some w else bX B E q
 |_,_,_=>none
noncomputable def xZ(ks:O1)(q:P8):O1:=if q∈ks then ks else ks++[q]
noncomputable def yf{B:Type}:O1->List B->P8->B->List B
 |k::E,w::A,q,v=>if k=q then v::A else w::yf E A q v
 |_,A,_,v=>A++[v]
noncomputable def kU(x y:Wd)(m:Me):Rz:=match x with
 |.ref l=>match m[l]? with
  |some (.D A B)=>match (gF y).bind (bX A B)with
   |some v=>.ok v m
   |none=>.no
  |_=>.no
 |_=>.no
noncomputable def jW(x y v:Wd)(m:Me):Rz:=match x with
 |.ref l=>match m[l]? with
  |some (.D A B)=>match gF y with
   |some q=>if A.length<aA then .ok .N (m.set l (.D (xZ A q) (yf A B q v)))else .no
   |none=>.no
  |_=>.no
 |_=>.no
noncomputable def fX(lo st:Int):Nat->R7
 |0=>[]
 |n+1=>.int lo::fX (lo+st) st n
noncomputable def qL{A:Type}[DecidableEq A](k:A):List A->Nat->Option Nat
 |[],_=>none
 |x::r,i=>if x=k then some i else qL k r (i+1)
noncomputable def du{A:Type}(p:A->O5):List A->Option (List Bool)
 |[]=>some []
 |x::r=>match p x,du p r with
  |some b,some bs=>some (b::bs)
  |_,_=>none
noncomputable def gG(x:Wd)(m:Me):Option P8:=match x with
 |.ref l=>(zh m l).bind zT
 |_=>none
noncomputable def fD:P8->P8->Bool
 |[],_=>true
 |_::_,[]=>false
 |x::A,y::B=>if x=y then fD A B else decide (x<=y)
noncomputable def eW:O1->Bool
 |k::r=>decide (0<k.length)&&r.all λq=>decide (q.length=k.length)
 |[]=>false
noncomputable def fu(k:Dk)(x:Wd)(m:Me):Bool:=match k with
 |.lle=>true
 |.lix=>yB x m
 |_=>match x with
  |.ref l=>match m[l]? with
   |some (.D _ _)=>true
   |_=>false
  |_=>false
noncomputable def wP(k:Dk)(x y z:Wd)(m:Me):Rz:=match k with
 |.get=>match x with
  |.ref l=>match m[l]? with
   |some (.D A B)=>match gF y with
    |some q=>match bX A B q with
     |some v=>.ok v m
     |none=>.ok z m
    |none=>.no
   |_=>.no
  |_=>.no
 |.sum=>match x with
  |.ref l=>match m[l]? with
   |some (.D _ B)=>match jI B with
    |some i=>.ok (.int i) m
    |none=>.no
   |_=>.no
  |_=>.no
 |.lix=>match x with
  |.ref l=>match ((zh m l).bind (du λw=>bZ m ym w y)).bind λbs=>qL true bs 0 with
   |some j=>.ok (.int (j:Nat)) m
   |none=>.no
  |_=>.no
 |.mnv=>match x with
  |.ref l=>match m[l]? with
   |some (.D _ B)=>match zT B with
    |some (i::r)=>.ok (.int (xV i r)) m
    |_=>.no
   |_=>.no
  |_=>.no
 |.sok=>match x with
  |.ref l=>match m[l]? with
   |some (.D A _)=>match eW A&&decide (A.length<64),yF P8 (A.map (0::·)) A with
    |true,some E=>alloc m (E.map λk=>.T (k.map Wd.int))
    |_,_=>.no
   |_=>.no
  |_=>.no
 |.dln=>match x with
  |.ref l=>match m[l]? with
   |some (.D A _)=>if A.length<=aA then .ok (.int A.length) m else .no
   |_=>.no
  |_=>.no
 |.lle=>match gG x m,gG y m with
  |some a,some b=>.ok (.bl (fD a b)) m
  |_,_=>.no
noncomputable def ft(a b c:Int):Nat:=if c=1 then(b-a).toNat else if c=-1 then(a-b).toNat else if c=-2 then((a-b+1)/2).toNat else if c=2 then((b-a+1)/2).toNat else 0
noncomputable def fq(a b c:Wd)(m:Me):Rz:=match a,b,c with
 |.int a,.int b,.int c=>if -aA<=a/\a<=aA/\-aA<=b/\b<=aA/\(c=1\/c=-1\/c=-2\/c=2)then .ok (.T (fX a c (ft a b c))) m else .no
 |_,_,_=>.no
noncomputable def Rz.bind(r:Rz)(f:Wd->Me->Rz):Rz:=match r with
 |.ok w m=>f w m
 |r=>r
noncomputable def yo(c e:Wd->Me->Rz):R7->R7->Me->Rz
 |[],A,m=>alloc m A
 |x::B,A,m=>(c x m).bind λb m1=>match b with
  |.bl true=>(e x m1).bind λy m2=>if A.length<aA then yo c e B (A++[y]) m2 else .no
  |.bl false=>yo c e B A m1
  |_=>.no
noncomputable def yw(c e:Wd->Me->Rz)(l:Nat):Nat->Nat->R7->Me->Rz
 |0,_,_,_=>.no
 |k+1,i,A,m=>match zh m l with
  |none=>.no
  |some B=>match B[i]? with
   |none=>alloc m A
   |some x=>(c x m).bind λb m1=>match b with
    |.bl true=>(e x m1).bind λy m2=>if A.length<aA then yw c e l k (i+1) (A++[y]) m2 else .no
    |.bl false=>yw c e l k (i+1) A m1
    |_=>.no
noncomputable def qM:Wd->Option (Wd×Wd)
 |.T [x,y]=>some (x,y)
 |_=>none
noncomputable def vH(m:Me):Wd->Option R7
 |.ref l=>zh m l
 |_=>none
noncomputable def zn(k:Kd)(x y:Wd)(i:Nat)(m:Me):Option (Option (Wd×Wd)):=match k,x,y with
 |.zip,x,y=>match vH m x,vH m y with
  |some A,some E=>some (match A[i]?,E[i]? with
   |some x,some y=>some (x,y)
   |_,_=>none)
  |_,_=>none
 |.enum,.ref B,.int s=>match zh m B with
  |some A=>some (A[i]?.map λx=>(.int (s+(i:Int)),x))
  |none=>none
 |.prs,.ref B,.int _=>match zh m B with
  |some A=>match A[i]? with
   |none=>some none
   |some w=>(qM w).map some
  |none=>none
 |.ptp,.T A,.int _=>match A[i]? with
  |none=>some none
  |some w=>(qM w).map some
 |_,_,_=>none
noncomputable def zI(c e:Wd->Wd->Me->Rz)(g:Nat->Me->Option (Option (Wd×Wd))):Nat->Nat->R7->Me->Rz
 |0,_,_,_=>.no
 |k+1,i,A,m=>match g i m with
  |none=>.no
  |some none=>alloc m A
  |some (some (x,y))=>(c x y m).bind λb m1=>match b with
   |.bl true=>(e x y m1).bind λz m2=>if A.length<aA then zI c e g k (i+1) (A++[z]) m2 else .no
   |.bl false=>zI c e g k (i+1) A m1
   |_=>.no
noncomputable def zj:Wd->R7
 |.T A=>A
 |_=>[]
noncomputable def ae(cl:N6):Ex->En->Me->Rz
 |.V i,A,m=>match A[i]? with
  |some (some w)=>.ok w m
  |_=>.no
 |.lit w,_,m=>.ok w m
 |.bin E a b,A,m=>(ae cl a A m).bind λx m1=>(ae cl b A m1).bind λy m2=>cB E x y m2
 |.neg a,A,m=>(ae cl a A m).bind λx m1=>match x with
  |.int i=>.ok (.int (-i)) m1
  |_=>.no
 |.not a,A,m=>(ae cl a A m).bind λx m1=>match x with
  |.bl b=>.ok (.bl (! b)) m1
  |_=>.no
 |.and a b,A,m=>(ae cl a A m).bind λx m1=>match x with
  |.bl true=>ae cl b A m1
  |.bl false=>.ok (.bl false) m1
  |_=>.no
 |.or a b,A,m=>(ae cl a A m).bind λx m1=>match x with
  |.bl false=>ae cl b A m1
  |.bl true=>.ok (.bl true) m1
  |_=>.no
 |.cmp E a b,A,m=>(ae cl a A m).bind λx m1=>(ae cl b A m1).bind λy m2=>cA E x y m2
 |.chain p q a b c,A,m=>(ae cl a A m).bind λx m1=>(ae cl b A m1).bind λy m2=>(cA p x y m2).bind λz m3=>match z with
  |.bl true=>(ae cl c A m3).bind λu m4=>cA q y u m4
  |.bl false=>.ok (.bl false) m3
  |_=>.no
 |.ife c a b,A,m=>(ae cl c A m).bind λx m1=>match x with
  |.bl true=>ae cl a A m1
  |.bl false=>ae cl b A m1
  |_=>.no
 |.u,_,m=>.ok (.T []) m
 |.P a b,A,m=>(ae cl a A m).bind λx m1=>(ae cl b A m1).bind λy m2=>.ok (.T (x::zj y)) m2
 |.call k a,A,m=>(ae cl a A m).bind λx m1=>cl k (zj x) m1
 |.blt b a,A,m=>(ae cl a A m).bind λx m1=>vf b (zj x) m1
 |.isi t a,A,m=>(ae cl a A m).bind λx m1=>di (c7 t x m1) m1
 |.L a,A,m=>(ae cl a A m).bind λx m1=>alloc m1 (zj x)
 |.T a,A,m=>(ae cl a A m).bind λx m1=>if(zj x).length<=aA then .ok (.T (zj x)) m1 else .no
 |.dict0,_,m=>.ok (.ref m.length) (m++[.D [] []])
 |.i a b,A,m=>(ae cl a A m).bind λx m1=>(ae cl b A m1).bind λy m2=>wO x y m2
 |.dget a b,A,m=>(ae cl a A m).bind λx m1=>(ae cl b A m1).bind λy m2=>kU x y m2
 |.dop k a b c,A,m=>(ae cl a A m).bind λx m1=>match fu k x m1 with
  |true=>(ae cl b A m1).bind λy m2=>(ae cl c A m2).bind λz m3=>wP k x y z m3
  |false=>.no
 |.meth n o a,A,m=>(ae cl o A m).bind λx m1=>match yB x m1 with
  |true=>(ae cl a A m1).bind λy m2=>cS n x (zj y) m2
  |false=>.no
 |.rng a b c,A,m=>(ae cl a A m).bind λx m1=>(ae cl b A m1).bind λy m2=>(ae cl c A m2).bind λz m3=>fq x y z m3
 |.comp B H cond,A,m=>(ae cl H A m).bind λx m1=>match x with
  |.T G=>yo (λx m=>ae cl cond (A++[some x]) m) (λx m=>ae cl B (A++[some x]) m) G [] m1
  |.rol G=>yo (λx m=>ae cl cond (A++[some x]) m) (λx m=>ae cl B (A++[some x]) m) G [] m1
  |.ref l=>yw (λx m=>ae cl cond (A++[some x]) m) (λx m=>ae cl B (A++[some x]) m) l (aA+1) 0 [] m1
  |_=>.no
 |.compP k B a b cond,A,m=>(ae cl a A m).bind λx m1=>(ae cl b A m1).bind λy m2=>
  zI (λu v m=>ae cl cond (A++[some u]++[some v]) m) (λu v m=>ae cl B (A++[some u]++[some v]) m) (zn k x y) (aA+1) 0 [] m2
noncomputable def x0(body:Wd->En->Me->Rs):R7->En->Me->Rs
 |[],A,m=>.next A m
 |x::B,A,m=>match body x A m with
  |.next E m1=>x0 body B E m1
  |r=>r
noncomputable def xq(body:Wd->En->Me->Rs)(l:Nat):Nat->Nat->En->Me->Rs
 |0,_,_,_=>.no
 |k+1,i,A,m=>match zh m l with
  |none=>.no
  |some B=>match B[i]? with
   |none=>.next A m
   |some x=>match body x A m with
    |.next E m1=>xq body l k (i+1) E m1
    |r=>r
noncomputable def xt(body:Wd->En->Me->Rs)(l n:Nat):Nat->Nat->En->Me->Rs
 |0,_,_,_=>.no
 |k+1,i,A,m=>match m[l]? with
  |some (.D B _)=>if B.length=n then match B[i]? with
   |none=>.next A m
   |some q=>match body (.T (q.map Wd.int)) A m with
    |.next E m1=>xt body l n k (i+1) E m1
    |r=>r
   else .no
  |_=>.no
noncomputable def vg(m:Me)(l:Nat):Nat:=match m[l]? with
 |some (.D A _)=>A.length
 |_=>0
noncomputable def xB(body:Wd->En->Me->Rs)(g:Nat->Me->Option (Option (Wd×Wd))):Nat->Nat->En->Me->Rs
 |0,_,_,_=>.no
 |k+1,i,A,m=>match g i m with
  |none=>.no
  |some none=>.next A m
  |some (some (x,y))=>match body (.T [x,y]) A m with
   |.next B m1=>xB body g k (i+1) B m1
   |r=>r
noncomputable def kW(c:En->Me->Rz)(body:En->Me->Rs):Nat->En->Me->Rs
 |0,_,_=>.no
 |k+1,A,m=>match c A m with
  |.ok (.bl true) m1=>match body A m1 with
   |.next B m2=>kW c body k B m2
   |r=>r
  |.ok (.bl false) m1=>.next A m1
  |_=>.no
noncomputable def Rz.bindS(r:Rz)(env:En)(f:Wd->Me->Rs):Rs:=match r with
 |.ok w m=>f w m
 |.no=>.no
noncomputable def gH(body:Wd->En->Me->Rs)(w:Wd)(env:En)(m:Me):Rs:=match w with
 |.T A=>x0 body A env m
 |.rol A=>x0 body A env m
 |.ref l=>xq body l (aA+1) 0 env m
 |_=>.no
noncomputable def bR(i j:Nat):Wd->En->Option En:=λw A=>match w with
 |.T [a,b]=>some ((A.set i (some a)).set j (some b))
 |_=>none
noncomputable def zB(st:Wd->En->Option En)(b:En->Me->Rs):Wd->En->Me->Rs:=λw B m=>match st w B with
 |some A=>b A m
 |none=>.no
noncomputable def fW(op:Bo)(x y:Wd)(m:Me)(env:En)(f:Wd->Me->Rs):Rs:=match x,y with
 |.int _,.int _=>(cB op x y m).bindS env f
 |_,_=>.no
noncomputable def aV(cl:N6):Sm->En->Me->Rs
 |.skip,A,m=>.next A m
 |.seq a b,A,m=>match aV cl a A m with
  |.next E m1=>aV cl b E m1
  |r=>r
 |.a i e,A,m=>(ae cl e A m).bindS A λw m1=>.next (A.set i (some w)) m1
 |.asgS o i e,A,m=>(ae cl e A m).bindS A λw m1=>(ae cl o A m1).bindS A λx m2=>(ae cl i A m2).bindS A λy m3=>(gE x y w m3).bindS A λ_ m4=>.next A m4
 |.aug i H e,A,m=>match A[i]? with
  |some (some x)=>(ae cl e A m).bindS A λy m1=>fW H x y m1 A λz m2=>.next (A.set i (some z)) m2
  |_=>.no
 |.ite c a b,A,m=>(ae cl c A m).bindS A λx m1=>match x with
  |.bl true=>aV cl a A m1
  |.bl false=>aV cl b A m1
  |_=>.no
 |.forv i G B,A,m=>(ae cl G A m).bindS A λw m1=>gH (λx e m=>aV cl B (e.set i (some x)) m) w A m1
 |.fort i j G B,A,m=>(ae cl G A m).bindS A λw m1=>gH (zB (bR i j) (aV cl B)) w A m1
 |.while c B,A,m=>kW (ae cl c) (aV cl B) 1000000 A m
 |.ret e,A,m=>(ae cl e A m).bindS A λw m1=>.ret w m1
 |.expr e,A,m=>(ae cl e A m).bindS A λ_ m1=>.next A m1
 |.bor i e c d,A,m=>(ae cl e A m).bindS A λw m1=>(ae cl c (A.set i (some w)) m1).bindS (A.set i (some w)) λb m2=>match b with
  |.bl true=>.ret (.bl false) m2
  |.bl false=>(ae cl d (A.set i (some w)) m2).bindS (A.set i (some w)) λb m3=>match b with
   |.bl true=>.ret (.bl false) m3
   |.bl false=>.next (A.set i (some w)) m3
   |_=>.no
  |_=>.no
 |.clrT i k x,A,m=>match (ae cl (.V x) A m).bindS A λw m1=>gH (zB (bR i k) λe m=>(ae cl (.meth .clear (.V i) .u) e m).bindS e λ_ m1=>.next e m1) w A m1 with
  |.next E m1=>(ae cl (.meth .clear (.V x) .u) E m1).bindS E λ_ m2=>.next E m2
  |r=>r
 |.forE i j a B,A,m=>(ae cl a A m).bindS A λx m1=>xB (zB (bR i j) (aV cl B)) (zn .enum x (.int 0)) (aA+1) 0 A m1
 |.popI j e a b,A,m=>(ae cl (.cmp .ne (.meth .pop (.V j) .u) e) A m).bindS A λx m1=>match x with
  |.bl true=>aV cl a A m1
  |.bl false=>aV cl b A m1
  |_=>.no
 |.dput x k e,A,m=>(ae cl e A m).bindS A λv m1=>(ae cl (.V x) A m1).bindS A λd m2=>(ae cl k A m2).bindS A λq m3=>(jW d q v m3).bindS A λ_ m4=>.next A m4
 |.forD i x B,A,m=>(ae cl (.V x) A m).bindS A λw m1=>match w with
  |.ref l=>xt (λq e m=>aV cl B (e.set i (some q)) m) l (vg m1 l) (aA+1) 0 A m1
  |_=>.no
 |.never,_,_=>.no
noncomputable def kq(a b c d:Ex):Ex:=.T (.P a (.P b (.P c (.P d .u))))
noncomputable def cE(k:R5)(a:Ex):Ex:=.T (.P (.lit (.str k)) (.P a .u))
noncomputable def fm(n:Nat)(A B E G:R5)(a b c d mx elt:Ex):Ex:=.compP .ptp elt (kq (cE A a) (cE B b) (cE E c) (cE G d)) (.lit (.int 0)) (.cmp .eq (.V (n+1)) mx)
noncomputable def cP(x y:Int):Ex:=.T (.P (.lit (.int x)) (.P (.lit (.int y)) .u))
noncomputable def qN(i:Nat)(A B E G:R5):Ex:=.ife (.cmp .eq (.V i) (.lit (.str A))) (.lit (.int 0)) (.ife (.cmp .eq (.V i) (.lit (.str B))) (.lit (.int 1)) (.ife (.cmp .eq (.V i) (.lit (.str E))) (.lit (.int 2)) (.ife (.cmp .eq (.V i) (.lit (.str G))) (.lit (.int 3)) (.lit .N))))
noncomputable def kX{A:Type}(s B E G H:R5)(a b c d:A):Option A:=if s=B then some a else if s=E then some b else if s=G then some c else if s=H then some d else none
set_option genInjectivity false in
structure Fn where
 ar:Nat
 sz:Nat
 body:Sm
deriving Inhabited
noncomputable def xM(A:Fn)(ws:R7):En:=ws.map some++QH (A.sz-ws.length) none
noncomputable def gI(cl:N6)(A:Fn)(ws:R7)(m:Me):Rz:=
 if ws.length=A.ar then match aV cl A.body (xM A ws) m with
  |.next _ m1=>.ok .N m1
  |.ret w m1=>.ok w m1
  |_=>.no
 else .no
noncomputable def xc(T:List Fn):Nat->Nat->R7->Me->Rz
 |0,_,_,_=>.no
 |d+1,k,A,m=>match T[k]? with
  |some B=>gI (xc T d) B A m
  |none=>.no
end Mini
namespace Mini
open PySem PySem.Spec PyProof.Rows L2
abbrev St:=L2.St
noncomputable def KL(K:Qb)(a:Addr)(xs:S6):Prop:=
 ∃(o:Obj) (A:O4) (n:Nat),K.lookup a=some o/\o.cls=.type "list" /\ o.dict=none/\o.data=.seq A n/\A.size<=sizeLine/\az xs A.toList
noncomputable def et(K:Qb)(H:Hp)(a:Addr)(vs:S6):Prop:=(∃o,H a=some (.frz o (.L vs)))\/KL K a vs
def et.sq {K:Qb}(h:et K H a vs):bb K H a vs:=by
 rcases h with h|h
 .exact .inl (.inr h)
 .exact .inr h
mutual
noncomputable def ai(K:Qb)(as:O9)(H:Hp):Wd->V->Prop
 |.N,v=>v=.N
 |.bl b,v=>v=.bl b
 |.int i,v=>v=.int i
 |.str s,v=>v=.str ⟨s.toArray⟩
 |.T B,v=>∃a A,v=.ref a/\bC K H a A/\ab K as H B A
 |.rol B,v=>∃a A,v=.ref a/\et K H a A/\ab K as H B A
 |.ref l,v=>∃a,as[l]?=some a/\v=.ref a
noncomputable def ab(K:Qb)(as:O9)(H:Hp):R7->S6->Prop
 |[],A=>A=[]
 |x::B,A=>∃v r,A=v::r/\ai K as H x v/\ab K as H B r
end
noncomputable def a7(K:Qb)(as:O9)(H:Hp):Ob->Addr->Prop
 |.L B,a=>∃A,H a=some (.L A)/\ab K as H B A
 |.D G B,a=>∃E A,yn K H a E/\E.map (·.1)=G/\ab K as H B A/\az A (E.map (·.2.2))/\G.Nodup
structure aJ(K:Qb)(as:O9)(m:Me)(H:Hp):Prop where
 len:as.length=m.length
 nd:as.Nodup
 obj:∀(l:Nat) (a:Addr) (o:Ob),as[l]?=some a->m[l]?=some o->a7 K as H o a
structure Step(as:O9)(H:Hp)(as':O9)(H':Hp):Prop where
 pre:∃t,as'=as++t
 frame:∀b o,H b=some o->b∉as->H' b=some o
 fresh:∀a∈as',a∈as\/H a=none
section
variable{K:Qb}{as as' as2:O9}{H H' H2:Hp}{m m':Me}
def Step.refl:Step as H as H:=⟨⟨[],by simp⟩,λ_ _ h _=>h,λ_ h=>.inl h⟩
def Step.get (T:Step as H as' H'){l:Nat}(h:as[l]?=some a):as'[l]?=some a:=by
 obtain⟨t,rfl⟩:=T.pre;rw[Qf (Qa.mp h).1];exact h
def Step.out (T:Step as H as' H')(h:H b=some o)(A:b∉as):b∉as':=λz=>by
 rcases T.fresh b z with q|q
 .exact A q
 .rw[h]at q;cases q
def Step.trans(T:Step as H as' H')(U:Step as' H' as2 H2):Step as H as2 H2:=by
 refine⟨?_,λb o h A=>U.frame b o (T.frame b o h A) (T.out h A),λa B=>?_⟩
 .obtain ⟨t,rfl⟩:=T.pre;obtain⟨u,rfl⟩:=U.pre;exact⟨t++u,by simp⟩
 .rcases U.fresh a B with q|q
  .exact T.fresh a q
  .by_cases z:a∈as
   .exact .inl z
   .refine .inr ?_;cases e:H a with
    |none=>rfl
    |some o=>rw[T.frame a o e z]at q;cases q
def aJ.get (S:aJ K as m H){l:Nat}(h:m[l]?=some o):∃a,as[l]?=some a/\a7 K as H o a:=by
 have hl:l<as.length:=by rw[S.len];exact(Qa.mp h).1
 exact⟨as[l],by simp[hl],S.obj l _ o (by simp[hl]) h⟩
noncomputable def LD:HO->Prop
 |.L _=>True
 |.ext _=>True
 |.dK _=>True
 |_=>False
def aJ.isLst (S:aJ K as m H)(h:a∈as):∃o,H a=some o/\LD o:=by
 obtain⟨l,hl,rfl⟩:=WS.mp h;have B:l<m.length:=by rw[<-S.len];exact hl
 have q:=S.obj l as[l] m[l] (by simp[hl]) (by simp[B]);cases e:m[l]with
 |L E=>
  rw[e]at q;obtain⟨G,A,_⟩:=q;exact⟨_,A,trivial⟩
 |D I E=>
  rw[e]at q;obtain⟨J,G,A,_⟩:=q;exact⟨_,A.1,trivial⟩
def Ia (B:∀a∈as,∃o,H a=some o/\LD o)(T:Step as H as' H')(h:bC K H a vs):bC K H' a vs:=by
 rcases h with h|h
 .have A:a∉as:=λz=>by
   obtain⟨u,e,E⟩:=B a z;rcases h with h|⟨o,h⟩<;>rw[e]at h<;>cases h<;>exact E
  rcases h with h|⟨o,h⟩
  .exact .inl (.inl (T.frame _ _ h A))
  .exact .inl (.inr ⟨o,T.frame _ _ h A⟩)
 .exact .inr h
def H0 (A:∀a∈as,∃o,H a=some o/\LD o)(T:Step as H as' H')(h:et K H a vs):et K H' a vs:=by
 rcases h with⟨o,h⟩|h
 .have B:a∉as:=λz=>by
   obtain⟨u,e,E⟩:=A a z;rw[e]at h;cases h;exact E
  exact .inl ⟨o,T.frame _ _ h B⟩
 .exact .inr h
structure Kp(K:Qb)(H H':Hp):Prop where
 t:∀a vs,bC K H a vs->bC K H' a vs
 f:∀a vs,et K H a vs->et K H' a vs
def aJ.kp(S:aJ K as m H)(T:Step as H as' H'):Kp K H H':=⟨λ_ _ h=>Ia (λ_ z=>S.isLst z) T h,λ_ _ h=>H0 (λ_ z=>S.isLst z) T h⟩
def Kp.updL{D:Addr}{u o:HO}(h:H D=some u)(A:LD u):Kp K H (L2.aG H D o):=by
 refine⟨λa B q=>?_,λa B q=>?_⟩
 .rcases q with (q|⟨x,q⟩)|q
  .exact .inl (.inl (by rw[ze (by rintro rfl;rw[h]at q;cases q;exact A)];exact q))
  .exact .inl (.inr ⟨x,by rw[ze (by rintro rfl;rw[h]at q;cases q;exact A)];exact q⟩)
  .exact .inr q
 .rcases q with⟨x,q⟩|q
  .exact .inl ⟨x,by rw[ze (by rintro rfl;rw[h]at q;cases q;exact A)];exact q⟩
  .exact .inr q
def Kp.upd{D:Addr}{ys:S6}{o:HO}(h:H D=some (.L ys)):Kp K H (L2.aG H D o):=Kp.updL h trivial
mutual
theorem kY(k:Kp K H H')(g:∀(l:Nat) (a:Addr),as[l]?=some a->as'[l]?=some a):∀(w:Wd) (v:V),ai K as H w v->ai K as' H' w v
 |.N,_,h=>by rw[ai]at h ⊢;exact h
 |.bl _,_,h=>by rw[ai]at h ⊢;exact h
 |.int _,_,h=>by rw[ai]at h ⊢;exact h
 |.str _,_,h=>by rw[ai]at h ⊢;exact h
 |.T B,v,h=>by
  rw[ai]at h ⊢;obtain⟨a,A,e,q,r⟩:=h;exact⟨a,A,e,k.t _ _ q,a8 k g B A r⟩
 |.rol B,v,h=>by
  rw[ai]at h ⊢;obtain⟨a,A,e,q,r⟩:=h;exact⟨a,A,e,k.f _ _ q,a8 k g B A r⟩
 |.ref l,v,h=>by
  rw[ai]at h ⊢;obtain⟨a,q,e⟩:=h;exact⟨a,g _ _ q,e⟩
theorem a8(k:Kp K H H')(g:∀(l:Nat) (a:Addr),as[l]?=some a->as'[l]?=some a):∀(ws:R7) (vs:S6),ab K as H ws vs->ab K as' H' ws vs
 |[],_,h=>by rw[ab]at h ⊢;exact h
 |x::A,vs,h=>by
  rw[ab]at h ⊢;obtain⟨v,r,e,q,t⟩:=h;exact⟨v,r,e,kY k g x v q,a8 k g A r t⟩
end
def a7.mono{ob:Ob}{a:Addr}(k:Kp K H I)(g:∀(l:Nat) (a:Addr),as[l]?=some a->B[l]?=some a)(e:∀o,H a=some o->I a=some o)(h:a7 K as H ob a):a7 K B I ob a:=by
 cases ob with
 |L J=>obtain⟨E,A,G⟩:=h;exact⟨E,e _ A,a8 k g _ _ G⟩
 |D U J=>obtain⟨M,E,A,G,N,O⟩:=h;exact⟨M,E,⟨e _ A.1,λx Q=>k.t _ _ (A.2 x Q)⟩,G,a8 k g _ _ N,O⟩
def ai.mono{w:Wd}{v:V}(h:ai K as H w v)(S:aJ K as m H)(T:Step as H A B):ai K A B w v:=kY (S.kp T) (λ_ _ e=>T.get e) w v h
def ab.mono{ws:R7}{vs:S6}(h:ab K as H ws vs)(S:aJ K as m H)(T:Step as H A B):ab K A B ws vs:=a8 (S.kp T) (λ_ _ e=>T.get e) ws vs h
def ab.kp{ws:R7}{vs:S6}(h:ab K as H ws vs)(k:Kp K H A):ab K as A ws vs:=a8 k (λ_ _ e=>e) ws vs h
def ai.kp{w:Wd}{v:V}(h:ai K as H w v)(k:Kp K H A):ai K as A w v:=kY k (λ_ _ e=>e) w v h
def ao:ai K as H .N v↔v=.N:=by rw[ai]
def ag:ai K as H (.bl b) v↔v=.bl b:=by rw[ai]
def aa:ai K as H (.int i) v↔v=.int i:=by rw[ai]
def aB:ai K as H (.str s) v↔v=.str ⟨s.toArray⟩:=by rw[ai]
def ah:ai K as H (.T xs) v↔∃a vs,v=.ref a/\bC K H a vs/\ab K as H xs vs:=by rw[ai]
def bg:ai K as H (.rol xs) v↔∃a vs,v=.ref a/\et K H a vs/\ab K as H xs vs:=by rw[ai]
def aE:ai K as H (.ref l) v↔∃a,as[l]?=some a/\v=.ref a:=by rw[ai]
def aq:ab K as H [] vs↔vs=[]:=by rw[ab]
def ak:ab K as H (x::xs) vs↔∃v r,vs=v::r/\ai K as H x v/\ab K as H xs r:=by rw[ab]
theorem ab.length:∀{xs:R7}{vs:S6},ab K as H xs vs->xs.length=vs.length
 |[],vs,h=>by rw[aq.mp h];rfl
 |x::xs,vs,h=>by
  obtain⟨v,r,rfl,_,t⟩:=ak.mp h;simp[ab.length t]
theorem ab.get:∀{xs:R7}{vs:S6}{i:Nat}{x:Wd},ab K as H xs vs->xs[i]?=some x->∃v,vs[i]?=some v/\ai K as H x v
 |[],_,_,_,_,e=>by simp at e
 |x::xs,vs,0,y,h,e=>by
  obtain⟨v,r,rfl,q,t⟩:=ak.mp h;simp at e;subst e;exact⟨v,rfl,q⟩
 |x::xs,vs,i+1,y,h,e=>by
  obtain⟨v,r,rfl,q,t⟩:=ak.mp h;obtain⟨u,A,B⟩:=ab.get (i:=i) (x:=y) t (by simpa using e);exact⟨u,by simpa using A,B⟩
def ab.back:∀{xs:R7}{vs:S6}{i:Nat}{v:V},ab K as H xs vs->vs[i]?=some v->∃x,xs[i]?=some x/\ai K as H x v:=λ{xs vs i v} h e=>by
 have A:i<xs.length:=by rw[h.length];exact(Qa.mp e).1
 obtain⟨u,B,E⟩:=h.get (i:=i) (x:=xs[i]) (by simp[A]);rw[e]at B;cases B;exact⟨xs[i],by simp[A],E⟩
theorem ab.append:∀{xs ys:R7}{vs A:S6},ab K as H xs vs->ab K as H ys A->ab K as H (xs++ys) (vs++A)
 |[],ys,vs,A,h,B=>by rw[aq.mp h];exact B
 |x::xs,ys,vs,A,h,B=>by
  obtain⟨v,r,rfl,q,t⟩:=ak.mp h;exact ak.mpr ⟨v,r++A,rfl,q,t.append B⟩
def ab.one{x:Wd}{v:V}(h:ai K as H x v):ab K as H [x] [v]:=ak.mpr ⟨v,[],rfl,h,aq.mpr rfl⟩
theorem ab.set:∀{xs:R7}{vs:S6}{x:Wd}{v:V}(i:Nat),ab K as H xs vs->ai K as H x v->ab K as H (xs.set i x) (vs.set i v)
 |[],vs,_,_,_,h,_=>by rw[aq.mp h];exact aq.mpr rfl
 |y::xs,vs,x,v,0,h,A=>by
  obtain⟨u,r,rfl,q,t⟩:=ak.mp h;exact ak.mpr ⟨v,r,rfl,A,t⟩
 |y::xs,vs,x,v,i+1,h,A=>by
  obtain⟨u,r,rfl,q,t⟩:=ak.mp h;exact ak.mpr ⟨u,r.set i v,rfl,q,t.set i A⟩
set_option tactic.hygienic true in
theorem ab.take:∀{xs:R7}{vs:S6}(n:Nat),ab K as H xs vs->ab K as H (xs.take n) (vs.take n)
 |_,_,0,_=>aq.mpr rfl
 |[],vs,n+1,h=>by rw[aq.mp h];exact aq.mpr rfl
 |x::xs,vs,n+1,h=>by
  obtain⟨v,r,rfl,q,t⟩:=ak.mp h;exact ak.mpr ⟨v,r.take n,rfl,q,t.take n⟩
theorem ab.reverse:∀{xs:R7}{vs:S6},ab K as H xs vs->ab K as H xs.reverse vs.reverse
 |[],vs,h=>by rw[aq.mp h];exact aq.mpr rfl
 |x::xs,vs,h=>by
  obtain⟨v,r,rfl,q,t⟩:=ak.mp h;rw[Wj,Wj];exact t.reverse.append (.one q)
theorem ab.dropLast:∀{xs:R7}{vs:S6},ab K as H xs vs->ab K as H xs.dropLast vs.dropLast:=λ{xs vs} h=>by
 rw[WN,WN,h.length];exact h.take _
theorem ab.rep (h:ab K as H xs vs):∀k:Nat,ab K as H (QH k xs).flatten (QH k vs).flatten
 |0=>aq.mpr rfl
 |k+1=>by
  rw[Wa,Wa,Q7,Q7];exact h.append (ab.rep h k)
structure aD(K:Qb)(as:O9)(H:Hp)(env:En)(σ:St):Prop where
 len:env.length=σ.length
 get:∀(i:Nat) (w:Wd),env[i]?=some (some w)->∃v,σ[i]?=some (some v)/\ai K as H w v
theorem aD.mono{env:En}{σ:St}(G:aD K as H env σ)(S:aJ K as m H)(T:Step as H A B):aD K A B env σ:=
 ⟨G.len,λi w e=>let⟨v,E,I⟩:=G.get i w e;⟨v,E,I.mono S T⟩⟩
theorem aD.kp{env:En}{σ:St}(G:aD K as H env σ)(k:Kp K H A):aD K as A env σ:=
 ⟨G.len,λi w e=>let⟨v,B,E⟩:=G.get i w e;⟨v,B,E.kp k⟩⟩
theorem aD.set{env:En}{σ:St}(G:aD K as H env σ){w:Wd}{v:V}(h:ai K as H w v)(i:Nat):aD K as H (env.set i (some w)) (σ.set i (some v)):=by
 refine⟨by simp[G.len],λj x e=>?_⟩;by_cases A:j=i
 .subst A;have hl:j<env.length:=by
   have:=(Qa.mp e).1;simpa using this
  rw[QU hl]at e;cases e;exact⟨v,QU (by rw[<-G.len];exact hl),h⟩
 .rw[Qi (Ne.symm A)]at e;obtain⟨u,B,E⟩:=G.get j x e;exact⟨u,by rw[Qi (Ne.symm A)];exact B,E⟩
def aD.push{env:En}{σ:St}(G:aD K as H env σ){w:Wd}{v:V}(h:ai K as H w v):aD K as H (env++[some w]) (σ++[some v]):=by
 refine⟨by simp[G.len],λj x e=>?_⟩;by_cases A:j<env.length
 .rw[Qf A]at e;obtain⟨u,E,I⟩:=G.get j x e;exact⟨u,by rw[Qf (by rw[<-G.len];exact A)];exact E,I⟩
 .rw[Qd (by lia)]at e;have B:j-env.length=0:=by
   cases J:j-env.length with
   |zero=>rfl
   |succ k=>rw[J]at e;simp at e
  rw[B]at e;simp at e;subst e;refine⟨v,?_,h⟩;rw[Qd (by rw[<-G.len];lia),<-G.len,B];rfl
noncomputable def am(K:Qb)(as:O9)(H:Hp)(Q:VK)(r:Rz):Prop:=match r with
 |.ok w E=>∀A B v,Step as H A B->aJ K A E B->ai K A B w v->Q v B
 |_=>False
def am.step{Q:VK}{r:Rz}(h:am K as H Q r)(T:Step as H A E):am K A E Q r:=by
 cases r with
 |ok w I=>exact λB G v U S R=>h B G v (T.trans U) S R
 |no=>exact h
theorem am.bind{Q G:VK}{r:Rz}{f:Wd->Me->Rz}(h:am K as H Q (r.bind f))
  (k:∀w m' A B v,Step as H A B->aJ K A m' B->ai K A B w v->am K A B Q (f w m')->G v B):am K as H G r:=by
 cases r with
 |ok w m'=>exact λE I v U S R=>k w m' E I v U S R (am.step (r:=f w m') h U)
 |no=>exact h
def eC (h:am K as H Q (r.bind f))(T:Step as H E G)(k:∀w m2 A B v,Step E G A B->aJ K A m2 B->ai K A B w v->am K as H Q (f w m2)->I v B):am K E G I r:=by
 cases r with
 |ok w J=>exact λA B v U S R=>k w J A B v U S R h
 |no=>exact h
noncomputable def aF(K:Qb)(g:En->Me->Rz):TE:=λB H Q=>∃as A m,aJ K as m H/\aD K as H A B/\am K as H Q (g A m)
noncomputable def y6(K:Qb)(g:En->Me->Rz):TT:=λA H Q=>aF K g A H λv B=>∃b,v=.bl b/\Q b B
theorem am.ok (h:am K as H Q (.ok w m))(S:aJ K as m H)(R:ai K as H w v):Q v H:=h as H v .refl S R
end
def PE.imp{X:Cx}{e:Expr}{t t':TE}(h:PE X e t)(k:∀σ H Q,t' σ H Q->t σ H Q):PE X e t':=λA s σ H Q I q=>h A s σ H Q I (k σ H Q q)
def PT.imp{X:Cx}{e:Expr}{t t':TT}(h:PT X e t)(k:∀σ H Q,t' σ H Q->t σ H Q):PT X e t':=λA s σ H Q I q=>h A s σ H Q I (k σ H Q q)
def PA.imp{X:Cx}{E:P6}{t t':TA}(h:PA X E t)(k:∀σ H Q,t' σ H Q->t σ H Q):PA X E t':=λB A s σ H Q I q=>h B A s σ H Q I (k σ H Q q)
def PS.imp{X:Cx}{st:Stmt}{t t':TS}(h:PS X st t)(k:∀D σ H,t' D σ H->t D σ H):PS X st t':=λA s σ H D I q=>h A s σ H D I (k D σ H q)
def ci.imp{X:Cx}{st:P7}{t t':TS}(h:ci X st t)(k:∀D σ H,t' D σ H->t D σ H):ci X st t':=λA s σ H D I q=>h A s σ H D I (k D σ H q)
end Mini
namespace L2
open PySem PySem.Spec PyProof.Rows
section
variable{X:Cx}
noncomputable def sP(K:Qb):R2:=λx y H Q=>∃a b A,x=.ref a/\y=.ref b/\bC K H a []/\bC K H b A/\Q (.ref b) H
def Ft:bV X (Mu .Add) (sP X.K):=by
 intro B s i H x y v u Q I U Y h;obtain⟨a,b,w,rfl,rfl,j,z,q⟩:=h;cases U;cases Y;obtain⟨o,d,l,_⟩:=I.tuple j;obtain⟨A,r2,g,_⟩:=I.tuple z;cases d;obtain⟨⟨c1,d1,f1,f⟩,E,G,e,J⟩:=l;obtain⟨⟨c2,d2,f2,t⟩,M,N,n,O⟩:=g;simp only at G N J O;subst G N J O;have m:=tuple_addW0 a b #[] A.toArray e n d1 d2 f t rfl;exact MK ⟨_,E,rfl⟩ ⟨_,M,rfl⟩ ML MM PySem.F.slot_tuple_add PySem.F.entry_tuple_add (PySem.F.args_tuple_add_2 _ _) m ⟨E,M,.ref b,H,I,rfl,q⟩
end
end L2
namespace Mini
open PySem PySem.Spec PyProof.Rows L2
section
variable{K:Qb}{as:O9}{H H':Hp}{m:Me}{Q:VK}{a p:Addr}{l:Nat}{ws xs:R7}{vs us:S6}
def yx:aA<=sizeLine:=by rw[My];decide
def aJ.new(S:aJ K as m H)(A:H p=none):p∉as:=λz=>by
 obtain⟨us,e,_⟩:=S.isLst z;rw[A]at e;cases e
def aJ.alloc(S:aJ K as m H)(E:H p=none)(R:ab K as H ws vs):Step as H (as++[p]) (aG H p (.L vs))/\aJ K (as++[p]) (m++[.L ws]) (aG H p (.L vs)):=by
 have I:=S.new E;have T:Step as H (as++[p]) (aG H p (.L vs)):=⟨⟨[p],rfl⟩,λb o h _=>by rw[ze (zo h E)];exact h,λb J=>by
  rcases QJ.mp J with z|z
  .exact .inl z
  .exact .inr (by rw[QK.mp z];exact E)⟩
 refine⟨T,⟨by simp[S.len],?_,λl b o A B=>?_⟩⟩
 .refine Qw.mpr ⟨S.nd,by simp,λx M y N=>?_⟩;rw[QK.mp N];rintro rfl;exact I M
 .by_cases hl:l<as.length
  .rw[Qf hl]at A;rw[Qf (by rw[<-S.len];exact hl)]at B;have q:=S.obj l b o A B;cases o with
   |L j=>
    obtain⟨O,e,r⟩:=q;exact⟨O,by rw[ze (zo e E)];exact e,r.mono S T⟩
   |D U us=>exact a7.mono (ob:=.D U us) (S.kp T) (λ_ _ e=>T.get e) (λo e=>by rw[ze (zo e E)];exact e) q
  .rw[Qd (by lia)]at A;rw[Qd (by rw[<-S.len];lia)]at B;have G:l-as.length=0:=by
    cases Y:l-as.length with
    |zero=>rfl
    |succ k=>rw[Y]at A;simp at A
   rw[G]at A;rw[<-S.len,G]at B;simp at A B;subst A;subst B;exact⟨vs,zf,R.mono S T⟩
theorem aJ.set(S:aJ K as m H)(G:as[l]?=some a)(M:m[l]?=some (.L xs))(R:ab K as H ws vs):Step as H as (aG H a (.L vs))/\aJ K as (m.set l (.L ws)) (aG H a (.L vs)):=by
 have I:a∈as:=Qo G;have T:Step as H as (aG H a (.L vs)):=⟨⟨[],by simp⟩,λb o h A=>by
  rw[ze (by rintro rfl;exact A I)];exact h,λb A=>.inl A⟩
 refine⟨T,⟨by simp[S.len],S.nd,λk b o B E=>?_⟩⟩;by_cases J:k=l
 .subst J;rw[G]at B;cases B;rw[QU (Qa.mp M).1]at E;cases E;exact⟨vs,zf,R.mono S T⟩
 .rw[Qi (Ne.symm J)]at E;have q:=S.obj k b o B E;have A:b≠a:=by
   rintro rfl;obtain⟨j,N⟩:=Qa.mp B;obtain⟨u,O⟩:=Qa.mp G;exact J ((WO S.nd).mp (N.trans O.symm))
  cases o with
  |L z=>
   obtain⟨U,e,r⟩:=q;exact⟨U,by rw[ze A];exact e,r.mono S T⟩
  |D Y us=>exact a7.mono (ob:=.D Y us) (S.kp T) (λ_ _ e=>T.get e) (λo e=>by rw[ze A];exact e) q
def aJ.keep(S:aJ K as m H)(T:Step as H as H')(B:∀a∈as,∀o,H a=some o->H' a=some o):aJ K as m H':=by
 refine⟨S.len,S.nd,λl b o A E=>?_⟩;have q:=S.obj l b o A E;cases o with
 |L J=>
  obtain⟨G,e,r⟩:=q;exact⟨G,B b (Qo A) _ e,r.mono S T⟩
 |D I us=>exact a7.mono (ob:=.D I us) (S.kp T) (λ_ _ e=>T.get e) (λo e=>B b (Qo A) _ e) q
theorem aJ.T(S:aJ K as m H)(A:H p=none)(R:ab K as H ws vs):Step as H as (aG H p (.T vs))/\aJ K as m (aG H p (.T vs))/\ai K as (aG H p (.T vs)) (.T ws) (.ref p):=by
 have T:Step as H as (aG H p (.T vs)):=⟨⟨[],by simp⟩,λb o h _=>by rw[ze (zo h A)];exact h,λb B=>.inl B⟩;exact⟨T,S.keep T λb _ o e=>by rw[ze (zo e A)];exact e,ah.mpr ⟨p,vs,rfl,bC.of zf,R.mono S T⟩⟩
def xC(S:aJ K as m H)(R:ab K as H ws vs)(h:am K as H Q (alloc m ws)):vs.length<=aA/\∀p,H p=none->Q (.ref p) (aG H p (.L vs)):=by
 unfold Mini.alloc at h;by_cases hl:ws.length<=aA
 .rw[N0 hl]at h;refine⟨by rw[<-R.length];exact hl,λp A=>?_⟩;obtain⟨T,B⟩:=S.alloc A R;refine h _ _ _ T B (aE.mpr ⟨p,?_,rfl⟩);rw[<-S.len,Qd (Qk _)];simp
 .rw[N1 hl]at h;exact h.elim
def zL(S:aJ K as m H)(A:m[l]?=some (.L xs)):∃a vs,as[l]?=some a/\H a=some (.L vs)/\ab K as H xs vs:=by
 obtain⟨a,B,vs,e,r⟩:=S.get A;exact⟨a,vs,B,e,r⟩
def zy (h:zh m l=some xs):m[l]?=some (.L xs):=by
 unfold zh at h;cases e:m[l]? with
 |none=>rw[e]at h;cases h
 |some o=>cases o with
  |L A=>rw[e]at h;cases h;rfl
  |D B us=>rw[e]at h;cases h
def wQ (S:aJ K as m H)(R:ai K as H w v)(h:yE m w=some xs):∃p vs,v=.ref p/\(bb K H p vs\/bC K H p vs)/\ab K as H xs vs:=by
 cases w with
 |T B=>
  cases h;obtain⟨b,vs,rfl,q,r⟩:=ah.mp R;exact⟨b,vs,rfl,.inr q,r⟩
 |rol B=>
  cases h;obtain⟨b,vs,rfl,q,r⟩:=bg.mp R;exact⟨b,vs,rfl,.inl q.sq,r⟩
 |ref l=>
  obtain⟨b,E,rfl⟩:=aE.mp R;obtain⟨a,vs,A,e,r⟩:=zL S (zy h);rw[E]at A;cases A;exact⟨b,vs,rfl,.inl (bb.of e),r⟩
 |N=>cases h
 |bl b=>cases h
 |int i=>cases h
 |str s=>cases h
noncomputable def fB:Bo->Mi
 |.add=>.Add |.sub=>.Sub |.mul=>.Mult |.fdiv=>.FloorDiv |.mod=>.Mod |.shr=>.RShift |.band=>.BitAnd
noncomputable def rB(K:Qb):Bo->R2
 |.add=>λx y H Q=>dA (λi j=>.int (i+j)) x y H Q\/(sf x y H Q\/(so K x y H Q\/sP K x y H Q))
 |.sub=>dA λi j=>.int (i-j)
 |.mul=>λx y H Q=>rI eB (λi j=>.int (i*j)) x y H Q\/se x y H Q
 |.fdiv=>rI sd λi j=>.int (i/j)
 |.mod=>rI (λ_ j=>0<j) λi j=>.int (i%j)
 |.shr=>rI (λ_ j=>0<=j) λi j=>.int (i/2^j.toNat)
 |.band=>dA λi j=>.int (Builtin.bitAnd i j)
def Ct (op:Bo):bV X (Mu (fB op)) (rB X.K op):=by
 cases op with
 |add=>exact eV.or (eU.or (dT.or Ft))
 |sub=>exact DF
 |mul=>exact eT.or Dr
 |fdiv=>exact GD
 |mod=>exact DE
 |shr=>exact DD
 |band=>exact DC
def Fs (h:0<=i):Builtin.bitAnd i 1=i%2:=by
 obtain⟨n,rfl⟩:=Int.eq_ofNat_of_zero_le h;show Int.ofNat (n &&& 1)=_;rw[Nat.and_one_is_mod];rfl
def jX (h:w9 i=true):-(2^64)<i/\i<2^64:=by
 unfold w9 pQ at h;rw[Qr,decide_eq_true_iff,decide_eq_true_iff]at h;lia
def xu [Decidable c](h:am K as H Q (if c then r else .no)):c/\am K as H Q r:=by
 by_cases A:c
 .rw[N0 A]at h;exact⟨A,h⟩
 .rw[N1 A]at h;exact h.elim
def Fq (h:am K as H Q (cB .add (.ref a) (.ref b) m)):∃xs ys,m[a]?=some (.L xs)/\m[b]?=some (.L ys)/\am K as H Q (alloc m (xs++ys)):=by
 unfold cB at h;dsimp only at h;generalize m[a]?=p at h ⊢;generalize m[b]?=q at h ⊢;cases p with
 |none=>exact h.elim
 |some o=>
  cases o with
  |D A us=>exact h.elim
  |L xs=>
   cases q with
   |none=>exact h.elim
   |some o=>
    cases o with
    |D A us=>exact h.elim
    |L ys=>exact⟨xs,ys,rfl,rfl,h⟩
def Fp (h:am K as H Q (cB .mul (.ref a) (.int k) m)):∃xs,m[a]?=some (.L xs)/\am K as H Q (if -aA<=k/\k<=aA then alloc m (QH k.toNat xs).flatten else .no):=by
 unfold cB at h;dsimp only at h;generalize m[a]?=p at h ⊢;cases p with
 |none=>exact h.elim
 |some o=>
  cases o with
  |D A us=>exact h.elim
  |L xs=>exact⟨xs,rfl,h⟩
set_option tactic.hygienic true in
def Ec (S:aJ K as m H)(Y:ai K as H x v)(I:ai K as H y u)(h:am K as H Q (cB op x y m)):rB K op v u H Q:=by
 cases x with
 |int i=>
  cases y with
  |int j=>
   obtain rfl:=aa.mp Y;obtain rfl:=aa.mp I;cases op with
   |add=>exact .inl ⟨i,j,rfl,rfl,h.ok S (aa.mpr rfl)⟩
   |sub=>exact⟨i,j,rfl,rfl,h.ok S (aa.mpr rfl)⟩
   |mul=>
    obtain⟨B,h⟩:=xu h;refine .inl ⟨i,j,rfl,rfl,?_,h.ok S (aa.mpr rfl)⟩;rcases Bool.or_eq_true_iff.mp B with q|q
    .exact .inl (jX q)
    .exact .inr (jX q)
   |fdiv=>
    obtain⟨B,h⟩:=xu h;exact⟨i,j,rfl,rfl,B,h.ok S (aa.mpr rfl)⟩
   |mod=>
    obtain⟨B,h⟩:=xu h;exact⟨i,j,rfl,rfl,B,h.ok S (aa.mpr rfl)⟩
   |shr=>
    obtain⟨B,h⟩:=xu h;exact⟨i,j,rfl,rfl,B.1,h.ok S (aa.mpr rfl)⟩
   |band=>
    obtain⟨⟨h1,rfl⟩,h'⟩:=xu h;refine⟨i,1,rfl,rfl,?_⟩;show Q (.int (Builtin.bitAnd i 1)) H;rw[Fs h1];exact h'.ok S (aa.mpr rfl)
  |_=>exact h.elim
 |ref a=>
  obtain⟨pa,f,rfl⟩:=aE.mp Y;cases y with
  |ref b=>
   obtain⟨M,hb,rfl⟩:=aE.mp I;cases op with
   |add=>
    obtain⟨xs,N,z,e2,h⟩:=Fq h;obtain⟨o,E,A,d,G⟩:=zL S z;rw[f]at A;cases A;obtain⟨pb',O,J,eb,U⟩:=zL S e2;rw[hb]at J;cases J;obtain⟨hl,q⟩:=xC S (G.append U) h;rw[QP]at hl;exact .inr (.inl ⟨pa,M,E,O,rfl,rfl,d,eb,Qp hl yx,q⟩)
   |_=>exact h.elim
  |int k=>
   obtain rfl:=aa.mp I;cases op with
   |mul=>
    obtain⟨xs,z,h⟩:=Fp h;obtain⟨hk,h⟩:=xu h;obtain⟨o,E,A,d,G⟩:=zL S z;rw[f]at A;cases A;obtain⟨hl,q⟩:=xC S (G.rep k.toNat) h;rw[uN]at hl;have t:(aA:Int)=100000:=rfl;exact .inr ⟨pa,k,E,rfl,rfl,d,by lia,by lia,by rw[Nat.mul_comm];exact Qp hl yx,q⟩
   |_=>exact h.elim
  |_=>exact h.elim
 |T xs=>
  cases y with
  |T N=>
   cases op with
   |add=>
    obtain⟨hc,h⟩:=xu h;obtain⟨pa,E,rfl,g,G⟩:=ah.mp Y;obtain⟨M,O,rfl,n,U⟩:=ah.mp I;have w:=G.length;have lb:=U.length;by_cases hv:E=[]
    .subst hv;obtain rfl:xs=[]:=by
      cases xs with
      |nil=>rfl
      |cons x xs=>simp at w
     exact .inr (.inr (.inr ⟨pa,M,O,rfl,rfl,g,n,h.ok S I⟩))
    refine .inr (.inr (.inl ⟨pa,M,E,O,rfl,rfl,g,n,hv,?_,λe=>?_,λe p hp=>?_⟩))
    .rw[<-w,<-lb];exact Qp hc yx
    .subst e;obtain rfl:N=[]:=by
      cases N with
      |nil=>rfl
      |cons y N=>simp at lb
     refine h.ok S (ah.mpr ⟨pa,E,rfl,g,?_⟩);rw[QX];exact G
    .obtain ⟨T,S',R'⟩:=S.T hp (G.append U);exact h _ _ _ T S' R'
   |_=>exact h.elim
  |_=>exact h.elim
 |_=>exact h.elim
end
end Mini
namespace Mini
open PySem PySem.Spec PyProof.Rows L2
open PySem.SeqAt
section
variable{X:Cx}{pins:O0}{σ:St}{s:Shared}{as:O9}{H:Hp}{m:Me}
def qO (I:Inv X pins σ H s)(E:bC X.K H a xs)(G:bb X.K H a ys):False:=by
 obtain⟨A,_,p,_⟩:=I.tuple E;obtain⟨B,_,q,_⟩:=I.list G;exact ne_of_list_tuple q.isList (show s.heap.IsTuple a A.toArray from p) rfl
def t6 (I:Inv X pins σ H s)(E:bC X.K H a xs)(A:H a=some u)(B:LD u):False:=by
 rcases E with (q|⟨o,q⟩)|⟨o,_,_,G,_⟩
 .rw[A]at q;cases q;exact B
 .rw[A]at q;cases q;exact B
 .have:=(I.bs a o (I.ok.mod.kin a o G)).2;rw[this]at A;cases A
def jY (I:Inv X pins σ H s)(B:KL X.K a xs)(A:H a=some u):False:=by
 obtain⟨o,_,_,E,_⟩:=B;have:=(I.bs a o (I.ok.mod.kin a o E)).2;rw[this]at A;cases A
mutual
theorem wr(I:Inv X pins σ H s)(S:aJ X.K as m H):∀(w B:Wd) (v:V),ai X.K as H w v->ai X.K as H B v->w=B
 |.N,B,v,h,A=>by
  obtain rfl:=ao.mp h;cases B with
  |N=>rfl
  |bl b=>cases ag.mp A
  |int i=>cases aa.mp A
  |str x=>cases aB.mp A
  |T E=>obtain⟨_,_,e,_⟩:=ah.mp A;cases e
  |rol E=>obtain⟨_,_,e,_⟩:=bg.mp A;cases e
  |ref l=>obtain⟨_,_,e⟩:=aE.mp A;cases e
 |.bl c,B,v,h,A=>by
  obtain rfl:=ag.mp h;cases B with
  |N=>cases ao.mp A
  |bl b=>cases ag.mp A;rfl
  |int i=>cases aa.mp A
  |str x=>cases aB.mp A
  |T E=>obtain⟨_,_,e,_⟩:=ah.mp A;cases e
  |rol E=>obtain⟨_,_,e,_⟩:=bg.mp A;cases e
  |ref l=>obtain⟨_,_,e⟩:=aE.mp A;cases e
 |.int c,B,v,h,A=>by
  obtain rfl:=aa.mp h;cases B with
  |N=>cases ao.mp A
  |bl b=>cases ag.mp A
  |int i=>cases aa.mp A;rfl
  |str x=>cases aB.mp A
  |T E=>obtain⟨_,_,e,_⟩:=ah.mp A;cases e
  |rol E=>obtain⟨_,_,e,_⟩:=bg.mp A;cases e
  |ref l=>obtain⟨_,_,e⟩:=aE.mp A;cases e
 |.str c,B,v,h,A=>by
  obtain rfl:=aB.mp h;cases B with
  |N=>cases ao.mp A
  |bl b=>cases ag.mp A
  |int i=>cases aa.mp A
  |str x=>
   have e:=aB.mp A;injection e with e
   injection e with e
   have:c=x:=by simpa using NY WM e
   rw[this]
  |T E=>obtain⟨_,_,e,_⟩:=ah.mp A;cases e
  |rol E=>obtain⟨_,_,e,_⟩:=bg.mp A;cases e
  |ref l=>obtain⟨_,_,e⟩:=aE.mp A;cases e
 |.T E,B,v,h,A=>by
  obtain⟨a,Y,rfl,q,r⟩:=ah.mp h;cases B with
  |N=>cases ao.mp A
  |bl b=>cases ag.mp A
  |int i=>cases aa.mp A
  |str x=>cases aB.mp A
  |T J=>
   obtain⟨b,Q,e,q',M⟩:=ah.mp A;cases e;obtain rfl:=I.tuple_inj q q';rw[cm I S E J Y r M]
  |rol J=>
   obtain⟨b,Q,e,q',M⟩:=bg.mp A;cases e;exact(qO I q q'.sq).elim
  |ref l=>
   obtain⟨b,U,e⟩:=aE.mp A;cases e;obtain⟨u,G,O⟩:=S.isLst (Qo U);exact(t6 I q G O).elim
 |.rol E,B,v,h,A=>by
  obtain⟨a,Y,rfl,q,r⟩:=bg.mp h;cases B with
  |N=>cases ao.mp A
  |bl b=>cases ag.mp A
  |int i=>cases aa.mp A
  |str x=>cases aB.mp A
  |T J=>
   obtain⟨b,Q,e,q',M⟩:=ah.mp A;cases e;exact(qO I q' q.sq).elim
  |rol J=>
   obtain⟨b,Q,e,q',M⟩:=bg.mp A;cases e;obtain rfl:=I.list_inj q.sq q'.sq;rw[cm I S E J Y r M]
  |ref l=>
   obtain⟨b,U,e⟩:=aE.mp A;cases e;obtain⟨u,G,O⟩:=S.isLst (Qo U);rcases q with⟨o,q⟩|q
   .rw[G]at q;cases q;exact O.elim
   .exact (jY I q G).elim
 |.ref l,B,v,h,A=>by
  obtain⟨a,j,rfl⟩:=aE.mp h;obtain⟨u,G,O⟩:=S.isLst (Qo j);cases B with
  |N=>cases ao.mp A
  |bl b=>cases ag.mp A
  |int i=>cases aa.mp A
  |str x=>cases aB.mp A
  |T J=>
   obtain⟨b,Q,e,q',M⟩:=ah.mp A;cases e;exact(t6 I q' G O).elim
  |rol J=>
   obtain⟨b,Q,e,q',M⟩:=bg.mp A;cases e;rcases q' with⟨o,q'⟩|q'
   .rw[G]at q';cases q';exact O.elim
   .exact (jY I q' G).elim
  |ref d=>
   obtain⟨b,U,e⟩:=aE.mp A;cases e;obtain⟨g,z⟩:=Qa.mp j;obtain⟨f,G⟩:=Qa.mp U;rw[(WO S.nd).mp (z.trans G.symm)]
theorem cm(I:Inv X pins σ H s)(S:aJ X.K as m H):∀(xs ys:R7) (vs:S6),ab X.K as H xs vs->ab X.K as H ys vs->xs=ys
 |[],ys,vs,h,A=>by
  obtain rfl:=aq.mp h;cases ys with
  |nil=>rfl
  |cons y ys=>obtain⟨_,_,e,_⟩:=ak.mp A;cases e
 |x::xs,ys,vs,h,A=>by
  obtain⟨v,r,rfl,q,t⟩:=ak.mp h;cases ys with
  |nil=>cases aq.mp A
  |cons y ys=>
   obtain⟨G,J,e,B,E⟩:=ak.mp A;cases e;rw[wr I S x y v q B,cm I S xs ys r t E]
end
theorem gJ:∀{xs ys:R7}{r:Bool},cz p xs ys=some r ->
  ∃f:Nat->Bool,(∀j x y,xs[j]?=some x->ys[j]?=some y->p x y=some (f j))/\r=(QF (min xs.length ys.length)).all f
 |[],ys,r,h=>by
  unfold cz at h;cases h;exact⟨λ_=>true,λj x y e=>by simp at e,by simp⟩
 |_::_,[],r,h=>by
  unfold cz at h;cases h;exact⟨λ_=>true,λj x y _ e=>by simp at e,by simp⟩
 |x::xs,y::ys,r,h=>by
  unfold cz at h;cases A:p x y with
  |none=>rw[A]at h;cases h
  |some b=>
   rw[A]at h;simp only[]at h;cases B:cz p xs ys with
   |none=>rw[B]at h;cases h
   |some M=>
    rw[B]at h;cases h;obtain⟨f,H,e⟩:=gJ (xs:=xs) (ys:=ys) B;refine⟨λj=>match j with|0=>b|j+1=>f j,λj I J E G=>?_,?_⟩
    .cases j with
     |zero=>simp at E G;subst E;subst G;exact A
     |succ j=>exact H j I J (by simpa using E) (by simpa using G)
    .rw[WB,WB,Nat.succ_min_succ,W9,WQ,List.all_map,e];rfl
theorem qP:∀(k:Nat) (w:Wd) (r:Bool),bZ m k w w=some r->r=true
 |0,w,r,h=>by cases h
 |k+1,w,r,h=>by
  cases w with
  |N=>cases h;rfl
  |bl b=>cases h;simp
  |int i=>cases h;simp
  |str x=>cases h;simp
  |T A=>
   replace h:(cz (bZ m k) A A).map (· && decide (A.length=A.length))=some r:=h
   cases E:cz (bZ m k) A A with
   |none=>rw[E]at h;cases h
   |some J=>
    rw[E]at h;simp only[QR,decide_true,Bool.and_true]at h;cases h;obtain⟨f,H,rfl⟩:=gJ E;rw[Qx];intro j I;have B:j<A.length:=by simpa using I
    exact qP k A[j] (f j) (H j A[j] A[j] (by simp[B]) (by simp[B]))
  |rol A=>cases h
  |ref l=>
   replace h:(if l=l then(if aN m l then some true else none)else match m[l]?,m[l]? with
    |some (.L A),some (.L G)=>if A.length=G.length then cz (bZ m k) A G else some false
    |_,_=>none)=some r:=h
   simp only[if_true]at h;split at h
   .cases h;rfl
   .cases h
structure J7(A:L3)(s:Shared)(u u':Value)(r:Bool):Prop where
 it:EqAt A s u u' r
 eq:RcAt A s u u' r
 ne:RcNeAt A s u u' (! r)
def aO (S:aJ X.K as m H)(I:Inv X A σ H s)(h:aN m l=true)(R:ai X.K as H (.ref l) v)(E:RelV v u):∃b its,u=.ref b/\s.heap.IsList b its:=by
 unfold aN at h;cases e:m[l]? with
 |none=>rw[e]at h;cases h
 |some o=>
  cases o with
  |D M N=>rw[e]at h;cases h
  |L O=>
   obtain⟨b,G,rfl⟩:=aE.mp R;obtain⟨a,Q,B,J,U⟩:=zL S e;rw[G]at B;cases B;obtain rfl:u=.ref b:=E;obtain⟨its,_,p,_⟩:=I.list (bb.of J);exact⟨b,_,rfl,p.isList⟩
def wR (I:Inv X A σ H s)(R:ai X.K as H (.T xs) v)(B:RelV v u):∃b vs its,v=.ref b/\u=.ref b/\ab X.K as H xs vs/\az vs its/\s.heap.IsTuple b its.toArray:=by
 obtain⟨b,vs,rfl,q,r⟩:=ah.mp R;obtain rfl:u=.ref b:=B;obtain⟨its,E,p,_⟩:=I.tuple q;exact⟨b,vs,its,rfl,rfl,r,E,p⟩
set_option tactic.hygienic true in
theorem qQ(I:Inv X pins σ H s)(S:aJ X.K as m H):∀(k:Nat) (A:L3) (w w':Wd) (v v':V) (u o:Value) (r:Bool),A.units+k<Mz->bZ m k w w'=some r ->
  ai X.K as H w v->ai X.K as H w' v'->RelV v u->RelV v' o->J7 A s u o r
 |0,_,_,_,_,_,_,_,_,_,h,_,_,_,_=>by cases h
 |k+1,A,w,w',v,v',u,o,r,hu,h,R,M,ru,E=>by
  have B:A.units<Mz:=by lia
  have hu1:A.in1.units+k<Mz:=by show A.units+1+k<Mz;lia
  -- items,pair by pair
  have pairs:∀{Y O:R7}{vs us:S6}{J G:O7}{r:Bool},ab X.K as H Y vs->ab X.K as H O us->az vs J->az us G->cz (bZ m k) Y O=some r ->
    ∃f:Nat->Bool,(∀j (h1:j<J.toArray.size) (h2:j<G.toArray.size),EqAt A.in1 s J.toArray[j] G.toArray[j] (f j))/\r=(QF (min J.toArray.size G.toArray.size)).all f/\J.toArray.size=Y.length/\G.toArray.size=O.length:=by
   intro Y O vs us J G r r1 r2 rv U he;obtain⟨f,hf,e⟩:=gJ he;have l1:=r1.length;have l2:=r2.length;have l3:=rv.length;have l4:=U.length;have s1:J.toArray.size=Y.length:=by simp;lia
   have s2:G.toArray.size=O.length:=by simp;lia
   refine⟨f,λj h1 h2=>?_,by rw[e,s1,s2],s1,s2⟩;have hj:j<Y.length:=by lia
   have hj2:j<O.length:=by lia
   obtain⟨v1,n,q1⟩:=r1.get (i:=j) (x:=Y[j]) (by simp[hj]);obtain⟨v2,e2,q2⟩:=r2.get (i:=j) (x:=O[j]) (by simp[hj2]);obtain⟨u1,e3,q3⟩:=rv.get n;obtain⟨u2,e4,q4⟩:=U.get e2;have z:=qQ I S k A.in1 Y[j] O[j] v1 v2 u1 u2 (f j) hu1 (hf j _ _ (by simp[hj]) (by simp[hj2])) q1 q2 q3 q4;obtain⟨_,e5⟩:=Qa.mp e3;obtain⟨_,e6⟩:=Qa.mp e4;have g1:J.toArray[j]=u1:=by simpa using e5
   have g2:G.toArray[j]=u2:=by simpa using e6
   rw[g1,g2];exact z.it
  cases w with
  |T Y=>
   obtain⟨b,vs,J,rfl,rfl,r1,rv,p⟩:=wR I R ru;cases w' with
   |T O=>
    obtain⟨b',vs',G,rfl,rfl,a,U,Q⟩:=wR I M E;have rc:RcAt A s (.ref b) (.ref b') r/\RcNeAt A s (.ref b) (.ref b') (! r):=by
     replace h:(cz (bZ m k) Y O).map (· && decide (Y.length=O.length))=some r:=h
     cases hr:cz (bZ m k) Y O with
     |none=>rw[hr]at h;cases h
     |some r'=>
      rw[hr]at h;simp only[QR]at h;cases h;obtain⟨f,hf,e,z1,z2⟩:=pairs r1 a rv U hr;have e2:((QF (min J.toArray.size G.toArray.size)).all f&&J.toArray.size==G.toArray.size)=(r'&&decide (Y.length=O.length)):=by
       rw[e,z1,z2];congr 1
      exact⟨e2▸RcAt.tuples p Q B hf,e2▸RcNeAt.tuples p Q B hf⟩
    refine⟨?_,rc.1,rc.2⟩;by_cases hb:b=b'
    .subst hb;have e:=wr I S _ _ _ R M;rw[<-e]at h;obtain rfl:=qP _ _ _ h;exact EqAt.same _
    .exact EqAt.of_refs hb rc.1
   |ref l=>
    replace h:(if aN m l&&true then some false else none)=some r:=h
    split at h
    .rename_i hl;cases h;obtain⟨b',G,rfl,q⟩:=aO S I (QD.mp hl).1 M E;exact⟨EqAt.tuple_list p q B,RcAt.tuple_list p q B,RcNeAt.tuple_list p q B⟩
    .cases h
   |rol O=>cases h
   |N=>
    cases h;obtain rfl:=ao.mp M;obtain rfl:o=.none:=E;exact⟨EqAt.tuple_none p B,RcAt.tuple_none p B,RcNeAt.tuple_none p B⟩
   |bl c=>
    cases h;obtain rfl:=ag.mp M;obtain rfl:o=.bool c:=E;exact⟨EqAt.tuple_bool c p B,RcAt.tuple_bool c p B,RcNeAt.tuple_bool c p B⟩
   |int i=>
    cases h;obtain rfl:=aa.mp M;obtain⟨t,rfl⟩:=E;exact⟨EqAt.tuple_int i t p B,RcAt.tuple_int i t p B,RcNeAt.tuple_int i t p B⟩
   |str x=>
    cases h;obtain rfl:=aB.mp M;obtain⟨t,rfl⟩:=E;exact⟨EqAt.tuple_str _ t p B,RcAt.tuple_str _ t p B,RcNeAt.tuple_str _ t p B⟩
  |ref l=>
   cases w' with
   |ref l'=>
    obtain⟨b,hb,rfl⟩:=aE.mp R;obtain⟨b',hb',rfl⟩:=aE.mp M;obtain rfl:u=.ref b:=ru;obtain rfl:o=.ref b':=E
    replace h:(if l=l' then(if aN m l then some true else none)else match m[l]?,m[l']? with
     |some (.L Y),some (.L O)=>if Y.length=O.length then cz (bZ m k) Y O else some false
     |_,_=>none)=some r:=h
    by_cases hll:l=l'
    .subst hll;rw[hb]at hb';cases hb';rw[N0 rfl]at h;split at h
     .rename_i hil;cases h;obtain⟨c,J,ec,q⟩:=aO S I hil R (u:=.ref b) rfl;cases ec;have al:(QF J.size).all (λ_=>true)=true:=by simp
      have n:=RcAt.lists (A:=A) (e:=λ_=>true) q q rfl B (λj h1 h2=>EqAt.same _);have e2:=RcNeAt.lists (A:=A) (e:=λ_=>true) q q rfl B (λj h1 h2=>EqAt.same _);rw[al]at n e2;exact⟨EqAt.same _,n,e2⟩
     .cases h
    .rw[N1 hll]at h;have hbb:b≠b':=by
      rintro rfl;obtain⟨i1,n⟩:=Qa.mp hb;obtain⟨i2,e2⟩:=Qa.mp hb';exact hll ((WO S.nd).mp (n.trans e2.symm))
     split at h
     .rename_i Y O m1 m2;obtain⟨a1,vs,h1,g1,r1⟩:=zL S m1;rw[hb]at h1;cases h1;obtain⟨a2,us,h2,g2,r2⟩:=zL S m2;rw[hb']at h2;cases h2;obtain⟨J,rv,p,_⟩:=I.list (bb.of g1);obtain⟨G,U,Q,_⟩:=I.list (bb.of g2);split at h
      .rename_i hl;obtain⟨f,hf,e,z1,z2⟩:=pairs r1 r2 rv U h;have hsz:J.toArray.size=G.toArray.size:=by rw[z1,z2,hl]
       rw[<-hsz,Nat.min_self]at e;have n:=RcAt.lists p.isList Q.isList hsz B hf;have e2:=RcNeAt.lists p.isList Q.isList hsz B hf;rw[<-e]at n e2;exact⟨EqAt.of_refs hbb n,n,e2⟩
      .rename_i hl;cases h;have l1:=r1.length;have l2:=r2.length;have l3:=rv.length;have l4:=U.length;have hsz:(J.toArray.size != G.toArray.size)=true:=by
        simp;lia
       have n:=RcAt.lists_lengths (A:=A) p.isList Q.isList hsz B;exact⟨EqAt.of_refs hbb n,n,RcNeAt.lists_lengths p.isList Q.isList hsz B⟩
     .cases h
   |T O=>
    replace h:(if aN m l&&true then some false else none)=some r:=h
    split at h
    .rename_i hl;cases h;obtain⟨b,J,rfl,q⟩:=aO S I (QD.mp hl).1 R ru;obtain⟨b',vs',G,rfl,rfl,a,U,Q⟩:=wR I M E;exact⟨EqAt.list_tuple q Q B,RcAt.list_tuple q Q B,RcNeAt.list_tuple q Q B⟩
    .cases h
   |rol O=>
    replace h:(if aN m l&&false then some false else none)=some r:=h
    simp only[Bool.and_false,QL,if_false]at h;cases h
   |N=>
    replace h:(if aN m l&&true then some false else none)=some r:=h
    split at h
    .rename_i hl;cases h;obtain⟨b,J,rfl,q⟩:=aO S I (QD.mp hl).1 R ru;obtain rfl:=ao.mp M;obtain rfl:o=.none:=E;exact⟨EqAt.list_none q B,RcAt.list_none q B,RcNeAt.list_none q B⟩
    .cases h
   |bl c=>
    replace h:(if aN m l&&true then some false else none)=some r:=h
    split at h
    .rename_i hl;cases h;obtain⟨b,J,rfl,q⟩:=aO S I (QD.mp hl).1 R ru;obtain rfl:=ag.mp M;obtain rfl:o=.bool c:=E;exact⟨EqAt.list_bool c q B,RcAt.list_bool c q B,RcNeAt.list_bool c q B⟩
    .cases h
   |int i=>
    replace h:(if aN m l&&true then some false else none)=some r:=h
    split at h
    .rename_i hl;cases h;obtain⟨b,J,rfl,q⟩:=aO S I (QD.mp hl).1 R ru;obtain rfl:=aa.mp M;obtain⟨t,rfl⟩:=E;exact⟨EqAt.list_int i t q B,RcAt.list_int i t q B,RcNeAt.list_int i t q B⟩
    .cases h
   |str x=>
    replace h:(if aN m l&&true then some false else none)=some r:=h
    split at h
    .rename_i hl;cases h;obtain⟨b,J,rfl,q⟩:=aO S I (QD.mp hl).1 R ru;obtain rfl:=aB.mp M;obtain⟨t,rfl⟩:=E;exact⟨EqAt.list_str _ t q B,RcAt.list_str _ t q B,RcNeAt.list_str _ t q B⟩
    .cases h
  |rol Y=>
   cases w'<;>first|cases h|(replace h:(if aN m _&&false then some false else none)=some r:=h;simp at h)
  |N=>
   obtain rfl:=ao.mp R;obtain rfl:u=.none:=ru;cases w' with
   |rol O=>cases h
   |ref l=>
    replace h:(if aN m l&&true then some false else none)=some r:=h
    split at h
    .rename_i hl;cases h;obtain⟨b,J,rfl,q⟩:=aO S I (QD.mp hl).1 M E;exact⟨EqAt.none_list q B,RcAt.none_list q B,RcNeAt.none_list q B⟩
    .cases h
   |T O=>
    cases h;obtain⟨b',vs',G,rfl,rfl,a,U,Q⟩:=wR I M E;exact⟨EqAt.none_tuple Q B,RcAt.none_tuple Q B,RcNeAt.none_tuple Q B⟩
   |N=>
    cases h;obtain rfl:=ao.mp M;obtain rfl:o=.none:=E;exact⟨EqAt.same _,RcAt.none_none,RcNeAt.none_none⟩
   |bl c=>
    cases h;obtain rfl:=ag.mp M;obtain rfl:o=.bool c:=E;exact⟨EqAt.none_bool c,RcAt.none_bool c,RcNeAt.none_bool c⟩
   |int i=>
    cases h;obtain rfl:=aa.mp M;obtain⟨t,rfl⟩:=E;exact⟨EqAt.none_int i t,RcAt.none_int i t,RcNeAt.none_int i t⟩
   |str x=>
    cases h;obtain rfl:=aB.mp M;obtain⟨t,rfl⟩:=E;exact⟨EqAt.none_str _ t,RcAt.none_str _ t,RcNeAt.none_str _ t⟩
  |bl c=>
   obtain rfl:=ag.mp R;obtain rfl:u=.bool c:=ru;cases w' with
   |rol O=>cases h
   |ref l=>
    replace h:(if aN m l&&true then some false else none)=some r:=h
    split at h
    .rename_i hl;cases h;obtain⟨b,J,rfl,q⟩:=aO S I (QD.mp hl).1 M E;exact⟨EqAt.bool_list c q B,RcAt.bool_list c q B,RcNeAt.bool_list c q B⟩
    .cases h
   |T O=>
    cases h;obtain⟨b',vs',G,rfl,rfl,a,U,Q⟩:=wR I M E;exact⟨EqAt.bool_tuple c Q B,RcAt.bool_tuple c Q B,RcNeAt.bool_tuple c Q B⟩
   |N=>
    cases h;obtain rfl:=ao.mp M;obtain rfl:o=.none:=E;exact⟨EqAt.bool_none c,RcAt.bool_none c,RcNeAt.bool_none c⟩
   |bl d=>
    cases h;obtain rfl:=ag.mp M;obtain rfl:o=.bool d:=E;exact⟨EqAt.bool_bool c d,RcAt.bool_bool c d,RcNeAt.bool_bool c d⟩
   |int i=>
    cases h;obtain rfl:=aa.mp M;obtain⟨t,rfl⟩:=E;have e:decide (b2i c=i)=((if c then(1:Int)else 0)==i):=by
     show decide ((if c then(1:Int)else 0)=i)=_;rw[Vi]
    rw[e];exact⟨EqAt.bool_int c i t,RcAt.bool_int c i t,RcNeAt.bool_int c i t⟩
   |str x=>
    cases h;obtain rfl:=aB.mp M;obtain⟨t,rfl⟩:=E;exact⟨EqAt.bool_str c _ t,RcAt.bool_str c _ t,RcNeAt.bool_str c _ t⟩
  |int i=>
   obtain rfl:=aa.mp R;obtain⟨t,rfl⟩:=ru;cases w' with
   |rol O=>cases h
   |ref l=>
    replace h:(if aN m l&&true then some false else none)=some r:=h
    split at h
    .rename_i hl;cases h;obtain⟨b,J,rfl,q⟩:=aO S I (QD.mp hl).1 M E;exact⟨EqAt.int_list i t q B,RcAt.int_list i t q B,RcNeAt.int_list i t q B⟩
    .cases h
   |T O=>
    cases h;obtain⟨b',vs',G,rfl,rfl,a,U,Q⟩:=wR I M E;exact⟨EqAt.int_tuple i t Q B,RcAt.int_tuple i t Q B,RcNeAt.int_tuple i t Q B⟩
   |N=>
    cases h;obtain rfl:=ao.mp M;obtain rfl:o=.none:=E;exact⟨EqAt.int_none i t,RcAt.int_none i t,RcNeAt.int_none i t⟩
   |bl d=>
    cases h;obtain rfl:=ag.mp M;obtain rfl:o=.bool d:=E;have e:decide (i=b2i d)=(i==(if d then(1:Int)else 0)):=by
     show decide (i=(if d then(1:Int)else 0))=_;rw[Vi]
    rw[e];exact⟨EqAt.int_bool i t d,RcAt.int_bool i t d,RcNeAt.int_bool i t d⟩
   |int j=>
    cases h;obtain rfl:=aa.mp M;obtain⟨g,rfl⟩:=E;have e:decide (i=j)=(i==j):=by rw[Vi]
    rw[e];exact⟨EqAt.int_int i t j g,RcAt.int_int i t j g,RcNeAt.int_int i t j g⟩
   |str x=>
    cases h;obtain rfl:=aB.mp M;obtain⟨g,rfl⟩:=E;exact⟨EqAt.int_str i t _ g,RcAt.int_str i t _ g,RcNeAt.int_str i t _ g⟩
  |str x=>
   obtain rfl:=aB.mp R;obtain⟨t,rfl⟩:=ru;cases w' with
   |rol O=>cases h
   |ref l=>
    replace h:(if aN m l&&true then some false else none)=some r:=h
    split at h
    .rename_i hl;cases h;obtain⟨b,J,rfl,q⟩:=aO S I (QD.mp hl).1 M E;exact⟨EqAt.str_list _ t q B,RcAt.str_list _ t q B,RcNeAt.str_list _ t q B⟩
    .cases h
   |T O=>
    cases h;obtain⟨b',vs',G,rfl,rfl,a,U,Q⟩:=wR I M E;exact⟨EqAt.str_tuple _ t Q B,RcAt.str_tuple _ t Q B,RcNeAt.str_tuple _ t Q B⟩
   |N=>
    cases h;obtain rfl:=ao.mp M;obtain rfl:o=.none:=E;exact⟨EqAt.str_none _ t,RcAt.str_none _ t,RcNeAt.str_none _ t⟩
   |bl d=>
    cases h;obtain rfl:=ag.mp M;obtain rfl:o=.bool d:=E;exact⟨EqAt.str_bool _ t d,RcAt.str_bool _ t d,RcNeAt.str_bool _ t d⟩
   |int j=>
    cases h;obtain rfl:=aa.mp M;obtain⟨g,rfl⟩:=E;exact⟨EqAt.str_int _ t j g,RcAt.str_int _ t j g,RcNeAt.str_int _ t j g⟩
   |str y=>
    cases h;obtain rfl:=aB.mp M;obtain⟨g,rfl⟩:=E;have e:decide (x=y)=((⟨x.toArray⟩:Str) == ⟨y.toArray⟩):=by
     by_cases hxy:x=y
     .subst hxy;simp
     .have:¬(⟨x.toArray⟩:Str)=⟨y.toArray⟩:=λz=>by
       injection z with z
       exact hxy (by simpa using NY WM z)
      rw[NZ hxy];exact(beq_eq_false_iff_ne.mpr this).symm
    rw[e];exact⟨EqAt.str_str _ t _ g,RcAt.str_str _ t _ g,RcNeAt.str_str _ t _ g⟩
end
end Mini
namespace L2
open PySem PySem.Spec PyProof.Rows PySem.SeqAt
section
variable{prog:LU}{w:LV}{A:L3}{E:N7}{s:Shared}
def qR {stored:O7}(H:∀v∈stored,∃G b,v=.ref b/\Nh (M9 prog w) s.heap G b)(h:Q false s):L5 (L6 prog w) A (tableMayTell (.int i t) stored) Q E s:=by
 unfold tableMayTell;split
 .exact Mp h
 .rw[eqIsQuiet_byValue 8 (show carriedByValue (.int i t)=true from rfl)];refine Mj (Mp ?_);simp only[VD,QL,if_false];refine Mj ?_;refine Nk _ (λB r I=>I=s/\r=(none,())/\∀v∈B,∃G b,v=.ref b/\Nh (M9 prog w) s.heap G b) _ ?_ ?_ _ _ ⟨rfl,rfl,H⟩
  .rintro v B r I ⟨rfl,rfl,J⟩;obtain⟨G,b,rfl,M⟩:=J v Q0;refine Mj (wpAny_eqIsQuiet_tuple M ?_);simp only[VD,QL,if_false];exact Mp ⟨rfl,rfl,λv N=>J v (Qg _ N)⟩
  .rintro r I ⟨rfl,rfl,_⟩;exact Mp h
def HZ {xs:List TK}(y:A.units<Mz)(N:s.heap.get? d=some o)(O:o.data=.dict B ep)(he:B.toList=xs.map kS)(U:∀x∈xs,Nh (M9 prog w) s.heap x.1 x.2.1)(h:Q none s):
  L5 (L6 prog w) A (dictFind d (.int i t) (hashInt i)) Q E s:=by
 have G:∀e∈B,∃x∈xs,e=kS x:=by
  intro e I;have:e∈xs.map kS:=he▸Array.mem_toList_iff.mpr I;obtain⟨x,Y,rfl⟩:=Wc.mp this;exact⟨x,Y,rfl⟩
 have u:∀v∈(placesWithHash B.size (λi=>B[i]?.map (·.hash)) (hashInt i)).filterMap (λi=>B[i]?.map (·.key)),∃k' b,v=.ref b/\Nh (M9 prog w) s.heap k' b:=by
  intro v hv;obtain⟨j,_,a⟩:=Vm.mp hv;cases J:B[j]? with
  |none=>rw[J]at a;cases a
  |some e=>
   rw[J]at a;obtain rfl:e.key=v:=by simpa using a
   obtain⟨x,Y,rfl⟩:=G e (Vf J);exact⟨x.1,x.2.1,rfl,U x Y⟩
 have l:∀(e:DictEntry),e∈B->∀(Q:Bool->Shared->Prop),Q false s->L5 (L6 prog w) A (eqBool e.key (.int i t)) Q E s:=by
  intro e I Q q;obtain⟨x,Y,rfl⟩:=G e I;obtain⟨ob,items,n,h1,h2,h3,_⟩:=U x Y;exact EqAt.tuple_int i t (show s.heap.IsTuple x.2.1 items from⟨ob,h1,h2,n,h3⟩) y prog w E Q q
 unfold dictFind
 try with_reducible refine Mk ?_
 refine Mj (Nl N O ?_);dsimp only;by_cases H:((Value.int i t::(placesWithHash B.size (λi=>B[i]?.map (·.hash)) (hashInt i)).filterMap (λi=>B[i]?.map (·.key))).all carriedByValue)=true
 .rw[N0 H];unfold dictWalkPlain;refine Mj ?_;refine Nk _ (λ_ b M=>M=s/\b=(none,())) _ ?_ ?_ _ _ ⟨rfl,rfl⟩
  .rintro x g b M ⟨rfl,rfl⟩;cases hex:B[x]? with
   |none=>exact Mp ⟨rfl,rfl⟩
   |some e=>
    dsimp only;by_cases f:(e.hash==hashInt i)=true
    .rw[N0 f];refine Mj (Nm N O (Mj (l e (Vf hex) _ (Mj (Nm N O ?_)))));show L5 _ _ (if(ep != ep)=true then _ else _) _ E _;rw[N1 (by simp)];simp only[QL,if_false];refine Mj (Na ?_);exact Mp ⟨rfl,rfl⟩
    .rw[N1 f];exact Mp ⟨rfl,rfl⟩
  .rintro b M ⟨rfl,rfl⟩;exact Mp h
 .rw[N1 H];have m:¬(((placesWithHash B.size (λi=>B[i]?.map (·.hash)) (hashInt i)).filterMap (λi=>B[i]?.map (·.key))) == [Value.int i t])=true:=by
   intro z;have z:=eq_of_beq z;obtain⟨_,b,e,_⟩:=u (.int i t) (by rw[z];simp);cases e
  rw[N1 m];refine Mj (qR u ?_);rw[N1 (by simp)];refine Mj ?_;refine Nk _ (λ_ b M=>M=s/\b=(none,none)) _ ?_ ?_ _ _ ⟨rfl,rfl⟩
  .rintro x g b M ⟨rfl,rfl⟩;cases hex:B[x]? with
   |none=>exact Mp ⟨rfl,rfl⟩
   |some e=>
    dsimp only;by_cases f:(e.hash==hashInt i)=true
    .rw[N0 f];refine Mj (Nm N O (Mj (l e (Vf hex) _ (Mj (Nm N O ?_)))));show L5 _ _ (if(ep != ep)=true then _ else _) _ E _;rw[N1 (by simp)];simp only[QL,if_false];refine Mj (Na ?_)
     first
      |exact Mp ⟨rfl,rfl⟩
      |(rw[N1 (by simp)];exact Mp ⟨rfl,rfl⟩)
      |exact Mj (Mp (Mp ⟨rfl,rfl⟩))
    .rw[N1 f];exact Mp ⟨rfl,rfl⟩
  .rintro b M ⟨rfl,rfl⟩;exact Mp h
def Eb (N:A.units+1<Mz)(I:(d==LZ)=false)(B:s.heap.DictOfH (Ni (M9 prog w)) d xs)(h:Q (.bool false) {s with toks:=s.toks+1}):
  L5 (L6 prog w) A (Mv .In (.int i t) (.ref d)) Q E s:=by
 show L5 _ _ (do return .bool (<-contains (.ref d) (.int i t))) Q E s;refine Mj ?_;unfold contains
 try with_reducible refine Mk ?_
 refine Mj (wpAny_specialOf B.typeIs slot_dict_contains.lookup ?_);show L5 _ _ (if(some (Value.builtin "dict.__contains__")==some Value.none)=true then _ else _) _ E s;rw[N1 (by rw[beq_builtin_none];exact QQ)];refine Mj (wpAny_callSpecialUnlessNone?_slot (name:=Str.ofString "__contains__") B.typeIs slot_dict_contains
  (Nf slot_dict_contains B.typeIs entry_dict_contains ?_ (args_dict_contains _ _)))
 obtain⟨o,O,U,J,_,G,M,H,Y⟩:=id B;show L5 _ _ (dictGet d (.int i t) >>= _) _ _ s;refine Mj ?_;unfold dictGet
 try with_reducible refine Mk ?_
 refine Mj (wpAny_pyHash_int (Mj (HZ (s:={s with toks:=s.toks+1}) (xs:=xs) (by show A.units+1<Mz;lia) J G M H ?_)));refine Mp ?_;show L5 _ _ (Builtin.Dict.pendingKey? d (.int i t) >>= _) _ _ _;exact Mj (wpAny_pendingKey_other I (Mp ⟨_,rfl,Mc (Mp h)⟩))
end
section
variable{X:Cx}{pins:O0}{σ:St}{H:Hp}{s:Shared}
noncomputable def rT(K:Qb):R2:=λx y H Q=>∃d A,y=.ref d/\yn K H d A/\((∃i,x=.int i/\Q (.bl false) H)\/∃a B,x=.ref a/\bC K H a (B.map V.int)/\Q (.bl (Nj A B).isSome) H)
def Ea(O:X.A.units+64<Mz):bV X (Mv .In) (rT X.K):=by
 intro pins s σ H x y v u Q I A E h;obtain⟨d,G,rfl,J,h⟩:=h;cases E;obtain⟨d0,B⟩:=xi I J;rcases h with⟨i,rfl,q⟩|⟨a,M,rfl,N,q⟩
 .obtain ⟨t,rfl⟩:=A;exact Eb (by lia) d0 B ⟨.bl false,H,I.tok _,rfl,q⟩
 .cases A;exact wpAny_in_heap (knd:=Ni (M9 X.prog X.w)) (by show X.A.units+1<Mz;lia) (xL I N) d0 B ⟨.bl (Nj G M).isSome,H,I.tok _,rfl,q⟩
end
end L2
namespace Mini
open PySem PySem.Spec PyProof.Rows L2
section
variable{K:Qb}{as:O9}{H:Hp}{m:Me}{Q:VK}
theorem vI:∀{ws:R7}{k:P8}{vs:S6},zT ws=some k->ab K as H ws vs->vs=k.map V.int
 |[],k,vs,h,r=>by cases h;rw[aq.mp r];rfl
 |w::ws,k,vs,h,r=>by
  cases w with
  |int i=>
   have A:(zT ws).map (i::·)=some k:=h;obtain⟨B,e,rfl⟩:=Qy.mp A;obtain⟨v,E,rfl,q,t⟩:=ak.mp r;rw[aa.mp q,vI e t];rfl
  |_=>cases h
def kZ {l:Nat}(S:aJ K as m H)(A:m[l]?=some (.D ks ws)):∃a xs vs,as[l]?=some a/\yn K H a xs/\xs.map (·.1)=ks/\ab K as H ws vs/\az vs (xs.map (·.2.2))/\ks.Nodup:=by
 obtain⟨a,B,xs,vs,r⟩:=S.get A;exact⟨a,xs,vs,B,r⟩
def bJ {q:P8}:(Nj xs q).isSome=true↔q∈xs.map (·.1):=by
 unfold Nj;rw[Option.isSome_map,List.find?_isSome];simp only[Wc,N5]
def D9 (S:aJ K as m H)(R:ai K as H x v)(R':ai K as H y u)(h:ls m x y=some b)(q:Q (.bl b) H):rT K v u H Q:=by
 unfold ls at h;cases y with
 |ref l=>
  obtain⟨a,E,rfl⟩:=aE.mp R';dsimp only at h;cases e:m[l]? with
  |none=>rw[e]at h;cases h
  |some o=>
   cases o with
   |L M=>rw[e]at h;cases h
   |D N O=>
    rw[e]at h;dsimp only at h;obtain⟨U,B,G,A,I,rfl,_⟩:=kZ S e;rw[E]at A;cases A;refine⟨a,B,rfl,I,?_⟩;cases x with
    |int i=>cases h;exact .inl ⟨i,aa.mp R,q⟩
    |T Y=>
     obtain⟨k,J,rfl⟩:=Qy.mp h;obtain⟨c,G,rfl,sq,r⟩:=ah.mp R;rw[vI J r]at sq;refine .inr ⟨c,k,rfl,sq,?_⟩;rw[show(Nj B k).isSome=decide (k∈B.map (·.1))from by
      rw[WU,bJ,N5]]
     exact q
    |_=>cases h
 |_=>cases h
end
end Mini
namespace Mini
open PySem PySem.Spec PyProof.Rows L2
open PySem.SeqAt
noncomputable def cK:Co->Mw
 |.eq=>.Eq |.ne=>.NotEq |.lt=>.Lt |.le=>.LtE |.gt=>.Gt |.ge=>.GtE |.isN=>.Is |.notN=>.IsNot |.isin=>.In 
noncomputable def rC(K:Qb)(op:Co):R2:=λx y H Q=>∃as m w A,aJ K as m H/\ai K as H w x/\ai K as H A y/\am K as H Q (cA op w A m)
section
variable{X:Cx}
def k8 {K:Qb}(S:aJ K as m H)(h:am K as H Q (di o m)):∃b,o=some b/\Q (.bl b) H:=by
 cases o with
 |none=>exact h.elim
 |some b=>exact⟨b,rfl,h.ok S (ag.mpr rfl)⟩
theorem u8:∀{ys:R7}{r:Bool},ef p x ys=some r ->
  ∃f:Wd->Bool,(∀y∈ys,p y x=some (f y))/\r=ys.any f
 |[],r,h=>by cases h;exact⟨λ_=>false,λy G=>by simp at G,rfl⟩
 |y::ys,r,h=>by
  unfold ef at h;cases A:p y x with
  |none=>rw[A]at h;cases h
  |some b=>
   rw[A]at h;simp only[]at h;cases B:ef p x ys with
   |none=>rw[B]at h;cases h
   |some H=>
    rw[B]at h;cases h;obtain⟨f,E,rfl⟩:=u8 B
    classical
    refine⟨λz=>(p z x).getD false,λz hz=>?_,?_⟩
    .rcases Qn.mp hz with rfl|hz
     .simp only[A,WZ]
     .simp only[E z hz,WZ]
    .rw[W1,A];congr 1;refine WU.mpr ?_;rw[WP,WP];constructor
     .rintro ⟨z,hz,e⟩;exact⟨z,hz,by rw[E z hz];exact e⟩
     .rintro ⟨z,hz,e⟩;rw[E z hz]at e;exact⟨z,hz,e⟩
def qS (I:Inv X a σ H s)(S:aJ X.K as m H)(hu:A.units+ym<Mz)(R:ai X.K as H w v)(ru:RelV v u)(Y:ab X.K as H ys vs)(o:az vs its)(h:ef (bZ m ym) w ys=some r):
  ∃e:Value->Bool,(∀y,y∈its.toArray->EqAt A s y u (e y))/\its.toArray.any e=r:=by
 obtain⟨f,hf,rfl⟩:=u8 h
 classical
 -- the plain d of an item
 have B:∀y,y∈its->∃z,z∈ys/\∃G,ai X.K as H z G/\RelV G y:=λy E=>by
  obtain⟨j,l,rfl⟩:=WS.mp E;have l1:=Y.length;have l2:=o.length;have O:j<vs.length:=by lia
  obtain⟨U,g,J⟩:=o.get (i:=j) (x:=vs[j]) (by simp[O]);obtain⟨z,t,M⟩:=Y.back (i:=j) (v:=vs[j]) (by simp[O]);obtain⟨_,e3⟩:=Qa.mp g;exact⟨z,Qo t,vs[j],M,by rw[e3];exact J⟩
 let e:Value->Bool:=λy=>if E:y∈its then f (Classical.choose (B y E))else false
 have b:∀y (E:y∈its) z G,z∈ys->ai X.K as H z G->RelV G y->e y=f z:=λy E z G N hr hq=>by
  obtain⟨h1,n,h2,h3⟩:=Classical.choose_spec (B y E);have:e y=f (Classical.choose (B y E)):=dif_pos E;rw[this];have hv:n=G:=h3.inj hq;subst hv;rw[wr I S _ _ _ h2 hr]
 refine⟨e,λy E=>?_,?_⟩
 .have Q:y∈its:=by simpa using E
  obtain⟨z,N,G,J,M⟩:=B y Q;rw[b y Q z G N J M];exact(qQ I S ym A z w G v y u (f z) hu (hf z N) J R M ru).it
 .refine WU.mpr ?_;rw[List.any_toArray,WP,WP];constructor
  .rintro ⟨y,E,ey⟩;obtain⟨z,N,G,J,M⟩:=B y E;rw[b y E z G N J M]at ey;exact⟨z,N,ey⟩
  .rintro ⟨z,N,ez⟩;obtain⟨j,l,rfl⟩:=WS.mp N;obtain⟨v1,g,J⟩:=Y.get (i:=j) (x:=ys[j]) (by simp[l]);obtain⟨U,t,M⟩:=o.get g;have E:U∈its:=Qo t;exact⟨U,E,by rw[b U E ys[j] v1 (Vr l) J M];exact ez⟩
set_option tactic.hygienic true in
def k9(t:X.A.units+64<Mz)(op:Co):bV X (Mv (cK op)) (rC X.K op):=by
 intro B s O H x y v u Q I G J h;obtain⟨as,m,w,d,S,R,M,q⟩:=h;have hd:ym=12:=rfl;have N:∀{b:Bool},Q (.bl b) H->EP X B O Q (.bool b) s:=λ{b} q=>⟨.bl b,H,I,rfl,q⟩;have E:∀{r:Int->Int->Bool},am X.K as H Q (kT r w d m)->∃i j,x=.int i/\y=.int j/\Q (.bl (r i j)) H:=λ{r} q=>by
  unfold kT at q;cases w with
  |int i=>
   cases d with
   |int j=>exact⟨i,j,aa.mp R,aa.mp M,q.ok S (ag.mpr rfl)⟩
   |_=>exact q.elim
  |_=>exact q.elim
 cases op with
 |eq=>
  obtain⟨b,U,q⟩:=k8 S q;exact(qQ I S ym X.A w d x y v u b (by lia) U R M G J).eq X.prog X.w X.xe _ (N q)
 |ne=>
  obtain⟨b,U,q⟩:=k8 S q;obtain⟨c,n,rfl⟩:=Qy.mp U;exact(qQ I S ym X.A w d x y v u c (by lia) n R M G J).ne X.prog X.w X.xe _ (N q)
 |isin=>
  simp only[cA]at q;split at q
  .rename_i ys a;obtain⟨b,U,q⟩:=k8 S q;obtain⟨p,vs,rfl,hq,r⟩:=wQ S M a;obtain rfl:u=.ref p:=J;rcases hq with hq|hq
   .obtain ⟨o,l,g,_⟩:=I.list hq;obtain⟨e,f,rfl⟩:=qS (A:=X.A.in1) I S (by show X.A.units+1+ym<Mz;lia) R G r l U;exact in_listAt e g.isList f (N q)
   .obtain ⟨o,l,g,_⟩:=I.tuple hq;obtain⟨e,f,rfl⟩:=qS (A:=X.A.in1) I S (by show X.A.units+1+ym<Mz;lia) R G r l U;exact in_tupleAt e (show s.heap.IsTuple p o.toArray from g) f (N q)
  .obtain ⟨b,U,q⟩:=k8 S q;exact Ea t B s O H x y v u Q I G J (D9 S R M U q)
 |isN=>
  refine DA B s O H x y v u Q I G J ?_;simp only[cA]at q;split at q
  .exact ⟨ao.mp M,by rw[ao.mp R];exact q.ok S (ag.mpr rfl)⟩
  .rename_i Y;refine⟨ao.mp M,?_⟩;have:x≠.N:=λz=>by
    subst z;exact Y (wr I S _ _ _ R (ao.mpr rfl))
   rw[NZ this];exact q.ok S (ag.mpr rfl)
  .exact q.elim
 |notN=>
  refine GC B s O H x y v u Q I G J ?_;simp only[cA]at q;split at q
  .exact ⟨ao.mp M,by rw[ao.mp R];exact q.ok S (ag.mpr rfl)⟩
  .rename_i Y;refine⟨ao.mp M,?_⟩;have:x≠.N:=λz=>by
    subst z;exact Y (wr I S _ _ _ R (ao.mpr rfl))
   rw[NZ this];exact q.ok S (ag.mpr rfl)
  .exact q.elim
 |lt=>exact C2 B s O H x y v u Q I G J (E q)
 |le=>exact Dq B s O H x y v u Q I G J (E q)
 |gt=>exact Dp B s O H x y v u Q I G J (E (r:=λi j=>decide (j<i)) q)
 |ge=>exact Do B s O H x y v u Q I G J (E (r:=λi j=>decide (j<=i)) q)
end
end Mini
namespace L2
open PySem PySem.Spec PyProof.Rows
section
open PySem.SeqAt
open PySem.AutoSeq1 (wpAny_loadPart')
open PySem.MeetsSeq PySem.MeetsSeq2 PySem.MeetsSeq3
noncomputable def dH(f g:Nat->Bool):Nat->Nat->Bool
 |_,0=>false
 |i,k+1=>if f i then dH f g (i+1) k else g i
noncomputable def eu(A:L3)(s:Shared)(x y:Value)(b:Bool):Prop:=∀(B:LU) (w:LV) (E Q:N7),Q (.bool b) s->L5 (L6 B w) A (MJ .Lt x y) Q E s
noncomputable def vh(A:L3)(s:Shared)(items B:O4)(f g:Nat->Bool):Prop:=∀(j:Nat) (v u:Value),items[j]?=some v->B[j]?=some u->EqAt A.in1 s v u (f j)/\eu A.in1 s v u (g j)
def HY(l b:Addr)(items B:O4)(n n2:Nat)(Y N:O6)(j O:Array O3)(u:items.size=B.size)(f g':Nat->Bool)(k:Nat):
  ∀i:Nat,items.size-i=k->Meets (Builtin.«list.__eq__.loop» ⟨[.ref l,.ref b,Mq i,Mq 0],[]⟩)
   (λA R s=>s.heap.get? l=some {cls:=.type "list",dict:=Y,data:=.seq items n,slots:=j}/\s.heap.get? b=some {cls:=.type "list",dict:=N,data:=.seq B n2,slots:=O}/\vh A s items B f g' /\
    R (.ok (.ret (.bool (dH f g' i k)))) s):=by
 induction k with
 |zero=>
  intro i z E w A R s h;obtain⟨o,g,d,t,os⟩:=s;obtain⟨hl,J,_,h⟩:=h
  wp_walk using Nn hl,Nn J
  have G:items[((i:Nat):Int).toNat]?=none:=by simp;lia
  have H:B[((i:Nat):Int).toNat]?=none:=by simp;lia
  rw[G,H]
  wp_walk using Nn hl,Nn J
  show R (.ok (.ret (.bool (decide (items.size<B.size))))) _;rw[NZ (by lia)];exact h
 |succ k m=>
  intro i z E w A R s h;obtain⟨o,g,d,t,os⟩:=s;obtain⟨hl,J,U,h⟩:=h
  wp_walk using Nn hl,Nn J
  have M:i<items.size:=by lia
  have I:i<B.size:=by lia
  have G:items[((i:Nat):Int).toNat]?=some items[i]:=by simp[M]
  have H:B[((i:Nat):Int).toNat]?=some B[i]:=by simp[I]
  have a:((i:Int)+1)=((i+1:Nat):Int):=by push_cast;rfl
  obtain⟨y,hg⟩:=U i items[i] B[i] (by simp[M]) (by simp[I])
  replace h:R (.ok (.ret (.bool (if f i then dH f g' (i+1) k else g' i)))) _:=h
  rw[G,H];refine Mj (y E w _ _ ?_);cases e:f i with
  |true=>
   rw[e,N0 rfl]at h
   wp_walk
   rw[a];exact⟨No plain_eq_loop _,Np entry_eq_loop (by
    rw[Around.under_plainId plain_eq_loop _];exact m (i+1) (by lia) E w A R _ ⟨hl,J,U,h⟩)⟩
  |false=>
   rw[e,N1 QQ]at h
   wp_walk using Nn hl,Nn J
   rw[G,H];have Q:=hg E w
   wp_walk using Q
   exact h
def wH(l b:Addr)(items B:O4)(n n2:Nat)(J E:O6)(M G:Array O3)(I:items.size=B.size)(f g':Nat->Bool):
  Meets (Builtin.«list.__lt__» ⟨[.ref l,.ref b],[]⟩)
   (λA R s=>s.heap.get? l=some {cls:=.type "list",dict:=J,data:=.seq items n,slots:=M}/\s.heap.get? b=some {cls:=.type "list",dict:=E,data:=.seq B n2,slots:=G}/\vh A s items B f g' /\
    R (.ok (.ret (.bool (dH f g' 0 items.size)))) s):=by
 intro H w A R s h;obtain⟨O,g,d,Q,os⟩:=s;obtain⟨hl,N,h⟩:=h;have f3:=AutoSeq1.sub_list_list
 wp_walk using Nn hl,Nn N
 exact⟨No plain_eq_loop _,Np entry_eq_loop (by
  rw[Around.under_plainId plain_eq_loop _];exact HY l b items B n n2 J E M G I f g' _ 0 rfl H w A R _ ⟨hl,N,h⟩)⟩
noncomputable def dy(A:L3)(s:Shared)(x y:Value)(b:Bool):Prop:=
 ∀(B:LU) (w:LV) (E:N7) (Q:Bool->Shared->Prop),Q b s->L5 (L6 B w) A (oneLt' true x y) Q E s
theorem dy.items{A:L3}{s:Shared}{l b:Addr}{items B:O4}{f g:Nat->Bool}(hl:s.heap.IsList l items)(o:s.heap.IsList b B)(I:items.size=B.size)(d:A.units<Mz)(e:vh A s items B f g):
  dy A s (.ref l) (.ref b) (dH f g 0 items.size):=λU w E Q h=>by
 obtain⟨⟨t,m,Y,i⟩,J,j,n,u⟩:=id hl;obtain⟨⟨z,M,data2,N⟩,O,G,a,H⟩:=id o;simp only at j u G H;subst j u G H;rw[oneLt'_eq];simp only[if_true];refine Mj (wpAny_cRoomFor d ?_);refine Mj (wpAny_callSpecialIfBound?_slot (T:="list") ⟨_,J,rfl⟩ PySem.F.slot_list_lt (MW PySem.F.slot_list_lt ⟨_,J,rfl⟩ PySem.F.entry_list_lt (PySem.F.args_list_lt_2 _ _) (wH l b items B n a m M i N I f g) ⟨J,O,e,?_⟩));exact Mc h
theorem eu.items{A:L3}{s:Shared}{l b:Addr}{items B:O4}{f g:Nat->Bool}(hl:s.heap.IsList l items)(o:s.heap.IsList b B)(J:items.size=B.size)(d:A.units<Mz)(e:vh A s items B f g):
  eu A s (.ref l) (.ref b) (dH f g 0 items.size):=λO w E Q h=>by
 obtain⟨⟨t,m,U,i⟩,Y,j,n,u⟩:=id hl;obtain⟨⟨z,M,data2,N⟩,G,H,a,I⟩:=id o;simp only at j u H I;subst j u H I;exact Nq (op:=.Lt) ⟨_,Y,rfl⟩ ⟨_,G,rfl⟩ PySem.F.slot_list_lt PySem.F.entry_list_lt (PySem.F.args_list_lt_2 _ _) (wH l b items B n a m M i N J f g)
  ⟨Y,G,e,show Value.bool (dH f g 0 items.size)≠Value.notImplemented/\Q (.bool (dH f g 0 items.size)) s from⟨(λx=>nomatch x),h⟩⟩ d
theorem u7(x y:Nat->Int):∀(k i:Nat),dH (λj=>decide (x j=y j)) (λj=>decide (x j<y j)) i k=HT.lexLt ((List.range' i k).map x) ((List.range' i k).map y)
 |0,_=>rfl
 |k+1,i=>by
  rw[List.range'_succ,QS,QS,HT.aQ];show(if decide (x i=y i)then _ else _)=_;rw[u7 x y k (i+1)];by_cases e:x i=y i
  .rw[N0 (N3 e),N0 e]
  .rw[N1 (by simp[e]),N1 e]
theorem uZ:∀{a b c d:P8},a.length=b.length->HT.lexLt (a++c) (b++d)=if a=b then HT.lexLt c d else HT.lexLt a b
 |[],[],c,d,_=>by simp
 |[],_::_,_,_,h=>by cases h
 |_::_,[],_,_,h=>by cases h
 |x::B,y::E,c,d,h=>by
  rw[Wn,Wn,HT.aQ,uZ (Nat.succ.inj h)];by_cases e:x=y
  .subst e;by_cases A:B=E
   .subst A;simp
   .simp[A,HT.aQ]
  .simp[e,HT.aQ]
noncomputable def ba(its:O4)(k:P8):Prop:=its.size=k.length/\∀(j:Nat) (v:Value),its[j]?=some v->∃t,v=.int (k.getD j 0) t
def qT(k:P8)(n:Nat)(h:n=k.length):(List.range' 0 n).map (λj=>k.getD j 0)=k:=by
 subst h;apply Wq;intro i;by_cases A:i<k.length
 .simp[A,List.getElem?_range']
 .simp[A]
def ba.lt (J:ba M G)(N:ba i2 H):vh A s M i2 (λj=>decide (G.getD j 0=H.getD j 0)) (λj=>decide (G.getD j 0<H.getD j 0)):=by
 intro j v u O U;obtain⟨t,rfl⟩:=J.2 j v O;obtain⟨I,rfl⟩:=N.2 j u U;exact⟨EqAt.int_int _ t _ I,λB w E Q h=>HT.cR A.in1 s _ t _ I B w E Q h⟩
def ba.lex {i2:O4}(E:ba G A)(hl:A.length=B.length):dH (λj=>decide (A.getD j 0=B.getD j 0)) (λj=>decide (A.getD j 0<B.getD j 0)) 0 G.size=HT.lexLt A B:=by
 rw[u7,qT A _ E.1,qT B _ (E.1.trans hl)]
def ba.det (A:ba its H)(B:ba its I):H=I:=by
 apply Vs (A.1.symm.trans B.1);intro i E J;have q:i<its.size:=by rw[A.1];exact E
 obtain⟨t,M⟩:=A.2 i its[i] (by simp[q]);obtain⟨N,G⟩:=B.2 i its[i] (by simp[q]);rw[M]at G;have:=(Value.int.inj G).1;simpa [E,J]using this
def ja {s:Shared}(hl:s.heap.IsList l E)(G:s.heap.IsList l i2):E=i2:=by
 obtain⟨o,H,_,n,I⟩:=hl;obtain⟨J,A,_,M,B⟩:=G;rw[H]at A;cases A;rw[I]at B;cases B;rfl
def ba.eq (hl:s.heap.IsList l J)(M:s.heap.IsList b i2)(H:ba J B)(I:ba i2 E)(N:B.length=E.length)(Q:A.units<Mz):EqAt A s (.ref l) (.ref b) (decide (B=E)):=by
 have G:(QF J.size).all (λj=>decide (B.getD j 0=E.getD j 0))=decide (B=E):=by
  rw[WU,Qx,N5];constructor
  .intro h;apply Vs N;intro i O U;have:=N4 (h i (Q9.mpr (by rw[H.1];exact O)));simpa [O,U]using this
  .rintro rfl j _;simp
 by_cases e:l=b
 .subst e;obtain rfl:=ja hl M;have:B=E:=H.det I;rw[N3 this];exact EqAt.same _
 .rw[<-G];exact EqAt.of_refs e (RcAt.lists hl M (by rw[H.1,I.1,N]) Q λj Y u=>(ba.lt (A:=A) H I j _ _ (by simp[Y]) (by simp[u])).1)
noncomputable def cW(s:Shared)(c:Int)(n:Nat)(v:Value)(k:P8):Prop:=
 ∃(l:Addr) (A:O4),v=.ref l/\s.heap.IsList l A/\k.length=n /\
  ((c=0/\ba A k)\/∃B:O1,2<=c/\k=B.flatten/\A.size=B.length/\∀(j:Nat) (u:Value) (q:P8),A[j]?=some u->B[j]?=some q->(q.length:Int)+1=c/\∃r E,u=.ref r/\s.heap.IsList r E/\ba E q)
theorem cW.det (h:cW s c n v k)(h':cW s c n v N):k=N:=by
 obtain⟨l,A,rfl,hl,t,h⟩:=h;obtain⟨m,H,e,B,O,h'⟩:=h';cases e;obtain rfl:=ja hl B;rcases h with⟨rfl,h⟩|⟨Q,U,rfl,I,h⟩
 .rcases h' with⟨_,h'⟩|⟨_,U,_⟩
  .exact h.det h'
  .lia
 .rcases h' with⟨Y,_⟩|⟨E,_,rfl,G,h'⟩
  .lia
  .congr 1;apply Vs (I.symm.trans G);intro i J j;have q:i<A.size:=by rw[I];exact J
   obtain⟨_,r,b,u,z,o⟩:=h i A[i] Q[i] (by simp[q]) (by simp[J]);obtain⟨_,a,d,M,g,f⟩:=h' i A[i] E[i] (by simp[q]) (by simp[j]);rw[u]at M;cases M;obtain rfl:=ja z g;exact o.det f
theorem jb:∀{A:O1},(∀q∈A,q.length=c)->A.flatten.length=A.length*c
 |[],_=>by simp
 |q::r,h=>by
  rw[Q7,QP,jb λx B=>h x (Qg _ B),h q (by simp),WB,Nat.succ_mul];lia
theorem qU {a b:O1}(A:∀q∈a,q.length=c)(B:∀q∈b,q.length=c)(hl:a.length=b.length):∀(k i:Nat),k+i=a.length ->
  dH (λj=>decide (a.getD j []=b.getD j [])) (λj=>HT.lexLt (a.getD j []) (b.getD j [])) i k=HT.lexLt (a.drop i).flatten (b.drop i).flatten
 |0,i,h=>by
  rw[Vb (by lia),Vb (by lia)];rfl
 |k+1,i,h=>by
  have E:i<a.length:=by lia
  have G:i<b.length:=by lia
  rw[Wh E,Wh G,Q7,Q7,uZ ((A _ (by simp)).trans (B _ (by simp)).symm),<-qU A B hl k (i+1) (by lia)];show(if decide (a.getD i []=b.getD i [])then _ else _)=_;have H:a.getD i []=a[i]:=by simp[E]
  have I:b.getD i []=b[i]:=by simp[G]
  rw[H,I];by_cases e:a[i]=b[i]
  .rw[N0 (N3 e),N0 e]
  .rw[N1 (by simp[e]),N1 e];show HT.lexLt (a.getD i []) (b.getD i [])=_;rw[H,I]
theorem cW.lt (hu:A.units+2<Mz)(h:cW s c n v k)(h':cW s c n u f):dy A s v u (HT.lexLt k f):=by
 obtain⟨l,G,rfl,hl,y,h⟩:=h;obtain⟨l',B,rfl,I,Q,h'⟩:=h';have N:k.length=f.length:=y.trans Q.symm;rcases h with⟨rfl,h⟩|⟨H,hc,rfl,hz,h⟩
 .rcases h' with⟨_,h'⟩|⟨_,hc,_⟩
  .rw[<-h.lex (i2:=B) N];exact dy.items hl I (by rw[h.1,h'.1,N]) (by lia) (h.lt h')
  .lia
 .rcases h' with⟨hc',_⟩|⟨E,_,rfl,U,h'⟩
  .lia
  .have e:∀q∈H,q.length=(c-1).toNat:=λq Y=>by
    obtain⟨i,J⟩:=QG Y;have z:i<G.size:=by rw[hz];exact(Qa.mp J).1
    have:=(h i G[i] q (by simp[z]) J).1;lia
   have t:∀q∈E,q.length=(c-1).toNat:=λq Y=>by
    obtain⟨i,J⟩:=QG Y;have z:i<B.size:=by rw[U];exact(Qa.mp J).1
    have:=(h' i B[i] q (by simp[z]) J).1;lia
   have e3:H.length=E.length:=by
    rw[jb e,jb t]at N;exact Nat.eq_of_mul_eq_mul_right (by lia) N
   have m:=qU e t e3 G.size 0 (by lia);rw[List.drop_zero,List.drop_zero]at m;rw[<-m];refine dy.items hl I (by lia) (by lia) λj v u b M=>?_;have q1:j<G.size:=(WA.mp b).1;have q2:j<B.size:=(WA.mp M).1;have g1:H[j]?=some (H.getD j []):=by simp[show j<H.length by lia]
   have g2:E[j]?=some (E.getD j []):=by simp[show j<E.length by lia]
   obtain⟨l1,r,ri,rfl,a,O⟩:=h j v _ b g1;obtain⟨l2,r',o,rfl,w,d⟩:=h' j u _ M g2;have g:(H.getD j []).length=(E.getD j []).length:=by lia
   refine⟨ba.eq a w O d g (by show A.units+1<Mz;lia),?_⟩;rw[<-O.lex (i2:=o) g];exact eu.items a w (by rw[O.1,d.1,g]) (by show A.units+1<Mz;lia) (O.lt d)
end
section
theorem jZ:∀(f n r:Nat),r<=1->Nr f n r<=n+r
 |0,n,r,_=>Qk _
 |f+1,n,r,h=>by
  rw[minRun'_succ];split
  .exact Qk _
  .have e:=jZ f (n/2) (max r (n%2)) (by lia);lia
theorem gK:∀vs:O7,List.map (λx:Value×Value=>x.snd) (vs.zip vs)=vs
 |[]=>rfl
 |v::r=>NY (v::·) (gK r)
end
section
variable{κ:Nt}{prog:LU}{w:LV}{A:L3}{E:N7}{s:Shared}
noncomputable def iG(κ:Nt)(prog:LU)(w:LV)(A:L3)(E:N7)(s:Shared)(O:Nu)(key:Nv->O.α)(S:Nv->Prop):Prop:=
 ∀(x y:Nv) (st:Nw) (Q:O5->Nw->Prop),S x->S y->kindOf st=κ->Q (some (O.blt (key x) (key y))) st->wpS (L6 prog w) A E s (lt' x y) Q st
variable{O:Nu}{key:Nv->O.α}{S:Nv->Prop}
def qV {st:Nw}(h:xs[i]?=some x)(q:Q x st):wpS (L6 prog w) A E s (elem' xs i) Q st:=by
 rw[elem'_eq,h];exact Nx q
end
section
variable{O:Nu}{key:Nv->O.α}
noncomputable def Le(O:Nu)(key:Nv->O.α)(x y:Nv):Prop:=O.kle (key x) (key y)
noncomputable def bT(O:Nu)(key:Nv->O.α)(l:List Nv):Prop:=l.Pairwise (Le O key)
def Le.trans{x y z:Nv}(A:Le O key x y)(B:Le O key y z):Le O key x z:=KeyOrd.kle_trans A B
def bT.drop_le (h:bT O key l)(E:l[i]?=some x):∀y∈l.drop i,Le O key x y:=by
 intro y hy;obtain⟨A,rfl⟩:=Qa.mp E;rw[Wh A]at hy;rcases Qn.mp hy with rfl|hy
 .exact KeyOrd.kle_refl _
 .have B:bT O key (l.drop i):=h.sublist (List.drop_sublist i l);rw[Wh A]at B;exact(WJ.mp B).1 y hy
def bT.at_le (h:bT O key l){j:Nat}(A:i<=j)(B:l[i]?=some x)(E:l[j]?=some y):Le O key x y:=by
 refine h.drop_le B y ?_;have:(l.drop i)[j-i]?=some y:=by rw[WK,show i+(j-i)=j by lia];exact E
 exact Qo this
noncomputable def Good(O:Nu)(key:Nv->O.α)(X Y r:List Nv):Prop:=bT O key r/\r.Perm (X++Y)
variable{X Y L:List Nv}{ia ib:Nat}
def gL (A:bT O key l)(B:bT O key r)(h:∀x∈l,∀y∈r,Le O key x y):bT O key (l++r):=List.pairwise_append.mpr ⟨A,B,h⟩
def x5 {l:List Nv}(h:l[i]?=some x):l.take (i+1)=l.take i++[x]:=by
 obtain⟨A,rfl⟩:=Qa.mp h;rw[List.take_succ_eq_append_getElem A]
end
section
variable{prog:LU}{w:LV}{A:L3}{E:N7}{s:Shared}
def Fo {x:StateT Nw Sem B}{Q:B->Nw->Prop}{st:Nw}(h:∀q,q=Q->wpS (L6 prog w) A E s x q st):wpS (L6 prog w) A E s x Q st:=h Q rfl
end
section
variable{O:Nu}{key:Nv->O.α}
variable{X Y L:List Nv}{na nb:Nat}
end
section
variable{O:Nu}{key:Nv->O.α}{S:Nv->Prop}
variable{κ:Nt}
structure Ok(κ:Nt)(O:Nu)(key:Nv->O.α)(S:Nv->Prop)(st:Nw)(pend:List (Nat×Nat×Nat))(l:List Nv):Prop where
 kind:kindOf st=κ
 failed:Ny st=none
 pend:(Nz st).toList=pend
 arr:(NA st).toList=l
 all:∀x∈l,S x
def Fm {V:List Nv}(A:bT O key U)(B:bT O key V)(h:∀x y,U[U.length-1]?=some x->V[0]?=some y->Le O key x y):bT O key (U++V):=by
 refine gL A B λx J y M=>?_;obtain⟨i,E⟩:=QG J;obtain⟨j,G⟩:=QG M;have N:=(Qa.mp E).1;have Q:=(Qa.mp G).1;have H:U[U.length-1]?=some (U[U.length-1]'(by lia)):=by simp
 have I:V[0]?=some (V[0]'(by lia)):=by simp
 exact((A.at_le (by lia) E H).trans (h _ _ H I)).trans (B.at_le (by lia) I G)
end
section
variable{O:Nu}{key:Nv->O.α}{S:Nv->Prop}
variable{κ:Nt}{prog:LU}{w:LV}{A:L3}{E:N7}{s:Shared}
def xD (C:iG κ prog w A E s O key S){st:Nw}(K:Ok κ O key S st B l)(G:l[i]?=some x)(H:l[j]?=some y)(q:Q (some (O.blt (key x) (key y))) st):
  wpS (L6 prog w) A E s (ltAt' i j) Q st:=by
 rw[ltAt'_eq];refine NB (NC ?_);refine NB (qV (by rw[<-Q5,K.arr];exact G) (NB (qV (by rw[<-Q5,K.arr];exact H) ?_)));exact C x y st _ (K.all x (Qo G)) (K.all y (Qo H)) K.kind q
noncomputable def lG(O:Nu)(key:Nv->O.α)(l:List Nv):Prop:=(l.map key).Nodup
def lG.at (h:lG O key l){j:Nat}(B:i≠j)(I:l[i]?=some x)(J:l[j]?=some y)(M:O.blt (key x) (key y)=false):O.blt (key y) (key x)=true:=by
 cases z:O.blt (key y) (key x)with
 |true=>rfl
 |false=>
  exfalso;have e:=O.total _ _ M z;obtain⟨G,rfl⟩:=Qa.mp I;obtain⟨H,rfl⟩:=Qa.mp J;rcases Nat.lt_or_gt_of_ne B with q|q
  .have:=(Q4.mp h) i j (by simpa using G) (by simpa using H) q;exact this (by simpa using e)
  .have:=(Q4.mp h) j i (by simpa using H) (by simpa using G) q;exact this (by simpa using e.symm)
def HX {T:List Nv}(h:bT O key (T.take x))(J:1<=x)(B:T[x]?=some u)(I:T[x-1]?=some v)(hl:Le O key v u):bT O key (T.take (x+1)):=by
 rw[x5 B];refine Fm h (by simp[bT]) λp q G H=>?_;have M:=(Qa.mp B).1;rw[Wm,Vy (by lia),QI (by lia),I]at G;cases G;simp at H;rw[<-H];exact hl
def IQ {T:List Nv}(h:xs.toList=P++T)(n:Nat)(M:n<=T.length):(mirror xs P.length (P.length+n) ((P.length+n-P.length)/2)).toList=P++((T.take n).reverse++T.drop n):=by
 have N:xs.size=P.length+T.length:=by rw[<-Wl,h,QP]
 have I:∀j,xs[j]?=(P++T)[j]?:=λj=>by rw[<-Q5,h]
 apply Wq;intro k;rw[Q5,getElem?_mirror_all (by lia)];simp only[I];clear I N h xs;by_cases J:k<P.length
 .rw[N1 (by lia),Qf J,Qf J]
 obtain⟨i,rfl⟩:∃i,k=P.length+i:=⟨k-P.length,by lia⟩;have H:∀(U:List Nv) i,(P++U)[P.length+i]?=U[i]?:=λU i=>by rw[Qd (Wt _ _),VE]
 have B:(T.take n).length=n:=Va M;have G:(T.take n).reverse.length=n:=by rw[List.length_reverse];exact B
 rw[H (_++T.drop n)];generalize P.length=p at *
 by_cases c:i<n
 .rw[N0 (by lia),show p+(p+n)-1-(p+i)=p+(n-1-i) by lia,H,Qf (by rw[G];exact c),Vh (by rw[B];exact c),B,QI (by lia)]
 .rw[N1 (by lia),H,Qd (by rw[G];lia),G,WK,show n+(i-n)=i by lia]
def gM (C:iG κ prog w A E s O key S){st:Nw}(K:Ok κ O key S st M (P++T))(b:0<T.length)(hd:lG O key T)(h:∀G U R,Ok κ O key S G M (P++(U++R))->bT O key U->(U++R).Perm T->0<U.length->(bT O key T->U.length=T.length)->Q (some U.length) G):
  wpS (L6 prog w) A E s (countRun' P.length T.length) Q st:=by
 have l:∀{G:Nw}{H:List Nv}{n:Nat},Ok κ O key S G M (P++H)->H.Perm T->1<=n->n<=H.length->bT O key (H.take n)->(bT O key T->n=T.length)->Q (some n) G:=by
  intro G H n K' hp h1 m g hT;have e:=h G (H.take n) (H.drop n) (by rw[Wo];exact K') g (by rw[Wo];exact hp) (by rw[Wm];lia) (λq=>by rw[Wm,Vy m];exact hT q)
  rwa[Wm,Vy m]at e
 have asc:∀{G:Nw}{H:List Nv}{a:Nat}{Q':Option (Option Nat)×Nat->Nw->Prop},Ok κ O key S G M (P++H)->H.length=T.length->1<=a->a<=T.length->bT O key (H.take a) ->
   (∀n,a<=n->n<=T.length->bT O key (H.take n)->(n=T.length\/∃u v,H[n]?=some u/\H[n-1]?=some v/\O.blt (key u) (key v)=true)->Q' (none,n) G) ->
   wpS (L6 prog w) A E s (forIn [a:T.length] ((none,a):Option (Option Nat)×Nat) λ_ Y=>do
    let __x <-ltAt' (P.length+Y.snd) (P.length+Y.snd-1)
    match __x with
    |some o=>if o=true then pure (ForInStep.done (none,Y.snd))else pure (ForInStep.yield (none,Y.snd+1))
    |_=>pure (ForInStep.done (some none,Y.snd))) Q' G:=by
  intro G H a Q' K' hT h1 m g hq;refine ND (I:=λx c J=>G=J/\c=(none,x)/\bT O key (H.take x)) ?s1 ?f1 ⟨rfl,rfl,g⟩
  case f1=>
   rintro c J ⟨rfl,rfl,B⟩;rw[show max a T.length=T.length by lia]at B ⊢;exact hq _ m (Qk _) B (.inl rfl)
  case s1=>
   rintro x c J hax hxn ⟨rfl,rfl,B⟩;dsimp only;have d:H[x]?=some (H[x]'(by lia)):=by simp
   have N:H[x-1]?=some (H[x-1]'(by lia)):=by simp
   refine NB (xD C K' (x:=H[x]'(by lia)) (y:=H[x-1]'(by lia)) (by rw[Qd (by lia),show P.length+x-P.length=x by lia];exact d) (by rw[Qd (by lia),show P.length+x-1-P.length=x-1 by lia];exact N) ?_);dsimp only;cases hc:O.blt (key (H[x]'(by lia))) (key (H[x-1]'(by lia)))with
   |true=>
    rw[N0 rfl];exact Nx (hq x hax (by lia) B (.inr ⟨_,_,d,N,hc⟩))
   |false=>
    rw[N1 (by simp)];exact Nx ⟨rfl,rfl,HX B (by lia) d N hc⟩
 refine NB (asc K rfl (Qk 1) b (by
  cases T with
  |nil=>simp at b
  |cons t T=>simp[bT]) λn n1 n2 g hor=>?_)
 dsimp only;by_cases c1:n=T.length
 .rw[N0 (by simpa using c1)];exact Nx (l K (.refl _) n1 n2 g λ_=>c1)
 rw[N1 (by simpa using c1)];obtain⟨u,v,d,N,hlt⟩:=hor.resolve_left c1;have no:∀{x:Prop},bT O key T->x:=λq=>by
  have e:O.blt (key u) (key v)=false:=q.at_le (i:=n-1) (j:=n) (by lia) N d;rw[hlt]at e;cases e
 have a0:T[0]?=some (T[0]'b):=by simp
 by_cases c2:n > 1
 .rw[N0 c2];refine NB (xD C K (x:=T[0]'b) (y:=v) (by rw[Qd (by lia),show P.length-P.length=0 by lia];exact a0) (by rw[Qd (by lia),show P.length+n-1-P.length=n-1 by lia];exact N) ?_);have hle:Le O key (T[0]'b) v:=g.at_le (i:=0) (j:=n-1) (by lia) (by rw[QI (by lia)];exact a0) (by rw[QI (by lia)];exact N);rw[hd.at (i:=n-1) (j:=0) (by lia) N a0 hle];dsimp only;rw[N0 rfl];exact Nx (l K (.refl _) n1 n2 g no)
 rw[N1 c2];obtain rfl:n=1:=by lia
 refine NB (wpS_lift (Na ⟨rfl,?_⟩));have d2:bT O key (T.take 2).reverse:=by
  rw[x5 d,List.reverse_append];have e1:T.take 1=[v]:=by rw[show(1:Nat)=0+1 from rfl,x5 (i:=0) N];simp
  rw[e1];refine WJ.mpr ⟨λz f=>?_,by simp⟩;simp at f;rw[f];exact KeyOrd.kle_of_klt hlt
 have hT2:2<=T.length:=by lia
 refine NB (NE (ND (I:=λx c J=>st=J/\c=(none,x,0)/\bT O key (T.take x).reverse) (Q:=λc J=>st=J/\∃n,c=(none,n,0)/\2<=n/\n<=T.length/\bT O key (T.take n).reverse) ?s2 ?f2 ⟨rfl,rfl,d2⟩) ?p2)
 case f2=>
  rintro c J ⟨rfl,rfl,B⟩;rw[show max (1+1) T.length=T.length by lia]at B ⊢;exact⟨rfl,_,rfl,hT2,Qk _,B⟩
 case s2=>
  rintro x c J hax hxn ⟨rfl,rfl,B⟩;dsimp only;have d:T[x]?=some (T[x]'(by lia)):=by simp
  have N:T[x-1]?=some (T[x-1]'(by lia)):=by simp
  have pu:(P++T)[P.length+x]?=some (T[x]'(by lia)):=by rw[Qd (by lia),show P.length+x-P.length=x by lia];exact d
  have pv:(P++T)[P.length+x-1]?=some (T[x-1]'(by lia)):=by rw[Qd (by lia),show P.length+x-1-P.length=x-1 by lia];exact N
  refine NB (xD C K pu pv ?_);dsimp only;cases hc:O.blt (key (T[x]'(by lia))) (key (T[x-1]'(by lia)))with
  |true=>
   rw[N0 rfl,N1 (by lia)];refine Nx ⟨rfl,rfl,?_⟩;rw[x5 d,List.reverse_append];refine WJ.mpr ⟨λz f=>?_,B⟩
   replace f:z∈(T.take x).reverse:=f
   rw[List.mem_reverse]at f;obtain⟨i,hi⟩:=QG f;have hlt':=(Qa.mp hi).1;rw[Wm]at hlt';have h1:((T.take x).reverse)[x-1-i]?=some z:=by
    rw[Vh (by simp;lia)];rw[<-hi];congr 1;simp;lia
   have m:((T.take x).reverse)[0]?=some (T[x-1]'(by lia)):=by
    rw[Vh (by simp;lia),QI (by simp;lia),<-N];congr 1;simp;lia
   exact Le.trans (KeyOrd.kle_of_klt hc) (B.at_le (WT _) m h1)
  |false=>
   rw[N1 (by simp)];refine NB (xD C K pv pu ?_);dsimp only;rw[hd.at (i:=x) (j:=x-1) (by lia) d N hc,N0 rfl];exact Nx ⟨rfl,x,rfl,by lia,by lia,B⟩
 case p2=>
  rintro c J ⟨rfl,n,rfl,m1,m2,B⟩;dsimp only;rw[N1 (by lia)];refine NB (wpS_reverse ?_);have hp:((T.take n).reverse++T.drop n).Perm T:=by
   have e:=(Vn (T.take n)).append_right (T.drop n)
   rwa[Wo]at e
  have hl:((T.take n).reverse++T.drop n).length=T.length:=hp.length_eq;have ht:((T.take n).reverse++T.drop n).take n=(T.take n).reverse:=by
   rw[WR (by simp;lia),VF (by simp;lia)]
  have K2:Ok κ O key S (setArr st (mirror (NA st) P.length (P.length+n) ((P.length+n-P.length)/2))) M (P++((T.take n).reverse++T.drop n)):=
   ⟨K.kind,K.failed,K.pend,IQ K.arr n m2,λx hx=>K.all x (by
    rcases QJ.mp hx with q|q
    .simp[q]
    .exact Qv _ (hp.mem_iff.mp q))⟩
  refine NB (asc K2 hl (by lia) m2 (by rw[ht];exact B) λn' n1' n2' hs2 _=>?_);exact Nx (l K2 hp (by lia) (by lia) hs2 no)
end
section
variable{O:Nu}{key:Nv->O.α}{S:Nv->Prop}
variable{κ:Nt}{prog:LU}{w:LV}{A:L3}{E:N7}{s:Shared}
def IP (h:xs.toList=P++T)(k l:Nat)(Y:k<T.length)(hl:l<=k)(t:Nv)(u:T[k]?=some t):
  (bubble xs (P.length+k) (P.length+k-(P.length+l))).toList=P++(((T.take k).take l++[t]++(T.take k).drop l)++T.drop (k+1)):=by
 have z:xs.size=P.length+T.length:=by rw[<-Wl,h,QP]
 have M:∀j,xs[j]?=(P++T)[j]?:=λj=>by rw[<-Q5,h]
 apply Wq;intro j;rw[show P.length+k-(P.length+l)=k-l by lia,Q5,getElem?_bubble (by lia) _ (by lia),show P.length+k-(k-l)=P.length+l by lia];simp only[M];clear M z h xs;by_cases N:j<P.length
 .rw[N1 (by lia),N1 (by lia),Qf N,Qf N]
 obtain⟨i,rfl⟩:∃i,j=P.length+i:=⟨j-P.length,by lia⟩;have J:∀(U:List Nv) i,(P++U)[P.length+i]?=U[i]?:=λU i=>by rw[Qd (Wt _ _),VE]
 have I:(T.take k).length=k:=Va (WF Y);have H:((T.take k).take l).length=l:=Va (by rw[I];exact hl);have B:((T.take k).take l++[t]).length=l+1:=by rw[QP,H];rfl
 have G:((T.take k).take l++[t]++(T.take k).drop l).length=k+1:=by rw[QP,B,List.length_drop,I];lia
 rw[J (_++T.drop (k+1)),J T k];generalize P.length=p at *
 by_cases o:i=l
 .subst o;rw[N0 rfl,u,Qf (by rw[G];lia),Qf (by rw[B];lia),Qd (by rw[H];exact Qk _),H,Nat.sub_self];rfl
 rw[N1 (by lia)];by_cases d:l<i/\i<=k
 .rw[N0 (by lia),show p+i-1=p+(i-1) by lia,J T,Qf (by rw[G];lia),Qd (by rw[B];lia),B,WK,QI (by lia),show l+(i-(l+1))=i-1 by lia]
 .rw[N1 (by lia),J T];by_cases Q:i<l
  .rw[Qf (by rw[G];lia),Qf (by rw[B];lia),Qf (by rw[H];exact Q),QI Q,QI (by lia)]
  .rw[Qd (by rw[G];lia),WK,G,show k+1+(i-(k+1))=i by lia]
def IN (C:iG κ prog w A E s O key S){st:Nw}(K:Ok κ O key S st M (P++T))(hn:n<=T.length)(hok:ok<=n)(h1:1<=ok)(hs:bT O key (T.take ok))(h:∀G B,Ok κ O key S G M (P++B)->B.Perm T->bT O key (B.take n)->Q true G):
  wpS (L6 prog w) A E s (binarySort' P.length n ok) Q st:=by
 refine NB (NE (ND (I:=λk c G=>c=(none,())/\∃B,Ok κ O key S G M (P++B)/\B.Perm T/\bT O key (B.take (min k n)))
  (Q:=λc G=>c=(none,())/\∃B,Ok κ O key S G M (P++B)/\B.Perm T/\bT O key (B.take n)) ?s1 ?f1 ⟨rfl,T,K,.refl _,by rw[show min (max ok 1) n=ok by lia];exact hs⟩) ?p1)
 case p1=>
  rintro c G ⟨rfl,B,U,g,H⟩;exact Nx (h G B U g H)
 case f1=>
  rintro c G ⟨rfl,B,U,g,H⟩;rw[show min (max (max ok 1) n) n=n by lia]at H;exact⟨rfl,B,U,g,H⟩
 case s1=>
  rintro k c G hka hkn ⟨rfl,B,U,g,H⟩;rw[show min k n=k by lia]at H;have hlen:=g.length_eq;have hk:k<B.length:=by lia
  have ht:B[k]?=some B[k]:=by simp
  refine NB (NE (ND (I:=λx c J=>G=J/\∃l r,c=(none,l,r)/\l<=r/\r<=k/\r-l<=k-x/\(∀i u,i<l->B[i]?=some u->Le O key u B[k])/\(∀i u,r<=i->i<k->B[i]?=some u->Le O key B[k] u))
   (Q:=λc J=>G=J/\∃l,c=(none,l,l)/\l<=k/\(∀i u,i<l->B[i]?=some u->Le O key u B[k])/\(∀i u,l<=i->i<k->B[i]?=some u->Le O key B[k] u)) ?s2 ?f2 ⟨rfl,0,k,rfl,by lia,by lia,by lia,λi u q=>N2 q (by lia),λi u q1 q2=>N2 q2 (by lia)⟩) ?p2)
  case f2=>
   rintro c J ⟨rfl,l,r,rfl,b1,m,b3,f,e⟩;obtain rfl:l=r:=by lia
   exact⟨rfl,l,rfl,m,f,e⟩
  case s2=>
   rintro x c J _ t ⟨rfl,l,r,rfl,b1,m,b3,f,e⟩;dsimp only;by_cases c1:l ≥ r
   .rw[N0 c1];obtain rfl:l=r:=by lia
    exact Nx ⟨rfl,l,rfl,m,f,e⟩
   .rw[N1 c1];have hm:B[(l+r)/2]?=some (B[(l+r)/2]'(by lia)):=by simp
    refine NB (xD C U (x:=B[k]) (y:=B[(l+r)/2]'(by lia)) (by rw[Qd (by lia),show P.length+k-P.length=k by lia];exact ht) (by rw[Qd (by lia),show P.length+(l+r)/2-P.length=(l+r)/2 by lia];exact hm) ?_);dsimp only;have a:∀{i:Nat}{u:Nv},i<k->B[i]?=some u->(B.take k)[i]?=some u:=λY j=>by rw[QI Y];exact j
    cases hc:O.blt (key B[k]) (key (B[(l+r)/2]'(by lia)))with
    |true=>
     rw[N0 rfl];exact Nx ⟨rfl,l,(l+r)/2,rfl,by lia,by lia,by lia,f,λi u q1 q2 j=>Le.trans (KeyOrd.kle_of_klt hc) (H.at_le q1 (a (by lia) hm) (a q2 j))⟩
    |false=>
     rw[N1 (by simp)];exact Nx ⟨rfl,(l+r)/2+1,r,rfl,by lia,by lia,by lia,λi u q1 j=>Le.trans (H.at_le (by lia) (a (by lia) j) (a (by lia) hm)) (show Le O key (B[(l+r)/2]'(by lia)) B[k]from hc),e⟩
  case p2=>
   rintro c J ⟨rfl,l,rfl,m,f,e⟩;dsimp only;refine NB (wpS_modify ?_);refine Nx ⟨rfl,((B.take k).take l++[B[k]]++(B.take k).drop l)++B.drop (k+1),⟨U.kind,U.failed,U.pend,?_,?_⟩,?_,?_⟩
   .exact IP U.arr k l hk m _ ht
   all_goals
    have b:(((B.take k).take l++[B[k]]++(B.take k).drop l)++B.drop (k+1)).Perm B:=by
     have e1:((B.take k).take l++[B[k]]++(B.take k).drop l).Perm (B.take k++[B[k]]):=by
      rw[QZ];refine(List.Perm.append_left _ List.perm_append_comm).trans ?_;rw[<-QZ,Wo]
     rw[<-x5 ht]at e1;have e2:=e1.append_right (B.drop (k+1))
     rwa[Wo]at e2
   .intro x t;refine U.all x ?_;rcases QJ.mp t with q|q
    .simp[q]
    .exact Qv _ (b.mem_iff.mp q)
   .exact b.trans g
   .have z:((B.take k).take l++[B[k]]++(B.take k).drop l).length=k+1:=by simp;lia
    rw[show min (k+1) n=k+1 by lia,WR (by rw[z];lia),VF (by rw[z];lia)];have o:∀u∈(B.take k).take l,Le O key u B[k]:=λu j=>by
     obtain⟨i,Y⟩:=QG j;have d:=(Qa.mp Y).1;simp only[Wm]at d;rw[QI (by lia),QI (by lia)]at Y;exact f i u (by lia) Y
    have N:∀u∈(B.take k).drop l,Le O key B[k] u:=λu j=>by
     obtain⟨i,Y⟩:=QG j;have d:=(Qa.mp Y).1;simp only[Wm,List.length_drop]at d;rw[WK,QI (by lia)]at Y;exact e (l+i) u (by lia) (by lia) Y
    refine gL (gL (H.sublist (List.take_sublist _ _)) (by simp[bT]) λx t y hy=>?_) (H.sublist (List.drop_sublist _ _)) λx t y hy=>?_
    .rw[QK.mp hy];exact o x t
    .rcases QJ.mp t with q|q
     .exact (o x q).trans (N y hy)
     .rw[QK.mp q];exact N y hy
end
section
variable{O:Nu}{key:Nv->O.α}{S:Nv->Prop}
variable{κ:Nt}{prog:LU}{w:LV}{A:L3}{E:N7}{s:Shared}
def sO (h:n<64):Nr n n 0=n:=by
 cases n with
 |zero=>rfl
 |succ n=>rw[minRun'_succ,N0 h]
def qW (C:iG κ prog w A E s O key S){st:Nw}(K:Ok κ O key S st [] l)(h2:2<=l.length)(hd:lG O key l)(i:l.length<64\/bT O key l)(h:∀B G,(NA B).toList=G->Ny B=none->bT O key G->G.Perm l->Q () B):wpS (L6 prog w) A E s sortRuns' Q st:=by
 rw[sortRuns'_eq];refine NB (NC ?_);dsimp -zeta -zetaHave only;have hN:(NA st).size=l.length:=by rw[<-Wl,K.arr]
 rw[hN];have hmr:Nr l.length l.length 0<=l.length:=jZ _ _ 0 (by lia);refine NB (NE (ND
  (I:=λx c B=>(x=0/\c=(none,0)/\Ok κ O key S B [] l)\/(c=(none,l.length)/\∃t G,Ok κ O key S B [t] G/\bT O key G/\G.Perm l))
  (Q:=λc B=>c=(none,l.length)/\∃t G,Ok κ O key S B [t] G/\bT O key G/\G.Perm l) ?s1 ?f1 (.inl ⟨rfl,rfl,K⟩)) ?p1)
 case f1=>
  rintro c B (⟨x,_⟩|r)
  .lia
  .exact r
 case s1=>
  rintro x c B _ hx (⟨rfl,rfl,e⟩|⟨rfl,r⟩)
  rotate_left
  .dsimp -zeta -zetaHave only;rw[N0 (Qk _)];exact Nx ⟨rfl,r⟩
  dsimp -zeta -zetaHave only;rw[N1 (by lia)];refine NB (gM (P:=[]) C e (by lia) hd λst2 U R2 m z N hU0 Y=>?_);dsimp -zeta -zetaHave only;have hl2:U.length+R2.length=l.length:=by have:=N.length_eq;simpa using this
  refine Fo λQ1 a=>?_
  extract_lets +onlyGivenNames nn jp
  subst nn;have J:∀H W,Ok κ O key S H [] W->bT O key W->W.Perm l->wpS (L6 prog w) A E s (jp () W.length) Q1 H:=by
   intro H W j b o;subst a;refine NB (NC ?_);have hb:(Nz H).back?=none:=by rw[<-Array.toArray_toList (xs:=Nz H),j.pend];rfl
   rw[hb];dsimp only;refine NB (wpS_modify (Nx (.inr ⟨by rw[o.length_eq,Nat.zero_add],(0,W.length,0),W,⟨j.kind,j.failed,?_,j.arr,j.all⟩,b,o⟩)));show((Nz H).push _).toList=_;rw[Array.toList_push,j.pend];rfl
  clear a;by_cases n:U.length<Nr l.length l.length 0
  .rw[N0 n];refine NB (wpS_lift (Na ⟨rfl,?_⟩));have u:min l.length (Nr l.length l.length 0)=l.length:=by
    rcases i with q|q
    .rw[sO q,Nat.min_self]
    .have:=Y q;lia
   refine NB (IN (P:=[]) C m (by rw[QP];lia) (by lia) (by lia) (by rw[WR (Qk _),W5];exact z) λH T3 j d g=>?_);rw[N1 (by simp)];have hT:T3.length=l.length:=(d.trans N).length_eq;rw[Nat.sub_zero,u,<-hT];rw[Nat.sub_zero,u,<-hT,W5]at g;exact J _ T3 j g (d.trans N)
  .rw[N1 n];have hU:U.length=l.length:=by
    rcases i with q|q
    .rw[sO q]at n;lia
    .exact Y q
   obtain rfl:R2=[]:=Vt (by lia);rw[QX]at N m;exact J _ U m z N
 case p1=>
  rintro c B ⟨rfl,t,G,e,hs,hp⟩;dsimp only;refine NB (NE (ND (I:=λx c M=>c=(none,())/\Ok κ O key S M [t] G) (Q:=λc M=>c=(none,())/\Ok κ O key S M [t] G) ?s4 (λ_ _ q=>q) ⟨rfl,e⟩) ?p4)
  case s4=>
   rintro y c M _ hy ⟨rfl,f⟩;refine NB (NC ?_);have hsz:(Nz M).size=1:=by rw[<-Wl,f.pend];rfl
   rw[N0 (by lia)];exact Nx ⟨rfl,f⟩
  case p4=>
   rintro c M ⟨rfl,f⟩;dsimp only;exact Nx (h M G f.arr f.failed hs hp)
end
theorem yP:∀a:P8,HT.lexLt a a=false
 |[]=>rfl
 |x::A=>by rw[HT.aQ,N0 rfl];exact yP A
theorem xg:∀a b c:P8,HT.lexLt a b=true->HT.lexLt b c=true->HT.lexLt a c=true
 |[],[],_,h,_=>by cases h
 |[],_::_,[],_,h=>by cases h
 |[],_::_,_::_,_,_=>rfl
 |_::_,[],_,h,_=>by cases h
 |_::_,_::_,[],_,h=>by cases h
 |x::H,y::I,z::J,B,A=>by
  rw[HT.aQ]at B A ⊢;by_cases G:x=y
  .rw[N0 G]at B;subst G;by_cases E:x=z
   .rw[N0 E]at A ⊢;exact xg H I J B A
   .rw[N1 E]at A ⊢;exact A
  .rw[N1 G]at B;have M:=N4 B;by_cases E:y=z
   .subst E;rw[N1 G];exact B
   .rw[N1 E]at A;have N:=N4 A;rw[N1 (by lia)];exact N3 (by lia)
theorem wt:∀a b:P8,HT.lexLt a b=false->HT.lexLt b a=false->a=b
 |[],[],_,_=>rfl
 |[],_::_,h,_=>by cases h
 |_::_,[],_,h=>by cases h
 |x::E,y::G,A,B=>by
  rw[HT.aQ]at A B;by_cases e:x=y
  .subst e;rw[N0 rfl]at A B;rw[wt E G A B]
  .rw[N1 e]at A;rw[N1 (Ne.symm e)]at B;have H:=of_decide_eq_false A;have I:=of_decide_eq_false B;lia
def Fl(a b c:P8)(h:HT.lexLt a c=true):HT.lexLt a b=true\/HT.lexLt b c=true:=by
 cases B:HT.lexLt a b with
 |true=>exact .inl rfl
 |false=>
  right
  cases A:HT.lexLt b a with
  |true=>exact xg b a c A h
  |false=>rw[<-wt a b B A];exact h
noncomputable def ou:Nu:=⟨P8,HT.lexLt,yP,xg,Fl,wt⟩
noncomputable def fg(G:Nt)(A:L3)(s:Shared)(x y:Value)(b:Bool):Prop:=
 ∀(B:LU) (w:LV) (E:N7) (Q:Bool->Shared->Prop),Q b s->L5 (L6 B w) A (keyLt' G x y) Q E s
section
variable{κ:Nt}{prog:LU}{w:LV}{A:L3}{E:N7}{s:Shared}
def D8{key:Value->P8}{vs:O7}(hl:∀x∈vs,∀y∈vs,fg κ A s x y (HT.lexLt (key x) (key y))):iG κ prog w A E s ou (λp=>key p.1) (λp=>p.1∈vs):=by
 intro x y st Q B G H q;rw[lt'_eq];refine NB (NC ?_);rw[H];refine NB (wpS_lift (NF (hl x.1 B y.1 G prog w _ _ ⟨rfl,?_⟩)));exact Nx q
theorem kD:∀vs:O7,List.map (λx:Value×Value=>x.fst) (vs.zip vs)=vs
 |[]=>rfl
 |v::r=>NY (v::·) (kD r)
def vj {out:O7}(h2:2<=vs.length)(hl:∀x∈vs,∀y∈vs,fg κ A s x y (HT.lexLt (key x) (key y)))(H:(vs.map key).Nodup)(u:out.Perm vs)(I:out.Pairwise λx y=>HT.lexLt (key y) (key x)=false)(n:vs.length<64\/out=vs)(h:∀B:Nw,(NA B).map (·.2)=out.toArray->Ny B=none->Q () B):
  wpS (L6 prog w) A E s sortRuns' Q (SortSt.mk' κ (vs.toArray.zip vs.toArray) #[] 7 none):=by
 have hz:(vs.toArray.zip vs.toArray).toList=vs.zip vs:=by simp
 refine qW (D8 hl) (l:=vs.zip vs) ⟨rfl,rfl,rfl,hz,λx hx=>(mem_zip_self hx).2⟩ (by simp;lia) ?_ ?_ λB G e1 e2 e3 z=>h B ?_ e2
 .show ((vs.zip vs).map λp=>key p.1).Nodup;have:(vs.zip vs).map (λp=>key p.1)=vs.map key:=by
   have:=NY (List.map key) (kD vs)
   rwa[Wv]at this
  rw[this];exact H
 .rcases n with q|rfl
  .exact .inl (by simpa using q)
  .refine .inr ?_;rw[<-kD out,Q6]at I;exact I
 .have same:G.map (·.2)=G.map (·.1):=List.map_congr_left λp J=>(mem_zip_self (z.mem_iff.mp J)).1.symm;have o:(G.map (·.1)).Perm vs:=by have:=z.map (·.1);rwa[kD]at this
  have e6:G.map (·.1)=out:=by
   refine List.Perm.eq_of_pairwise (le:=λx y=>HT.lexLt (key y) (key x)=false) (λa b ha hb q1 q2=>?_) ?_ I (o.trans u.symm)
   .have d:key a=key b:=wt _ _ q2 q1;have M:=o.mem_iff.mp ha;have N:=u.mem_iff.mp hb;obtain⟨i,g⟩:=QG M;obtain⟨j,O⟩:=QG N;have U:(vs.map key)[i]?=some (key a):=by rw[Qm,g];rfl
    have Y:(vs.map key)[j]?=some (key b):=by rw[Qm,O];rfl
    obtain⟨f,e⟩:=Qa.mp U;obtain⟨t,m⟩:=Qa.mp Y;by_cases c:i=j
    .subst c;rw[g]at O;cases O;rfl
    .exfalso;rcases Nat.lt_or_gt_of_ne c with c|c
     .exact (Q4.mp H) i j f t c (by rw[e,m,d])
     .exact (Q4.mp H) j i t f c (by rw[e,m,d])
   .rw[Q6];exact e3
  apply Array.ext';rw[Array.toList_map,e1,same,e6]
end
section
variable{prog:LU}{w:LV}{A:L3}{E:N7}{s:Shared}
noncomputable def sN(A:L3)(s:Shared)(vs out:O7):Prop:=∃B:Value->P8,(∀x∈vs,∀y∈vs,dy A s x y (HT.lexLt (B x) (B y)))/\(vs.map B).Nodup/\out.Perm vs/\(out.Pairwise λx y=>HT.lexLt (B y) (B x)=false)/\(vs.length<64\/out=vs)
def qX:∀{vs out:O7},vs.length<2->out.Perm vs->out=vs
 |[],_,_,h=>h.eq_nil
 |[v],_,_,h=>List.perm_singleton.mp h
 |_::_::_,_,h,_=>by simp at h;lia
noncomputable def lM(s:Shared)(vs:O7):Prop:=∀v∈vs,s.TypeIs v "list"
def Fk (h:s.TypeIs v "list")(q:Q none s):L5 (L6 prog w) A (firstOfTuple' v) Q E s:=by
 refine Mj (wpAny_typeOf h ?_);rw[N0 (by decide)];exact Mp q
theorem mf:∀{vs:O7},(∀v∈vs,∀Q:B->Shared->Prop,Q b s->L5 (L6 prog w) A (f v) Q E s)->∀{Q:List B->Shared->Prop},Q (vs.map λ_=>b) s->L5 (L6 prog w) A (vs.mapM f) Q E s
 |[],_,Q,q=>by rw[List.mapM_nil];exact Mp q
 |v::r,h,Q,q=>by
  rw[List.mapM_cons];refine Mj (h v (by simp) _ ?_);refine Mj (mf (λv G=>h v (by simp[G])) ?_);exact Mp q
def D7:∀(vs:O7),((vs.map λ_=>Value.type "list").toArray.all λx=>x==Value.type "list")=true:=by
 intro vs;simp only[List.all_toArray,List.all_map,Qx];intro _ _;rfl
def D6 (h:lM s vs)(G:2<=vs.length)(q:Q oneType' s):L5 (L6 prog w) A (keyKind' vs.toArray) Q E s:=by
 obtain⟨v,r,rfl⟩:∃v r,vs=v::r:=by
  cases vs with
  |nil=>simp at G
  |cons v r=>exact⟨v,r,rfl⟩
 rw[keyKind'_eq,List.mapM_toArray,map_eq_pure_bind];refine Mj (Mj (mf (b:=none) (λv B Q q=>Fk (h v B) q) (Mp ?_)));rw[N1 (by simp),N1 (by simp)];rw[oneTypeOnly'_eq,List.mapM_toArray,map_eq_pure_bind];refine Mj (Mj (Mj (mf (b:=Value.type "list") (λv B Q q=>wpAny_typeOf (h v B) q) (Mp ?_))));have H:((v::r).map λ_=>Value.type "list").toArray[0]?=some (Value.type "list"):=by simp
 rw[H];simp only[D7,if_true];exact Mp (Mp q)
def jJ (N:s.heap.get? a=some (NG "list" vs.toArray n))(z:vs.length<=sizeLine)(d:out.length<=sizeLine)(l:∀s':Shared,(∀b o,b≠a->s.heap.get? b=some o->s'.heap.get? b=some o)->lM s' vs/\sN A s' vs out)(h:P (.done (.ret .none)) {s with heap:=NH s.heap a vs out.toArray}):
  L5 (L6 prog w) A (Builtin.«list.sort» ⟨[.ref a],[]⟩) P E s:=by
 rw[list_sort_plain];have U:a<s.heap.objs.size:=Qe N;have O:vs.toArray.size<=sizeLine:=by simpa using z
 refine Mj (listItems_at N rfl ?_);refine Mj (NI N rfl ?_ O (by simp));obtain⟨I,J⟩:∃I,(s.heap.update a (Obj.mapSeq λ_=>#[])).get? a=some (NG "list" #[] I):=⟨_,NJ N (λ_=>#[])⟩;refine Mj (NK J rfl ?_);refine Mj (wpAny_newTuple ?_);refine Mj (NL ?_);refine Mk ?_;have H:(((s.heap.update a (Obj.mapSeq λ_=>#[])).push (NG "tuple" vs.toArray 0)).push (NG "list" #[] 0)).get? a=some (NG "list" #[] I):=by
  rw[WX _ _ _ (by rw[NM,WC];exact Qu (Wk U)),WX _ _ _ (by rw[WC];exact Qu U)];exact J
 have g:∀b o,b≠a->s.heap.get? b=some o->(((s.heap.update a (Obj.mapSeq λ_=>#[])).push (NG "tuple" vs.toArray 0)).push (NG "list" #[] 0)).get? b=some o:=by
  intro b o f e;refine Qc _ (Qc _ ?_);rw[Wf _ _ _ _ f];exact e
 obtain⟨t,Y⟩:=l {s with heap:=((s.heap.update a (Obj.mapSeq λ_=>#[])).push (NG "tuple" vs.toArray 0)).push (NG "list" #[] 0)} g;show L5 (L6 prog w) A _ P E {s with heap:=((s.heap.update a (Obj.mapSeq λ_=>#[])).push (NG "tuple" vs.toArray 0)).push (NG "list" #[] 0)};dsimp only;have m:vs.toArray.size=vs.length:=by simp
 by_cases M:vs.toArray.size<2
 .rw[N0 M,N0 M];refine Mj (Mp ?_);rw[StateT.run_pure];refine Mj (Mp ?_);dsimp only;have j:(vs.toArray.zip vs.toArray).map (·.2)=out.toArray:=by
   have I:out=vs:=by
    obtain⟨_,_,_,q,_⟩:=Y;exact qX (by simpa using M) q
   rw[I];apply Array.ext';simpa using gK vs
  refine Mj (NK H rfl ?_);refine Mj (NI H rfl ?_ (by simp) (by show((vs.toArray.zip vs.toArray).map (·.2)).size<=_;rw[j];simp;lia));simp only[bne_self_eq_false,QL,if_false];rw[show(NA (SortSt.mk' general' (vs.toArray.zip vs.toArray) #[] 7 none)).map (·.2)=out.toArray from j];exact Mp h
 .rw[N1 M,N1 M];obtain⟨B,i,r2,r3,r4,r5⟩:=Y;refine Mj (D6 t (by lia) ?_);have r0:∀x∈vs,∀y∈vs,fg oneType' A _ x y (HT.lexLt (B x) (B y)):=λx hx y hy p w' E' Q' q=>by
   rw[keyLt'_oneType];exact i x hx y hy p w' E' Q' q
  refine Mj (L9 (vj (key:=B) (Q:=λ_ G=>(NA G).map (·.2)=out.toArray/\Ny G=none) (by lia) r0 r2 r3 r4 r5 λG a1 a2=>⟨a1,a2⟩) ?_ λ_ _ e=>e);rintro⟨⟨⟩,G⟩ s' ⟨rfl,u,hf⟩;dsimp only;refine Mj (NK H rfl ?_);refine Mj (NI H rfl ?_ (by simp) (by show((NA G).map (·.2)).size<=_;rw[u];simp;lia));rw[hf];simp only[bne_self_eq_false,QL,if_false];rw[u];exact Mp h
def IM (hl:s.heap.IsList l vs.toArray)(I:vs.length<=sizeLine)(H:out.length<=sizeLine)(J:∀s':Shared,(∀b o,s.heap.get? b=some o->s'.heap.get? b=some o)->lM s' vs/\sN A.in1.in1 s' vs out)(h:Q (.ref (s.heap.objs.size+1)) {s with heap:=NN s.heap vs out.toArray}):
  L5 (L6 prog w) A (call (.builtin "sorted") [.ref l]) Q E s:=by
 refine Calls.call_function_entry kind_sorted plain_sorted entry_sorted (args_sorted1 _) ?_;unfold Builtin.«sorted»;refine Mj (m:=checkCount "sorted" 1 1 _) (Mp ?_);refine Mj (collect_list hl ?_ I);refine Mj (NL ?_);have B:((s.heap.push (NG "list" #[] 0)).update s.heap.objs.size (Obj.mapSeq (·++vs.toArray))).objs.size=s.heap.objs.size+1:=by
  rw[WC,NM]
 have G:(((s.heap.push (NG "list" #[] 0)).update s.heap.objs.size (Obj.mapSeq (·++vs.toArray))).push (NG "list" vs.toArray 0)).get? (s.heap.objs.size+1)=some (NG "list" vs.toArray 0):=by
  rw[<-B];exact Qh _ rfl
 have M:∀b o,s.heap.get? b=some o->(((s.heap.push (NG "list" #[] 0)).update s.heap.objs.size (Obj.mapSeq (·++vs.toArray))).push (NG "list" vs.toArray 0)).get? b=some o:=by
  intro b o e;refine Qc _ ?_;rw[Wf _ _ _ _ (Qu (Qe e))];exact Qc _ e
 show L5 _ _ _ _ _ {s with heap:=((s.heap.push (NG "list" #[] 0)).update s.heap.objs.size (Obj.mapSeq (·++vs.toArray))).push (NG "list" vs.toArray 0)};rw[B];refine Mj (Mk (Nf slot_list_sort ⟨_,G,rfl⟩ entry_list_sort (jJ (out:=out) G I H (λs' k=>J s' λb o e=>k b o (Qu (Wk (Qe e))) (M b o e)) ⟨_,rfl,?_⟩) (args_list_sort _)));exact Mp ⟨_,rfl,h⟩
end
noncomputable def dz(K:Qb)(H:Hp)(c:Int)(n:Nat)(b:Addr)(k:P8):Prop:=k.length=n /\
 ((c=0/\bb K H b (k.map V.int))\/∃(A:O9) (B:O1),2<=c/\k=B.flatten/\A.length=B.length/\bb K H b (A.map V.ref)/\∀(j:Nat) r q,A[j]?=some r->B[j]?=some q->(q.length:Int)+1=c/\bb K H r (q.map V.int))
noncomputable def rS(K:Qb)(H:Hp)(bs E:O9):Prop:=∃(A:O1) (c:Int) (n:Nat),A.length=bs.length/\(∀(i:Nat) b k,bs[i]?=some b->A[i]?=some k->∃G,k=c::G/\dz K H c n b G) /\
 A.Nodup/\∃B:List (P8×Addr),B.Perm (A.zip bs)/\E=B.map Prod.snd/\(B.Pairwise λx y=>HT.lexLt y.1 x.1=false)/\(bs.length<64\/E=bs)
section
variable{X:Cx}
def Fj {k:P8}(r:az (k.map V.int) its)(j:Nat)(v:Value)(G:its.toArray[j]?=some v):∃t,v=.int (k.getD j 0) t:=by
 have B:its[j]?=some v:=by simpa using G
 obtain⟨y,A,H⟩:=r.at B;rw[Qm]at A;cases E:k[j]? with
 |none=>rw[E]at A;cases A
 |some b=>
  rw[E]at A;cases A;obtain⟨t,rfl⟩:=(H:∃t,v=.int b t);exact⟨t,by rw[Qz,E];rfl⟩
theorem vJ:∀{bs:O9}{A:O7},az (bs.map V.ref) A->A=bs.map Value.ref
 |[],_,.nil=>rfl
 |_::_,_,.cons p q=>by
  rw[vJ q];cases p;rfl
theorem vK:∀(bs:O9),az (bs.map V.ref) (bs.map Value.ref)
 |[]=>.nil
 |_::r=>.cons rfl (vK r)
def kE {s':Shared}(I:Inv X A σ H s)(kp:∀b o,s.heap.get? b=some o->s'.heap.get? b=some o)(h:bb X.K H b (k.map V.int)):∃its:O4,s'.heap.IsList b its/\ba its k:=by
 obtain⟨its,r,B,_⟩:=I.list h;obtain⟨o,E,G,n,J⟩:=B.isList;have:=r.length;rw[Qs]at this;exact⟨its.toArray,⟨o,kp _ _ E,G,n,J⟩,by simp;lia,Fj r⟩
def dz.val (I:Inv X J σ H s)(kp:∀b o,s.heap.get? b=some o->s'.heap.get? b=some o)(h:dz X.K H c n b k):cW s' c n (.ref b) k:=by
 obtain⟨M,⟨E,h⟩|⟨N,O,E,e,hl,h,Q⟩⟩:=h
 .obtain ⟨A,U,Y⟩:=kE I kp h;exact⟨b,A,rfl,U,M,.inl ⟨E,Y⟩⟩
 .obtain ⟨A,r,z,_⟩:=I.list h;obtain⟨o,d,G,l,g⟩:=z.isList;obtain rfl:=vJ r;refine⟨b,_,rfl,⟨o,kp _ _ d,G,l,g⟩,M,.inr ⟨O,E,e,by simp[hl],λj u q f t=>?_⟩⟩;have B:(N.map Value.ref)[j]?=some u:=by simpa using f
  rw[Qm]at B;obtain⟨a,m,rfl⟩:=Qy.mp B;obtain⟨i,w⟩:=Q j a q m t;obtain⟨y,g1,g2⟩:=kE I kp w;exact⟨i,a,y,rfl,g1,g2⟩
def IL {bs A:O9}(I:Inv X B σ H s)(j:A.length<=sizeLine)(q:∀l,H l=none->Q (.ref l) (aG H l (.L (A.map V.ref)))):
  EP X B σ Q (.ref (s.heap.objs.size+1)) {s with heap:=NN s.heap (bs.map Value.ref) (A.map Value.ref).toArray}:=by
 have J:((s.heap.push (NG "list" #[] 0)).update s.heap.objs.size (Obj.mapSeq (·++(bs.map Value.ref).toArray))).objs.size=s.heap.objs.size+1:=by
  rw[WC,NM]
 have E:(((s.heap.push (NG "list" #[] 0)).update s.heap.objs.size (Obj.mapSeq (·++(bs.map Value.ref).toArray))).push (NG "list" (bs.map Value.ref).toArray 0)).get? (s.heap.objs.size+1)=some (NG "list" (bs.map Value.ref).toArray 0):=by
  rw[<-J];exact Qh _ rfl
 have u:=Qe E;have M:∀b o,s.heap.get? b=some o->(((s.heap.push (NG "list" #[] 0)).update s.heap.objs.size (Obj.mapSeq (·++(bs.map Value.ref).toArray))).push (NG "list" (bs.map Value.ref).toArray 0)).get? b=some o:=by
  intro b o e;refine Qc _ ?_;rw[Wf _ _ _ _ (Qu (Qe e))];exact Qc _ e
 have N:∀b o,s.heap.get? b=some o->(NN s.heap (bs.map Value.ref) (A.map Value.ref).toArray).get? b=some o:=by
  intro b o e;have U:=Qe e;unfold NN NH;rw[Wf _ _ _ _ (Qu (Wk U))];refine Qc _ (Qc _ ?_);rw[Wf _ _ _ _ (Qu (Wk U))];exact M b o e
 have G:∃c,(NN s.heap (bs.map Value.ref) (A.map Value.ref).toArray).get? (s.heap.objs.size+1)=some (NG "list" (A.map Value.ref).toArray c):=by
  unfold NN NH;obtain⟨Y,O⟩:∃Y,((((s.heap.push (NG "list" #[] 0)).update s.heap.objs.size (Obj.mapSeq (·++(bs.map Value.ref).toArray))).push (NG "list" (bs.map Value.ref).toArray 0)).update (s.heap.objs.size+1) (Obj.mapSeq λ_=>#[])).get? (s.heap.objs.size+1)=some (NG "list" #[] Y):=⟨_,NJ E (λ_=>#[])⟩;exact⟨_,NJ (Qc _ (Qc _ O)) (λ_=>(A.map Value.ref).toArray)⟩
 obtain⟨c,e⟩:=G;exact⟨.ref (s.heap.objs.size+1),_,I.laid (t':=s.toks) N (W0 _) (show bc X.prog X.w _ _ _ (.L (A.map V.ref))from⟨by rw[Qs];exact j,_,c,vK A,e⟩),rfl,q _ (I.hok.fresh (W0 _))⟩
def qY(hu:X.A.units+64<Mz):aW X (.builtin "sorted") (λxs H Q=>∃(p:Addr) (bs U:O9),xs=[.ref p]/\bb X.K H p (bs.map V.ref)/\rS X.K H bs U/\∀l,H l=none->Q (.ref l) (aG H l (.L (U.map V.ref)))):=by
 intro pins s σ H xs us Q I r h;obtain⟨p,bs,U,rfl,hq,⟨E,c,n,hl,Y,z,d,O,rfl,g,h64⟩,q⟩:=h;obtain⟨u,rfl,rx⟩:=xb r;cases rx;obtain⟨its,r',pl,hz⟩:=I.list hq;obtain rfl:=vJ r';rw[Qs]at hz;have f:bs.Nodup:=by
  unfold VA;rw[Q4];intro i j J hj hij e';have t:i<E.length:=by lia
  have m:j<E.length:=by lia
  obtain⟨k1,w,q1⟩:=Y i bs[i] E[i] (by simp[J]) (by simp[t]);obtain⟨k2,e2,q2⟩:=Y j bs[j] E[j] (by simp[hj]) (by simp[m]);rw[e']at q1;have:=(q1.val I λ_ _ h=>h).det (q2.val I λ_ _ h=>h);exact Q4.mp z i j t m hij (by rw[w,e2,this])
 have hpm:(d.map Prod.snd).Perm bs:=by
  have:=O.map Prod.snd
  rwa[W6 (by lia)]at this
 have hso:(d.map Prod.snd).Pairwise λx y=>HT.lexLt ((E[bs.idxOf y]?).getD []) ((E[bs.idxOf x]?).getD [])=false:=by
  have hm:∀p∈d,(E[bs.idxOf p.2]?).getD []=p.1:=λp hp=>by
   obtain⟨i,J⟩:=QG (O.mem_iff.mp hp);obtain⟨h1,h2⟩:=Wg.mp J;obtain⟨h3,h4⟩:=Qa.mp h2;rw[<-h4,f.idxOf_getElem i h3,h1];rfl
  rw[Q6];refine g.imp_of_mem λ{a b} ha M h=>?_;rw[hm a ha,hm b M];exact h
 have hcs:(d.map Prod.snd).length=bs.length:=hpm.length_eq;clear g O;generalize d.map Prod.snd=U at *
 have B:∀(i:Nat),i<bs.length->∃b k,bs[i]?=some b/\E[i]?=some k:=λi J=>⟨bs[i],E[i],by simp[J],by simp⟩;refine IM (out:=U.map Value.ref) pl.isList (by simpa using hz) (by rw[Qs,hcs];exact hz) (λs' kp=>⟨λv hv=>?_,?_⟩) ?_
 .obtain ⟨b,M,rfl⟩:=Wc.mp hv;obtain⟨i,J⟩:=QG M;obtain⟨_,k,_,h2⟩:=B i (Qa.mp J).1;obtain⟨k',_,G⟩:=Y i b k J h2;obtain⟨l,_,e,⟨o,ho,hc,_⟩,_⟩:=G.val I kp;cases e;exact⟨o,ho,hc⟩
 .have ix:∀(i:Nat) b,bs[i]?=some b->bs.idxOf b=i:=λi b M=>by
   obtain⟨J,rfl⟩:=Qa.mp M;exact f.idxOf_getElem i J
  let N:Value->P8:=λv=>match v with
   |.ref b=>(E[bs.idxOf b]?).getD []
   |_=>[]
  have A:∀(i:Nat) b k,bs[i]?=some b->E[i]?=some k->N (.ref b)=k:=λi b k M G=>by
   show(E[bs.idxOf b]?).getD []=k;rw[ix i b M,G];rfl
  refine⟨N,λx hx y hy=>?_,?_,hpm.map _,?_,h64.imp (λq=>by rw[Qs];exact q) λq=>by rw[q]⟩
  .obtain ⟨b1,hb1,rfl⟩:=Wc.mp hx;obtain⟨b0,hb0,rfl⟩:=Wc.mp hy;obtain⟨i1,w⟩:=QG hb1;obtain⟨i0,e0⟩:=QG hb0;obtain⟨_,k1,_,f1⟩:=B i1 (Qa.mp w).1;obtain⟨_,k0,_,f0⟩:=B i0 (Qa.mp e0).1;obtain⟨k1',rfl,q1⟩:=Y _ _ _ w f1;obtain⟨k0',rfl,q0⟩:=Y _ _ _ e0 f0;rw[A _ _ _ w f1,A _ _ _ e0 f0,HT.aQ,N0 rfl];exact cW.lt (by show X.A.units+1+1+2<Mz;lia) (q1.val I kp) (q0.val I kp)
  .have:(bs.map Value.ref).map N=E:=by
    apply Wq;intro i;rw[Qm,Qm];by_cases J:i<bs.length
    .obtain ⟨b,k,M,G⟩:=B i J;rw[M,G];show some (N (.ref b))=some k;rw[A i b k M G]
    .rw[Qq (by lia),Qq (by lia)];rfl
   rw[this];exact z
  .rw[Q6];exact hso
 .exact IL I (by rw[hcs];exact hz) q
end
noncomputable def kc(A:P8):Int:=A.getD (NO (λi j=>decide (A.getD i 0 > A.getD j 0)) (A.length-1)) 0
noncomputable def wI(A:P8):Int:=A.getD (NO (λi j=>decide (A.getD i 0<A.getD j 0)) (A.length-1)) 0
theorem wS(bt:Nat->Nat->Bool):∀k,NO bt k<=k
 |0=>Qk _
 |k+1=>by
  unfold NO;split
  .exact Qk _
  .exact Nat.le_succ_of_le (wS bt k)
set_option tactic.hygienic true in
theorem jc(val:Nat->Int):∀k i,i<=k->val i<=val (NO (λi j=>decide (val i > val j)) k)
 |0,i,h=>by
  obtain rfl:i=0:=by lia
  exact W3 _
 |k+1,i,h=>by
  have A:=jc val k;unfold NO;split
  .rename_i z;have B:=N4 z;by_cases e:i=k+1
   .rw[e];exact W3 _
   .have:=A i (by lia);lia
  .rename_i z;have B:¬val (k+1) > val (NO (λi j=>decide (val i > val j)) k):=λy=>z (N3 y);by_cases e:i=k+1
   .rw[e];lia
   .exact A i (by lia)
set_option tactic.hygienic true in
theorem jd(val:Nat->Int):∀k i,i<=k->val (NO (λi j=>decide (val i<val j)) k)<=val i
 |0,i,h=>by
  obtain rfl:i=0:=by lia
  exact W3 _
 |k+1,i,h=>by
  have A:=jd val k;unfold NO;split
  .rename_i z;have B:=N4 z;by_cases e:i=k+1
   .rw[e];exact W3 _
   .have:=A i (by lia);lia
  .rename_i z;have B:¬val (k+1)<val (NO (λi j=>decide (val i<val j)) k):=λy=>z (N3 y);by_cases e:i=k+1
   .rw[e];lia
   .exact A i (by lia)
section
variable{X:Cx}
def qZ(g:X.calm=true):aW X (.builtin "max") (λxs H Q=>∃(p:Addr) (B:P8),xs=[.ref p]/\bb X.K H p (B.map V.int)/\0<B.length/\Q (.int (kc B)) H):=by
 intro j s σ H xs us Q I r h;obtain⟨p,B,rfl,f,m,q⟩:=h;obtain⟨u,rfl,n⟩:=xb r;cases n;obtain⟨E,z,U,hz⟩:=I.list f;have J:=z.length;rw[Qs]at J;obtain⟨o,a,_⟩:=id U.isList;have M:=Qe a;have d:E.toArray.size=B.length:=by simp;lia
 have val:∀(i:Nat) (v:Value),E.toArray[i]?=some v->∃t,v=.int (B.getD i 0) t:=λi v O=>by
  have Y:E[i]?=some v:=by simpa using O
  obtain⟨y,N,w⟩:=z.at Y;rw[Qm]at N;cases G:B[i]? with
  |none=>rw[G]at N;cases N
  |some b=>
   rw[G]at N;cases N;obtain⟨t,rfl⟩:=(w:∃t,v=.int b t);exact⟨t,by rw[Qz,G];rfl⟩
 refine call_max_walk (Mr U.isList ?_);refine⟨s.heap.objs.size,_,_,_,_,_,_,rfl,Walks.list (A:=X.A.in1) (I.ok.hd g) s.heap.objs.size p (Qu M) E.toArray,⟨⟨_,Qh _ rfl,rfl,rfl⟩,U.isList.at λo e=>Qc _ e⟩,?_,by rw[d];exact m,CmpOf.ints_gt (λi=>B.getD i 0) val,λv h' tk O hk=>?_⟩
 .intro b G;have l:s.heap.objs.size<(s.heap.push {cls:=.type "list_iterator",data:=.fields #[.ref p,.int 0 0]}).objs.size:=Qe (Qh _ rfl);have:b=s.heap.objs.size\/b=p:=by simpa using G
  rcases this with rfl|rfl
  .exact l
  .exact WE M l
 .rw[d]at O;obtain⟨t,rfl⟩:=val _ v O;exact⟨.int (kc B),H,I.kept (t':=tk) λb o e=>hk b o (λG=>by
   have:b=s.heap.objs.size:=by simpa using G
   exact N2 (Qe e) (by rw[this];exact Q3 _)) (Qc _ e),⟨t,rfl⟩,q⟩
def q8(g:X.calm=true):aW X (.builtin "min") (λxs H Q=>∃(p:Addr) (B:P8),xs=[.ref p]/\bb X.K H p (B.map V.int)/\0<B.length/\Q (.int (wI B)) H):=by
 intro j s σ H xs us Q I r h;obtain⟨p,B,rfl,f,m,q⟩:=h;obtain⟨u,rfl,n⟩:=xb r;cases n;obtain⟨E,z,U,hz⟩:=I.list f;have J:=z.length;rw[Qs]at J;obtain⟨o,a,_⟩:=id U.isList;have M:=Qe a;have d:E.toArray.size=B.length:=by simp;lia
 have val:∀(i:Nat) (v:Value),E.toArray[i]?=some v->∃t,v=.int (B.getD i 0) t:=λi v O=>by
  have Y:E[i]?=some v:=by simpa using O
  obtain⟨y,N,w⟩:=z.at Y;rw[Qm]at N;cases G:B[i]? with
  |none=>rw[G]at N;cases N
  |some b=>
   rw[G]at N;cases N;obtain⟨t,rfl⟩:=(w:∃t,v=.int b t);exact⟨t,by rw[Qz,G];rfl⟩
 refine NP (Mr U.isList ?_);refine⟨s.heap.objs.size,_,_,_,_,_,_,rfl,Walks.list (A:=X.A.in1) (I.ok.hd g) s.heap.objs.size p (Qu M) E.toArray,⟨⟨_,Qh _ rfl,rfl,rfl⟩,U.isList.at λo e=>Qc _ e⟩,?_,by rw[d];exact m,CmpOf.ints_lt (λi=>B.getD i 0) val,λv h' tk O hk=>?_⟩
 .intro b G;have l:s.heap.objs.size<(s.heap.push {cls:=.type "list_iterator",data:=.fields #[.ref p,.int 0 0]}).objs.size:=Qe (Qh _ rfl);have:b=s.heap.objs.size\/b=p:=by simpa using G
  rcases this with rfl|rfl
  .exact l
  .exact WE M l
 .rw[d]at O;obtain⟨t,rfl⟩:=val _ v O;exact⟨.int (wI B),H,I.kept (t':=tk) λb o e=>hk b o (λG=>by
   have:b=s.heap.objs.size:=by simpa using G
   exact N2 (Qe e) (by rw[this];exact Q3 _)) (Qc _ e),⟨t,rfl⟩,q⟩
end
section
variable{X:Cx}
def IB(l:X.calm=true):aW X (.builtin "max") (λxs H Q=>∃(p:Addr) (E:P8),xs=[.ref p]/\bC X.K H p (E.map V.int)/\0<E.length/\Q (.int (kc E)) H):=by
 intro Y s σ H xs us Q I r h;obtain⟨p,E,rfl,g,f,q⟩:=h;obtain⟨u,rfl,m⟩:=xb r;cases m;obtain⟨B,j,n,hz⟩:=I.tuple g;have J:=j.length;rw[Qs]at J;have pt:s.heap.IsTuple p B.toArray:=n;obtain⟨o,a,_⟩:=id pt;have M:=Qe a;have z:B.toArray.size=E.length:=by simp;lia
 have val:∀(i:Nat) (v:Value),B.toArray[i]?=some v->∃t,v=.int (E.getD i 0) t:=λi v O=>by
  have U:B[i]?=some v:=by simpa using O
  obtain⟨y,N,w⟩:=j.at U;rw[Qm]at N;cases G:E[i]? with
  |none=>rw[G]at N;cases N
  |some b=>
   rw[G]at N;cases N;obtain⟨t,rfl⟩:=(w:∃t,v=.int b t);exact⟨t,by rw[Qz,G];rfl⟩
 refine call_max_walk (Ms pt ?_);refine⟨s.heap.objs.size,_,_,_,_,_,_,rfl,Walks.tuple (A:=X.A.in1) (I.ok.hd l) s.heap.objs.size p (Qu M) B.toArray,⟨⟨_,Qh _ rfl,rfl,rfl⟩,pt.at λo e=>Qc _ e⟩,?_,by rw[z];exact f,CmpOf.ints_gt (λi=>E.getD i 0) val,λv h' tk O hk=>?_⟩
 .intro b G;have d:s.heap.objs.size<(s.heap.push {cls:=.type "tuple_iterator",data:=.fields #[.ref p,.int 0 0]}).objs.size:=Qe (Qh _ rfl);have:b=s.heap.objs.size\/b=p:=by simpa using G
  rcases this with rfl|rfl
  .exact d
  .exact WE M d
 .rw[z]at O;obtain⟨t,rfl⟩:=val _ v O;exact⟨.int (kc E),H,I.kept (t':=tk) λb o e=>hk b o (λG=>by
   have:b=s.heap.objs.size:=by simpa using G
   exact N2 (Qe e) (by rw[this];exact Q3 _)) (Qc _ e),⟨t,rfl⟩,q⟩
def IA(l:X.calm=true):aW X (.builtin "min") (λxs H Q=>∃(p:Addr) (E:P8),xs=[.ref p]/\bC X.K H p (E.map V.int)/\0<E.length/\Q (.int (wI E)) H):=by
 intro Y s σ H xs us Q I r h;obtain⟨p,E,rfl,g,f,q⟩:=h;obtain⟨u,rfl,m⟩:=xb r;cases m;obtain⟨B,j,n,hz⟩:=I.tuple g;have J:=j.length;rw[Qs]at J;have pt:s.heap.IsTuple p B.toArray:=n;obtain⟨o,a,_⟩:=id pt;have M:=Qe a;have z:B.toArray.size=E.length:=by simp;lia
 have val:∀(i:Nat) (v:Value),B.toArray[i]?=some v->∃t,v=.int (E.getD i 0) t:=λi v O=>by
  have U:B[i]?=some v:=by simpa using O
  obtain⟨y,N,w⟩:=j.at U;rw[Qm]at N;cases G:E[i]? with
  |none=>rw[G]at N;cases N
  |some b=>
   rw[G]at N;cases N;obtain⟨t,rfl⟩:=(w:∃t,v=.int b t);exact⟨t,by rw[Qz,G];rfl⟩
 refine NP (Ms pt ?_);refine⟨s.heap.objs.size,_,_,_,_,_,_,rfl,Walks.tuple (A:=X.A.in1) (I.ok.hd l) s.heap.objs.size p (Qu M) B.toArray,⟨⟨_,Qh _ rfl,rfl,rfl⟩,pt.at λo e=>Qc _ e⟩,?_,by rw[z];exact f,CmpOf.ints_lt (λi=>E.getD i 0) val,λv h' tk O hk=>?_⟩
 .intro b G;have d:s.heap.objs.size<(s.heap.push {cls:=.type "tuple_iterator",data:=.fields #[.ref p,.int 0 0]}).objs.size:=Qe (Qh _ rfl);have:b=s.heap.objs.size\/b=p:=by simpa using G
  rcases this with rfl|rfl
  .exact d
  .exact WE M d
 .rw[z]at O;obtain⟨t,rfl⟩:=val _ v O;exact⟨.int (wI E),H,I.kept (t':=tk) λb o e=>hk b o (λG=>by
   have:b=s.heap.objs.size:=by simpa using G
   exact N2 (Qe e) (by rw[this];exact Q3 _)) (Qc _ e),⟨t,rfl⟩,q⟩
end
end L2
namespace Mini
open PySem PySem.Spec PyProof.Rows L2
section
variable{K:Qb}{as:O9}{H H':Hp}{m m':Me}{Q:VK}{X:Cx}
noncomputable def iK:dL->Option (Str×Value)
 |.len=>some ("len",.builtin "len")
 |.int=>some ("int",.type "int")
 |.list=>some ("list",.type "list")
 |.tuple=>some ("tuple",.type "tuple")
 |.max2=>some ("max",.builtin "max")
 |.min2=>some ("min",.builtin "min")
 |.sum=>some ("sum",.builtin "sum")
 |.all=>some ("all",.builtin "all")
 |.sorted=>some ("sorted",.builtin "sorted")
 |.minS=>some ("min",.builtin "min")
 |.maxS=>some ("max",.builtin "max")
noncomputable def AW(K:Qb)(b:dL):S6->Hp->VK->Prop:=λB H Q=>∃as m A,aJ K as m H/\ab K as H A B/\am K as H Q (vf b A m)
def y7 (h:ab K as H [x] vs):∃v,vs=[v]/\ai K as H x v:=by
 obtain⟨v,r,rfl,q,t⟩:=ak.mp h;obtain rfl:=aq.mp t;exact⟨v,rfl,q⟩
def gN (h:ab K as H [x,y] vs):∃v u,vs=[v,u]/\ai K as H x v/\ai K as H y u:=by
 obtain⟨v,r,rfl,q,t⟩:=ak.mp h;obtain⟨u,rfl,A⟩:=y7 t;exact⟨v,u,rfl,q,A⟩
def q9 (S:aJ K as m H)(R:ai K as H w v)(h:gD m w=some xs):∃p vs,v=.ref p/\bb K H p vs/\ab K as H xs vs:=by
 cases w with
 |rol I=>
  cases h;obtain⟨a,vs,rfl,B,E⟩:=bg.mp R;exact⟨a,vs,rfl,B.sq,E⟩
 |ref l=>
  obtain⟨b,G,rfl⟩:=aE.mp R;obtain⟨a,vs,A,e,r⟩:=zL S (zy h);rw[G]at A;cases A;exact⟨b,vs,rfl,bb.of e,r⟩
 |_=>cases h
theorem gO:∀{xs:R7}{vs:S6}{i:Int},ab K as H xs vs->jI xs=some i->∃A:P8,vs=A.map V.int/\A.sum=i
 |[],vs,i,R,h=>by cases h;exact⟨[],aq.mp R,rfl⟩
 |x::xs,vs,i,R,h=>by
  obtain⟨v,r,rfl,q,t⟩:=ak.mp R;cases x with
  |int j=>
   simp only[jI,Qy]at h;obtain⟨k,B,rfl⟩:=h;obtain⟨A,rfl,rfl⟩:=gO t B;obtain rfl:=aa.mp q;exact⟨j::A,rfl,by simp⟩
  |_=>cases h
theorem uY:∀{xs:R7}{vs:S6}{i:Bool},ab K as H xs vs->eP xs=some i->∃bs:List Bool,vs=bs.map V.bl/\bs.all id=i
 |[],vs,i,R,h=>by cases h;exact⟨[],aq.mp R,rfl⟩
 |x::xs,vs,i,R,h=>by
  obtain⟨v,r,rfl,q,t⟩:=ak.mp R;cases x with
  |bl j=>
   simp only[eP,Qy]at h;obtain⟨k,A,rfl⟩:=h;obtain⟨B,rfl,rfl⟩:=uY t A;obtain rfl:=ag.mp q;exact⟨j::B,rfl,by simp⟩
  |_=>cases h
def vk{o:Option R7}{f:R7->Rz}(h:am K as H Q (match o with|some a=>f a|none=>.no)):∃a,o=some a/\am K as H Q (f a):=by
 cases o with
 |none=>exact h.elim
 |some a=>exact⟨a,rfl,h⟩
def Fi{o:Option Int}{f:Int->Rz}(h:am K as H Q (match o with|some a=>f a|none=>.no)):∃a,o=some a/\am K as H Q (f a):=by
 cases o with
 |none=>exact h.elim
 |some a=>exact⟨a,rfl,h⟩
def Fh{o:O5}{f:Bool->Rz}(h:am K as H Q (match o with|some a=>f a|none=>.no)):∃a,o=some a/\am K as H Q (f a):=by
 cases o with
 |none=>exact h.elim
 |some a=>exact⟨a,rfl,h⟩
theorem tJ:∀(xs ys:P8),cg xs ys=HT.lexLt xs ys
 |[],[]=>rfl
 |[],_::_=>rfl
 |_::_,[]=>rfl
 |x::xs,y::ys=>by
  show(if x=y then cg xs ys else decide (x<y))=if x=y then HT.lexLt xs ys else decide (x<y);rw[tJ xs ys]
theorem Ar (p:P8×A):∀l:List (P8×A),(zZ p l).Perm (p::l)
 |[]=>.refl _
 |q::r=>by
  show(if cg p.1 q.1 then p::q::r else q::zZ p r).Perm _;split
  .exact .refl _
  .exact ((Ar p r).cons q).trans (.swap p q r)
theorem wu:∀l:List (P8×A),(zt l).Perm l
 |[]=>.refl _
 |p::r=>by rw[zU];exact(Ar p _).trans ((wu r).cons p)
theorem gP{J:Type}:∀{ps:List (P8×J)},yk (ps.map Prod.fst)=true->ps.Pairwise (λx y=>HT.lexLt x.1 y.1=true)/\∃n c,∀x∈ps,x.1.length=n/\x.1.head?=c
 |[],_=>⟨.nil,0,none,by simp⟩
 |[p],_=>⟨by simp,p.1.length,p.1.head?,by simp⟩
 |p::q::r,h=>by
  have B:(cg p.1 q.1&&(decide (p.1.length=q.1.length)&&decide (p.1.head?=q.1.head?))&&yk ((q::r).map Prod.fst))=true:=h;rw[Qr,Qr,Qr]at B;obtain⟨⟨A,M,N⟩,O⟩:=B;obtain⟨E,n,c,G⟩:=gP O;rw[tJ]at A;have I:=G q (by simp);refine⟨WJ.mpr ⟨λy hy=>?_,E⟩,n,c,λx hx=>?_⟩
  .rcases Qn.mp hy with rfl|hy
   .exact A
   .exact xg _ _ _ A ((WJ.mp E).1 y hy)
  .rcases Qn.mp hx with rfl|hx
   .exact ⟨(N4 M).trans I.1,(N4 N).trans I.2⟩
   .exact G x hx
theorem vL:∀(l:P8),ab K as H (l.map Wd.int) (l.map V.int)
 |[]=>aq.mpr rfl
 |n::l=>ak.mpr ⟨_,_,rfl,aa.mpr rfl,vL l⟩
theorem xj:∀{xs:R7}{vs:S6}{k:P8},ab K as H xs vs->zT xs=some k->vs=k.map V.int
 |[],vs,k,R,h=>by cases h;exact aq.mp R
 |x::xs,vs,k,R,h=>by
  obtain⟨v,r,rfl,q,t⟩:=ak.mp R;cases x with
  |int j=>
   have A:(zT xs).map (j::·)=some k:=h;obtain⟨E,B,rfl⟩:=Qy.mp A;rw[xj t B,aa.mp q];rfl
  |_=>cases h
theorem Aq(S:aJ K as m H):∀{B:R7}{vs:S6}{ks:O1},ab K as H B vs->v9 m B=some ks ->
  ∃bs:O9,vs=bs.map V.ref/\ks.length=bs.length/\∀(i:Nat) b k,bs[i]?=some b->ks[i]?=some k->bb K H b (k.map V.int)
 |[],vs,ks,R,h=>by
  cases h;exact⟨[],aq.mp R,rfl,λi b k E _=>by simp at E⟩
 |z::B,vs,ks,R,h=>by
  obtain⟨v,r,rfl,q,t⟩:=ak.mp R;cases z with
  |ref l=>
   have A:(match zh m l with
    |some G=>match zT G,v9 m B with
     |some k,some ks=>some (k::ks)
     |_,_=>none
    |none=>none)=some ks:=h
   cases J:zh m l with
   |none=>rw[J]at A;cases A
   |some G=>
    rw[J]at A;cases I:zT G with
    |none=>simp only[I]at A;cases A
    |some k=>
     cases M:v9 m B with
     |none=>simp only[I,M]at A;cases A
     |some O=>
      simp only[I,M]at A;cases A;obtain⟨bs,rfl,hl,U⟩:=Aq S t M;obtain⟨p,o,rfl,Y,j⟩:=q9 S q (show gD m (.ref l)=some G from J);refine⟨p::bs,rfl,by simp[hl],λi b u E N=>?_⟩;cases i with
      |zero=>
       cases E;cases N;rw[<-xj j I];exact Y
      |succ i=>exact U i b u E N
  |_=>cases h
def Iz (h:iT A=some k):∃c:Int,k=c::A.flatten/\2<=c/\A≠[]/\∀q∈A,(q.length:Int)+1=c:=by
 cases A with
 |nil=>cases h
 |cons r B=>
  replace h:(if r.length≠0/\B.all (λq=>q.length==r.length)=true then some (((r.length:Int)+1)::(r::B).flatten)else none)=some k:=h
  by_cases z:r.length≠0/\B.all (λq=>q.length==r.length)=true
  .rw[N0 z]at h;cases h;refine⟨_,rfl,by lia,by simp,λq hq=>?_⟩;rcases Qn.mp hq with rfl|hq
   .rfl
   .have:=eq_of_beq (Qx.mp z.2 q hq);lia
  .rw[N1 z]at h;cases h
def cH (S:aJ K as m H)(R:ab K as H xs vs)(B:bb K H p vs)(h:qJ m xs=some k):∃c A,k=c::A/\dz K H c A.length p A:=by
 unfold qJ at h;cases e:zT xs with
 |some A=>
  rw[e]at h;cases h;exact⟨0,A,rfl,rfl,.inl ⟨rfl,by rw[<-xj R e];exact B⟩⟩
 |none=>
  rw[e]at h;obtain⟨E,G,I⟩:=Qt.mp h;obtain⟨c,rfl,J,_,hl⟩:=Iz I;obtain⟨M,rfl,N,O⟩:=Aq S R G;exact⟨c,_,rfl,rfl,.inr ⟨M,E,J,rfl,N.symm,B,λj r q a b=>⟨hl q (Qo b),O j r q a b⟩⟩⟩
theorem Ap(S:aJ K as m H):∀{B:R7}{vs:S6}{ks:O1},ab K as H B vs->xX m B=some ks ->
  ∃bs:O9,vs=bs.map V.ref/\ks.length=bs.length/\∀(i:Nat) b k,bs[i]?=some b->ks[i]?=some k->∃c E,k=c::E/\dz K H c E.length b E
 |[],vs,ks,R,h=>by
  cases h;exact⟨[],aq.mp R,rfl,λi b k G _=>by simp at G⟩
 |z::B,vs,ks,R,h=>by
  obtain⟨v,r,rfl,q,t⟩:=ak.mp R;cases z with
  |ref l=>
   have A:(match zh m l with
    |some I=>match qJ m I,xX m B with
     |some k,some ks=>some (k::ks)
     |_,_=>none
    |none=>none)=some ks:=h
   cases M:zh m l with
   |none=>rw[M]at A;cases A
   |some I=>
    rw[M]at A;cases J:qJ m I with
    |none=>simp only[J]at A;cases A
    |some k=>
     cases N:xX m B with
     |none=>simp only[J,N]at A;cases A
     |some U=>
      simp only[J,N]at A;cases A;obtain⟨bs,rfl,hl,Y⟩:=Ap S t N;obtain⟨p,o,rfl,j,u⟩:=q9 S q (show gD m (.ref l)=some I from M);refine⟨p::bs,rfl,by simp[hl],λi b E G O=>?_⟩;cases i with
      |zero=>
       cases G;cases O;exact cH S u j J
      |succ i=>exact Y i b E G O
  |_=>cases h
theorem uX (B:ai K as H z (.ref b)):∀{ps:List (P8×Wd)}{A:List (P8×Addr)},ps.map Prod.fst=A.map Prod.fst->ab K as H (ps.map Prod.snd) ((A.map Prod.snd).map V.ref) ->
  (zZ (k,z) ps).map Prod.fst=(zZ (k,b) A).map Prod.fst/\ab K as H ((zZ (k,z) ps).map Prod.snd) (((zZ (k,b) A).map Prod.snd).map V.ref)
 |[],[],_,_=>⟨rfl,ak.mpr ⟨_,_,rfl,B,aq.mpr rfl⟩⟩
 |[],_::_,h,_=>by cases h
 |_::_,[],h,_=>by cases h
 |p::ps,q::A,h,R=>by
  obtain⟨E,G⟩:=List.cons.inj (show p.1::ps.map Prod.fst=q.1::A.map Prod.fst from h);obtain⟨v,r,e,I,J⟩:=ak.mp R;have M:V.ref q.2::(A.map Prod.snd).map V.ref=v::r:=e;cases M;show(if cg k p.1 then(k,z)::p::ps else p::zZ (k,z) ps).map Prod.fst=(if cg k q.1 then(k,b)::q::A else q::zZ (k,b) A).map Prod.fst/\ab K as H ((if cg k p.1 then(k,z)::p::ps else p::zZ (k,z) ps).map Prod.snd) (((if cg k q.1 then(k,b)::q::A else q::zZ (k,b) A).map Prod.snd).map V.ref);rw[E];cases cg k q.1 with
  |true=>exact⟨NY (k::·) (show p.1::ps.map Prod.fst=q.1::A.map Prod.fst from h),ak.mpr ⟨_,_,rfl,B,R⟩⟩
  |false=>
   obtain⟨N,O⟩:=uX B G J;exact⟨by show p.1::(zZ (k,z) ps).map Prod.fst=q.1::(zZ (k,b) A).map Prod.fst;rw[E,N],ak.mpr ⟨_,_,rfl,I,O⟩⟩
theorem Ao:∀{ks:O1}{A:R7}{bs:O9},ab K as H A (bs.map V.ref) ->
  (zt (ks.zip A)).map Prod.fst=(zt (ks.zip bs)).map Prod.fst/\ab K as H ((zt (ks.zip A)).map Prod.snd) (((zt (ks.zip bs)).map Prod.snd).map V.ref)
 |[],_,_,_=>⟨rfl,aq.mpr rfl⟩
 |_::_,[],bs,R=>by
  have:=aq.mp R;cases bs with
  |nil=>exact⟨rfl,aq.mpr rfl⟩
  |cons _ _=>cases this
 |k::ks,z::A,bs,R=>by
  obtain⟨v,r,e,B,E⟩:=ak.mp R;cases bs with
  |nil=>cases e
  |cons b bs=>
   cases e;obtain⟨G,I⟩:=Ao (ks:=ks) E;rw[Wu,Wu,zU,zU];exact uX B G I
set_option tactic.hygienic true in
def Fg (h:dt o=some ks):o=some ks/\(ks.length<64\/yk ks=true):=by
 cases o with
 |none=>cases h
 |some k=>
  replace h:(if k.length<64\/yk k=true then some k else none)=some ks:=h
  split at h
  .next c=>cases h;exact⟨rfl,c⟩
  .cases h
theorem j0:∀{z:List (P8×B)},yk (z.map Prod.fst)=true->zt z=z
 |[],_=>rfl
 |[p],_=>by rw[zU];rfl
 |p::q::r,h=>by
  have A:(cg p.1 q.1&&(decide (p.1.length=q.1.length)&&decide (p.1.head?=q.1.head?))&&yk ((q::r).map Prod.fst))=true:=h;rw[Qr,Qr]at A;rw[zU,j0 A.2];exact N0 A.1.1
def D5 (hl:ks.length=bs.length)(U:∀(i:Nat) b k,bs[i]?=some b->ks[i]?=some k->∃c A,k=c::A/\dz K G c A.length b A)(h:yk ((zt (ks.zip bs)).map Prod.fst)=true)(B:ks.length<64\/yk ks=true):rS K G bs ((zt (ks.zip bs)).map Prod.snd):=by
 obtain⟨J,n,c,Y⟩:=gP h;have E:=wu (ks.zip bs);refine⟨ks,c.getD 0,n-1,hl,λi b k M N=>?_,?_,_,E,rfl,?_,B.imp (λq=>by lia) λq=>by rw[j0 (by rw[Vq (by lia)];exact q),W6 (by lia)]⟩
 .obtain ⟨O,A,rfl,q⟩:=U i b k M N;obtain⟨j,u⟩:=Y (O::A,b) (E.mem_iff.mpr (Qo (Wg.mpr ⟨N,M⟩)));have z:A.length+1=n:=j;have I:some O=c:=u;rw[<-I,show n-1=A.length by lia];exact⟨A,rfl,q⟩
 .have e:(zt (ks.zip bs)).map Prod.fst |>.Nodup:=by
   unfold VA;rw[Q6];refine J.imp λ{a b} c e=>?_;rw[e,yP]at c;cases c
  have:=(E.map Prod.fst).nodup_iff.mp e
  rwa[Vq (by lia)]at this
 .refine J.imp λ{a b} c=>?_;cases d:HT.lexLt b.1 a.1 with
  |false=>rfl
  |true=>have:=xg _ _ _ c d;rw[yP]at this;cases this
theorem uW:∀(r:P8) (a:Int),xV a r<=a/\(∀x∈r,xV a r<=x)/\xV a r∈a::r
 |[],a=>⟨W3 _,by simp,by simp[xV]⟩
 |b::r,a=>by
  obtain⟨E,A,h3⟩:=uW r (if b<a then b else a);show xV (if b<a then b else a) r<=a/\(∀x∈b::r,xV (if b<a then b else a) r<=x)/\xV (if b<a then b else a) r∈a::b::r;have B:(if b<a then b else a)<=a/\(if b<a then b else a)<=b/\((if b<a then b else a)=a\/(if b<a then b else a)=b):=by split<;>lia
  generalize (if b<a then b else a)=c at *
  refine⟨by lia,λx hx=>?_,?_⟩
  .rcases Qn.mp hx with rfl|hx
   .lia
   .exact A x hx
  .rcases Qn.mp h3 with h3|h3
   .rw[h3];rcases B.2.2 with q|q<;>simp[q]
   .exact Qg _ (Qg _ h3)
theorem uV:∀(r:P8) (a:Int),a<=wN a r/\(∀x∈r,x<=wN a r)/\wN a r∈a::r
 |[],a=>⟨W3 _,by simp,by simp[wN]⟩
 |b::r,a=>by
  obtain⟨E,A,h3⟩:=uV r (if b > a then b else a);show a<=wN (if b > a then b else a) r/\(∀x∈b::r,x<=wN (if b > a then b else a) r)/\wN (if b > a then b else a) r∈a::b::r;have B:a<=(if b > a then b else a)/\b<=(if b > a then b else a)/\((if b > a then b else a)=a\/(if b > a then b else a)=b):=by split<;>lia
  generalize (if b > a then b else a)=c at *
  refine⟨by lia,λx hx=>?_,?_⟩
  .rcases Qn.mp hx with rfl|hx
   .lia
   .exact A x hx
  .rcases Qn.mp h3 with h3|h3
   .rw[h3];rcases B.2.2 with q|q<;>simp[q]
   .exact Qg _ (Qg _ h3)
def getD_mem {k:P8}(h:i<k.length):k.getD i 0∈k:=by simp[h]
def An {k:P8}(h:x∈k):∃i,i<k.length/\k.getD i 0=x:=by
 obtain⟨i,A,e⟩:=List.getElem_of_mem h;exact⟨i,A,by simp[A,e]⟩
def je(i:Int)(r:P8):wI (i::r)=xV i r:=by
 obtain⟨B,E,G⟩:=uW r i;have M:=wS (λa b=>decide ((i::r).getD a 0<(i::r).getD b 0)) ((i::r).length-1);have I:wI (i::r)∈i::r:=getD_mem (by have:(i::r).length=r.length+1:=rfl;lia);obtain⟨j,N,e⟩:=An G;have A:=jd (λa=>(i::r).getD a 0) ((i::r).length-1) j (by lia);rw[e]at A;have J:wI (i::r)<=xV i r:=A;have:xV i r<=wI (i::r):=by
  rcases Qn.mp I with h|h
  .rw[h];exact B
  .exact E _ h
 lia
def Am(i:Int)(r:P8):kc (i::r)=wN i r:=by
 obtain⟨B,E,G⟩:=uV r i;have M:=wS (λa b=>decide ((i::r).getD a 0 > (i::r).getD b 0)) ((i::r).length-1);have I:kc (i::r)∈i::r:=getD_mem (by have:(i::r).length=r.length+1:=rfl;lia);obtain⟨j,N,e⟩:=An G;have A:=jc (λa=>(i::r).getD a 0) ((i::r).length-1) j (by lia);rw[e]at A;have J:wN i r<=kc (i::r):=A;have:kc (i::r)<=wN i r:=by
  rcases Qn.mp I with h|h
  .rw[h];exact B
  .exact E _ h
 lia
def uU{o:Option P8}{f:Int->P8->Rz}(h:am K as H Q (match o with|some (i::r)=>f i r|_=>.no)):∃i r,o=some (i::r)/\am K as H Q (f i r):=by
 cases o with
 |none=>exact h.elim
 |some a=>
  cases a with
  |nil=>exact h.elim
  |cons i r=>exact⟨i,r,rfl,h⟩
set_option tactic.hygienic true in
def GT (hu:X.A.units+64<Mz)(e:X.calm=true)(N:iK b=some (nm,f)):aW X f (AW X.K b):=by
 intro A s O H g U Q I r h;obtain⟨as,m,E,S,R,q⟩:=h;cases b with
 |len=>
  cases N;refine gA A s O H g U Q I r ?_;rcases E with _|⟨x,_|⟨_,_⟩⟩
  .exact q.elim
  .obtain ⟨G,M,q⟩:=vk (o:=yE m x) (f:=λG=>.ok (.int G.length) m) q;obtain⟨v,rfl,B⟩:=y7 R;obtain⟨p,Y,rfl,hq,J⟩:=wQ S B M;refine⟨p,Y,rfl,hq,?_⟩;rw[<-J.length];exact q.ok S (aa.mpr rfl)
  .exact q.elim
 |int=>
  cases N;refine Ik A s O H g U Q I r ?_;cases E with
  |nil=>exact q.elim
  |cons x E=>
   cases x with
   |int i=>
    cases E with
    |nil=>
     obtain⟨v,rfl,B⟩:=y7 R;obtain rfl:=aa.mp B;exact .inl ⟨i,rfl,q.ok S (aa.mpr rfl)⟩
    |cons _ _=>exact q.elim
   |bl i=>
    cases E with
    |nil=>
     obtain⟨v,rfl,B⟩:=y7 R;obtain rfl:=ag.mp B;exact .inr ⟨i,rfl,q.ok S (aa.mpr rfl)⟩
    |cons _ _=>exact q.elim
   |_=>exact q.elim
 |list=>
  cases N;refine gB A s O H g U Q I r ?_;rcases E with _|⟨x,_|⟨_,_⟩⟩
  .exact q.elim
  .obtain ⟨G,M,q⟩:=vk (o:=yE m x) (f:=λG=>alloc m G) q;obtain⟨v,rfl,B⟩:=y7 R;obtain⟨p,Y,rfl,hq,J⟩:=wQ S B M;exact⟨p,Y,rfl,hq,(xC S J q).2⟩
  .exact q.elim
 |tuple=>
  cases N;refine jH A s O H g U Q I r ?_;rcases E with _|⟨x,_|⟨_,_⟩⟩
  .exact q.elim
  .obtain ⟨G,M,q⟩:=vk (o:=yE m x) (f:=λG=>.ok (.T G) m) q;obtain⟨v,rfl,B⟩:=y7 R;obtain⟨p,Y,rfl,hq,J⟩:=wQ S B M;refine⟨p,Y,rfl,?_⟩;rcases hq with hq|hq
   .refine .inl ⟨hq,λl hl=>?_⟩;obtain⟨T,S',R'⟩:=S.T hl J;exact q _ _ _ T S' R'
   .exact .inr ⟨hq,q.ok S (ah.mpr ⟨p,Y,rfl,hq,J⟩)⟩
  .exact q.elim
 |sorted=>
  cases N;refine qY hu A s O H g U Q I r ?_;rcases E with _|⟨x,_|⟨_,_⟩⟩
  .exact q.elim
  .cases x with
   |ref l=>
    obtain⟨t,M,q⟩:=vk (o:=zh m l) (f:=λt=>match (dt (xX m t)).bind λn=>yF Wd n t with
     |some G=>alloc m G
     |none=>.no) q
    obtain⟨G,ht,q⟩:=vk (o:=(dt (xX m t)).bind λn=>yF Wd n t) (f:=λG=>alloc m G) q;obtain⟨n,hk,ht⟩:=Qt.mp ht;obtain⟨v,rfl,B⟩:=y7 R;obtain⟨p,Y,rfl,hq,J⟩:=q9 S B (show gD m (.ref l)=some t from M);obtain⟨hk,h64⟩:=Fg hk;obtain⟨bs,rfl,hl,N⟩:=Ap S J hk;obtain⟨e1,e2⟩:=Ao (ks:=n) J;rw[xY]at ht;have d:(if yk ((zt (n.zip t)).map Prod.fst)then some ((zt (n.zip t)).map Prod.snd)else none)=some G:=ht;rw[e1]at d;cases z:yk ((zt (n.zip bs)).map Prod.fst)with
    |false=>rw[z]at d;cases d
    |true=>
     rw[z]at d;cases d;exact⟨p,bs,_,rfl,hq,D5 hl N z h64,(xC S e2 q).2⟩
   |_=>exact q.elim
  .cases x<;>exact q.elim
 |minS=>
  cases N;rcases E with _|⟨x,_|⟨_,_⟩⟩
  .exact q.elim
  .obtain ⟨i,k,M,q⟩:=uU (o:=(yE m x).bind zT) (f:=λi r=>.ok (.int (xV i r)) m) q;obtain⟨G,a,w⟩:=Qt.mp M;obtain⟨v,rfl,B⟩:=y7 R;obtain⟨p,Y,rfl,hq,J⟩:=wQ S B a;obtain rfl:=xj J w;rcases hq with hq|hq
   .exact q8 e A s O H _ U Q I r ⟨p,i::k,rfl,hq,by simp,by rw[je];exact q.ok S (aa.mpr rfl)⟩
   .exact IA e A s O H _ U Q I r ⟨p,i::k,rfl,hq,by simp,by rw[je];exact q.ok S (aa.mpr rfl)⟩
  .exact q.elim
 |maxS=>
  cases N;rcases E with _|⟨x,_|⟨_,_⟩⟩
  .exact q.elim
  .obtain ⟨i,k,M,q⟩:=uU (o:=(yE m x).bind zT) (f:=λi r=>.ok (.int (wN i r)) m) q;obtain⟨G,a,w⟩:=Qt.mp M;obtain⟨v,rfl,B⟩:=y7 R;obtain⟨p,Y,rfl,hq,J⟩:=wQ S B a;obtain rfl:=xj J w;rcases hq with hq|hq
   .exact qZ e A s O H _ U Q I r ⟨p,i::k,rfl,hq,by simp,by rw[Am];exact q.ok S (aa.mpr rfl)⟩
   .exact IB e A s O H _ U Q I r ⟨p,i::k,rfl,hq,by simp,by rw[Am];exact q.ok S (aa.mpr rfl)⟩
  .exact q.elim
 |sum=>
  cases N;refine qI e A s O H g U Q I r ?_;rcases E with _|⟨x,_|⟨_,_⟩⟩
  .exact q.elim
  .obtain ⟨i,M,q⟩:=Fi (o:=(gD m x).bind jI) (f:=λi=>.ok (.int i) m) q;obtain⟨G,a,w⟩:=Qt.mp M;obtain⟨v,rfl,B⟩:=y7 R;obtain⟨p,Y,rfl,hq,J⟩:=q9 S B a;obtain⟨ns,rfl,rfl⟩:=gO J w;exact⟨p,ns,rfl,hq,q.ok S (aa.mpr rfl)⟩
  .exact q.elim
 |all=>
  cases N;refine qH e A s O H g U Q I r ?_;rcases E with _|⟨x,_|⟨_,_⟩⟩
  .exact q.elim
  .obtain ⟨i,M,q⟩:=Fh (o:=(gD m x).bind eP) (f:=λi=>.ok (.bl i) m) q;obtain⟨G,a,w⟩:=Qt.mp M;obtain⟨v,rfl,B⟩:=y7 R;obtain⟨p,Y,rfl,hq,J⟩:=q9 S B a;obtain⟨ns,rfl,rfl⟩:=uY J w;exact⟨p,ns,rfl,hq,q.ok S (ag.mpr rfl)⟩
  .exact q.elim
 |max2=>
  cases N;refine Im e A s O H g U Q I r ?_;cases E with
  |nil=>exact q.elim
  |cons x E=>
   cases x with
   |int i=>
    cases E with
    |nil=>exact q.elim
    |cons y E=>
     cases y with
     |int j=>
      cases E with
      |nil=>
       obtain⟨v,u,rfl,B,q2⟩:=gN R;obtain rfl:=aa.mp B;obtain rfl:=aa.mp q2;exact⟨i,j,rfl,q.ok S (aa.mpr rfl)⟩
      |cons _ _=>exact q.elim
     |_=>exact q.elim
   |_=>exact q.elim
 |min2=>
  cases N;refine Il e A s O H g U Q I r ?_;cases E with
  |nil=>exact q.elim
  |cons x E=>
   cases x with
   |int i=>
    cases E with
    |nil=>exact q.elim
    |cons y E=>
     cases y with
     |int j=>
      cases E with
      |nil=>
       obtain⟨v,u,rfl,B,q2⟩:=gN R;obtain rfl:=aa.mp B;obtain rfl:=aa.mp q2;exact⟨i,j,rfl,q.ok S (aa.mpr rfl)⟩
      |cons _ _=>exact q.elim
     |_=>exact q.elim
   |_=>exact q.elim
set_option tactic.hygienic true in
def D0 (S:aJ K as m H)(R:ai K as H x v)(R':ai K as H y u)(h:am K as H Q (wO x y m)):AV K v u H Q:=by
 unfold wO at h;split at h
 .rename_i i;obtain rfl:=aa.mp R';split at h
  .rename_i U J;split at h
   .rename_i w M;obtain⟨p,A,rfl,hq,I⟩:=wQ S R J;have e:∃z,e8 A i=some z/\ai K as H w z:=by
     obtain⟨j,N,O⟩:=Qt.mp M;obtain⟨z,B,E⟩:=I.get O;refine⟨z,?_,E⟩;unfold e8;have G:fF A.length i=some j:=by rw[<-I.length];exact N
     rw[G];exact B
    obtain⟨z,B,E⟩:=e;rcases hq with hq|hq
    .exact .inl ⟨p,A,i,z,rfl,rfl,hq,B,h.ok S E⟩
    .exact .inr (.inl ⟨p,A,i,z,rfl,rfl,hq,B,h.ok S E⟩)
   .exact h.elim
  .exact h.elim
 .exact h.elim
set_option tactic.hygienic true in
def DZ {Q:Hp->Prop}(S:aJ K as m H)(R:ai K as H o J)(R':ai K as H i M)(R2:ai K as H w v)(h:∀m',gE o i w m=.ok .N m'->∀H',Step as H as H'->aJ K as m' H'->Q H')(B:∃m',gE o i w m=.ok .N m'):l6 J M v H Q:=by
 obtain⟨m',A⟩:=B;have h:=h m' A;unfold gE at A;split at A
 .rename_i l k;split at A
  .rename_i Y hl;split at A
   .rename_i j N;cases A;obtain⟨a,E,rfl⟩:=aE.mp R;obtain rfl:=aa.mp R';obtain⟨b,O,G,e,I⟩:=zL S hl;rw[E]at G;cases G;obtain⟨T,U⟩:=S.set E hl (I.set j R2);refine⟨a,O,k,j,rfl,rfl,e,?_,h _ T U⟩;rw[<-I.length];exact N
   .cases A
  .cases A
 .cases A
noncomputable def eG:dE->Str×String
 |.append=>("append","list.append") |.pop=>("pop","list.pop") |.reverse=>("reverse","list.reverse") |.clear=>("clear","list.clear") 
noncomputable def Ju(K:Qb)(n:dE):V->S6->Hp->VK->Prop:=λv B H Q=>∃as m w A,aJ K as m H/\ai K as H w v/\ab K as H A B/\am K as H Q (cS n w A m)
set_option tactic.hygienic true in
def tI(n:dE):eJ X (eG n).2 (Ju X.K n):=by
 intro A s M H v g u N Q I r O h;obtain⟨as,m,w,f,S,R,Rs,q⟩:=h;unfold cS at q;split at q
 .rename_i l;split at q
  .rename_i t hl;obtain⟨a,G,rfl⟩:=aE.mp R;obtain⟨b,J,o,e,E⟩:=zL S hl;rw[G]at o;cases o;have i:J.length<=sizeLine:=(I.lstM e).1;split at q
   .rename_i y;split at q
    .rename_i U;obtain⟨z,rfl,Y⟩:=y7 Rs;obtain⟨T,B⟩:=S.set G hl (E.append (.one Y));exact jU A s M H _ _ u N Q I r O ⟨a,J,z,rfl,rfl,e,by rw[<-E.length];exact Qj U yx,q _ _ _ T B (ao.mpr rfl)⟩
    .exact q.elim
   .split at q
    .rename_i y d;obtain rfl:=aq.mp Rs;obtain⟨z,j,Y⟩:=E.get d;obtain⟨T,B⟩:=S.set G hl E.dropLast;exact Dt A s M H _ _ u N Q I r O ⟨a,J,z,rfl,rfl,e,by rw[<-E.length];exact j,q _ _ _ T B (Y.mono S T)⟩
    .exact q.elim
   .obtain rfl:=aq.mp Rs;obtain⟨T,B⟩:=S.set G hl E.reverse;exact IZ A s M H _ _ u N Q I r O ⟨a,J,rfl,rfl,e,q _ _ _ T B (ao.mpr rfl)⟩
   .obtain rfl:=aq.mp Rs;obtain⟨T,B⟩:=S.set (ws:=[]) (vs:=[]) G hl (aq.mpr rfl);exact HM A s M H _ _ u N Q I r O ⟨a,J,rfl,rfl,e,q _ _ _ T B (ao.mpr rfl)⟩
   .exact q.elim
  .exact q.elim
 .exact q.elim
noncomputable def cO:Tg->String
 |.int=> "int" |.bool=> "bool" |.list=> "list" |.tuple=> "tuple" |.str=> "str" |.dict=> "dict"
def Fe(K:Qb)(t:Tg):
  Wr K (.type "NoneType") (.type (cO t))=some false/\Wr K (.type "bool") (.type (cO t))=some (decide (t=.bool\/t=.int))/\Wr K (.type "int") (.type (cO t))=some (decide (t=.int)) /\
  Wr K (.type "str") (.type (cO t))=some (decide (t=.str))/\Wr K (.type "list") (.type (cO t))=some (decide (t=.list))/\Wr K (.type "tuple") (.type (cO t))=some (decide (t=.tuple))/\Wr K (.type "dict") (.type (cO t))=some (decide (t=.dict)):=by
 cases t<;>refine⟨?_,?_,?_,?_,?_,?_,?_⟩<;>kernel_rfl
noncomputable def mY(K:Qb)(t:Tg):S6->Hp->VK->Prop:=λA H Q=>∃as m w v,A=[v,.ty (cO t)]/\aJ K as m H/\ai K as H w v/\am K as H Q (di (c7 t w m) m)
def DY(m:Me)(t:Tg):c7 t .N m=some false/\(∀c,c7 t (.bl c) m=some (decide (t=.bool\/t=.int)))/\(∀i,c7 t (.int i) m=some (decide (t=.int)))/\(∀x,c7 t (.str x) m=some (decide (t=.str)))/\(∀ys,c7 t (.T ys) m=some (decide (t=.tuple)))/\(∀ys,c7 t (.rol ys) m=some (decide (t=.list)))/\∀l ys,m[l]?=some (.L ys)->c7 t (.ref l) m=some (decide (t=.list)):=by
 refine⟨?_,λc=>?_,λi=>?_,λx=>?_,λys=>?_,λys=>?_,λl ys h=>?_⟩
 rotate_right
 .have e:c7 t (.ref l) m=(match m[l]? with|some (.L _)=>some (decide (t=.list))|some (.D _ _)=>some (decide (t=.dict))|none=>none):=by cases t<;>rfl
  rw[e,h]
 all_goals cases t<;>rfl
def Fd (m:Me)(t:Tg)(h:m[l]?=some (.D ks ws)):c7 t (.ref l) m=some (decide (t=.dict)):=by
 have e:c7 t (.ref l) m=(match m[l]? with|some (.L _)=>some (decide (t=.list))|some (.D _ _)=>some (decide (t=.dict))|none=>none):=by cases t<;>rfl
 rw[e,h]
def GS(t:Tg):aW X (.builtin "isinstance") (mY X.K t):=by
 intro M s σ H xs us Q I r h;obtain⟨as,m,w,v,rfl,S,R,q⟩:=h;obtain⟨b,E,q⟩:=k8 S q;obtain⟨u,u',rfl,G,O⟩:=l7 r;obtain rfl:u'=.type (cO t):=O;obtain⟨k1,k2,k3,k4,k5,k6,k7⟩:=Fe X.K t;obtain⟨z1,z2,z3,z4,z5,z6,z7⟩:=DY m t;have A:∀U,EP X M σ Q (.bool b) {s with toks:=U}:=λU=>⟨.bl b,H,I.tok U,rfl,q⟩;cases w with
 |N=>
  obtain rfl:=ao.mp R;have e:b=false:=Option.some.inj (E.symm.trans z1);subst e;exact xA I G .N k1 A
 |bl c=>
  obtain rfl:=ag.mp R;have e:b=decide (t=.bool\/t=.int):=Option.some.inj (E.symm.trans (z2 _));subst e;exact xA I G (.bl c) k2 A
 |int i=>
  obtain rfl:=aa.mp R;have e:b=decide (t=.int):=Option.some.inj (E.symm.trans (z3 _));subst e;exact xA I G (.int i) k3 A
 |str x=>
  obtain rfl:=aB.mp R;have e:b=decide (t=.str):=Option.some.inj (E.symm.trans (z4 _));subst e;exact xA I G (.str _) k4 A
 |T ys=>
  obtain⟨a,vs,rfl,Y,rr⟩:=ah.mp R;have e:b=decide (t=.tuple):=Option.some.inj (E.symm.trans (z5 _));subst e;obtain rfl:u=.ref a:=G;obtain⟨j,_,⟨o,d,g,_⟩,_⟩:=I.tuple Y;exact Q8 PySem.W.kitx_tuple I.kIn ⟨o,d,g⟩ k6 (λz=>nomatch z) A
 |rol ys=>
  obtain⟨a,vs,rfl,Y,rr⟩:=bg.mp R;have e:b=decide (t=.list):=Option.some.inj (E.symm.trans (z6 _));subst e;obtain rfl:u=.ref a:=G;obtain⟨j,_,p,_⟩:=I.list Y.sq;obtain⟨o,n,d,g,_⟩:=p;exact Q8 Vk I.kIn ⟨o,d,g⟩ k5 (λz=>nomatch z) A
 |ref l=>
  obtain⟨a,f,rfl⟩:=aE.mp R;have y:l<m.length:=by rw[<-S.len];exact(Qa.mp f).1
  have J:m[l]?=some m[l]:=by simp[y]
  cases ho:m[l]with
  |L ys=>
   rw[ho]at J;obtain⟨a',us,B,e2,_⟩:=zL S J;rw[f]at B;cases B;have e:b=decide (t=.list):=Option.some.inj (E.symm.trans (z7 _ _ J));subst e;exact xA I G (.L e2) k5 A
  |D ks us=>
   rw[ho]at J;obtain⟨a',B,xs,vs,td,_⟩:=S.get J;rw[f]at B;cases B;have e:b=decide (t=.dict):=Option.some.inj (E.symm.trans (Fd m t J));subst e;obtain rfl:u=.ref a:=G;exact Q8 PySem.W.kitx_dict I.kIn (xi I td).2.typeIs k7 (λz=>nomatch z) A
end
structure eI(J:It)(vs:S6)(ok:Hp->Prop):Prop where
 go:∀i H,ok H->i<vs.length->J.go i H
 yld:∀i H x H',ok H->i<vs.length->J.yld i H x H'->H'=H/\vs[i]?=some x
 stop:∀i H,ok H->vs.length<=i->J.stop i H
noncomputable def iX(K:Qb)(as:O9)(H:Hp)(J:It)(xs:R7):Prop:=
 ∃A ok,eI J A ok/\ok H/\ab K as H xs A/\∀B E,Kp K B E->ok B->ok E
noncomputable def rR(K:Qb)(as:O9)(H:Hp)(w:Wd)(J:It):Prop:=match w with
 |.T A=>iX K as H J A
 |.rol A=>iX K as H J A
 |.ref l=>∃a,as[l]?=some a/\J=pW K a
 |_=>True
noncomputable def bK(K:Qb)(as:O9)(H:Hp)(R:It->Hp->Prop)(r:Rz):Prop:=match r with
 |.ok w E=>(yE E w).isSome=true/\∀A B J,Step as H A B->aJ K A E B->rR K A B w J->R J B
 |_=>False
noncomputable def eZ(K:Qb)(g:En->Me->Rz):TI:=λB H R=>∃as A m,aJ K as m H/\aD K as H A B/\bK K as H R (g A m)
def PI.or{X:Cx}{B e:Expr}{a b:TI}(E:PI X B e a)(G:PI X B e b):PI X B e (λσ H R=>a σ H R\/b σ H R):=λA s σ H R I h=>by
 rcases h with h|h
 .exact E A s σ H R I h
 .exact G A s σ H R I h
def PI.imp{X:Cx}{B e:Expr}{a b:TI}(h:PI X B e a)(k:∀σ H R,b σ H R->a σ H R):PI X B e b:=λA s σ H R I q=>h A s σ H R I (k σ H R q)
def wJ (h:PE X x (aF X.K g)):PI X n x (eZ X.K g):=by
 refine PI.imp (PI.or (GE h) (DG h)) λy H R q=>?_;obtain⟨as,E,m,S,G,P⟩:=q;cases Q:g E m with
 |no=>rw[Q]at P;exact P.elim
 |ok w m'=>
  rw[Q]at P;obtain⟨J,P⟩:=P;obtain⟨xs,J⟩:=WG.mp J;cases w with
  |T o=>
   refine .inr ⟨as,E,m,S,G,?_⟩;rw[Q];intro B M v T O U;obtain⟨a,A,rfl,Y,u⟩:=ah.mp U;refine⟨a,rfl,⟨A,Y⟩,P B M _ T O ⟨A,λH=>bC X.K H a A,⟨λi H h I=>⟨A,A[i],h,by simp[I]⟩,λi H x M h I q=>⟨q.1,q.2 A h⟩,λi H h I=>⟨A,h,I⟩⟩,Y,u,λd f k h=>k.t _ _ h⟩⟩
  |rol o=>
   refine .inl ⟨as,E,m,S,G,?_⟩;rw[Q];intro B M v T O U;obtain⟨a,A,rfl,Y,u⟩:=bg.mp U;refine⟨a,rfl,⟨A,Y.sq⟩,P B M _ T O ⟨A,λH=>et X.K H a A,⟨λi H h I=>⟨A,A[i],h.sq,by simp[I]⟩,λi H x M h I q=>⟨q.1,q.2 A h.sq⟩,λi H h I=>⟨A,h.sq,I⟩⟩,Y,u,λd f k h=>k.f _ _ h⟩⟩
  |ref l=>
   refine .inl ⟨as,E,m,S,G,?_⟩;rw[Q];intro B M v T O U;obtain⟨a,z,rfl⟩:=aE.mp U;obtain⟨a',t,j,e,_⟩:=zL O (zy J);rw[z]at j;cases j;exact⟨a,rfl,⟨t,bb.of e⟩,P B M _ T O ⟨a,z,rfl⟩⟩
  |N=>cases J
  |bl b=>cases J
  |int i=>cases J
  |str x=>cases J
theorem Al {K:Qb}(st:Int):∀(n:Nat) (lo:Int),ab K as H (fX lo st n) ((QF n).map λ(i:Nat)=>V.int (lo+st*(i:Int)))
 |0,lo=>aq.mpr rfl
 |n+1,lo=>by
  rw[W9,QS,Wv];refine ak.mpr ⟨_,_,rfl,aa.mpr (by simp),?_⟩;have e:((λ(i:Nat)=>V.int (lo+st*(i:Int))) ∘ Nat.succ)=λ(i:Nat)=>V.int (lo+st+st*(i:Int)):=by
   funext i;show V.int (lo+st*((i.succ:Nat):Int))=_;congr 1;rw[Nat.succ_eq_add_one,Int.natCast_add,Int.mul_add];lia
  rw[e];exact Al st n (lo+st)
def Iy{K:Qb}(lo:Int)(n:Nat):eI (fI lo n) ((QF n).map λ(i:Nat)=>V.int (lo+1*(i:Int))) (λ_=>True):=by
 refine⟨λi H _ A=>?_,λi H x E _ A q=>?_,λi H _ A=>?_⟩
 .show i<n;simpa using A
 .obtain ⟨e,rfl⟩:=q;refine⟨e,?_⟩;have B:i<n:=by simpa using A
  rw[Qm,List.getElem?_range B];simp
 .show n<=i;simpa using A
end Mini
namespace L2
open PySem PySem.Spec PyProof.Rows
section
variable{κ:Type}[DecidableEq κ]
noncomputable def xN(kvs:List (κ×V))(k:κ):Option V:=(kvs.find? λA=>decide (A.1=k)).map (·.2)
noncomputable def eE(kvs:List (κ×V))(k:κ)(v:V):List (κ×V):=
 if(kvs.any λA=>decide (A.1=k))=true then kvs.map (λA=>if A.1=k then(A.1,v)else A)else kvs++[(k,v)]
def xE {k:κ}(e:p.1=k):xN (p::r) k=some p.2:=by simp[xN,WI,e]
def x6 {k:κ}(e:¬p.1=k):xN (p::r) k=xN r k:=by simp[xN,WI,e]
theorem jf(k:κ):∀kvs:List (κ×V),(kvs.any λA=>decide (A.1=k))=(xN kvs k).isSome
 |[]=>rfl
 |p::r=>by
  rw[W1];by_cases e:p.1=k
  .simp only[xE e,N3 e,Bool.true_or,Option.isSome_some]
  .rw[x6 e,NZ e,Bool.false_or];exact jf k r
def GR {k:κ}(v:V)(h:xN kvs k=none):eE kvs k v=kvs++[(k,v)]:=by
 unfold eE;rw[jf,h];exact N1 (by decide)
def KV.val (r:KV kvs vs)(k:κ):iD (xN kvs k) (NQ vs k):=by
 unfold KV at r
 induction r with
 |nil=>exact True.intro
 |@cons p q I A h t G=>
  obtain⟨E,H⟩:=h;by_cases e:p.1=k
  .have B:q.1=k:=E.symm.trans e;have b:NQ (q::A) k=some q.2:=by simp[NQ,WI,B]
   rw[xE e,b];exact H
  .have B:¬q.1=k:=λz=>e (E.trans z);have b:NQ (q::A) k=NQ A k:=by simp[NQ,WI,B]
   rw[x6 e,b];exact G
theorem KV.any (r:KV kvs vs)(k:κ):(kvs.any λA=>decide (A.1=k))=vs.any λA=>decide (A.1=k):=by
 unfold KV at r
 induction r with
 |nil=>rfl
 |cons h t B=>rw[W1,W1,B,h.1]
def KV.repl{kvs:List (κ×V)}{vs:List (κ×Value)}(r:KV kvs vs)(k:κ){y:V}{u:Value}(E:RelV y u):
  KV (kvs.map λA=>if A.1=k then(A.1,y)else A) (vs.map λA=>if A.1=k then(A.1,u)else A):=by
 unfold KV at r ⊢
 induction r with
 |nil=>exact .nil
 |@cons p q I J h t G=>
  rw[QS,QS];refine .cons ?_ G;obtain⟨B,H⟩:=h;by_cases e:p.1=k
  .rw[N0 e,N0 (B.symm.trans e)];exact⟨B,E⟩
  .rw[N1 e,N1 (λz=>e (B.trans z))];exact⟨B,H⟩
def KV.put{kvs:List (κ×V)}{vs:List (κ×Value)}(r:KV kvs vs)(k:κ){y:V}{u:Value}(A:RelV y u):KV (eE kvs k y) (stored vs k u):=by
 unfold eE stored;rw[r.any k];by_cases e:(vs.any λB=>decide (B.1=k))=true
 .rw[N0 e,N0 e];exact r.repl k A
 .rw[N1 e,N1 e];exact Paired.snoc r ⟨rfl,A⟩
def KV.keys {vs:List (κ×Value)}(r:KV kvs vs):kvs.map (·.1)=vs.map (·.1):=by
 unfold KV at r
 induction r with
 |nil=>rfl
 |cons h t A=>rw[QS,QS,A,h.1]
theorem KV.length {vs:List (κ×Value)}(r:KV kvs vs):kvs.length=vs.length:=Paired.length r
end
def lV (r:RelV (kV k) u):(zO P w).is k u=true:=by
 cases k with
 |inl i=>obtain⟨t,e⟩:=(show ∃t,u=Value.int i t from r);subst e;exact qu P w i t
 |inr x=>obtain⟨t,e⟩:=(show ∃t,u=Value.str x t from r);subst e;exact qw P w x t
section
variable{P:LU}{w:LV}{H:Hp}{h:LY}{a:Addr}
def Cs (ok:cf P w H h)(e:Rd H a u):bc P w H h a u:=e.ok ok
def Cr (ok:cf P w H h)(e:Rd H a (.dK kvs)):kvs.length<=sizeLine/\(a==LZ)=false/\∃vs,KV kvs vs/\h.DictOf (zO P w) a vs:=
 show bc P w H h a (.dK kvs)from Cs ok e
def Cq (ok:cf P w H h)(e:H a=some (.dK kvs)):kvs.length<=sizeLine/\(a==LZ)=false/\∃vs,KV kvs vs/\h.DictOf (zO P w) a vs:=Cr ok (.inl e)
end
section
variable{X:Cx}{pins:O0}{σ:St}{H:Hp}{s:Shared}{a:Addr}
def Inv.big(I:Inv X pins σ H s):LZ<s.heap.objs.size:=by
 have h:L0<s.heap.objs.size:=(I.mod.glob.keeps I.bk).lt;exact WE (by decide) h
def Fc (I:Inv X pins σ H s)(A:iE (H a))(B:We a s.heap h')(E:∃q,h'.get? a=some q)(new:bc X.prog X.w (aG H a ob) h' a ob):
  Inv X pins σ (aG H a ob) {s with heap:=h',toks:=t' } :=
 I.write (x:=a) (e:=a) A (.inl rfl) (λb q G z=>(B.2 b G).trans z) E new
end
def GQ (h:LY)(A:LZ<h.objs.size):bc P w H (h.push {cls:=.type "dict",data:=.dict #[]}) h.objs.size (.dK []):=
 ⟨WT _,beq_eq_false_iff_ne.mpr (Ne.symm (Qu A)),[],.nil,Heap.DictOf.new h⟩
noncomputable def me:List (TE×TE)->St->Hp->(List (V×V)->Hp->Prop)->Prop
 |[],_,H,Q=>Q [] H
 |(B,E)::r,A,H,Q=>B A H λx G=>E A G λy I=>me r A I λJ M=>Q ((x,y)::J) M
abbrev VV:List (V×V)->List (Value×Value)->Prop:=Paired λp q=>RelV p.1 q.1/\RelV p.2 q.2
noncomputable def lC(X:Cx)(pos:Pos)(keys:List (Option Expr))(A:P6)(E:List (TE×TE)):Prop:=
 ∀(B:O0) (s:Shared) (G:St) (H:Hp) (Q:List (V×V)->Hp->Prop),Inv X B G H s->me E G H Q ->
  L5 (L6 X.prog X.w) X.A (evalPairs (pairTrees keys A X.env pos)) (λM N=>∃I J,Inv X B G J N/\VV I M/\Q I J) X.xe s
def Fb:lC X pos [] [] []:=λA s B H Q I h=>pairTrees_nil_walk ⟨[],H,I,.nil,h⟩
def vm (J:PE X k M)(N:PE X v O)(U:lC X pos ks vs B):
  lC X pos (some k::ks) (v::vs) ((M,O)::B):=λA s E H Q I h=>
 pairTrees_cons_walk (aT (J A s E H _ I h) λu Y ⟨x,j,z,o,d⟩=>aT (N A Y E j _ z d) λa l ⟨y,g,f,e,t⟩=>
  aT (U A l E g _ f t) λw s3 ⟨m,b,n,G,i⟩=>⟨(x,y)::m,b,n,.cons ⟨o,e⟩ G,i⟩)
noncomputable def wT(kvs A:List (bH×V)):List (bH×V):=A.foldl (λB E=>eE B E.1 E.2) kvs
def KV.merge:∀{A:List (bH×V)}{B:List (bH×Value)}{kvs:List (bH×V)}{vs:List (bH×Value)},KV A B->KV kvs vs->KV (wT kvs A) (merged vs B):=by
 intro A B kvs vs r;unfold KV at r
 induction r generalizing kvs vs with
 |nil=>intro q;exact q
 |@cons p q H I h t E=>
  intro G;have e:KV (eE kvs p.1 p.2) (stored vs q.1 q.2):=by
   have:=G.put p.1 h.2;rw[<-h.1];exact this
  exact E e
theorem jg:∀{kvs:List (bH×V)}{ws:List (Value×Value)},VV (kvs.map λB=>(kV B.1,B.2)) ws->∃A,Carries (zO P w) ws A/\KV kvs A
 |[],_,r=>by rw[VG]at r;cases r;exact⟨[],True.intro,.nil⟩
 |p::kvs,_,r=>by
  rw[QS]at r;cases r with
  |@cons a b as bs h t=>
   obtain⟨A,c,q⟩:=jg (P:=P) (w:=w) t;obtain⟨G,E⟩:=b;exact⟨(p.1,E)::A,⟨lV h.1,rfl,c⟩,.cons ⟨rfl,h.2⟩ q⟩
noncomputable def xT(d:Addr)(o:Obj):HO:=.ext λh=>h.get? d=some o
noncomputable def FO(P:LU)(w:LV)(d:Addr)(o:Obj)(ep:Nat)(kvs:List (bH×V)):Prop:=
 (d==LZ)=false/\∃A B,o.ExactDict/\o.data=.dict A ep/\KeysOf (zO P w) A/\Pairs (zO P w) A.toList B/\(B.map (·.1)).Nodup/\KV kvs B
def FO.at (f:FO P w d o ep kvs){h:LY}(e:h.get? d=some o):∃vs,KV kvs vs/\h.DictAt (zO P w) d vs ep:=by
 obtain⟨_,A,vs,a,b,c,g,n,r⟩:=f;exact⟨vs,r,o,A,e,a,b,c,g,n⟩
def Fa (h:(zO P w).is k u=true):RelV (kV k) u:=by
 cases k with
 |inl i=>exact Value.isInt_shape h
 |inr x=>exact Value.isStrOf_shape h
section
variable{X:Cx}{pins:O0}{σ:St}{H:Hp}{s:Shared}
def gQ (I:Inv X pins σ H s)(h:H d=some (xT d o)):s.heap.get? d=some o:=(I.hok d _ h).1
noncomputable def BU(d:Addr)(o:Obj)(kvs:List (bH×V)):It:=
 ⟨λi H=>H d=some (xT d o)/\i<kvs.length,λi H x B=>B=H/\∃A,kvs[i]?=some A/\x=kV A.1,λi H=>H d=some (xT d o)/\kvs.length<=i⟩
def DX {vs:List (bH×Value)}(r:KV kvs vs)(B:i<kvs.length):∃k v u,kvs[i]?=some (k,v)/\vs[i]?=some (k,u):=by
 have E:=r.keys;have hl:=r.length;have A:i<vs.length:=by lia
 refine⟨kvs[i].1,kvs[i].2,vs[i].2,Ql B,?_⟩;rw[Ql A];have e:(kvs.map (·.1))[i]?=(vs.map (·.1))[i]?:=by rw[E]
 rw[Qm,Qm,Ql B,Ql A]at e;have e:=Option.some.inj e;have e:kvs[i].1=vs[i].1:=e;rw[e]
def IK {K:Qb}(f:FO P w d o ep kvs)(it:Addr):cN P w K tg (BU d o kvs) [it] it (λi h=>h.IsKeyIter it d i kvs.length ep) where
 mem:=by simp
 obj:=λi h st b B=>by
  have e:b=it:=by simpa using B
  subst e;obtain⟨o,e,c,d⟩:=st;exact⟨o,e,λv z=>by rw[d]at z;cases z⟩
 keep:=λi h J st k=>by
  obtain⟨o,e,r⟩:=st;exact⟨o,k it (by simp) o e,r⟩
 item:=by
  intro X N O Q g i pins s σ H E I M st U;subst N O Q;obtain⟨Y,t⟩:=U;obtain⟨m,A,j⟩:=f.at (gQ I Y);obtain⟨k,v,u,n,a⟩:=DX A t;obtain⟨f0,f1,f2,f3,f4,f5⟩:=M it (by simp);have hl:=A.length;rw[hl]at st;refine wpAny_pyNext_dict_item st j a λl J y G sb=>?_;have I1:Inv X pins σ H {s with heap:=J }:=I.turned (t':=s.toks) (λb o B e=>(sb.2 b B).trans e) f0 f1 f3 f4 f5;obtain⟨o,e,c,dd⟩:=id G;rw[<-hl]at G;exact⟨l,rfl,qz (s:={s with heap:=J }) e c dd (by decide) ⟨kV k,H,I1,Fa y,⟨rfl,(k,v),n,rfl⟩,G,λb B=>(M b B).1⟩⟩
 done:=by
  intro X N O Q g i pins s σ H E I M st U;subst N O Q;obtain⟨Y,t⟩:=U;obtain⟨m,A,j⟩:=f.at (gQ I Y);obtain⟨f0,f1,f2,f3,f4,f5⟩:=M it (by simp);have hl:=A.length;rw[hl]at st;exact wpAny_pyNext_dict_end (I.ok.hd g) st j (Qq (by lia)) λJ eb=>⟨rfl,I.turned (t':=s.toks) (λb o B e=>eb b o B e) f0 f1 f3 f4 f5⟩
 self:=λ_ _ _ _ _ st h=>NR st h
noncomputable def Bb(X:Cx)(E:TE):TI:=λσ H R=>E σ H λx B=>∃d o G A,x=.ref d/\FO X.prog X.w d o G A/\B d=some (xT d o)/\R (BU d o A) B
def GP (hl:PE X l G):PI X j l (Bb X G):=by
 intro pins s σ H R I h;refine aT (hl pins s σ H _ I h) λv A ⟨x,J,B,M,N⟩=>?_;obtain⟨d,o,u,O,e,f,Q,q⟩:=N;subst e;cases M;obtain⟨z,E,U⟩:=f.at (gQ B Q);have hl:=E.length;refine wpAny_pyIter_dict f.1 U ?_;refine⟨A.heap.objs.size,[A.heap.objs.size],_,_,J,rfl,B.kept (t':=A.toks) λb o e=>Qc _ e,IK f _,⟨_,Qh _ rfl,rfl,by rw[hl];rfl⟩,λb Y=>?_,q⟩;have e:b=A.heap.objs.size:=by simpa using Y
 subst e;exact B.fpOk (Qk _) (B.hok.fresh (Qk _))
noncomputable def j4(X:Cx):R2:=λx y H Q=>∃d o B A k v,x=.ref d/\y=kV k/\FO X.prog X.w d o B A/\H d=some (xT d o)/\xN A k=some v/\Q v H
def oB:dF X (j4 X):=by
 intro A B pins s σ H x y v u Q I N O h U;obtain⟨d,o,m,Y,k,z,rfl,rfl,f,j,l,q⟩:=h;cases N;obtain⟨g,E,J⟩:=f.at (gQ I j);obtain⟨M,e,G⟩:=rp (v:=z) (o:=NQ g k) (by rw[<-l];exact E.val k);exact MP (x:=M) J.dictOf.typeIs slot_dict_getitem.lookup
  (wpAny_getItem_of (Q:=λr t=>r=M/\EP X pins σ Q r t) (lV O) J.dictOf.mapOf e ⟨rfl,z,H,I.tok _,G,q⟩) U
def j5 (h:(kvs.map (·.1)).Nodup):∀{ps:List (bH×V)},((ps++kvs).map (·.1)).Nodup->wT ps kvs=ps++kvs:=by
 induction kvs with
 |nil=>intro ps _;simp[wT]
 |cons a r G=>
  intro ps A;have I:xN ps a.1=none:=by
   cases J:xN ps a.1 with
   |none=>rfl
   |some y=>
    exfalso;have E:(xN ps a.1).isSome=true:=by rw[J];rfl
    rw[<-jf,WP]at E;obtain⟨q,M,B⟩:=E;have B:=N4 B;rw[Ww,Qw]at A;exact A.2.2 q.1 (List.mem_map_of_mem M) a.1 (by simp) B
  show wT (eE ps a.1 a.2) r=_;rw[GR _ I,G (by simpa using (QC.mp (by simpa using h)).2) (ps:=ps++[(a.1,a.2)]) (by simpa using A)];simp
noncomputable def DW(X:Cx)(B:List (TE×TE)):TE:=λσ H Q=>∀p,H p=none->me B σ (aG H p (.dK [])) λI E=>E p=some (.dK [])/\∃A:List (bH×V),I=A.map (λG=>(kV G.1,G.2))/\A.length<=15/\(A.map (·.1)).Nodup/\∀o J,FO X.prog X.w p o J A->Q (.ref p) (aG E p (xT p o))
def GO (h:lC X pos keys A E)(B:keys.all (·.isSome)=true)(hl:keys.length=A.length)(u:keys≠[])(G:keys.length<=15):PE X (.Dict keys A pos) (DW X E):=by
 intro pins s σ H Q I q;have d:=I.hok.fresh (Qk s.heap.objs.size);have l:=I.laid (a:=s.heap.objs.size) (o:=.dK []) (h':=s.heap.push {cls:=.type "dict",data:=.dict #[]}) (t':=s.toks) (λ_ _ q=>Qc _ q) (Qk _) (GQ s.heap I.big);refine wpAny_Dict_walk (knd:=zO X.prog X.w) B hl u G (aT (h pins _ σ _ _ l (q _ d)) λws s2 ⟨ps,H2,U,J,e,g,M,lk,Y,f⟩=>?_);subst M;obtain⟨t,c,m⟩:=jg (P:=X.prog) (w:=X.w) J;obtain⟨z,b,n,i,y⟩:=Cq U.hok e;cases i;refine⟨t,c,y,λh' N hs=>?_⟩;have j:=m.merge (kvs:=[]) (vs:=[]) .nil;rw[j5 Y (ps:=[]) (by simpa using Y)]at j;obtain⟨o,es,M,O,b2,b3,b4,b5,b6⟩:=N;refine⟨.ref s.heap.objs.size,_,?_,rfl,f o M ⟨b,es,_,b2,b3,b4,b5,b6,j⟩⟩;exact Fc U (by rw[e];exact True.intro) hs ⟨_,O⟩ ⟨O,⟨_,O⟩,λh1 h2 hx k=>k o hx⟩
end
noncomputable def iJ(K:Qb)(b:Addr)(xs:S6):Prop:=
 ∃(o:Obj) (A:O4) (n:Nat),K.lookup b=some o/\o.cls=.type "tuple" /\ o.data=.seq A n/\A.size<=sizeLine/\az xs A.toList
abbrev fh:=List (R5×Int×Int)
noncomputable def pZ(K:Qb)(w:LV):List DictEntry->fh->Prop
 |[],q=>q=[]
 |e::A,q=>∃k x y r t b,q=(k,x,y)::r/\e.key=.str ⟨k.toArray⟩ t/\e.hash=LX w ⟨k.toArray⟩/\e.val=.ref b/\iJ K b [.int x,.int y]/\pZ K w A r
noncomputable def fP(K:Qb)(w:LV)(a:Addr)(q:fh):Prop:=
 (a==LZ)=false/\∃o A B,K.lookup a=some o/\o.ExactDict/\o.data=.dict A B/\pZ K w A.toList q
noncomputable def pY(K:Qb):List (bH×V)->fh->Prop
 |[],q=>q=[]
 |kv::A,q=>∃k x y r b,q=(k,x,y)::r/\kv=(Sum.inr ⟨k.toArray⟩,.ref b)/\iJ K b [.int x,.int y]/\pY K A r
theorem tH {K:Qb}:∀(A:List DictEntry) (q:fh),pZ K w A q ->
  ∃kvs vs,(∀e∈A,∃k,(zO P w).is k e.key=true/\e.hash=(zO P w).hash k)/\Pairs (zO P w) A vs/\KV kvs vs/\vs.map (·.1)=q.map (λz=>(Sum.inr ⟨z.1.toArray⟩:bH))/\pY K kvs q
 |[],q,h=>by
  cases(show q=[]from h);exact⟨[],[],by simp,.nil,.nil,rfl,rfl⟩
 |e::A,q,h=>by
  obtain⟨k,x,y,r,t,b,rfl,E,G,H,I,J⟩:=h;obtain⟨kvs,vs,M,N,O,Q,U⟩:=tH (P:=P) A r J;have B:(zO P w).is (Sum.inr ⟨k.toArray⟩) e.key=true:=by rw[E];exact jN _ t
  refine⟨(Sum.inr ⟨k.toArray⟩,.ref b)::kvs,(Sum.inr ⟨k.toArray⟩,.ref b)::vs,λY he=>?_,.cons B H N,.cons ⟨rfl,rfl⟩ O,?_,k,x,y,r,b,rfl,rfl,I,U⟩
  .rcases Qn.mp he with rfl|he
   .exact ⟨_,B,G⟩
   .exact M Y he
  .rw[QS,QS,Q]
def Cp {K:Qb}(h:fP K w a q)(B:(q.map (·.1)).Nodup):∃o ep kvs,K.lookup a=some o/\FO P w a o ep kvs/\pY K kvs q:=by
 obtain⟨E,o,G,ep,H,I,J,M⟩:=h;obtain⟨kvs,N,O,Q,U,Y,j⟩:=tH (P:=P) _ _ M;refine⟨o,ep,kvs,H,⟨E,G,N,I,J,λe u=>O e (Array.mem_toList_iff.mpr u),Q,?_,U⟩,j⟩;rw[Y];refine List.Pairwise.map _ (λx y A=>?_) (Q6.mp B);intro e;injection e with e
 injection e with e
 exact A (by simpa using NY WM e)
section
variable{X:Cx}{pins:O0}{σ:St}{H:Hp}{s:Shared}
noncomputable def Cn(X:Cx):R2:=λx y H Q=>∃d o B A k v,x=.ref d/\y=kV k/\FO X.prog X.w d o B A/\X.K.lookup d=some o/\xN A k=some v/\Q v H
def oA:dF X (Cn X):=by
 intro A B pins s σ H x y v u Q I N O h U;obtain⟨d,o,m,Y,k,z,rfl,rfl,f,j,l,q⟩:=h;cases N;obtain⟨g,E,J⟩:=f.at (I.kIn d o j);obtain⟨M,e,G⟩:=rp (v:=z) (o:=NQ g k) (by rw[<-l];exact E.val k);exact MP (x:=M) J.dictOf.typeIs slot_dict_getitem.lookup
  (wpAny_getItem_of (Q:=λr t=>r=M/\EP X pins σ Q r t) (lV O) J.dictOf.mapOf e ⟨rfl,z,H,I.tok _,G,q⟩) U
end
end L2
namespace Mini
open PySem PySem.Spec PyProof.Rows L2
set_option genInjectivity false in
structure Ctx where
 fns:R0
 cons:List (Str×Int)
 dcs:List (Str×fh)
set_option genInjectivity false in
inductive Nd where
 |e (x:Expr)|a (xs:P6)
noncomputable def cq(A:LR)(x:Str):Bool:=decide (A.names.lookup x=some .globalImplicit)
noncomputable def eD(A:LR)(x:Str):Bool:=decide (A.names.lookup x=some .local) || (decide (A.names.lookup x=some .cell) || decide (A.names.lookup x=some .free))
noncomputable def yq(x:Str):Bool:=!(x==("__debug__":Str)) && !(x==("__classdict__":Str)) && !(x==("__name__":Str))
noncomputable def zi:Expr->Bool
 |.Starred _ _=>false
 |_=>true
noncomputable def zV:Expr->Bool
 |.Set _ _ _=>false
 |_=>true
noncomputable def yy:Expr->Bool
 |.Slice _ _ _ _=>false
 |_=>true
noncomputable def ya:Expr->Bool
 |.Call _ _ _ _=>false
 |_=>true
noncomputable def zg:Ex->Bool
 |.rng _ _ _=>true
 |_=>false
noncomputable def wU:Ex->Bool
 |.ife _ _ _=>true
 |_=>false
noncomputable def zG(A B:LR):LR:=
 {A with names:=A.names.map λ(n,k)=>if(k == .free&&B.kind == .function&&B.names.lookup n==some .cell)then(n,.cell)else(n,k)}
noncomputable def y8(B:LR)(N:R0)(A:LR)(xs:R0):Bool:=
 decide (A.kind=.function)&&(xs.all (λx=>decide (A.names.lookup x=some .local) || decide (A.names.lookup x=some .cell)) &&
 (A.names.all (λy=>!(decide (y.2=.local)) || decide (A.names.lookup y.1=some .local)) &&
 (A.names.all (λy=>!(decide (y.2=.free)) || (decide (B.names.lookup y.1=some .cell) || decide (B.names.lookup y.1=some .free))) &&
 (A.names.all (λy=>!(decide (y.2=.cell)) || !(decide (A.names.lookup y.1=some .free))) &&
 (N.all (λy=>decide (y∈xs) || (!(decide (A.names.lookup y=some .local)) && !(decide (A.names.lookup y=some .cell)))) &&
 (decide (zR N xs).Nodup&&xs.all (λx=>decide (A.names.lookup (lA x)=none))))))))
def zJ (h:y8 X.env.scope X.N A xs=true):bx X A xs:=by
 unfold y8 at h;simp only[Qr,Ve,N5,Qx,WY,decide_eq_false_iff_not]at h;obtain⟨E,G,H,I,J,M,N,O⟩:=h;refine⟨E,G,λy B e=>?_,λy B e=>?_,λy B e=>?_,λy B e=>?_,N,O⟩
 .rcases H y B with z|z
  .exact N2 e z
  .exact z
 .rcases I y B with z|z
  .exact N2 e z
  .exact z
 .rcases M y B with z|z
  .exact N2 z e
  .exact z
 .rcases J y B with z|z
  .exact N2 e z
  .exact z
noncomputable def gR(K:Qb)(g:R7->Me->Rz):Sp:=λB H Q _=>∃as m A,aJ K as m H/\ab K as H A B/\am K as H Q (g A m)
noncomputable def zm:R0:=["len","int","bool","list","tuple","abs","max","min","isinstance","range","str","dict","sum","all","zip","enumerate","sorted","reversed"]
noncomputable def hZ(K:Qb)(w:LV)(B:N8)(C:Ctx):Prop:=(∀(A:Str) (i:Int),C.cons.lookup A=some i->∃t,B A=some (.int i t))/\∀(A:Str) (q:fh),C.dcs.lookup A=some q->∃a,B A=some (.ref a)/\fP K w a q
structure bL(C:Ctx)(X:Cx)(cl:N6)(d:Nat):Prop where
 room:bY d X.A
 calm:X.calm=true
 fn:∀(k:Nat) (nm:Str),C.fns[k]?=some nm->∃f fd ps,X.mg nm=some (.ref f)/\WL X.K (.ref f)=true/\Binds X.K fd ps []/\cx X.prog X.w X.K X.mg X.base dP d f fd ps (gR X.K (cl k))
 con:hZ X.K X.w X.mg C
 blt:∀nm∈zm,X.mg nm=none
def bL.comp{C:Ctx}{X E:Cx}{cl:N6}{d:Nat}{A:LR}{x:R0}(h:bL C X cl d)(c:bi X A x E):bL C E cl d:=by
 refine⟨by rw[c.A];exact h.room,c.calm,λk B e=>?_,?_,λB e=>?_⟩
 .obtain ⟨f,G,H,I,J,M,N⟩:=h.fn k B e;exact⟨f,G,H,by rw[c.mg];exact I,by rw[c.K];exact J,by rw[c.K];exact M,by rw[c.prog,c.w,c.K,c.mg,c.base];exact N⟩
 .rw[c.mg,c.K,c.w];exact h.con
 .rw[c.mg];exact h.blt B e
noncomputable def b8(K:Qb)(as:O9)(H:Hp)(Q:S6->Hp->Prop)(r:Rz):Prop:=match r with
 |.ok w G=>∀A B E,Step as H A B->aJ K A G B->ab K A B (zj w) E->Q E B
 |_=>False
noncomputable def jh(K:Qb)(g:En->Me->Rz):TA:=λB H Q=>∃as A m,aJ K as m H/\aD K as H A B/\b8 K as H Q (g A m)
theorem b8.bind{K:Qb}{as:O9}{H:Hp}{Q:VK}{G:S6->Hp->Prop}{r:Rz}{f:Wd->Me->Rz}(h:am K as H Q (r.bind f))
  (k:∀w m' A B vs,Step as H A B->aJ K A m' B->ab K A B (zj w) vs->am K A B Q (f w m')->G vs B):b8 K as H G r:=by
 cases r with
 |ok w m'=>exact λE I v U S R=>k w m' E I v U S R (am.step (r:=f w m') h U)
 |no=>exact h
noncomputable def bF(cl:N6)(X:Cx)(e:Ex):Nd->Prop
 |.e x=>(zg e=false->PE X x (aF X.K (ae cl e))/\(wU e=false->PT X x (y6 X.K (ae cl e)))/\(∀B E A,x=.BoolOp B E A->PW X x (y6 X.K (ae cl e))))/\∀G,PI X G x (eZ X.K (ae cl e))
 |.a H=>PA X H (jh X.K (ae cl e))
def bF.of{cl:N6}{X:Cx}{e:Ex}{x:Expr}(h:PE X x (aF X.K (ae cl e)))(B:∀A,isTrue x X.env A=(do let v <-A;standAt x.pos;holding [v] (truthy v)):=by intro _;rfl)
  (E:∀op vs pos,x≠.BoolOp op vs pos:=by intros;intro z;cases z):bF cl X e (.e x):=
 ⟨λ_=>⟨h,λ_=>EX h B,λop vs pos z=>N2 z (E op vs pos)⟩,λG=>wJ h⟩
def zd (h:zi e=true):L8 (e::A) env=(false,eval e env)::L8 A env:=by
 cases e<;>first|rfl|cases h
theorem zC:∀{A:P6},A.all zi=true->(L7 pos (L8 A env)).any (·.1)=false
 |[],_=>rfl
 |e::A,h=>by
  rw[WQ,Qr]at h;rw[zd h.1];show(false || (L7 pos (L8 A env)).any (·.1))=false;rw[zC h.2];rfl
section
variable{cl:N6}{X:Cx}{a b:Ex}{x y:Expr}{pos:Pos}
def DV (I:PE X x (aF X.K (ae cl a)))(J:PE X y (aF X.K (ae cl b))):PE X (.BinOp x (fB op) y pos) (aF X.K (ae cl (.bin op a b))):=by
 refine PE.imp (C4 (Ct op) I J) λo H Q h=>?_;obtain⟨as,A,m,S,G,P⟩:=h;refine⟨as,A,m,S,G,am.bind P λx m1 B d v M E N O=>?_⟩;refine⟨B,A,m1,E,G.mono S M,am.bind O λy m2 U l u Y j R2 z=>?_⟩;exact Ec j (N.mono E Y) R2 z
def DU(E:PE X x (aF X.K (ae cl a))):PE X (.UnaryOp .USub x pos) (aF X.K (ae cl (.neg a))):=by
 refine PE.imp (C3 DB E) λN H Q h=>?_;obtain⟨as,A,m,S,G,P⟩:=h;refine⟨as,A,m,S,G,am.bind P λx m1 I O v U J M B=>?_⟩;cases x with
 |int i=>
  obtain rfl:=aa.mp M;exact⟨i,rfl,B.ok J (aa.mpr rfl)⟩
 |_=>exact B.elim
def tG(E:PE X x (aF X.K (ae cl a))):PE X (.UnaryOp .Not x pos) (aF X.K (ae cl (.not a))):=by
 refine PE.imp (DL E) λN H Q h=>?_;obtain⟨as,A,m,S,G,P⟩:=h;refine⟨as,A,m,S,G,am.bind P λx m1 I O v U J M B=>?_⟩;cases x with
 |bl k=>
  obtain rfl:=ag.mp M;exact⟨k,rfl,B.ok J (ag.mpr rfl)⟩
 |_=>exact B.elim
def DT(E:PT X x (y6 X.K (ae cl a))):PT X (.UnaryOp .Not x pos) (y6 X.K (ae cl (.not a))):=by
 refine PT.imp (EU E) λN H Q h=>?_;obtain⟨as,A,m,S,G,P⟩:=h;refine⟨as,A,m,S,G,am.bind P λx m1 I O v U J M B=>?_⟩;cases x with
 |bl k=>
  obtain rfl:=ag.mp M;obtain⟨b,e,q⟩:=B.ok J (ag.mpr rfl);cases e;exact⟨k,rfl,q⟩
 |_=>exact B.elim
def Ak {K:Qb}(h:aF K (ae cl (.and a b)) σ H Q):aF K (ae cl a) σ H λx B=>∃k,x=.bl k/\if k=true then aF K (ae cl b) σ B Q else Q (.bl false) B:=by
 obtain⟨as,A,m,S,G,P⟩:=h;refine⟨as,A,m,S,G,am.bind P λx m1 E B v M J N I=>?_⟩;cases x with
 |bl k=>
  obtain rfl:=ag.mp N;refine⟨k,rfl,?_⟩;cases k with
  |true=>exact qF ⟨E,A,m1,J,G.mono S M,I⟩
  |false=>exact qE (I.ok J (ag.mpr rfl))
 |_=>exact I.elim
def uT {K:Qb}(h:aF K (ae cl (.or a b)) σ H Q):aF K (ae cl a) σ H λx B=>∃k,x=.bl k/\if k=true then Q (.bl true) B else aF K (ae cl b) σ B Q:=by
 obtain⟨as,A,m,S,G,P⟩:=h;refine⟨as,A,m,S,G,am.bind P λx m1 E B v M J N I=>?_⟩;cases x with
 |bl k=>
  obtain rfl:=ag.mp N;refine⟨k,rfl,?_⟩;cases k with
  |false=>exact qE ⟨E,A,m1,J,G.mono S M,I⟩
  |true=>exact qF (I.ok J (ag.mpr rfl))
 |_=>exact I.elim
def Aj {K:Qb}(h:aF K g σ H Q)(k:∀v H,Q v H->I v H):aF K g σ H I:=by
 obtain⟨as,A,m,S,G,P⟩:=h;refine⟨as,A,m,S,G,?_⟩;cases E:g A m with
 |ok w N=>rw[E]at P;exact λB J v T M R=>k _ _ (P B J v T M R)
 |no=>rw[E]at P;exact P
def tE (A:PE X x (aF X.K (ae cl a)))(B:PE X (.BoolOp .And (y::r) pos) (aF X.K (ae cl b))):PE X (.BoolOp .And (x::y::r) pos) (aF X.K (ae cl (.and a b))):=
 PE.imp (ET A B) λE H Q h=>Ak h
def sM (A:PE X x (aF X.K (ae cl a)))(B:PE X (.BoolOp .Or (y::r) pos) (aF X.K (ae cl b))):PE X (.BoolOp .Or (x::y::r) pos) (aF X.K (ae cl (.or a b))):=
 PE.imp (Db A B) λE H Q h=>uT h
def PW.imp{e:Expr}{t t':TT}(h:PW X e t)(k:∀σ H Q,t' σ H Q->t σ H Q):PW X e t':=λA B s σ H Q I q=>h A B s σ H Q I (k σ H Q q)
def tD (A:PT X x (y6 X.K (ae cl a)))(B:PW X (.BoolOp .And (y::r) pos) (y6 X.K (ae cl b))):PW X (.BoolOp .And (x::y::r) pos) (y6 X.K (ae cl (.and a b))):=
 PW.imp (EV A B) λG H Q h=>by
  refine Aj (Ak h) λv I q=>?_;obtain⟨k,e,q⟩:=q;refine⟨k,e,?_⟩;cases k with
  |true=>rw[N0 rfl]at q ⊢;exact q
  |false=>
   rw[N1 QQ]at q ⊢;obtain⟨J,E,q⟩:=q;cases E;exact q
def sL (A:PT X x (y6 X.K (ae cl a)))(B:PW X (.BoolOp .Or (y::r) pos) (y6 X.K (ae cl b))):PW X (.BoolOp .Or (x::y::r) pos) (y6 X.K (ae cl (.or a b))):=
 PW.imp (De A B) λG H Q h=>by
  refine Aj (uT h) λv I q=>?_;obtain⟨k,e,q⟩:=q;refine⟨k,e,?_⟩;cases k with
  |false=>rw[N1 QQ]at q ⊢;exact q
  |true=>
   rw[N0 rfl]at q ⊢;obtain⟨J,E,q⟩:=q;cases E;exact q
def j6 (h:zV e=true):Mx op e=false:=by
 cases e<;>first|rfl|cases h
def Ai {K:Qb}(h:aF K (ae cl (.cmp op a b)) σ H Q):dM (rC K op) (aF K (ae cl a)) (aF K (ae cl b)) σ H Q:=by
 obtain⟨as,A,m,S,G,P⟩:=h;refine⟨as,A,m,S,G,am.bind P λx m1 B j v J I M N=>?_⟩;refine⟨B,A,m1,I,G.mono S J,am.bind N λy m2 E z u O U R2 Y=>?_⟩;exact⟨E,m2,x,y,U,M.mono I O,R2,Y⟩
def tz (A:X.A.units+64<Mz)(B:PE X x (aF X.K (ae cl a)))(E:PE X y (aF X.K (ae cl b)))(G:zV y=true):PE X (.Compare x [cK op] [y] pos) (aF X.K (ae cl (.cmp op a b))):=
 PE.imp (uP (k9 A op) B E (j6 G)) λI H Q h=>Ai h
def DS (A:X.A.units+64<Mz)(B:PE X x (aF X.K (ae cl a)))(E:PE X y (aF X.K (ae cl b)))(G:zV y=true):PT X (.Compare x [cK op] [y] pos) (y6 X.K (ae cl (.cmp op a b))):=
 PT.imp (gu (k9 A op) B E (j6 G)) λI H Q h=>Ai h
end
section
variable{cl:N6}{X:Cx}{a b c:Ex}{x y z:Expr}{pos:Pos}
def ji {K:Qb}(h:aF K (ae cl (.chain p q a b c)) σ H Q):mv (rC K p) (rC K q) (aF K (ae cl a)) (aF K (ae cl b)) (aF K (ae cl c)) σ H Q:=by
 obtain⟨as,A,m,S,G,P⟩:=h;refine⟨as,A,m,S,G,am.bind P λx m1 B H1 v U E o d=>?_⟩;refine⟨B,A,m1,E,G.mono S U,am.bind d λy m2 I H2 u Y J R2 l=>?_⟩;refine⟨I,m2,x,y,J,o.mono E Y,R2,am.bind l λz m3 M H3 w j N g P3=>?_⟩;cases z with
 |bl k=>
  obtain rfl:=ag.mp g;refine⟨k,rfl,?_⟩;cases k with
  |false=>exact qE (P3.ok N (ag.mpr rfl))
  |true=>
   refine qF ⟨M,A,m3,N,((G.mono S U).mono E Y).mono J j,am.bind P3 λt m4 O H4 r f e n i=>?_⟩;exact⟨O,m4,y,t,e,(R2.mono J j).mono N f,n,i⟩
 |_=>exact P3.elim
def tx (h:zV z=true):lastMarks [o,A] [y,z]=false:=by
 show Mx A z=false;exact j6 h
def Ah (A:X.A.units+64<Mz)(B:PE X x (aF X.K (ae cl a)))(E:PE X y (aF X.K (ae cl b)))(G:PE X z (aF X.K (ae cl c)))(I:zV z=true):
  PE X (.Compare x [cK p,cK q] [y,z] pos) (aF X.K (ae cl (.chain p q a b c))):=
 PE.imp (HS (k9 A p) (k9 A q) B E G (tx I)) λJ H Q h=>ji h
def GN (A:X.A.units+64<Mz)(B:PE X x (aF X.K (ae cl a)))(E:PE X y (aF X.K (ae cl b)))(G:PE X z (aF X.K (ae cl c)))(I:zV z=true):
  PT X (.Compare x [cK p,cK q] [y,z] pos) (y6 X.K (ae cl (.chain p q a b c))):=
 PT.imp (HR (k9 A p) (k9 A q) B E G (tx I)) λJ H Q h=>ji h
def GM {K:Qb}(h:aF K (ae cl (.ife c a b)) σ H Q):AU (y6 K (ae cl c)) (aF K (ae cl a)) (aF K (ae cl b)) σ H Q:=by
 obtain⟨as,A,m,S,G,P⟩:=h;refine⟨as,A,m,S,G,am.bind P λx m1 B N v I J M E=>?_⟩;cases x with
 |bl k=>
  obtain rfl:=ag.mp M;refine⟨k,rfl,?_⟩;cases k with
  |true=>exact qF ⟨B,A,m1,J,G.mono S I,E⟩
  |false=>exact qE ⟨B,A,m1,J,G.mono S I,E⟩
 |_=>exact E.elim
def DR(A:PT X z (y6 X.K (ae cl c)))(B:PE X x (aF X.K (ae cl a)))(E:PE X y (aF X.K (ae cl b))):PE X (.IfExp z x y pos) (aF X.K (ae cl (.ife c a b))):=
 PE.imp (HW A B E) λG H Q h=>GM h
def E9:PA X [] (jh X.K (ae cl .u)):=PA.imp yj λB H Q h=>by
 obtain⟨as,A,m,S,G,P⟩:=h;exact P as H [] .refl S (aq.mpr rfl)
def E8 (j:PE X x (aF X.K (ae cl a)))(u:PA X xs (jh X.K (ae cl b)))(o:zi x=true):PA X (x::xs) (jh X.K (ae cl (.P a b))):=by
 refine PA.imp (zA j u (zd o)) λf H Q h=>?_;obtain⟨as,A,m,S,G,P⟩:=h;refine⟨as,A,m,S,G,?_⟩;have B:b8 X.K as H Q ((ae cl a A m).bind λx m1=>(ae cl b A m1).bind λy m2=>.ok (.T (x::zj y)) m2):=P;cases M:ae cl a A m with
 |no=>rw[M]at B;exact B
 |ok w m1=>
  rw[M]at B;intro I e v N O d;refine⟨I,A,m1,O,G.mono S N,?_⟩;simp only[Rz.bind]at B;cases E:ae cl b A m1 with
  |no=>rw[E]at B;exact B
  |ok t m2=>
   rw[E]at B;intro J l U Y g R2;exact B J l (v::U) (N.trans Y) g (ak.mpr ⟨v,U,rfl,d.mono O Y,R2⟩)
def E7 (N:bL C X cl d)(O:C.fns[k]?=some B)(U:X.env.scope.names.lookup B=some .globalImplicit)(E:yq B=true)(Y:(x::xs).all zi=true)(j:PA X (x::xs) (jh X.K (ae cl a))):PE X (.Call (.Name B p) (x::xs) [] pos) (aF X.K (ae cl (.call k a))):=by
 obtain⟨f,i,ps,u,o,l,g⟩:=N.fn k B O;have A:=Y;rw[WQ,Qr]at A;have I:(B==("__debug__":Str))=false:=by
  unfold yq at E;simp only[Qr,WY]at E;exact E.1.1
 refine PE.imp (GB g N.room U u o l .nil (Cv (X:=X)) j I (zd A.1) (zC A.2)) λσ H Q h=>?_;obtain⟨as,J,m,S,G,P⟩:=h;refine⟨as,J,m,S,G,b8.bind P λw m1 M H1 vs T1 e t n=>?_⟩;refine⟨M,m1,zj w,e,?_,n⟩;rw[QX];exact t
def yQ (A:yq B=true):(B==("__debug__":Str))=false/\(B==("__classdict__":Str))=false/\B ≠ "__name__":=by
 unfold yq at A;simp only[Qr,WY]at A;exact⟨A.1.1,A.1.2,by simpa using A.2⟩
def DQ (B:bL C X cl d)(E:iK Y=some (U,f))(I:X.env.scope.names.lookup U=some .globalImplicit)(o:yq U=true)(l:(x::xs).all zi=true)(J:PA X (x::xs) (jh X.K (ae cl a))):PE X (.Call (.Name U p) (x::xs) [] pos) (aF X.K (ae cl (.blt Y a))):=by
 obtain⟨M,n,N⟩:=yQ o;have A:=l;rw[WQ,Qr]at A;have O:=GT B.room.units B.calm E;have go:PE X (.Call (.Name U p) (x::xs) [] pos) (mO (AW X.K Y) (jh X.K (ae cl a))):=by
  cases Y with
  |len=>cases E;exact zP O I (B.blt _ (by simp[zm])) PySem.boot_len J N M (zd A.1) (zC A.2)
  |int=>cases E;exact vF O I (B.blt _ (by simp[zm])) PyProof.Rows.boot_int J N M (zd A.1) (zC A.2)
  |list=>cases E;exact vF O I (B.blt _ (by simp[zm])) PyProof.Rows.boot_list J N M (zd A.1) (zC A.2)
  |tuple=>cases E;exact vF O I (B.blt _ (by simp[zm])) PyProof.Rows.boot_tuple J N M (zd A.1) (zC A.2)
  |max2=>cases E;exact zP O I (B.blt _ (by simp[zm])) PyProof.Rows.boot_max J N M (zd A.1) (zC A.2)
  |sum=>cases E;exact zP O I (B.blt _ (by simp[zm])) PyProof.Rows.boot_sum J N M (zd A.1) (zC A.2)
  |all=>cases E;exact zP O I (B.blt _ (by simp[zm])) PyProof.Rows.boot_all J N M (zd A.1) (zC A.2)
  |min2=>cases E;exact zP O I (B.blt _ (by simp[zm])) PyProof.Rows.boot_min J N M (zd A.1) (zC A.2)
  |sorted=>cases E;exact zP O I (B.blt _ (by simp[zm])) PyProof.Rows.boot_sorted J N M (zd A.1) (zC A.2)
  |minS=>cases E;exact zP O I (B.blt _ (by simp[zm])) PyProof.Rows.boot_min J N M (zd A.1) (zC A.2)
  |maxS=>cases E;exact zP O I (B.blt _ (by simp[zm])) PyProof.Rows.boot_max J N M (zd A.1) (zC A.2)
 refine PE.imp go λi H Q h=>?_;obtain⟨as,j,m,S,G,P⟩:=h;refine⟨as,j,m,S,G,b8.bind P λw m1 u H1 vs T1 g e t=>?_⟩;exact⟨u,m1,zj w,g,e,t⟩
def E6(t:Tg):L1 (Str.ofString (cO t))=some (.type (cO t)):=by
 cases t<;>decide +kernel
def DP (J:bL C X cl d)(N:X.env.scope.names.lookup ("isinstance":Str)=some .globalImplicit)(A:X.env.scope.names.lookup (Str.ofString (cO t))=some .globalImplicit)(M:zi x=true)(O:PE X x (aF X.K (ae cl a))):PE X (.Call (.Name "isinstance" p) [x,.Name (Str.ofString (cO t)) U] [] pos) (aF X.K (ae cl (.isi t a))):=by
 have Y:X.mg (Str.ofString (cO t))=none:=J.blt _ (by cases t<;>decide +kernel);have B:PE X (.Name (Str.ofString (cO t)) U) (tC (.ty (cO t))):=Gn A Y (E6 t) rfl (by cases t<;>decide +kernel) (by cases t<;>decide +kernel);refine PE.imp (zP (GS t) N (J.blt _ (by simp[zm])) PyProof.Rows.boot_isinstance (zA O (zA B yj) (zd M)) (by decide +kernel) (by decide +kernel) (zd M) rfl) λl H Q h=>?_;obtain⟨as,E,m,S,G,P⟩:=h;refine⟨as,E,m,S,G,am.bind P λw m1 I g v f j u o=>?_⟩;exact⟨I,m1,w,v,rfl,j,u,o⟩
def DO (B:PA X xs (jh X.K (ae cl a))):PE X (.List xs pos) (aF X.K (ae cl (.L a))):=by
 refine PE.imp (Dy B) λU H Q h=>?_;obtain⟨as,A,m,S,G,P⟩:=h;refine⟨as,A,m,S,G,b8.bind P λw m1 E Y j u I J M=>?_⟩;obtain⟨N,O⟩:=xC I J M;exact⟨Qp N yx,O⟩
set_option tactic.hygienic true in
def DN (I:PA X xs (jh X.K (ae cl a))):PE X (.Tuple xs k pos) (aF X.K (ae cl (.T a))):=by
 refine PE.imp (Dz I) λY H Q h=>?_;obtain⟨as,A,m,S,G,P⟩:=h;refine⟨as,A,m,S,G,b8.bind P λw m1 J j u o M E B=>?_⟩;split at B
 .rename_i hl;refine⟨by rw[<-E.length];exact Qp hl yx,λp N=>?_⟩;obtain⟨T,O,U⟩:=M.T N E;exact B _ _ _ T O U
 .exact B.elim
def DM(I:PE X x (aF X.K (ae cl a)))(J:PE X y (aF X.K (ae cl b)))(M:yy y=true):PE X (.Subscript x y pos) (aF X.K (ae cl (.i a b))):=by
 have N:gy y:=λo i=>by cases y<;>first|rfl|cases M
 refine PE.imp (iV Dv I J N) λf H Q h=>?_;obtain⟨as,A,m,S,G,P⟩:=h;refine⟨as,A,m,S,G,am.bind P λx m1 B e v O E U Y=>?_⟩;refine⟨B,A,m1,E,G.mono S O,am.bind Y λy m2 j t u d l R2 g=>?_⟩;exact D0 l (U.mono E d) R2 g
end
section
variable{cl:N6}{X:Cx}{a b:Ex}{x y:Expr}{pos:Pos}
def bp (h:ya e=true):MQ e f env (eval e env)=eval e env:=by
 cases e<;>first|rfl|cases h
def gS (h:ys.all zi=true)(hl:ys.length<29):
  ((L7 B (L8 ys env)).all (λx=>! x.1)&&(MS B (MT [] env)).all (λx=>x.1.isSome)
   && decide (ys.length+([]:List MU).length+(if([]:List MU).isEmpty then 0 else 1)<30))=true:=by
 have all:∀{A:P6},A.all zi=true->(L7 B (L8 A env)).all (λx=>! x.1)=true:=by
  intro A
  induction A with
  |nil=>intro _;rfl
  |cons e A E=>
   intro h;rw[WQ,Qr]at h;rw[zd h.1];show(true&&(L7 B (L8 A env)).all (λx=>! x.1))=true;rw[E h.2];rfl
 rw[all h];have G:(MS B (MT [] env)).all (λx=>x.1.isSome)=true:=rfl;rw[G];have H:decide (ys.length+([]:List MU).length+(if([]:List MU).isEmpty then 0 else 1)<30)=true:=by
  apply N3;show ys.length+0+0<30;lia
 rw[H];rfl
def Ag(k:dE):Slot "list" (eG k).1 (eG k).2/\typeOf (.builtin (eG k).2)=pure (.type "method_descriptor"):=by
 cases k with
 |append=>exact⟨PySem.F.slot_list_append,PySem.F.type_list_append⟩
 |pop=>exact⟨PySem.F.slot_list_pop,PySem.F.type_list_pop⟩
 |reverse=>exact⟨PySem.F.slot_list_reverse,PySem.F.type_list_reverse⟩
 |clear=>exact⟨PySem.F.slot_list_clear,PySem.F.type_list_clear⟩
def uA{K:Qb}{as:O9}{H:Hp}{Q:VK}{b:Bool}{r:Rz}(h:am K as H Q (match b with|true=>r|false=>.no)):b=true/\am K as H Q r:=by
 cases b with
 |true=>exact⟨rfl,h⟩
 |false=>exact h.elim
def md (h:yB w m=true):∃l,w=.ref l/\(zh m l).isSome=true:=by
 cases w with
 |ref l=>
  refine⟨l,rfl,?_⟩;unfold yB aN at h;unfold zh;cases e:m[l]? with
  |none=>simp[e]at h
  |some o=>
   cases o with
   |L A=>rfl
   |D B E=>simp[e]at h
 |_=>cases h
def ma {K:Qb}(S:aJ K as m H)(R:ai K as H w v)(E:∃l,w=.ref l/\(zh m l).isSome=true):i7 K "list" v H:=by
 obtain⟨l,rfl,B⟩:=E;obtain⟨p,G,rfl⟩:=aE.mp R;obtain⟨J,B⟩:=WG.mp B;obtain⟨M,I,A,e,_⟩:=zL S (zy B);rw[G]at A;cases A;exact⟨rfl,I,bb.of e⟩
def GL (N:PE X x (aF X.K (ae cl a)))(O:ya x=true)(hl:(U.endLine==pos.line)=true):
  PE X (.Call (.Attribute x (eG k).1 U) [] [] pos) (aF X.K (ae cl (.meth k a .u))):=by
 obtain⟨f1,f2⟩:=Ag k;refine PE.imp (Du PySem.F.plainAttrs_list f1 f2 (tI k) N (bp O) hl) λu H Q h=>?_;obtain⟨as,B,m,S,G,P⟩:=h;refine⟨as,B,m,S,G,am.bind P λw m1 A Y v z J M E=>?_⟩;obtain⟨I,E⟩:=uA E;have j:am X.K A Y Q (cS k w [] m1):=E;exact⟨ma J M (md I),A,m1,w,[],J,M,aq.mpr rfl,j⟩
def FV (Y:PE X x (aF X.K (ae cl a)))(j:PA X (y::ys) (jh X.K (ae cl b)))(u:ya x=true)(hl:(z.endLine==pos.line)=true)(o:(y::ys).length<29)(O:(y::ys).all zi=true):
  PE X (.Call (.Attribute x (eG k).1 z) (y::ys) [] pos) (aF X.K (ae cl (.meth k a b))):=by
 obtain⟨f1,f2⟩:=Ag k;have A:=O;rw[WQ,Qr]at A;refine PE.imp (sn PySem.F.plainAttrs_list f1 f2 (tI k) Y j (bp u) (gS O o) hl (zd A.1) (zC A.2)) λt H Q h=>?_;obtain⟨as,B,m,S,G,P⟩:=h;refine⟨as,B,m,S,G,am.bind P λw m1 E n v d I U J=>?_⟩;obtain⟨M,J⟩:=uA J;refine⟨ma I U (md M),?_⟩;refine⟨E,B,m1,I,G.mono S d,b8.bind J λl m2 N i vs g f R2 e=>?_⟩;exact⟨N,m2,w,zj l,f,U.mono I g,R2,e⟩
def Af {K:Qb}(S:aJ K as m H)(h:bK K as H R (fq (.int i) (.int j) (.int 1) m)):(-(2^62)<=i/\i<2^62/\-(2^62)<=j/\j<2^62)/\R (fI i (j-i).toNat) H:=by
 have A:bK K as H R (if -aA<=i/\i<=aA/\-aA<=j/\j<=aA/\((1:Int)=1\/(1:Int)=-1\/(1:Int)=-2\/(1:Int)=2)then .ok (.T (fX i 1 (ft i j 1))) m else .no):=h;by_cases B:-(aA:Int)<=i/\i<=aA/\-(aA:Int)<=j/\j<=aA/\((1:Int)=1\/(1:Int)=-1\/(1:Int)=-2\/(1:Int)=2)
 .rw[N0 B]at A;have E:(aA:Int)=100000:=rfl;refine⟨by lia,A.2 as H _ .refl S ?_⟩;have e:ft i j 1=(j-i).toNat:=N0 rfl;rw[e];exact⟨_,λ_=>True,Iy i (j-i).toNat (K:=K),trivial,Al 1 (j-i).toNat i,λ_ _ _ _=>trivial⟩
 .rw[N1 B]at A;exact A.elim
theorem bK.bind {K:Qb}(h:bK K as H R (r.bind f))(k:∀w m' A B v,Step as H A B->aJ K A m' B->ai K A B w v->bK K A B R (f w m')->N v B):am K as H N r:=by
 cases r with
 |ok w m'=>
  intro G O v U S Q;refine k w m' G O v U S Q ?_;have E:bK K as H R (f w m'):=h;cases M:f w m' with
  |ok z m2=>rw[M]at E;exact⟨E.1,λI Y J j u q=>E.2 I Y J (U.trans j) u q⟩
  |no=>rw[M]at E;exact E
 |no=>exact h
def FU (I:bL C X cl d)(J:X.env.scope.names.lookup ("range":Str)=some .globalImplicit)(B:zi x=true)(M:PE X x (aF X.K (ae cl b))):
  PI X z (.Call (.Name "range" p) [x] [] pos) (eZ X.K (ae cl (.rng (.lit (.int 0)) b (.lit (.int 1))))):=by
 refine PI.imp (Iq J (I.blt _ (by simp[zm])) (zA M yj (zd B)) (zd B)) λo H R h=>?_;obtain⟨as,A,m,S,G,P⟩:=h;have N:bK X.K as H R ((ae cl b A m).bind λy m2=>fq (.int 0) y (.int 1) m2):=P;refine⟨as,A,m,S,G,bK.bind N λw m1 O l v g Q U E=>?_⟩;cases w with
 |int j=>
  obtain rfl:=aa.mp U;obtain⟨⟨_,_,Y,u⟩,q⟩:=Af Q E;refine⟨j,rfl,Y,u,?_⟩;simpa using q
 |_=>exact E.elim
def FT (O:bL C X cl d)(Q:X.env.scope.names.lookup ("range":Str)=some .globalImplicit)(M:zi x=true)(B:zi y=true)(U:PE X x (aF X.K (ae cl a)))(E:PE X y (aF X.K (ae cl b))):
  PI X t (.Call (.Name "range" p) [x,y] [] pos) (eZ X.K (ae cl (.rng a b (.lit (.int 1))))):=by
 refine PI.imp (Ip Q (O.blt _ (by simp[zm])) (zA U (zA E yj (zd B)) (zd M)) (by rw[zd M,zd B];rfl) (zd B)) λn H R h=>?_;obtain⟨as,A,m,S,G,P⟩:=h;have Y:bK X.K as H R ((ae cl a A m).bind λx m1=>(ae cl b A m1).bind λy m2=>fq x y (.int 1) m2):=P;refine⟨as,A,m,S,G,bK.bind Y λw m1 I H1 v z o l g=>?_⟩;refine⟨I,A,m1,o,G.mono S z,bK.bind g λN m2 f H2 u T2 e R2 J=>?_⟩;cases w with
 |int i=>
  cases N with
  |int j=>
   obtain rfl:=aa.mp l;obtain rfl:=aa.mp R2;obtain⟨E,q⟩:=Af e J;exact⟨i,j,rfl,E,q⟩
  |_=>exact J.elim
 |_=>cases N<;>exact J.elim
end
end Mini
namespace L2
open PySem PySem.Spec PyProof.Rows
section
variable{X:Cx}{pins:O0}{σ:St}{H:Hp}{s:Shared}{h':LY}
def rh {ch:O9}(I:Inv X pins σ H s)(G:∀b∈ch,kn X pins H b)(k:∀b o,b∉ch->s.heap.get? b=some o->h'.get? b=some o)(J:s.heap.objs.size<=T)(M:xs.length<=sizeLine)(N:az xs its)(O:IsTup h' T its.toArray):Inv X pins σ (aG H T (.T xs)) {s with heap:=h',toks:=t' }:=by
 have Q:H T=none:=I.hok.fresh J;have B:∀b u,H b=some u->b∉ch:=λb u e z=>by rw[(G b z).1]at e;cases e
 have up:∀b u,H b=some u->aG H T (.T xs) b=some u:=λb u e=>by rw[ze (zo e Q)];exact e
 refine I.step (g':=s.gens) (d':=s.drawn) (ch:=ch) (λb E=>?_) (λb o _ _ A e _=>k b o A e) (λb o _ _ A e _=>⟨o.slots,k b o A e⟩) (λb o A e n=>?_)
  (λb o A e=>⟨o,k b o A e⟩) (λb _ e=>up b _ e) (λb _ _ e=>up b _ e) (λb l e=>⟨#[],by rw[up b _ e];simp⟩) (λm U=>?_) (λb u e=>?_) I.bare
 .obtain ⟨f0,f1,f2,f3,f4,f5⟩:=G b E;exact⟨f3,f1,f4,f5⟩
 .rw[ze (Qu (Qj (Qe e) J))];exact n
 .obtain ⟨o,Y,j,d,r⟩:=U;exact⟨o,Y,j,k _ o (λz=>(G _ z).2.1 rfl) d,r⟩
 .by_cases E:b=T
  .subst E;rw[zf]at e;cases e;exact⟨M,its,N,O⟩
  .rw[ze E]at e;refine(I.hok b u e).stay (λc v A q=>k c v ?_ q) (λc q=>up c _ q) λc _ q=>up c _ q;rcases A with z|z
   .rw[z];exact B b u e
   .exact B c _ z
def Inv.turnedL{t':Nat}{ch:O9}(I:Inv X pins σ H s)(E:∀b∈ch,kn X pins H b)(k:∀b o,b∉ch->s.heap.get? b=some o->h'.get? b=some o):Inv X pins σ H {s with heap:=h',toks:=t' }:=by
 have B:∀b u,H b=some u->b∉ch:=λb u e z=>by rw[(E b z).1]at e;cases e
 refine I.step (g':=s.gens) (d':=s.drawn) (ch:=ch) (λb G=>?_) (λb o _ _ A e _=>k b o A e) (λb o _ _ A e _=>⟨o.slots,k b o A e⟩) (λb o A e n=>n)
  (λb o A e=>⟨o,k b o A e⟩) (λb _ e=>e) (λb _ _ e=>e) (λb Q e=>⟨#[],by rw[e];simp⟩) (λm J=>?_) (λb u e=>?_) I.bare
 .obtain ⟨f0,f1,f2,f3,f4,f5⟩:=E b G;exact⟨f3,f1,f4,f5⟩
 .obtain ⟨o,M,N,O,r⟩:=J;exact⟨o,M,N,k _ o (λz=>(E _ z).2.1 rfl) O,r⟩
 .refine (I.hok b u e).stay (λc v A q=>k c v ?_ q) (λc q=>q) λc _ q=>q;rcases A with z|z
  .rw[z];exact B b u e
  .exact B c _ z
end
noncomputable def Yp(H:Hp)(v:V)(A:Hp)(x y:V):Prop:=∃T,H T=none/\v=.ref T/\A=aG H T (.T [x,y])
noncomputable def pV(K:Qb)(l1 l2:Addr):It:=
 ⟨λi H=>∃A B x y,bb K H l1 A/\bb K H l2 B/\A[i]?=some x/\B[i]?=some y,
  λi H v E=>∃x y,Yp H v E x y/\(∀A,bb K H l1 A->A[i]?=some x)/\∀B,bb K H l2 B->B[i]?=some y,
  λi H=>∃A B,bb K H l1 A/\bb K H l2 B/\(A.length<=i\/B.length<=i)⟩
noncomputable def pX(K:Qb)(c:Nat)(l:Addr):It:=
 ⟨λi H=>∃A x,bb K H l A/\A[i]?=some x,
  λi H v B=>∃x,Yp H v B (.int ((i+c:Nat):Int)) x/\∀A,bb K H l A->A[i]?=some x,
  λi H=>∃A,bb K H l A/\A.length<=i⟩
def Ix (J:A.handled=none)(it l:Addr)(H:l≠it)(items:O4)(c:Nat):
  Draws prog w A it [it,l] (items.size+c) (λi x=>∃j,i=j+c/\items[j]?=some x) (λi h=>∃j,i=j+c/\h.IsListIter it l j/\h.IsList l items):=by
 have D:=Draws.list (prog:=prog) (w:=w) J it l H items;refine⟨λi h st=>?_,λi h I st k=>?_,λi s Q E o st M=>?_,λs Q E st N=>?_⟩
 .obtain ⟨j,_,B,G⟩:=st;exact D.live j h ⟨B,G⟩
 .obtain ⟨j,e,B,G⟩:=st;obtain⟨O,U⟩:=D.frame j h I ⟨B,G⟩ k;exact⟨j,e,O,U⟩
 .obtain ⟨j,rfl,B,G⟩:=st;refine D.item j s Q E (by lia) ⟨B,G⟩ λx I Y p q u=>M x I Y ⟨j,rfl,p⟩ ⟨j+1,by lia,q.1,q.2⟩ u
 .obtain ⟨j,e,B,G⟩:=st;have z:j=items.size:=by lia
  subst z;exact D.done s Q E ⟨B,G⟩ N
def GK (B:A.handled=none)(it l:Addr)(items:O4)(G:items[i]?=none):
  Draws prog w A it [it,l] 0 (λ_ _=>True) (λk h=>k=0/\h.IsListIter it l i/\h.IsList l items):=by
 refine⟨λk h st=>?_,λk h M st q=>?_,λk s Q E H st N=>N2 H (Nat.not_lt_zero _),λs Q E st I=>?_⟩
 .obtain ⟨o,J,_⟩:=st.2.1;exact⟨o,J⟩
 .exact ⟨st.1,st.2.1.at λo e=>q it (by simp) o e,st.2.2.at λo e=>q l (by simp) o e⟩
 .exact wpAny_nextOf_list_end B st.2.1 st.2.2 G I
def GJ {K:Qb}(z TI TO U i2 l1 l2:Addr)(D:ZipApart z TI TO U i2 l1 l2):
  cN P w K (.Tuple elts k pt) (pV K l1 l2) [z,TI,TO,U,i2] z (λi h=>IsZip h z TI TO .none/\IsPair h TI (.ref U) (.ref i2)/\(∃a b,IsPair h TO a b)/\h.IsListIter U l1 i/\h.IsListIter i2 l2 i) where
 mem:=by simp
 obj:=λi h st b B=>by
  obtain⟨M,A,⟨a,c,G⟩,⟨o1,e1,c1,d1⟩,o2,e2,c2,d2⟩:=st;simp only[Qn,Wi,or_false]at B;rcases B with rfl|rfl|rfl|rfl|rfl
  .exact ⟨_,M,λv z=>by cases z⟩
  .exact ⟨_,A,λv z=>by cases z⟩
  .exact ⟨_,G,λv z=>by cases z⟩
  .exact ⟨_,e1,λv z=>by rw[d1]at z;cases z⟩
  .exact ⟨_,e2,λv z=>by rw[d2]at z;cases z⟩
 keep:=λi h h' st k=>by
  obtain⟨M,A,⟨a,c,G⟩,d,l⟩:=st;exact⟨k z (by simp) _ M,k TI (by simp) _ A,⟨a,c,k TO (by simp) _ G⟩,d.at λo e=>k U (by simp) o e,l.at λo e=>k i2 (by simp) o e⟩
 item:=by
  intro X hP hw hK hc i Q s σ H E I m st hg;subst hP hw hK;obtain⟨xs,ys,x,y,N,O,hx,hy⟩:=hg;obtain⟨g,Y,p1,_⟩:=I.list N;obtain⟨f,j,p2,_⟩:=I.list O;obtain⟨u,hu,ru⟩:=Y.get hx;obtain⟨v,hv,rv⟩:=j.get hy;obtain⟨M,A,⟨a,b,G⟩,d,l⟩:=st;refine wpAny_pyNext_zip_item D M A G d l p1.isList p2.isList (x:=u) (y:=v) (by simpa using hu) (by simpa using hv) λh' a1 a2 a3 a4 a5 a6 n=>?_;refine⟨_,rfl,wpAny_letOwnedTupleGo_zip (s:={s with heap:=h' }) a1 λt hz' J=>?_⟩;have sT:z<s.heap.objs.size:=Qe M;have kk:∀b o,b∉[z,TI,TO,U,i2]->s.heap.get? b=some o->t.get? b=some o:=λb o B e=>
   (J.2 b λq=>B (by simp[q])).trans (n b o (λq=>B (by simp[q])) (λq=>B (by simp[q])) (λq=>B (by simp[q])) (λq=>B (by simp[q])) e)
  refine⟨.ref s.heap.objs.size,aG H s.heap.objs.size (.T [x,y]),?_,rfl,⟨x,y,⟨_,I.hok.fresh (Qk _),rfl,rfl⟩,λzs M=>by rw[I.list_inj M N];exact hx,λzs M=>by rw[I.list_inj M O];exact hy⟩,?_,?_⟩
  .have I1:Inv X Q σ (aG H s.heap.objs.size (.T [x,y])) {s with heap:=t,toks:=s.toks}:=rh (s:=s) (its:=[u,v]) I m kk (Qk _) (show(2:Nat)<=sizeLine by decide) (.cons ru (.cons rv .nil)) ⟨_,(J.2 _ (WD sT)).trans a5,rfl,_,rfl⟩;exact I1
  .refine ⟨hz',?_,⟨u,v,?_⟩,?_,?_⟩
   .exact (J.2 TI D.TIz).trans (n TI _ D.TIz D.TITO D.TIi1 D.TIi2 A)
   .exact (J.2 TO D.TOz).trans a2
   .exact a3.at λo e=>(J.2 U D.i1z).trans e
   .exact a4.at λo e=>(J.2 i2 D.i2z).trans e
  .intro b B;have hlt:b<s.heap.objs.size:=by
    simp only[Qn,Wi,or_false]at B;obtain⟨_,e1,_⟩:=d;obtain⟨_,e2,_⟩:=l;rcases B with rfl|rfl|rfl|rfl|rfl
    .exact sT
    .exact Qe A
    .exact Qe G
    .exact Qe e1
    .exact Qe e2
   rw[ze (Qu hlt)];exact(m b B).1
 done:=by
  intro X hP hw hK hc i Q s σ H E I m st hg;subst hP hw hK;obtain⟨xs,ys,N,O,hx⟩:=hg;obtain⟨g,Y,p1,_⟩:=I.list N;obtain⟨f,j,p2,_⟩:=I.list O;obtain⟨M,A,⟨a,b,G⟩,d,l⟩:=st;have l1:=Y.length;have l2:=j.length;refine wpAny_pyNext_zip_end (I.ok.hd hc) D M A G d l p1.isList p2.isList ?_ λh' n=>⟨rfl,?_⟩
  .rcases hx with hx|hx
   .exact .inl (by simp;lia)
   .exact .inr (by simp;lia)
  .exact I.turnedL (t':=s.toks) m λb o B e=>n b o (λq=>B (by simp[q])) (λq=>B (by simp[q])) (λq=>B (by simp[q])) (λq=>B (by simp[q])) e
 self:=λ_ _ _ _ _ st h=>wpAny_pyIter_zip st.1 h
def Iw {K:Qb}(c:Nat)(e it l:Addr)(Q:e≠it)(n:l≠e)(a:l≠it):
  cN P w K (.Tuple elts k pt) (pX K c l) [e,it] e (λi h=>(∃G,IsEnum h e it ((i+c:Nat):Int) G)/\h.IsListIter it l i) where
 mem:=by simp
 obj:=λi h st b J=>by
  obtain⟨⟨G,M⟩,o1,y,c1,d1⟩:=st;simp only[Qn,Wi,or_false]at J;rcases J with rfl|rfl
  .exact ⟨_,M,λv z=>by cases z⟩
  .exact ⟨_,y,λv z=>by rw[d1]at z;cases z⟩
 keep:=λi h h' st k=>by
  obtain⟨⟨G,M⟩,d⟩:=st;exact⟨⟨G,k e (by simp) _ M⟩,d.at λo q=>k it (by simp) o q⟩
 item:=by
  intro X hP hw hK hc i O s σ H E I t st hg;subst hP hw hK;obtain⟨xs,x,N,hx⟩:=hg;obtain⟨B,U,p1,_⟩:=I.list N;obtain⟨u,hu,ru⟩:=U.get hx;obtain⟨⟨G,M⟩,d⟩:=st;have hil:i<B.length:=(Qa.mp hu).1;have D:=Ix (prog:=X.prog) (w:=X.w) (A:=X.A.in1) (I.ok.hd hc) it l a B.toArray c;refine wpAny_pyNext_enum_itemD D M ⟨i,rfl,d,p1.isList⟩ (by simp;lia) Q (by simp[Q,Ne.symm n]) λm h' tk px a1 st' a3 a4 hk=>?_;obtain⟨j,ej,hj⟩:=px;have g:i=j:=by lia
  subst g;have hxu:m=u:=by
   have:B[i]?=some m:=by simpa using hj
   rw[hu]at this;cases this;rfl
  subst hxu;obtain⟨j',g,a2,_⟩:=st';have e2:j'=i+1:=by lia
  subst e2;refine⟨_,rfl,wpAny_letOwnedTupleGo_enum (s:={s with heap:=h',toks:=tk+1}) a1 λf he' Y=>?_⟩;have sT:e<s.heap.objs.size:=Qe M;have kk:∀b o,b∉[e,it]->s.heap.get? b=some o->f.get? b=some o:=λb o J q=>
   (Y.2 b λz=>J (by simp[z])).trans (hk b o (λz=>J (by simp[z])) (λz=>J (by simp[z])) q)
  refine⟨.ref s.heap.objs.size,aG H s.heap.objs.size (.T [.int ((i+c:Nat):Int),x]),?_,rfl,⟨x,⟨_,I.hok.fresh (Qk _),rfl,rfl⟩,λzs hz=>by rw[I.list_inj hz N];exact hx⟩,?_,?_⟩
  .have I1:Inv X O σ (aG H s.heap.objs.size (.T [.int ((i+c:Nat):Int),x])) {s with heap:=f,toks:=tk+1}:=rh (s:=s) (its:=[.int ((i+c:Nat):Int) tk,m]) I t kk (Qk _) (show(2:Nat)<=sizeLine by decide) (.cons ⟨_,rfl⟩ (.cons ru .nil)) ⟨_,(Y.2 _ (WD sT)).trans a3,rfl,_,rfl⟩;exact I1
  .refine ⟨⟨m,?_⟩,a2.at λo q=>(Y.2 it Q.symm).trans q⟩;have:((i+1+c:Nat):Int)=((i+c:Nat):Int)+1:=by lia
   rw[this];exact he'
  .intro b J;have hlt:b<s.heap.objs.size:=by
    simp only[Qn,Wi,or_false]at J;obtain⟨_,y,_⟩:=d;rcases J with rfl|rfl
    .exact sT
    .exact Qe y
   rw[ze (Qu hlt)];exact(t b J).1
 done:=by
  intro X hP hw hK hc i O s σ H E I t st hg;subst hP hw hK;obtain⟨xs,N,hx⟩:=hg;obtain⟨B,U,p1,_⟩:=I.list N;obtain⟨⟨G,M⟩,d⟩:=st;have l1:=U.length;have D:=GK (prog:=X.prog) (w:=X.w) (A:=X.A.in1) (I.ok.hd hc) it l B.toArray (i:=i) (by simp;lia);refine wpAny_pyNext_enum_endD D M ⟨rfl,d,p1.isList⟩ λh' hk=>⟨rfl,?_⟩;exact I.turnedL (t':=s.toks) t λb o J q=>hk b o (λz=>J (by simp[z])) q
 self:=λ_ _ _ _ _ st h=>by
  obtain⟨⟨G,M⟩,_⟩:=st;exact wpAny_pyIter_enum M h
section
variable{X:Cx}{elts:P6}{k:Nat}{pt:Pos}
noncomputable def rQ(K:Qb)(G:TA):TI:=λI H R=>G I H λJ A=>∃B E M N,J=[.ref B,.ref E]/\bb K A B M/\bb K A E N/\R (pV K B E) A
noncomputable def lU(K:Qb)(c:Nat)(B:TA):TI:=λE H R=>B E H λG A=>∃l I,G=[.ref l]/\bb K A l I/\R (pX K c l) A
def tw (t:Gl X "zip")(m:X.mg "zip"=none)(n:PA X [a,b] i)(w:L8 [a,b] X.env=[(false,eval a X.env),(false,eval b X.env)]:=by rfl)(B:L8 [b] X.env=[(false,eval b X.env)]:=by rfl):
  PI X (.Tuple elts k pt) (.Call (.Name "zip" p) [a,b] [] pos) (rQ X.K i):=by
 intro E s y H R I h;refine Call_ (wK I t m PyProof.Rows.boot_zip (PyProof.Rows.callWith_type1 (aT (n pos E s y H _ I h) λus A ⟨vs,H1,G,r1,q1⟩=>?_) (by rw[w,B]) (by rw[B];rfl)));obtain⟨Y,j,xs,ys,e,g1,g2,q⟩:=q1;subst e;cases r1 with
 |cons r M=>
  cases M with
  |cons r' M=>
   cases M;cases r;cases r';obtain⟨u,rv1,z,_⟩:=G.list g1;obtain⟨d,rv2,l,_⟩:=G.list g2;have t1:Y<A.heap.objs.size:=by obtain⟨o,e,_⟩:=z.isList;exact Qe e
   have t2:j<A.heap.objs.size:=by obtain⟨o,e,_⟩:=l.isList;exact Qe e
   refine call_zip_2 z.isList l.isList λh' g N O Q U hsz hk=>?_;refine wpAny_pyIter_zip (s:={A with heap:=h' }) g ?_;refine⟨_,_,_,_,H1,rfl,G.kept (t':=A.toks) hk,GJ (A.heap.objs.size+4) (A.heap.objs.size+2) (A.heap.objs.size+3) A.heap.objs.size (A.heap.objs.size+1) Y j ?_,⟨g,N,⟨_,_,O⟩,Q,U⟩,λb f=>?_,q⟩
   .exact zipApart_new t1 t2
   .have J:A.heap.objs.size<=b:=by
     simp only[Qn,Wi,or_false]at f;rcases f with rfl|rfl|rfl|rfl|rfl
     .exact Wt _ _
     .exact Wt _ _
     .exact Wt _ _
     .exact Qk _
     .exact Wt _ _
    exact G.fpOk J (G.hok.fresh J)
def kF (U:Gl X "enumerate")(Y:X.mg "enumerate"=none)(j:PA X [a] u)(z:L8 [a] X.env=[(false,eval a X.env)]:=by rfl):
  PI X (.Tuple elts k pt) (.Call (.Name "enumerate" p) [a] [] pos) (lU X.K 0 u):=by
 intro B s d H R I h;refine Call_ (wK I U Y PyProof.Rows.boot_enumerate (PyProof.Rows.callWith_type1 (aT (j pos B s d H _ I h) λus A ⟨vs,g,G,f,t⟩=>?_) z rfl));obtain⟨l,xs,e,m,q⟩:=t;subst e;cases f with
 |cons r n=>
  cases n;cases r;obtain⟨J,i,M,_⟩:=G.list m;have N:l<A.heap.objs.size:=by obtain⟨o,e,_⟩:=M.isList;exact Qe e
  refine call_enumerate_list M.isList λw O y hsz hk=>?_;refine wpAny_pyIter_enum (s:={A with heap:=w }) O ?_;refine⟨_,_,_,_,g,rfl,G.kept (t':=A.toks) hk,Iw 0 (A.heap.objs.size+1) A.heap.objs.size l (Nat.succ_ne_self _) (Qu (Wk N)) (Qu N),⟨⟨_,O⟩,y⟩,λb Q=>?_,q⟩;have E:A.heap.objs.size<=b:=by
   simp only[Qn,Wi,or_false]at Q;rcases Q with rfl|rfl
   .exact Wt _ _
   .exact Qk _
  exact G.fpOk E (G.hok.fresh E)
end
end L2
namespace L2
open PySem PySem.Spec PyProof.Rows
open AutoSeq1 (wpAny_loadPart')
end L2
namespace L2
open PySem PySem.Spec PyProof.Rows
section
variable{prog:LU}{w:LV}{A:L3}{E:N7}{s:Shared}{it d:Addr}{i n:Nat}{od:Obj}{es:Array DictEntry}
def sK {R:O3->Shared->Prop}{G:H->Shared->Prop}(quiet:A.handled=none)(go:s.heap.get? it=some o)(I:o.data=.fields fs)(J:k<fs.size)(B:∀h',Heap.ExtBut it s.heap h'->R none {s with heap:=h' }):
  L5 (L6 prog w) A.in1 (do setField (.ref it) k .none;let e <-newExc (.type "StopIteration") [];raiseNew e:Sem H) G
   (λe s'=>L5 (L6 prog w) A (do let b <-isInstance e (.type "StopIteration");if b=true then pure none else throw e) R E s') s:=by
 apply Mj;apply NS go I J;apply Mj;simp only[newExc,newTuple];refine Mj (M8 (Mj (m:=firstArgMember _ _) (wpAny_of_eq (a:=Value.none) (by first|rfl|(simp only[firstArgMember];rfl)) (M8 ?_ (by size_fits)))) (by size_fits));simp only[raiseNew];apply Mj;apply wpAny_handled;rw[show A.in1.handled=none from quiet];apply wpAny_throw;apply Mj;refine wpAny_isInstance (T:="StopIteration") (b:=true) ⟨_,Qh _ rfl,rfl⟩ isSubtype_stop ?_;exact Mp (B _ (((We.update ..).extBut.push _).push _))
def sJ (B:(d==LZ)=false)(g:s.heap.get? d=some od)(ex:od.ExactDict)(G:od.data=.dict es n)(sz:es.size=n)(H:R (.ref s.heap.objs.size) {s with heap:=s.heap.push {cls:=.type "dict_keyiterator",data:=.fields #[.ref d,.int 0 0,.int n 0,.int n 0]} }):L5 (L6 prog w) A (pyIter (.ref d)) R E s:=by
 have I:s.TypeIs (.ref d) "dict":=⟨od,g,ex.1⟩;apply wpAny_pyIter_slot I F.slot_dict_iter;refine Nf F.slot_dict_iter I F.entry_dict_iter ?_ (F.args_dict_iter_1 _);unfold Builtin.«dict.__iter__» Builtin.Dict.dictSlotNone;apply Mj;apply Mj;apply Ng I;apply Mp (a:=Value.ref d);apply Mj (m:=Builtin.Dict.showsAll d);unfold Builtin.Dict.showsAll;rw[B];apply Mp;apply Mj;apply Nl g G;apply Mj;apply Nm g G;apply Mj;refine M8 (Mp ⟨_,rfl,"dict_keyiterator",_,⟨_,Qh _ rfl,rfl⟩,F.slot_dict_keyiterator_next.lookup,?_⟩);rw[sz];exact H
def sI (B:s.heap.IsKeyIter it d i n n)(g:s.heap.get? d=some od)(G:od.data=.dict es n)(sz:es.size=n)(Q:i<n)(H:∀h',h'.IsKeyIter it d (i+1) n n->We it s.heap h'->R (some (es[i]'(by lia)).key) {s with heap:=h' }):L5 (L6 prog w) A (Mn (.ref it)) R E s:=by
 obtain⟨o,go,O,J⟩:=id B;have I:=B.typeIs;unfold Mn;apply Mj;apply NF;apply Nc I F.slot_dict_keyiterator_next;refine Nf F.slot_dict_keyiterator_next I F.entry_dict_keyiterator_next ?_ (F.args_dict_keyiterator_next_1 _);refine Mj (Mp (Mj (Mj (Mj (NT I (Mp ?_))))));refine Mj (NU go J ?_);have no:Builtin.Dict_items.ownsTuple "dict_keyiterator"=false:=by decide
 simp only[no,QL,if_false];change L5 _ _ (ite ((Value.ref d==Value.none)=true) _ _) _ _ s;rw[show(Value.ref d==Value.none)=false from rfl,N1 QQ];refine Mj (Mp (Mj (Nl g G ?_)));rw[sz,N1 (by simp)];refine Mj (Mp (Mj (Nm g G ?_)));rw[N1 (by simp)];apply Mp;have M:i<es.size:=by lia
 simp only[show ¬(i:Int)<0 from by lia,if_false,W2,WW M];refine Mj (Mj (NT I (Mp (Mj (NV I ?_)))));apply Mj (m:=setField (.ref it) 1 (Mq ((i:Int)+1)));apply NS go J (by simp);have N:(s.heap.update it (Obj.mapFields (·.setIfInBounds 1 (Mq ((i:Int)+1))))).IsKeyIter it d (i+1) n n:=by
  refine⟨_,Wy _ go (Obj.isFreed_of_fields (Obj.data_mapFields J _)),by rw[Obj.cls_mapFields];exact O,?_⟩;rw[Obj.data_mapFields J];simp[Mq]
 refine Mj (Mk (Mj (NV N.typeIs ?_)));exact Mp (Mp ⟨_,rfl,Mp (H _ N (We.update ..))⟩)
def sH (quiet:A.handled=none)(B:s.heap.IsKeyIter it d i n n)(g:s.heap.get? d=some od)(G:od.data=.dict es n)(sz:es.size=n)(M:n<=i)(H:∀h',Heap.ExtBut it s.heap h'->R none {s with heap:=h' }):L5 (L6 prog w) A (Mn (.ref it)) R E s:=by
 obtain⟨o,go,N,J⟩:=id B;have I:=B.typeIs;unfold Mn;apply Mj;apply NF;apply Nc I F.slot_dict_keyiterator_next;refine Nf F.slot_dict_keyiterator_next I F.entry_dict_keyiterator_next ?_ (F.args_dict_keyiterator_next_1 _);refine Mj (Mp (Mj (Mj (Mj (NT I (Mp ?_))))));refine Mj (NU go J ?_);have no:Builtin.Dict_items.ownsTuple "dict_keyiterator"=false:=by decide
 simp only[no,QL,if_false];change L5 _ _ (ite ((Value.ref d==Value.none)=true) _ _) _ _ s;rw[show(Value.ref d==Value.none)=false from rfl,N1 QQ];refine Mj (Mp (Mj (Nl g G ?_)));rw[sz,N1 (by simp)];refine Mj (Mp (Mj (Nm g G ?_)));rw[N1 (by simp)];apply Mp;simp only[show ¬(i:Int)<0 from by lia,if_false,W2,W8 (show es.size<=i by lia)];refine Mj (Mj (NT I (Mp ?_)));exact sK quiet go J (by rw[no];exact Nat.zero_lt_succ 3) H
end
section
variable{X:Cx}{pins:O0}{σ:St}{H:Hp}{s:Shared}
def ye (I:Inv X pins σ H s)(h:yn X.K H d xs):(d==LZ)=false/\∃o A,s.heap.get? d=some o/\o.ExactDict/\o.data=.dict A xs.length/\A.size=xs.length/\∀(i:Nat) (x:TK),xs[i]?=some x->A[i]?=some (kS x):=by
 obtain⟨⟨E,o,A,G,J,M,B,O⟩,_,_⟩:=I.hok d _ h.1;refine⟨E,o,A,G,J,M,by rw[<-Wl,B,Qs],λi x N=>?_⟩;rw[<-Q5,B,Qm,N];rfl
noncomputable def BV(K:Qb)(d:Addr)(n:Nat):It:=
 ⟨λi H=>∃A,yn K H d A/\A.length=n/\i<n,λi H x B=>B=H/\∀A,yn K H d A->∃k,A[i]?=some k/\x=.ref k.2.1,λi H=>∃A,yn K H d A/\A.length=n/\n<=i⟩
def IJ {K:Qb}(it:Addr):cN P w K tg (BV K d n) [it] it (λi h=>h.IsKeyIter it d i n n) where
 mem:=by simp
 obj:=λi h st b J=>by
  have e:b=it:=by simpa using J
  subst e;obtain⟨o,e,c,d⟩:=st;exact⟨o,e,λv z=>by rw[d]at z;cases z⟩
 keep:=λi h O st k=>by
  obtain⟨o,e,r⟩:=st;exact⟨o,k it (by simp) o e,r⟩
 item:=by
  intro X Y j u y i pins s σ H E I Q st l;subst Y j u;obtain⟨U,f,t,m⟩:=l;obtain⟨_,od,es,g,ex,A,sz,B⟩:=ye I f;obtain⟨f0,f1,f2,f3,f4,f5⟩:=Q it (by simp);have hx:i<U.length:=by lia
  have a:=B i _ (Ql hx);subst t;refine sI st g A sz m λO N sb=>?_;have I1:Inv X pins σ H {s with heap:=O }:=I.turned (t':=s.toks) (λb o J e=>(sb.2 b J).trans e) f0 f1 f3 f4 f5;obtain⟨o,e,c,dd⟩:=id N;have hk:(es[i]'(by lia)).key=.ref U[i].2.1:=by
   rw[WW (by lia)]at a;rw[Option.some.inj a];rfl
  rw[hk];refine⟨_,rfl,qz (s:={s with heap:=O }) e c dd (by decide) ⟨.ref U[i].2.1,H,I1,rfl,⟨rfl,λys ty=>?_⟩,N,λb J=>(Q b J).1⟩⟩;obtain⟨_,od',es',g',_,G,sz',M⟩:=ye I ty;rw[g]at g';cases g';rw[A]at G;injection G with d1 d2
  subst d1;have hy:i<ys.length:=by lia
  have e3:=M i _ (Ql hy);rw[a]at e3;refine⟨ys[i],Ql hy,?_⟩;have e4:=NY DictEntry.key (Option.some.inj e3);exact NY V.ref (Value.ref.inj e4)
 done:=by
  intro X Y j u y i pins s σ H E I Q st l;subst Y j u;obtain⟨U,f,t,m⟩:=l;obtain⟨_,od,es,g,ex,A,sz,B⟩:=ye I f;obtain⟨f0,f1,f2,f3,f4,f5⟩:=Q it (by simp);subst t;exact sH (I.ok.hd y) st g A sz m λO eb=>⟨rfl,I.turned (t':=s.toks) (λb o J e=>eb b o J e) f0 f1 f3 f4 f5⟩
 self:=λ_ _ _ _ _ st h=>NR st h
noncomputable def Ba(X:Cx)(E:TE):TI:=λσ H R=>E σ H λx A=>∃d B,x=.ref d/\yn X.K A d B/\R (BV X.K d B.length) A
def GI (hl:PE X l J):PI X j l (Ba X J):=by
 intro pins s σ H R I h;refine aT (hl pins s σ H _ I h) λv B ⟨x,M,E,N,O⟩=>?_;obtain⟨d,u,e,Q,q⟩:=O;subst e;cases N;obtain⟨A,z,f,g,U,G,sz,_⟩:=ye E Q;refine sJ A g U G sz ?_;refine⟨B.heap.objs.size,[B.heap.objs.size],_,_,M,rfl,E.kept (t':=B.toks) λb o e=>Qc _ e,IJ _,⟨_,Qh _ rfl,rfl,rfl⟩,λb Y=>?_,q⟩;have e:b=B.heap.objs.size:=by simpa using Y
 subst e;exact E.fpOk (Qk _) (E.hok.fresh (Qk _))
end
end L2
namespace Mini
open PySem PySem.Spec PyProof.Rows L2
section
variable{cl:N6}{K:Qb}
def aJ.updD{as:O9}{m:Me}{H:Hp}{D:Addr}{ys:S6}{o:HO}(S:aJ K as m H)(A:H D=some (.L ys))(I:D∉as):aJ K as m (aG H D o):=by
 refine⟨S.len,S.nd,λl b B E J=>?_⟩;have q:=S.obj l b B E J;have G:b≠D:=by rintro rfl;exact I (Qo E)
 cases B with
 |L Q=>
  obtain⟨M,e,r⟩:=q;exact⟨M,by rw[ze G];exact e,r.kp (Kp.upd A)⟩
 |D N O=>exact a7.mono (ob:=.D N O) (Kp.upd A) (λ_ _ e=>e) (λo e=>by rw[ze G];exact e) q
def aJ.join{as:O9}{m:Me}{H:Hp}{D:Addr}{ys:S6}{acc:R7}(S:aJ K as m H)(G:H D=some (.L ys))(I:D∉as)(R:ab K as H acc ys):aJ K (as++[D]) (m++[.L acc]) H:=by
 have g:∀(l:Nat) (a:Addr),as[l]?=some a->(as++[D])[l]?=some a:=λl a e=>by
  rw[Qf (Qa.mp e).1];exact e
 have kp:Kp K H H:=⟨λ_ _ h=>h,λ_ _ h=>h⟩;refine⟨by simp[S.len],?_,λl b o A B=>?_⟩
 .refine Qw.mpr ⟨S.nd,by simp,λx J y M=>?_⟩;rw[QK.mp M];rintro rfl;exact I J
 .by_cases hl:l<as.length
  .rw[Qf hl]at A;rw[Qf (by rw[<-S.len];exact hl)]at B;have q:=S.obj l b o A B;cases o with
   |L Y=>
    obtain⟨N,e,r⟩:=q;exact⟨N,e,a8 kp g _ _ r⟩
   |D O Q=>exact a7.mono (ob:=.D O Q) kp g (λo e=>e) q
  .rw[Qd (by lia)]at A;rw[Qd (by rw[<-S.len];lia)]at B;have E:l-as.length=0:=by
    cases U:l-as.length with
    |zero=>rfl
    |succ k=>rw[U]at A;simp at A
   rw[E]at A;rw[<-S.len,E]at B;simp at A B;subst A;subst B;exact⟨ys,G,a8 kp g _ _ R⟩
def Step.updD{as A:O9}{H B:Hp}{D:Addr}{o:HO}(T:Step as H A B)(E:H D=none):Step as H A (aG B D o):=
 ⟨T.pre,λb G h I=>by rw[ze (zo h E)];exact T.frame b G h I,T.fresh⟩
def Step.join{as A:O9}{H B:Hp}{D:Addr}(T:Step as H A B)(E:H D=none):Step as H (A++[D]) B:=by
 refine⟨?_,T.frame,λa G=>?_⟩
 .obtain ⟨t,rfl⟩:=T.pre;exact⟨t++[D],by simp⟩
 .rcases QJ.mp G with z|z
  .exact T.fresh a z
  .rw[QK.mp z];exact .inr E
def xk (S:aJ K A m B)(T:Step as H A B)(E:H D=none)(G:B D=some (.L ys))(I:D∉A)(R:ab K A B acc ys)(h:am K as H Q (alloc m acc)):Q (.ref D) B:=by
 unfold Mini.alloc at h;split at h
 .refine h (A++[D]) B (.ref D) (T.join E) (S.join G I R) (aE.mpr ⟨D,?_,rfl⟩);rw[<-S.len,Qd (Qk _)];simp
 .exact h.elim
structure cj(K:Qb)(as:O9)(H:Hp)(D:Addr)(env:En)(σ:St)(as':O9)(m':Me)(acc:R7)(ys:S6)(H':Hp):Prop where
 T:Step as H as' H'
 S:aJ K as' m' H'
 hD:H' D=some (.L ys)
 n:D∉as'
 R:ab K as' H' acc ys
 G:aD K as' H' env σ
def cj.go{as:O9}{H:Hp}{D:Addr}{env:En}{σ:St}{B A:O9}{m' m2:Me}{acc:R7}{ys:S6}{G E:Hp}(M:cj K as H D env σ B m' acc ys G)(U:Step B G A E)(I:aJ K A m2 E):cj K as H D env σ A m2 acc ys E:=
 ⟨M.T.trans U,I,U.frame _ _ M.hD M.n,U.out M.hD M.n,M.R.mono M.S U,M.G.mono M.S U⟩
def cj.push{as:O9}{H:Hp}{D:Addr}{env:En}{σ:St}{A:O9}{m':Me}{acc:R7}{ys:S6}{B:Hp}{w:Wd}{v:V}(M:cj K as H D env σ A m' acc ys B)(E:H D=none)(R:ai K A B w v):
  cj K as H D env σ A m' (acc++[w]) (ys++[v]) (aG B D (.L (ys++[v]))):=by
 have kp:Kp K B (aG B D (.L (ys++[v]))):=Kp.upd M.hD;exact⟨M.T.updD E,M.S.updD M.hD M.n,zf,M.n,(M.R.append (.one R)).kp kp,M.G.kp kp⟩
set_option tactic.hygienic true in
def wv{elt cond:Ex}{tc:TT}(d:∀σ H Q,y6 K (ae cl cond) σ H Q->tc σ H Q){A E:O9}{U z:Hp}{D:Addr}{env ex:En}{σ sx:St}{m':Me}{acc:R7}{ys:S6}{Q:VK}{next:R7->Me->Rz}{N:S6->Hp->Prop}
  (h0:U D=none) (M:cj K A U D env σ E m' acc ys z) (G:aD K E z (env++ex) (σ++sx))
  (Pt:am K A U Q ((ae cl cond (env++ex) m').bind λb m1=>match b with
     |.bl true=>(ae cl elt (env++ex) m1).bind λy m2=>if acc.length<aA then next (acc++[y]) m2 else .no
     |.bl false=>next acc m1
     |_=>.no))
  (h:∀B m2 J j O,Kp K z O->(∀(l:Nat) (a:Addr),E[l]?=some a->B[l]?=some a)->cj K A U D env σ B m2 J j O->am K A U Q (next J m2)->N j O) :
  tc (σ++sx) z λb O=>if b=true then aF K (ae cl elt) (σ++sx) O λy u=>u D=some (.L ys)/\ys.length<sizeLine/\N (ys++[y]) (aG u D (.L (ys++[y])))else N ys O:=by
 refine d _ _ _ ⟨E,env++ex,m',M.S,G,eC Pt M.T λwb m2 B O vb Y g R2 f=>?_⟩;have t:=M.go Y g;cases wb with
 |bl k=>
  obtain rfl:=ag.mp R2;refine⟨k,rfl,?_⟩;cases k with
  |false=>exact qE (h B m2 acc ys O (M.S.kp Y) (λ_ _ e=>Y.get e) t f)
  |true=>
   refine qF ⟨B,env++ex,m2,g,G.mono M.S Y,eC f t.T λi m3 m u w n S3 R3 P3=>?_⟩;have o:=t.go n S3;have I:am K A U Q (if acc.length<aA then next (acc++[i]) m3 else .no):=P3;by_cases hl:acc.length<aA
   .rw[N0 hl]at I;refine⟨o.hD,by rw[<-o.R.length];exact Qj hl yx,h m m3 (acc++[i]) (ys++[w]) _ ?_ (λ_ _ e=>n.get (Y.get e)) (o.push h0 R3) I⟩;have k1:=M.S.kp Y;have k2:=g.kp n;have k3:Kp K u (aG u D (.L (ys++[w]))):=Kp.upd o.hD;exact⟨λa vs q=>k3.t _ _ (k2.t _ _ (k1.t _ _ q)),λa vs q=>k3.f _ _ (k2.f _ _ (k1.f _ _ q))⟩
   .rw[N1 hl]at I;exact I.elim
 |_=>exact f.elim
def cj.start{as A:O9}{H B:Hp}{D:Addr}{env:En}{σ:St}{m1:Me}(E:aJ K A m1 B)(I:aD K A B env σ)(G:B D=none):cj K A B D env σ A m1 [] [] (aG B D (.L [])):=by
 have T:Step A B A (aG B D (.L [])):=Step.updD .refl G;exact⟨T,E.keep T λb _ o e=>by rw[ze (zo e G)];exact e,zf,E.new G,aq.mpr rfl,I.mono E T⟩
noncomputable def gT(K:Qb)(as:O9)(H:Hp)(J:It)(g:Nat->Me->Option (Option (Wd×Wd))):Prop:=
 ∀(A:O9) (G:Me) (B:Hp),(∀(l:Nat) (a:Addr),as[l]?=some a->A[l]?=some a)->Step as H A B->aJ K A G B->∀i,
  (g i G=some none->J.stop i B)/\∀x y,g i G=some (some (x,y))->J.go i B/\∀v E,J.yld i B v E->∃I M,Yp B v E I M/\ai K A B x I/\ai K A B y M
def jj {cond:Ex}{tc:TT}(d:∀σ H Q,y6 K (ae cl cond) σ H Q->tc σ H Q)(hJ:gT K A I J g)(S1:aJ K A m1 I)(G1:aD K A I env σ)(P:am K A I Q (zI (λu v m=>ae cl cond (env++[some u]++[some v]) m) (λu v m=>ae cl elt (env++[some u]++[some v]) m) g (aA+1) 0 [] m1)):
  ∀D,I D=none->∃W:Nat->Nat->S6->Hp->Prop,(∃m,W 0 m [] (aG I D (.L [])))/\∀i m ys H,W i m ys H ->
   (J.stop i H/\Q (.ref D) H)\/(J.go i H/\∀v G,J.yld i H v G->∃vs,io K v G vs/\tc (σ++vs.map some) G λb O=>if b=true then aF K (ae cl elt) (σ++vs.map some) O λy w=>w D=some (.L ys)/\ys.length<sizeLine/\∃m',m'<m/\W (i+1) m' (ys++[y]) (aG w D (.L (ys++[y])))
    else ∃m',m'<m/\W (i+1) m' ys O):=by
 intro D f;refine⟨λi n ys G=>∃B m' E,(∀(l:Nat) (a:Addr),A[l]?=some a->B[l]?=some a)/\cj K A I D env σ B m' E ys G /\
  am K A I Q (zI (λu v m=>ae cl cond (env++[some u]++[some v]) m) (λu v m=>ae cl elt (env++[some u]++[some v]) m) g n i E m'),⟨aA+1,A,m1,[],λ_ _ e=>e,cj.start (as:=A) (H:=I) S1 G1 f,P⟩,?_⟩
 rintro i n ys G ⟨B,m',E,hl,M,Pi⟩;cases n with
 |zero=>exact Pi.elim
 |succ n=>
  unfold zI at Pi;obtain⟨q1,q2⟩:=hJ B m' G hl M.T M.S i;cases e:g i m' with
  |none=>rw[e]at Pi;exact Pi.elim
  |some o=>
   rw[e]at Pi;cases o with
   |none=>exact .inl ⟨q1 e,xk M.S M.T f M.hD M.n M.R Pi⟩
   |some p=>
    obtain⟨x,y⟩:=p;simp only[]at Pi;obtain⟨go,yl⟩:=q2 x y e;refine .inr ⟨go,λv t hy=>?_⟩;obtain⟨Y,j,⟨T,hT,rfl,rfl⟩,Rx,Ry⟩:=yl v t hy;refine⟨[Y,j],⟨T,rfl,bC.of zf,rfl⟩,?_⟩;have U:Step B G B (aG G T (.T [Y,j])):=Step.updD .refl hT;have S2:aJ K B m' (aG G T (.T [Y,j])):=M.S.keep U λb _ o e=>by rw[ze (zo e hT)];exact e
    have M2:=M.go U S2;have G2:aD K B (aG G T (.T [Y,j])) (env++[some x,some y]) (σ++[Y,j].map some):=by
     have:=(M2.G.push (Rx.mono M.S U)).push (Ry.mono M.S U);simpa using this
    refine wv d (ex:=[some x,some y]) (next:=λE m=>zI (λu v m=>ae cl cond (env++[some u]++[some v]) m) (λu v m=>ae cl elt (env++[some u]++[some v]) m) g n (i+1) E m)
     (N:=λzs O=>∃n',n'<n+1/\∃B m' E,(∀(l:Nat) (a:Addr),A[l]?=some a->B[l]?=some a)/\cj K A I D env σ B m' E zs O/\am K A I Q (zI (λu v m=>ae cl cond (env++[some u]++[some v]) m) (λu v m=>ae cl elt (env++[some u]++[some v]) m) g n' (i+1) E m')) f M2 G2 (by rw[show env++[some x]++[some y]=env++[some x,some y]from by simp]at Pi;exact Pi) ?_
    intro h m2 z ys' O kp gg M3 P3;exact⟨n,Wb _,h,m2,z,λl a e=>gg _ _ (hl l a e),M3,P3⟩
def uy (G:as[I]?=some l)(T:Step as H A E)(J:aJ K A m' E)(e:vH m' (.ref I)=some xs):∃vs,bb K E l vs/\ab K A E xs vs:=by
 obtain⟨Q,M,B,N,O⟩:=zL J (zy e);rw[T.get G]at B;cases B;exact⟨M,bb.of N,O⟩
def tu (S:aJ K as m H)(R:ai K as H w v)(e:vH m w=some xs):∃B l vs,w=.ref B/\v=.ref l/\as[B]?=some l/\bb K H l vs:=by
 cases w with
 |ref B=>
  obtain⟨l,E,rfl⟩:=aE.mp R;obtain⟨J,G,A,I,M⟩:=zL S (zy e);rw[E]at A;cases A;exact⟨B,l,G,rfl,rfl,E,bb.of I⟩
 |_=>cases e
def II (u:as[N]?=some l1)(o:as[O]?=some l2):gT K as H (pV K l1 l2) (zn .zip (.ref N) (.ref O)):=by
 intro d Q H' hl T S i;simp only[zn];cases l:vH Q (.ref N)with
 |none=>exact⟨λz=>by simp at z,λx y z=>by simp at z⟩
 |some g=>
  cases f:vH Q (.ref O)with
  |none=>exact⟨λz=>by simp at z,λx y z=>by simp at z⟩
  |some e=>
   obtain⟨G,I,U⟩:=uy u T S l;obtain⟨J,M,A⟩:=uy o T S f;simp only;cases Y:g[i]? with
   |none=>
    refine⟨λ_=>⟨G,J,I,M,.inl ?_⟩,λx y z=>by simp at z⟩;rw[<-U.length];exact QT.mp Y
   |some x=>
    cases j:e[i]? with
    |none=>
     refine⟨λ_=>⟨G,J,I,M,.inr ?_⟩,λx y z=>by simp at z⟩;rw[<-A.length];exact QT.mp j
    |some y=>
     refine⟨λz=>by simp at z,λx2 y2 z=>?_⟩;simp only[Option.some.injEq,Prod.mk.injEq]at z;obtain⟨rfl,rfl⟩:=z;obtain⟨t,B,m⟩:=U.get Y;obtain⟨b,E,n⟩:=A.get j;refine⟨⟨G,J,t,b,I,M,B,E⟩,λv h a=>?_⟩;obtain⟨p,q,w,k1,k2⟩:=a;have:=k1 G I;rw[B]at this;cases this;have:=k2 J M;rw[E]at this;cases this;exact⟨_,_,w,m,n⟩
def kf (N:as[I]?=some a):gT K as H (pX K c a) (zn .enum (.ref I) (.int (c:Int))):=by
 intro O Q f hl T S i;simp only[zn];cases U:zh Q I with
 |none=>exact⟨λz=>by simp at z,λx y z=>by simp at z⟩
 |some Y=>
  obtain⟨e,E,A,G,J⟩:=zL S (zy U);rw[hl _ _ N]at A;cases A;simp only;cases M:Y[i]? with
  |none=>
   refine⟨λ_=>⟨E,bb.of G,?_⟩,λx y z=>by simp at z⟩;rw[<-J.length];exact QT.mp M
  |some x=>
   refine⟨λz=>by simp at z,λt m z=>?_⟩;simp only[QR,Option.some.injEq,Prod.mk.injEq]at z;obtain⟨rfl,rfl⟩:=z;obtain⟨j,B,u⟩:=J.get M;refine⟨⟨E,j,bb.of G,B⟩,λv o d=>?_⟩;obtain⟨p,l,g⟩:=d;have:=g E (bb.of G);rw[B]at this;cases this;exact⟨_,_,l,aa.mpr (by congr 1;lia),u⟩
def cL:(Rz.ok w m).bind f=f w m:=rfl
def xO (h:g i m=none):zI c e g (k+1) i acc m=.no:=by
 unfold zI;rw[h]
set_option tactic.hygienic true in
def IH (e:zn .zip w A i m=some o):∃xs ys,vH m w=some xs/\vH m A=some ys:=by
 simp only[zn]at e;cases B:vH m w with
 |none=>rw[B]at e;cases e
 |some xs=>
  cases E:vH m A with
  |none=>rw[B,E]at e;cases e
  |some ys=>exact⟨xs,ys,rfl,rfl⟩
set_option tactic.hygienic true in
def kg (e:zn .enum w E i m=some o):∃A xs,w=.ref A/\zh m A=some xs:=by
 unfold zn at e;split at e
 .next h=>cases h
 .next A s _=>
  split at e
  .next xs B=>exact⟨A,xs,rfl,B⟩
  .cases e
 .contradiction
 .contradiction
 .cases e
def jk {cond:Ex}(E:∀σ H Q,y6 K (ae cl cond) σ H Q->tc σ H Q)(h:aF K (ae cl (.compP .zip elt a b cond)) σ H Q):
  v8 (io K) (rQ K (qB (aF K (ae cl a)) (qB (aF K (ae cl b)) iN))) tc (aF K (ae cl elt)) σ H Q:=by
 obtain⟨as,A,m,S,G,P⟩:=h;have j:am K as H Q ((ae cl a A m).bind λx m1=>(ae cl b A m1).bind λy m2=>
  zI (λu v m=>ae cl cond (A++[some u]++[some v]) m) (λu v m=>ae cl elt (A++[some u]++[some v]) m) (zn .zip x y) (aA+1) 0 [] m2):=P
 refine⟨as,A,m,S,G,eC j .refl λw m1 I H1 v B J z d=>?_⟩;refine⟨I,A,m1,J,G.mono S B,eC d B λM m2 l H2 v2 N O R2 g=>?_⟩;have P3:=am.step g (B.trans N);have f:=(G.mono S B).mono J N;have look:∃U Y,vH m2 w=some U/\vH m2 M=some Y:=by
  cases e:zn .zip w M 0 m2 with
  |none=>rw[xO e]at P3;exact P3.elim
  |some o=>exact IH e
 obtain⟨U,Y,t,n⟩:=look;obtain⟨w1,i,us,rfl,rfl,s1,q1⟩:=tu O (z.mono J N) t;obtain⟨M,l2,vs,rfl,rfl,s2,q2⟩:=tu O R2 n;exact⟨i,l2,us,vs,rfl,q1,q2,jj E (II s1 s2) O f P3⟩
def wV {c:Nat}(Y:z=(c:Int)){cond:Ex}(I:∀σ H Q,y6 K (ae cl cond) σ H Q->tc σ H Q)(h:aF K (ae cl (.compP .enum elt a (.lit (.int z)) cond)) σ H Q):
  v8 (io K) (lU K c (qB (aF K (ae cl a)) iN)) tc (aF K (ae cl elt)) σ H Q:=by
 subst Y;obtain⟨as,A,m,S,G,P⟩:=h;have hl:∀m1,ae cl (.lit (.int (c:Int))) A m1=.ok (.int (c:Int)) m1:=λ_=>rfl;have j:am K as H Q ((ae cl a A m).bind λx m1=>(ae cl (.lit (.int (c:Int))) A m1).bind λy m2=>
  zI (λu v m=>ae cl cond (A++[some u]++[some v]) m) (λu v m=>ae cl elt (A++[some u]++[some v]) m) (zn .enum x y) (aA+1) 0 [] m2):=P
 refine⟨as,A,m,S,G,eC j .refl λw m1 d n v M N l O=>?_⟩;rw[hl,cL]at O;have P3:=am.step O M;have look:∃J U,w=.ref J/\zh m1 J=some U:=by
  cases e:zn .enum w (.int (c:Int)) 0 m1 with
  |none=>rw[xO e]at P3;exact P3.elim
  |some o=>exact kg e
 obtain⟨J,U,rfl,g⟩:=look;obtain⟨f,B,rfl⟩:=aE.mp l;obtain⟨i,t,E,b,RL⟩:=zL N (zy g);rw[B]at E;cases E;exact⟨f,t,rfl,bb.of b,jj I (kf B) N (G.mono S M) P3⟩
set_option tactic.hygienic true in
def jm (e:zn .prs w (.int c) i m=some o):∃l xs,w=.ref l/\zh m l=some xs/\((xs[i]?=none/\o=none)\/∃x y,xs[i]?=some (.T [x,y])/\o=some (x,y)):=by
 cases w with
 |ref l=>
  have A:(match zh m l with
   |some xs=>match xs[i]? with
    |none=>some none
    |some w=>(qM w).map some
   |none=>none)=some o:=e
  cases E:zh m l with
  |none=>rw[E]at A;cases A
  |some xs=>
   simp only[E]at A;refine⟨l,xs,rfl,E,?_⟩;cases G:xs[i]? with
   |none=>simp only[G]at A;cases A;exact .inl ⟨rfl,rfl⟩
   |some w=>
    simp only[G]at A;obtain⟨p,B,rfl⟩:=Qy.mp A
    right
    unfold qM at B;split at B
    .next x y=>cases B;exact⟨x,y,rfl,rfl⟩
    .cases B
 |_=>cases e
def IG {cond:Ex}(b:∀σ H Q,y6 K (ae cl cond) σ H Q->tc σ H Q)(h:aF K (ae cl (.compP .prs elt a (.lit (.int 0)) cond)) σ H Q):
  v8 (io K) (eZ K (ae cl a)) tc (aF K (ae cl elt)) σ H Q:=by
 obtain⟨as,A,m,S,G,P⟩:=h;refine⟨as,A,m,S,G,?_⟩;have hl:∀m1,ae cl (.lit (.int 0)) A m1=.ok (.int 0) m1:=λ_=>rfl;have z:am K as H Q ((ae cl a A m).bind λx m1=>(ae cl (.lit (.int 0)) A m1).bind λy m2=>
  zI (λu v m=>ae cl cond (A++[some u]++[some v]) m) (λu v m=>ae cl elt (A++[some u]++[some v]) m) (zn .prs x y) (aA+1) 0 [] m2):=P
 clear P;cases hr:ae cl a A m with
 |no=>rw[hr]at z;exact z
 |ok w m1=>
  rw[hr,cL,hl,cL]at z;have P0:=z;cases e0:zn .prs w (.int 0) 0 m1 with
  |none=>rw[xO e0]at P0;exact P0.elim
  |some o0=>
   obtain⟨l,xs0,rfl,e00,_⟩:=jm e0;refine⟨?_,λI d J T1 S1 hI D hD=>?_⟩
   .show (zh m1 l).isSome=true;rw[e00];rfl
   .obtain ⟨a,ha,rfl⟩:=hI;have Pc1:=am.step P0 T1;refine⟨λi n ys H'=>∃E O B,E[l]?=some a/\cj K I d D A σ E O B ys H' /\
     am K I d Q (zI (λu v m=>ae cl cond (A++[some u]++[some v]) m) (λu v m=>ae cl elt (A++[some u]++[some v]) m) (zn .prs (.ref l) (.int 0)) n i B O),⟨aA+1,I,m1,[],ha,cj.start (as:=as) (H:=H) S1 (G.mono S T1) hD,Pc1⟩,?_⟩
    rintro i n ys H' ⟨E,O,B,hl,M,Pi⟩;cases n with
    |zero=>exact Pi.elim
    |succ n=>
     cases e:zn .prs (.ref l) (.int 0) i O with
     |none=>rw[xO e]at Pi;exact Pi.elim
     |some o=>
      unfold zI at Pi;rw[e]at Pi;obtain⟨l',xs,hl',e1,hc⟩:=jm e;cases hl';obtain⟨a',f,U,eH,RL⟩:=zL M.S (zy e1);rw[hl]at U;cases U;rcases hc with⟨ex,rfl⟩|⟨x,y,ex,rfl⟩
      .have hle:f.length<=i:=by rw[<-RL.length];exact QT.mp ex
       exact .inl ⟨⟨f,bb.of eH,hle⟩,xk M.S M.T hD M.hD M.n M.R Pi⟩
      .obtain ⟨v0,Y,Rx⟩:=RL.get ex;refine .inr ⟨⟨f,v0,bb.of eH,Y⟩,λv H'' hy=>?_⟩;obtain⟨rfl,hy⟩:=hy;have:=hy f (bb.of eH);rw[Y]at this;cases this;obtain⟨t,us,rfl,hq,R2⟩:=ah.mp Rx;obtain⟨x',y',rfl,Ra,Rb⟩:=gN R2;refine⟨[x',y'],⟨t,rfl,hq,rfl⟩,?_⟩;have G2:aD K E H'' (A++[some x,some y]) (σ++[x',y'].map some):=by
        have:=(M.G.push Ra).push Rb;simpa using this
       refine wv b (ex:=[some x,some y]) (next:=λB m=>zI (λu v m=>ae cl cond (A++[some u]++[some v]) m) (λu v m=>ae cl elt (A++[some u]++[some v]) m) (zn .prs (.ref l) (.int 0)) n (i+1) B m)
        (N:=λzs H2=>∃n',n'<n+1/\∃E O B,E[l]?=some a/\cj K I d D A σ E O B zs H2/\am K I d Q (zI (λu v m=>ae cl cond (A++[some u]++[some v]) m) (λu v m=>ae cl elt (A++[some u]++[some v]) m) (zn .prs (.ref l) (.int 0)) n' (i+1) B O)) hD M G2 (by simp only[]at Pi;rw[show A++[some x]++[some y]=A++[some x,some y]from by simp]at Pi;exact Pi) ?_
       intro as2 m2 j ys' H2 kp g M2 P2;exact⟨n,Wb _,as2,m2,j,g _ _ hl,M2,P2⟩
def vM {cond:Ex}(htc:∀σ H Q,y6 K (ae cl cond) σ H Q->tc σ H Q)(h:aF K (ae cl (.comp elt it cond)) σ H Q):
  v8 i6 (eZ K (ae cl it)) tc (aF K (ae cl elt)) σ H Q:=by
 obtain⟨as,A,m,S,G,P⟩:=h;refine⟨as,A,m,S,G,?_⟩;have P':am K as H Q ((ae cl it A m).bind λx m1=>match x with
  |.T I=>yo (λx m=>ae cl cond (A++[some x]) m) (λx m=>ae cl elt (A++[some x]) m) I [] m1
  |.rol I=>yo (λx m=>ae cl cond (A++[some x]) m) (λx m=>ae cl elt (A++[some x]) m) I [] m1
  |.ref l=>yw (λx m=>ae cl cond (A++[some x]) m) (λx m=>ae cl elt (A++[some x]) m) l (aA+1) 0 [] m1
  |_=>.no):=P
 clear P;cases hr:ae cl it A m with
 |no=>rw[hr]at P';exact P'
 |ok w m1=>
  rw[hr]at P';have start:∀{B:O9}{U:Hp}{D:Addr},Step as H B U->aJ K B m1 U->U D=none->cj K B U D A σ B m1 [] [] (aG U D (.L [])):=λ{B U D} u z d=>cj.start (as:=as) (H:=H) z (G.mono S u) d
  -- over items that stay
  have seqs:∀(I:R7),am K as H Q (yo (λx m=>ae cl cond (A++[some x]) m) (λx m=>ae cl elt (A++[some x]) m) I [] m1) ->
    ∀B U J,Step as H B U->aJ K B m1 U->iX K B U J I->∀D,U D=none->∃W:Nat->Nat->S6->Hp->Prop,(∃m,W 0 m [] (aG U D (.L [])))/\∀i m o H,W i m o H ->
     (J.stop i H/\Q (.ref D) H)\/(J.go i H/\∀v j,J.yld i H v j->∃f,i6 v j f/\tc (σ++f.map some) j λb H2=>if b=true then aF K (ae cl elt) (σ++f.map some) H2 λy H3=>H3 D=some (.L o)/\o.length<sizeLine/\∃Y,Y<m/\W (i+1) Y (o++[y]) (aG H3 D (.L (o++[y])))
      else ∃Y,Y<m/\W (i+1) Y o H2):=by
   intro I Pc B U J u z hI D d;obtain⟨f,ok,hJ,iu,RL,stab⟩:=hI;have Pc1:=am.step Pc u;have hlen:=RL.length;refine⟨λi n o j=>∃O Y E,i<=I.length/\n=I.length-i/\cj K B U D A σ O Y E o j/\ok j/\ab K O j I f /\
    am K B U Q (yo (λx m=>ae cl cond (A++[some x]) m) (λx m=>ae cl elt (A++[some x]) m) (I.drop i) E Y),
    ⟨I.length,B,m1,[],WT _,rfl,start u z d,stab _ _ (z.kp (start u z d).T) iu,RL.mono z (start u z d).T,Pc1⟩,?_⟩
   rintro i n o j ⟨O,Y,E,hi,rfl,M,okH,RL',Pi⟩;by_cases t:i<I.length
   .refine .inr ⟨hJ.go i j okH (by rw[<-hlen];exact t),λv H'' hy=>?_⟩;obtain⟨rfl,hv⟩:=hJ.yld i j v H'' okH (by rw[<-hlen];exact t) hy;obtain⟨v',hv',Rx⟩:=RL'.get (i:=i) (x:=I[i]) (by simp[t]);rw[hv]at hv';cases hv';rw[Wh t]at Pi;refine⟨[v],rfl,wv htc (sx:=[some v]) (next:=λE m=>yo (λx m=>ae cl cond (A++[some x]) m) (λx m=>ae cl elt (A++[some x]) m) (I.drop (i+1)) E m) (N:=λzs H2=>∃n',n'<I.length-i/\∃O Y E,i+1<=I.length/\n'=I.length-(i+1)/\cj K B U D A σ O Y E zs H2/\ok H2/\ab K O H2 I f/\am K B U Q (yo (λx m=>ae cl cond (A++[some x]) m) (λx m=>ae cl elt (A++[some x]) m) (I.drop (i+1)) E Y)) d M (M.G.push Rx) Pi ?_⟩;intro as2 m2 acc' ys' H2 kp g M2 P2;exact⟨I.length-(i+1),by lia,as2,m2,acc',t,rfl,M2,stab _ _ kp okH,a8 kp g _ _ RL',P2⟩
   .have e:i=I.length:=by lia
    subst e;rw[List.drop_length]at Pi;exact .inl ⟨hJ.stop _ j okH (by lia),xk M.S M.T d M.hD M.n M.R Pi⟩
  cases w with
  |T I=>exact⟨rfl,λB U J u z hI=>seqs I P' B U J u z hI⟩
  |rol I=>exact⟨rfl,λB U J u z hI=>seqs I P' B U J u z hI⟩
  |ref l=>
   have P2:am K as H Q (yw (λx m=>ae cl cond (A++[some x]) m) (λx m=>ae cl elt (A++[some x]) m) l (aA+1) 0 [] m1):=P';refine⟨?_,λB U J u z hI D d=>?_⟩
   .show (zh m1 l).isSome=true;cases e:zh m1 l with
    |some I=>rfl
    |none=>
     unfold yw at P2;rw[e]at P2;exact P2.elim
   .obtain ⟨a,ha,rfl⟩:=hI;have Pc1:=am.step P2 u;refine⟨λi n o j=>∃O Y E,O[l]?=some a/\cj K B U D A σ O Y E o j /\
     am K B U Q (yw (λx m=>ae cl cond (A++[some x]) m) (λx m=>ae cl elt (A++[some x]) m) l n i E Y),⟨aA+1,B,m1,[],ha,start u z d,Pc1⟩,?_⟩
    rintro i n o j ⟨O,Y,E,hl,M,Pi⟩;cases n with
    |zero=>exact Pi.elim
    |succ n=>
     unfold yw at Pi;cases e:zh Y l with
     |none=>rw[e]at Pi;exact Pi.elim
     |some I=>
      rw[e]at Pi;simp only[]at Pi;obtain⟨a',f,ha',eH,RL⟩:=zL M.S (zy e);rw[hl]at ha';cases ha';cases ex:I[i]? with
      |none=>
       rw[ex]at Pi;have hle:f.length<=i:=by rw[<-RL.length];exact QT.mp ex
       exact .inl ⟨⟨f,bb.of eH,hle⟩,xk M.S M.T d M.hD M.n M.R Pi⟩
      |some x=>
       rw[ex]at Pi;obtain⟨v0,hv0,Rx⟩:=RL.get ex;refine .inr ⟨⟨f,v0,bb.of eH,hv0⟩,λv H'' hy=>?_⟩;obtain⟨rfl,hy⟩:=hy;have:=hy f (bb.of eH);rw[hv0]at this;cases this;refine⟨[v0],rfl,wv htc (sx:=[some v0]) (next:=λE m=>yw (λx m=>ae cl cond (A++[some x]) m) (λx m=>ae cl elt (A++[some x]) m) l n (i+1) E m) (N:=λzs H2=>∃n',n'<n+1/\∃O Y E,O[l]?=some a/\cj K B U D A σ O Y E zs H2/\am K B U Q (yw (λx m=>ae cl cond (A++[some x]) m) (λx m=>ae cl elt (A++[some x]) m) l n' (i+1) E Y)) d M (M.G.push Rx) Pi ?_⟩;intro as2 m2 acc' ys' H2 kp g M2 P2;exact⟨n,Wb _,as2,m2,acc',g _ _ hl,M2,P2⟩
  |N=>exact P'.elim
  |bl k=>exact P'.elim
  |int i=>exact P'.elim
  |str s=>exact P'.elim
end
section
variable{K:Qb}{as:O9}{H H':Hp}{m:Me}{Q:VK}
def jn (h:gF y=some k)(R:ai K as H y v):∃a,v=.ref a/\bC K H a (k.map V.int):=by
 cases y with
 |T A=>
  obtain⟨a,B,rfl,q,r⟩:=ah.mp R;rw[vI h r]at q;exact⟨a,rfl,q⟩
 |_=>cases h
theorem jo:∀{xs:List TK}{ws:R7}{vs:S6}{q:P8}{w:Wd},ab K as H ws vs->az vs (xs.map (·.2.2))->bX (xs.map (·.1)) ws q=some w->∃p v,Nj xs q=some p/\RelV v p.2/\ai K as H w v
 |[],ws,vs,q,w,r,B,h=>by cases ws<;>cases h
 |x::xs,ws,vs,q,w,r,B,h=>by
  cases ws with
  |nil=>cases h
  |cons y ws=>
   obtain⟨v,E,rfl,G,I⟩:=ak.mp r;cases B with
   |cons J M=>
    have A:(if x.1=q then some y else bX (xs.map (·.1)) ws q)=some w:=h;by_cases e:x.1=q
    .rw[N0 e]at A;cases A;exact⟨x.2,v,by simp[Nj,e],J,G⟩
    .rw[N1 e]at A;obtain⟨p,N,O,U,Y⟩:=jo I M A;exact⟨p,N,by simpa [Nj,WI,e]using O,U,Y⟩
def FS (S:aJ K as m H)(R:ai K as H x v)(R':ai K as H y u)(h:am K as H Q (kU x y m)):sQ K v u H Q:=by
 unfold kU at h;cases x with
 |ref l=>
  obtain⟨a,I,rfl⟩:=aE.mp R;dsimp only at h;cases e:m[l]? with
  |none=>rw[e]at h;exact h.elim
  |some o=>
   cases o with
   |L d=>rw[e]at h;exact h.elim
   |D g J=>
    rw[e]at h;dsimp only at h;obtain⟨f,G,t,A,M,rfl,r,N,n⟩:=kZ S e;rw[I]at A;cases A;cases B:gF y with
    |none=>rw[B]at h;exact h.elim
    |some k=>
     rw[B]at h;obtain⟨b,rfl,O⟩:=jn B R';cases E:bX (G.map (·.1)) J k with
     |none=>simp only[Vo,E]at h;exact h.elim
     |some w=>
      simp only[Vo,E]at h;obtain⟨p,z,U,Y,j⟩:=jo r N E;exact⟨a,b,k,G,p,rfl,rfl,O,M,U,z,Y,h.ok S j⟩
 |_=>exact h.elim
def IY:(storedH xs q a u).map (·.1)=xZ (xs.map (·.1)) q:=by
 unfold storedH xZ;by_cases h:q∈xs.map (·.1)
 .rw[N0 (bJ.mpr h),N0 h,keys_map_putAt]
 .rw[N1 (λz=>h (bJ.mp z)),N1 h,Ww];rfl
def IX (h:ks.Nodup):(xZ ks q).Nodup:=by
 unfold xZ;by_cases z:q∈ks
 .rw[N0 z];exact h
 .rw[N1 z];refine Qw.mpr ⟨h,by simp,λx A y B e=>?_⟩;rw[QK.mp B]at e;exact z (e▸A)
theorem ux (B:ai K as H w v):∀{ks:O1}{ws:R7}{vs:S6},ab K as H ws vs->ab K as H (yf ks ws q w) (yf ks vs q v)
 |[],ws,vs,r=>r.append (.one B)
 |k::ks,ws,vs,r=>by
  cases ws with
  |nil=>obtain rfl:=aq.mp r;exact ab.one B
  |cons x ws=>
   obtain⟨y,A,rfl,G,E⟩:=ak.mp r;show ab K as H (if k=q then w::ws else x::yf ks ws q w) (if k=q then v::A else y::yf ks A q v);by_cases e:k=q
   .rw[N0 e,N0 e];exact ak.mpr ⟨v,A,rfl,B,E⟩
   .rw[N1 e,N1 e];exact ak.mpr ⟨y,_,rfl,G,ux B E⟩
theorem uw:∀{ks:O1}{vs:S6},q∉ks->ks.length=vs.length->yf ks vs q v=vs++[v]
 |[],vs,_,_=>rfl
 |k::ks,[],_,h=>by cases h
 |k::ks,x::vs,A,h=>by
  show(if k=q then v::vs else x::yf ks vs q v)=_;rw[N1 (λe=>A (by simp[e])),uw (λz=>A (by simp[z])) (by simpa using h)];rfl
theorem uv (E:RelV v u):∀{xs:List TK}{vs:S6},(xs.map (·.1)).Nodup->q∈xs.map (·.1)->az vs (xs.map (·.2.2))->az (yf (xs.map (·.1)) vs q v) ((xs.map (Nb q u)).map (·.2.2))
 |[],vs,_,h,_=>by simp at h
 |x::xs,vs,B,h,r=>by
  rw[QS,QC]at B;cases r with
  |@cons y _ A _ I G=>
   show az (if x.1=q then v::A else y::yf (xs.map (·.1)) A q v) ((Nb q u x).2.2::(xs.map (Nb q u)).map (·.2.2));by_cases e:x.1=q
   .rw[N0 e,map_putAt_of_not_mem xs q u (e▸B.1)];unfold Nb;rw[N0 e];exact .cons E G
   .rw[N1 e];unfold Nb;rw[N1 e];exact .cons I (uv E B.2 (by simpa [Ne.symm e]using h) G)
def IW (A:RelV v u)(B:(xs.map (·.1)).Nodup)(r:az vs (xs.map (·.2.2))):az (yf (xs.map (·.1)) vs q v) ((storedH xs q a u).map (·.2.2)):=by
 unfold storedH;by_cases h:q∈xs.map (·.1)
 .rw[N0 (bJ.mpr h)];exact uv A B h r
 .rw[N1 (λz=>h (bJ.mp z)),Ww];rw[uw h (by have:=r.length;simp at this ⊢;lia)];exact r.append (.cons A .nil)
def IF {q:P8}:∀x∈storedH xs q a u,(∃y∈xs,y.1=x.1/\y.2.1=x.2.1)\/(x.1=q/\x.2.1=a):=λx A=>by
 unfold storedH at A;split at A
 .obtain ⟨y,B,rfl⟩:=Wc.mp A;refine .inl ⟨y,B,?_⟩;unfold Nb;split<;>exact⟨rfl,rfl⟩
 .rcases QJ.mp A with z|z
  .exact .inl ⟨x,z,rfl,rfl⟩
  .rw[QK.mp z];exact .inr ⟨rfl,rfl⟩
def aJ.setD (S:aJ K as m H)(J:as[l]?=some a)(Y:m[l]?=some (.D ks ws))(O:yn K H a xs)(j:xs.map (·.1)=ks)(r:ab K as H ws vs)(z:az vs (xs.map (·.2.2)))(U:ks.Nodup)(d:bC K H b (q.map V.int))(g:ai K as H w v)(f:RelV v u):
  Step as H as (aG H a (xS a (storedH xs q b u)))/\aJ K as (m.set l (.D (xZ ks q) (yf ks ws q w))) (aG H a (xS a (storedH xs q b u))):=by
 have M:a∈as:=Qo J;have T:Step as H as (aG H a (xS a (storedH xs q b u))):=⟨⟨[],by simp⟩,λc o h A=>by
  rw[ze (by rintro rfl;exact A M)];exact h,λc A=>.inl A⟩
 have kp:Kp K H (aG H a (xS a (storedH xs q b u))):=Kp.updL O.1 trivial;refine⟨T,⟨by simp[S.len],S.nd,λk c o G I=>?_⟩⟩;by_cases N:k=l
 .subst N;rw[J]at G;cases G;rw[QU (Qa.mp Y).1]at I;cases I;subst j;refine⟨storedH xs q b u,yf (xs.map (·.1)) vs q v,⟨zf,λx t=>?_⟩,IY,(ux g r).kp kp,IW f U z,IX U⟩;rcases IF x t with⟨y,n,B,E⟩|⟨B,E⟩
  .rw[<-B,<-E];exact kp.t _ _ (O.2 y n)
  .rw[B,E];exact kp.t _ _ d
 .rw[Qi (Ne.symm N)]at I;have i:=S.obj k c o G I;have A:c≠a:=by
   rintro rfl;obtain⟨i1,B⟩:=Qa.mp G;obtain⟨i2,E⟩:=Qa.mp J;exact N ((WO S.nd).mp (B.trans E.symm))
  exact a7.mono kp (λ_ _ e=>e) (λo e=>by rw[ze A];exact e) i
def aJ.updK(S:aJ K as m H)(k:Kp K H H')(e:∀a∈as,∀o,H a=some o->H' a=some o):aJ K as m H':=
 ⟨S.len,S.nd,λl b o A B=>a7.mono k (λ_ _ e=>e) (e b (Qo A)) (S.obj l b o A B)⟩
def aJ.newD (S:aJ K as m H)(E:H p=none):Step as H (as++[p]) (aG H p (xS p []))/\aJ K (as++[p]) (m++[.D [] []]) (aG H p (xS p [])):=by
 have J:=S.new E;have T:Step as H (as++[p]) (aG H p (xS p [])):=⟨⟨[p],rfl⟩,λb o h _=>by rw[ze (zo h E)];exact h,λb M=>by
  rcases QJ.mp M with z|z
  .exact .inl z
  .exact .inr (by rw[QK.mp z];exact E)⟩
 refine⟨T,⟨by simp[S.len],?_,λl b o A B=>?_⟩⟩
 .refine Qw.mpr ⟨S.nd,by simp,λx G y N=>?_⟩;rw[QK.mp N];rintro rfl;exact J G
 .by_cases hl:l<as.length
  .rw[Qf hl]at A;rw[Qf (by rw[<-S.len];exact hl)]at B;exact a7.mono (S.kp T) (λ_ _ e=>T.get e) (λo e=>by rw[ze (zo e E)];exact e) (S.obj l b o A B)
  .rw[Qd (by lia)]at A;rw[Qd (by rw[<-S.len];lia)]at B;have I:l-as.length=0:=by
    cases O:l-as.length with
    |zero=>rfl
    |succ k=>rw[O]at A;simp at A
   rw[I]at A;rw[<-S.len,I]at B;simp at A B;subst A;subst B;exact⟨[],[],⟨zf,λx G=>by simp at G⟩,rfl,aq.mpr rfl,.nil,QB⟩
end
section
variable{cl:N6}{X:Cx}{a b:Ex}{x y:Expr}{pos:Pos}
def Hf:PE X (.Dict [] [] pos) (aF X.K (ae cl .dict0)):=by
 refine PE.imp Ib λJ H Q h d A=>?_;obtain⟨as,B,m,S,G,P⟩:=h;obtain⟨T,E⟩:=S.newD A;have I:am X.K as H Q (.ok (.ref m.length) (m++[.D [] []])):=P;refine I _ _ _ T E (aE.mpr ⟨d,?_,rfl⟩);rw[<-S.len,Qd (Qk _)];simp
def FR(I:X.A.units+64<Mz)(J:PE X x (aF X.K (ae cl a)))(M:PE X y (aF X.K (ae cl b)))(N:yy y=true):PE X (.Subscript x y pos) (aF X.K (ae cl (.dget a b))):=by
 have O:gy y:=λo i=>by cases y<;>first|rfl|cases N
 refine PE.imp (iV (oz I) J M O) λf H Q h=>?_;obtain⟨as,A,m,S,G,P⟩:=h;refine⟨as,A,m,S,G,am.bind P λx m1 B e v U E Y j=>?_⟩;refine⟨B,A,m1,E,G.mono S U,am.bind j λy m2 z t u d l R2 g=>?_⟩;exact FS l (Y.mono E d) R2 g
end
section
variable{cl:N6}
def cC {r:Rz}(h:r.bind f=.ok w m):∃x m1,r=.ok x m1/\f x m1=.ok w m:=by
 cases r with
 |ok x m1=>exact⟨x,m1,rfl,h⟩
 |no=>cases h
def FQ (A:env[i]?=some (some w))(B:∀s,w≠.str s):ae cl (.cmp .eq (.V i) (.lit (.str k))) env m=.ok (.bl false) m\/ae cl (.cmp .eq (.V i) (.lit (.str k))) env m=.no:=by
 show((match env[i]? with|some (some w)=>Rz.ok w m|_=>.no).bind λx m1=>(Rz.ok (.str k) m1).bind λy m2=>cA .eq x y m2)=_\/((match env[i]? with|some (some w)=>Rz.ok w m|_=>.no).bind λx m1=>(Rz.ok (.str k) m1).bind λy m2=>cA .eq x y m2)=_;rw[A];cases w with
 |str s=>exact N2 rfl (B s)
 |rol E=>exact .inr rfl
 |ref l=>
  show di (if aN m l&&true then some false else none) m=_\/di (if aN m l&&true then some false else none) m=_;cases aN m l
  .exact .inr rfl
  .exact .inl rfl
 |_=>exact .inl rfl
def fZ (h:ae cl c env m=.ok (.bl false) m1):ae cl (.ife c a b) env m=ae cl b env m1:=by
 show(ae cl c env m).bind _=_;rw[h];rfl
def iR (h:ae cl c env m=.ok (.bl true) m1):ae cl (.ife c a b) env m=ae cl a env m1:=by
 show(ae cl c env m).bind _=_;rw[h];rfl
def lX (h:ae cl c env m=.no):ae cl (.ife c a b) env m=.no:=by
 show(ae cl c env m).bind _=_;rw[h];rfl
def kh (A:env[i]?=some (some (.str s))):ae cl (.cmp .eq (.V i) (.lit (.str k))) env m=.ok (.bl (decide (s=k))) m:=by
 show((match env[i]? with|some (some w)=>Rz.ok w m|_=>.no).bind λx m1=>(Rz.ok (.str k) m1).bind λy m2=>cA .eq x y m2)=_;rw[A];rfl
def FP (h:ae cl (qN i E J M N) env m=.ok w m'):m'=m/\(w=.N\/∃s j,env[i]?=some (some (.str s))/\w=.int j/\kX s E J M N (0:Int) 1 2 3=some j):=by
 unfold qN at h;cases e:env[i]? with
 |none=>
  have:ae cl (.cmp .eq (.V i) (.lit (.str E))) env m=.no:=by
   show((match env[i]? with|some (some w)=>Rz.ok w m|_=>.no).bind _)=_;rw[e];rfl
  rw[lX this]at h;cases h
 |some o=>
  cases o with
  |none=>
   have:ae cl (.cmp .eq (.V i) (.lit (.str E))) env m=.no:=by
    show((match env[i]? with|some (some w)=>Rz.ok w m|_=>.no).bind _)=_;rw[e];rfl
   rw[lX this]at h;cases h
  |some x=>
   by_cases O:∃s,x=.str s
   .obtain ⟨s,rfl⟩:=O;unfold kX;by_cases A:s=E
    .rw[iR (by rw[kh e,N3 A])]at h;cases h;exact⟨rfl,.inr ⟨s,0,rfl,rfl,by rw[N0 A]⟩⟩
    rw[fZ (by rw[kh e,NZ A])]at h;by_cases B:s=J
    .rw[iR (by rw[kh e,N3 B])]at h;cases h;exact⟨rfl,.inr ⟨s,1,rfl,rfl,by rw[N1 A,N0 B]⟩⟩
    rw[fZ (by rw[kh e,NZ B])]at h;by_cases G:s=M
    .rw[iR (by rw[kh e,N3 G])]at h;cases h;exact⟨rfl,.inr ⟨s,2,rfl,rfl,by rw[N1 A,N1 B,N0 G]⟩⟩
    rw[fZ (by rw[kh e,NZ G])]at h;by_cases H:s=N
    .rw[iR (by rw[kh e,N3 H])]at h;cases h;exact⟨rfl,.inr ⟨s,3,rfl,rfl,by rw[N1 A,N1 B,N1 G,N0 H]⟩⟩
    rw[fZ (by rw[kh e,NZ H])]at h;cases h;exact⟨rfl,.inl rfl⟩
   .have I:∀s,x≠.str s:=λs z=>O ⟨s,z⟩;have go:∀{k:R5}{a b:Ex}{r:Rz},ae cl (.ife (.cmp .eq (.V i) (.lit (.str k))) a b) env m=.ok w m'->ae cl b env m=.ok w m':=λ{k a b r} h=>by
     rcases FQ (cl:=cl) (k:=k) (m:=m) e I with z|z
     .rw[fZ z]at h;exact h
     .rw[lX z]at h;cases h
    have h:=go (r:=.no) (go (r:=.no) (go (r:=.no) (go (r:=.no) h)));cases h;exact⟨rfl,.inl rfl⟩
set_option tactic.hygienic true in
def He (h:ae cl (.i (kq a b c d) (qN i M N O Q)) env m=.ok w m'):
  ∃E m1 G m2 H m3 wd s,ae cl a env m=.ok E m1/\ae cl b env m1=.ok G m2/\ae cl c env m2=.ok H m3/\ae cl d env m3=.ok wd m'/\env[i]?=some (some (.str s))/\kX s M N O Q E G H wd=some w:=by
 obtain⟨x,mx,U,Y⟩:=cC (show(ae cl (kq a b c d) env m).bind (λx m1=>(ae cl (qN i M N O Q) env m1).bind λy m2=>wO x y m2)=_ from h);obtain⟨y,u,o,B⟩:=cC Y;obtain⟨rfl,l⟩:=FP o;obtain⟨z,g,f,I⟩:=cC (show(ae cl (.P a (.P b (.P c (.P d .u)))) env m).bind (λx m1=>if(zj x).length<=aA then Rz.ok (.T (zj x)) m1 else .no)=_ from U);obtain⟨E,m1,t,n⟩:=cC (show(ae cl a env m).bind (λx m1=>(ae cl (.P b (.P c (.P d .u))) env m1).bind λy m2=>Rz.ok (.T (x::zj y)) m2)=_ from f);obtain⟨yb,n1,p2,q2⟩:=cC n;obtain⟨G,m2,p3,q3⟩:=cC (show(ae cl b env m1).bind (λx m1=>(ae cl (.P c (.P d .u)) env m1).bind λy m2=>Rz.ok (.T (x::zj y)) m2)=_ from p2);obtain⟨yc,n2,p4,q4⟩:=cC q3;obtain⟨H,m3,p5,q5⟩:=cC (show(ae cl c env m2).bind (λx m1=>(ae cl (.P d .u) env m1).bind λy m2=>Rz.ok (.T (x::zj y)) m2)=_ from p4);obtain⟨yd,n3,p6,q6⟩:=cC q5;obtain⟨wd,m4,J,q7⟩:=cC (show(ae cl d env m3).bind (λx m1=>(Rz.ok (.T []) m1).bind λy m2=>Rz.ok (.T (x::zj y)) m2)=_ from p6);cases q7;cases q6;cases q4;cases q2
 replace I:(if([E,G,H,wd]:R7).length<=aA then Rz.ok (.T [E,G,H,wd]) g else .no)=.ok x u:=I
 rw[N0 (show([E,G,H,wd]:R7).length<=aA by show 4<=aA;decide)]at I;cases I;rcases l with rfl|⟨s,j,e,rfl,A⟩
 .cases B
 .refine ⟨E,m1,G,m2,H,m3,wd,s,t,p3,p5,?_,e,?_⟩
  .unfold kX at A;split at A
   .cases A;cases B;exact J
   .split at A
    .cases A;cases B;exact J
    .split at A
     .cases A;cases B;exact J
     .split at A
      .cases A;cases B;exact J
      .cases A
  .unfold kX at A ⊢;split at A
   .next z=>rw[N0 z];cases A;cases B;rfl
   .next z=>
    rw[N1 z];split at A
    .next z=>rw[N0 z];cases A;cases B;rfl
    .next z=>
     rw[N1 z];split at A
     .next z=>rw[N0 z];cases A;cases B;rfl
     .next z=>
      rw[N1 z];split at A
      .next z=>rw[N0 z];cases A;cases B;rfl
      .cases A
end
section
def gU {s:Str}(h:s.cps.toList=k):s=⟨k.toArray⟩:=by subst h;simp
set_option tactic.hygienic true in
def Hd {R:Wd->V->Prop}(h:kX s A B E G u o d l=some w)(r1:R u H)(r2:R o I)(r3:R d J)(r4:R l M)(N:A≠B)(O:A≠E)(Q:A≠G)(U:B≠E)(Y:B≠G)(j:E≠G):
  ∃v,xN (wT [] [((Sum.inr ⟨A.toArray⟩:bH),H),(Sum.inr ⟨B.toArray⟩,I),(Sum.inr ⟨E.toArray⟩,J),(Sum.inr ⟨G.toArray⟩,M)]) (Sum.inr ⟨s.toArray⟩)=some v/\R w v:=by
 have inj:∀{p q:R5},p≠q->¬((Sum.inr ⟨p.toArray⟩:bH)=Sum.inr ⟨q.toArray⟩):=λh e=>by
  injection e with e;injection e with e
  exact h (by simpa using NY WM e)
 have e:wT [] [((Sum.inr ⟨A.toArray⟩:bH),H),(Sum.inr ⟨B.toArray⟩,I),(Sum.inr ⟨E.toArray⟩,J),(Sum.inr ⟨G.toArray⟩,M)]=[((Sum.inr ⟨A.toArray⟩:bH),H),(Sum.inr ⟨B.toArray⟩,I),(Sum.inr ⟨E.toArray⟩,J),(Sum.inr ⟨G.toArray⟩,M)]:=by
  simp only[wT,Vz,eE,List.any_nil,W1,Wp,Wn,NZ (inj N),NZ (inj O),NZ (inj Q),NZ (inj U),NZ (inj Y),NZ (inj j),Bool.or_self,QL,if_false]
 rw[e];unfold kX at h;split at h
 .next z=>subst z;cases h;exact⟨H,xE rfl,r1⟩
 .next g=>
  rw[x6 (inj (Ne.symm g))];split at h
  .next z=>subst z;cases h;exact⟨I,xE rfl,r2⟩
  .next f=>
   rw[x6 (inj (Ne.symm f))];split at h
   .next z=>subst z;cases h;exact⟨J,xE rfl,r3⟩
   .next t=>
    rw[x6 (inj (Ne.symm t))];split at h
    .next z=>subst z;cases h;exact⟨M,xE rfl,r4⟩
    .cases h
end
section
variable{cl:N6}{X:Cx}
def Eo(x y:Int)(env:En)(m:Me):ae cl (cP x y) env m=.ok (.T [.int x,.int y]) m:=
 N0 (e:=Rz.no) (c:=([Wd.int x,.int y]:R7).length<=aA) (show 2<=aA by decide)
def vn {K:Qb}(h:iJ K b [.int x,.int y])(as:O9)(H:Hp):ai K as H (.T [.int x,.int y]) (.ref b):=
 ah.mpr ⟨b,[.int x,.int y],rfl,.inr h,ak.mpr ⟨_,_,rfl,aa.mpr rfl,ak.mpr ⟨_,_,rfl,aa.mpr rfl,aq.mpr rfl⟩⟩⟩
def FN (B:O≠U)(E:O≠Y)(I:O≠j)(J:U≠Y)(M:U≠j)(N:Y≠j)(hd:PE X (.Name dn pd) (tC (.ref a)))(D:fP X.K X.w a [(O,x1,y1),(U,x2,y2),(Y,x3,y3),(j,x4,y4)])(hv:PE X (.Name nm pn) (jG i)):
  PE X (.Subscript (.Name dn pd) (.Name nm pn) pos) (aF X.K (ae cl (.i (kq (cP x1 y1) (cP x2 y2) (cP x3 y3) (cP x4 y4)) (qN i O U Y j)))):=by
 refine PE.imp (iV oA hd hv (λ_ _=>rfl)) λσ H Q h=>?_;obtain⟨as,l,m,S,G,P⟩:=h;cases g:ae cl (.i (kq (cP x1 y1) (cP x2 y2) (cP x3 y3) (cP x4 y4)) (qN i O U Y j)) l m with
 |no=>rw[g]at P;exact P.elim
 |ok w m'=>
  rw[g]at P;obtain⟨wa,m1,wb,m2,wc,m3,wd,s,ea,eb,ec,ed,es,hp⟩:=He g;rw[Eo]at ea eb ec ed;cases ea;cases eb;cases ec;cases ed;obtain⟨vs,t,rs⟩:=G.get i _ es;obtain rfl:=aB.mp rs;obtain⟨o,ep,b,hK,f,A⟩:=Cp (P:=X.prog) D (by simp[B,E,I,J,M,N])
  match b,f,A with
  |[],f,A=>cases(show _=_ from A)
  |u1::[],f,A=>obtain⟨_,_,_,_,z,e,rfl,d,A⟩:=A;cases e;cases(show _=_ from A)
  |u1::u2::[],f,A=>
   obtain⟨_,_,_,_,z,e,rfl,d,A⟩:=A;cases e;obtain⟨_,_,_,_,n,e,rfl,y,A⟩:=A;cases e;cases(show _=_ from A)
  |u1::u2::u3::[],f,A=>
   obtain⟨_,_,_,_,z,e,rfl,d,A⟩:=A;cases e;obtain⟨_,_,_,_,n,e,rfl,y,A⟩:=A;cases e;obtain⟨_,_,_,_,b3,e,rfl,t3,A⟩:=A;cases e;cases(show _=_ from A)
  |u1::u2::u3::u4::r,f,A=>
   obtain⟨_,_,_,_,z,e,rfl,d,A⟩:=A;cases e;obtain⟨_,_,_,_,n,e,rfl,y,A⟩:=A;cases e;obtain⟨_,_,_,_,b3,e,rfl,t3,A⟩:=A;cases e;obtain⟨_,_,_,_,b4,e,rfl,t4,A⟩:=A;cases e;cases r with
   |cons _ _=>obtain⟨_,_,_,_,_,e,_⟩:=A;cases e
   |nil=>
    obtain⟨v,u,hv2⟩:=Hd (R:=ai X.K as H) hp (vn d as H) (vn y as H) (vn t3 as H) (vn t4 as H) B E I J M N;have nd:([((Sum.inr ⟨O.toArray⟩:bH),V.ref z),(Sum.inr ⟨U.toArray⟩,.ref n),(Sum.inr ⟨Y.toArray⟩,.ref b3),(Sum.inr ⟨j.toArray⟩,.ref b4)].map (·.1)).Nodup:=by simp[B,E,I,J,M,N]
    rw[j5 nd (ps:=[]) (by simpa using nd),Wp]at u;exact⟨.str ⟨s.toArray⟩,t,a,o,ep,_,Sum.inr ⟨s.toArray⟩,v,rfl,rfl,f,hK,u,P as H v Step.refl S hv2⟩
end
end Mini
namespace Mini
open PySem L2
def JT (I:(a==LZ)=false)(J:K.lookup a=some ⟨.type "dict",none,.dict #[⟨e1,.str ⟨⟨B⟩⟩ t1,.ref b1⟩,⟨e2,.str ⟨⟨E⟩⟩ t2,.ref b2⟩,⟨e3,.str ⟨⟨G⟩⟩ t3,.ref b3⟩,⟨e4,.str ⟨⟨H⟩⟩ t4,.ref b4⟩] ep,#[]⟩)(M:K.lookup b1=some ⟨.type "tuple",o1,.seq #[.int N r1,.int O z1] n1,l1⟩)(Q:K.lookup b2=some ⟨.type "tuple",o2,.seq #[.int U r2,.int Y z2] n2,l2⟩)(j:K.lookup b3=some ⟨.type "tuple",o3,.seq #[.int u r3,.int d z3] n3,l3⟩)(g:K.lookup b4=some ⟨.type "tuple",o4,.seq #[.int f r4,.int e z4] n4,l4⟩)(t:e1=LX w ⟨⟨B⟩⟩)(m:e2=LX w ⟨⟨E⟩⟩)(i:e3=LX w ⟨⟨G⟩⟩)(q4:e4=LX w ⟨⟨H⟩⟩):fP K w a [(B,N,O),(E,U,Y),(G,u,d),(H,f,e)]:=by
 have A:∀{b:Addr}{o:O6}{l:Array O3}{x y:Int}{r z:Tok}{n:Nat},K.lookup b=some ⟨.type "tuple",o,.seq #[.int x r,.int y z] n,l⟩->iJ K b [.int x,.int y]:=λh=>
  ⟨_,_,_,h,rfl,rfl,(show 2<=sizeLine by decide),.cons ⟨_,rfl⟩ (.cons ⟨_,rfl⟩ .nil)⟩
 exact⟨I,_,_,_,J,⟨rfl,rfl,rfl⟩,rfl,_,_,_,_,_,_,rfl,rfl,t,rfl,A M,_,_,_,_,_,_,rfl,rfl,m,rfl,A Q,_,_,_,_,_,_,rfl,rfl,i,rfl,A j,_,_,_,_,_,_,rfl,rfl,q4,rfl,A g,rfl⟩
end Mini
namespace Mini
open PySem PySem.Spec PyProof.Rows L2
section
noncomputable def LQ(t u:Tg)(w:Wd)(m:Me):Rz:=(di (c7 t w m) m).bind λx m1=>match x with
 |.bl false=>di (c7 u w m1) m1
 |.bl true=>.ok (.bl true) m1
 |_=>.no
end
end Mini
namespace L2
open PySem PySem.Spec PyProof.Rows
section
variable{X:Cx}
noncomputable def lW(K:Qb):V->S6->Hp->VK->Prop:=λx E H Q=>∃d a A B z,x=.ref d/\E=[.ref a,z]/\bC K H a (A.map V.int)/\yn K H d B/\(∀p v,Nj B A=some p->RelV v p.2->Q v H)/\(Nj B A=none->Q z H)/\∀p,Nj B A=some p->∃v,RelV v p.2
def FM(w:X.A.units+64<Mz):eJ X "dict.get" (lW X.K):=by
 intro A s σ H x vs v M Q I N O h;obtain⟨d,a,U,Y,z,rfl,rfl,j,u,o,l,g⟩:=h;cases N;obtain⟨_,f,⟨t,b,rfl⟩⟩:∃B,RelV (.ref a) B/\∃E,RelV z E/\M=[B,E]:=by
  cases O with
  |cons p r=>cases r with
   |cons n i=>cases i;exact⟨_,p,_,n,rfl⟩
 cases f;obtain⟨d0,G⟩:=xi I u;refine Nf F.slot_dict_get G.typeIs F.entry_dict_get ?_ (F.args_dict_get_3 _ _ _);apply Mj (m:=dictGet d (.ref a));apply wpAny_dictGet_heap (knd:=Ni (M9 X.prog X.w)) (by show X.A.units+1<Mz;lia) (xL I j) G;cases e:Nj Y U with
 |some p=>
  obtain⟨y,J⟩:=g p e;exact Mp ⟨p.2,rfl,y,H,I.tok _,J,o p y e J⟩
 |none=>
  apply Mj (m:=Builtin.Dict.missed d (.ref a));exact wpAny_missed_other d0 (Mp ⟨t,rfl,z,H,I.tok _,b,l e⟩)
noncomputable def Em(K:Qb):V->S6->Hp->VK->Prop:=λx A H Q=>∃a,A=[a]/\lW K x [a,.N] H Q
def Hc(g:X.A.units+64<Mz):eJ X "dict.get" (Em X.K):=by
 intro A s f H x t v b Q I G J h;obtain⟨_,rfl,d,a,M,N,z,rfl,O,U,Y,j,u,o⟩:=h;cases O;cases G;obtain⟨_,rfl,l⟩:=J.one;cases l;obtain⟨d0,B⟩:=xi I Y;refine Nf F.slot_dict_get B.typeIs F.entry_dict_get ?_ (F.args_dict_get_2 _ _);apply Mj (m:=dictGet d (.ref a));apply wpAny_dictGet_heap (knd:=Ni (M9 X.prog X.w)) (by show X.A.units+1<Mz;lia) (xL I U) B;cases e:Nj N M with
 |some p=>
  obtain⟨y,E⟩:=o p e;exact Mp ⟨p.2,rfl,y,H,I.tok _,E,j p y e E⟩
 |none=>
  apply Mj (m:=Builtin.Dict.missed d (.ref a));exact wpAny_missed_other d0 (Mp ⟨.none,rfl,.N,H,I.tok _,rfl,u e⟩)
def Ae (I:Inv X A σ H s)(h:yn X.K H d xs):s.TypeIs (.ref d) "dict" /\ ∀a,Value.ref d=.ref a->∃ob,s.heap.get? a=some ob/\ob.dict=none:=by
 obtain⟨_,o,E,g,B,_⟩:=ye I h;exact⟨⟨o,g,B.1⟩,λa e=>by cases e;exact⟨o,g,B.2.1⟩⟩
noncomputable def Jk(K:Qb)(r:V->S6->Hp->VK->Prop)(E:TE)(t:TA):TE:=λA H Q=>E A H λx B=>(∃d G,x=.ref d/\yn K B d G)/\t A B λI J=>r x I J Q
def sG {id:String}(N:Slot "dict" name id)(Y:typeOf (.builtin id)=pure (.type "method_descriptor"))(g:eJ X id r)(f:PE X o m)(b:PA X (e::G) t)(J:MQ o name X.env (eval o X.env)=eval o X.env)(O:((L7 A (L8 (e::G) X.env)).all (λx=>! x.1)&&(MS A (MT [] X.env)).all (λx=>x.1.isSome)&&decide ((e::G).length+([]:List MU).length+(if([]:List MU).isEmpty then 0 else 1)<30))=true)(M:(U.endLine==A.line)=true)(u:L8 (e::G) X.env=(false,eval e X.env)::L8 G X.env)(E:(L7 A (L8 G X.env)).any (·.1)=false):
  PE X (.Call (.Attribute o name U) (e::G) [] A) (Jk X.K r m t):=by
 intro B s j H Q I h;refine MV J O M rfl (aT (f B s j H _ I h) λv n ⟨x,i,z,a,⟨d,xs,w,y⟩,q1⟩=>?_);subst w;cases a;obtain⟨h1,h2⟩:=Ae z y;have l:=b A B n j i _ z q1;rw[u]at l;refine⟨"dict",id,PySem.F.plainAttrs_dict,N,Y,h1,h2,?_⟩;rw[u];refine Calls.callWith_builtin (show(false || (L7 A (L8 G X.env)).any (·.1))=false by rw[E];rfl) (Calls.evalArgs_plain (aT l λus s2 ⟨vs,H2,I2,r2,q2⟩=>?_));exact g B s2 j H2 (.ref d) vs (.ref d) us Q I2 rfl r2 q2
end
section
variable{prog:LU}{w:LV}{A:L3}{E:N7}{s:Shared}{it d:Addr}{i n:Nat}{od:Obj}{es:Array DictEntry}
def Cm (B:s.heap.IsValIter it d i n n)(g:s.heap.get? d=some od)(G:od.data=.dict es n)(sz:es.size=n)(Q:i<n)(H:∀h',h'.IsValIter it d (i+1) n n->We it s.heap h'->R (some (es[i]'(by lia)).val) {s with heap:=h' }):L5 (L6 prog w) A (Mn (.ref it)) R E s:=by
 obtain⟨o,go,O,J⟩:=id B;have I:=B.typeIs;unfold Mn;apply Mj;apply NF;apply Nc I F.slot_dict_valueiterator_next;refine Nf F.slot_dict_valueiterator_next I F.entry_dict_valueiterator_next ?_ (F.args_dict_valueiterator_next_1 _);refine Mj (Mp (Mj (Mj (Mj (NW I (Mp ?_))))));refine Mj (NU go J ?_);have no:Builtin.Dict_items.ownsTuple "dict_valueiterator"=false:=by decide
 simp only[no,QL,if_false];change L5 _ _ (ite ((Value.ref d==Value.none)=true) _ _) _ _ s;rw[show(Value.ref d==Value.none)=false from rfl,N1 QQ];refine Mj (Mp (Mj (Nl g G ?_)));rw[sz,N1 (by simp)];refine Mj (Mp (Mj (Nm g G ?_)));rw[N1 (by simp)];apply Mp;have M:i<es.size:=by lia
 simp only[show ¬(i:Int)<0 from by lia,if_false,W2,WW M];refine Mj (Mj (NW I (Mp (Mj (NX I ?_)))));apply Mj (m:=setField (.ref it) 1 (Mq ((i:Int)+1)));apply NS go J (by simp);have N:(s.heap.update it (Obj.mapFields (·.setIfInBounds 1 (Mq ((i:Int)+1))))).IsValIter it d (i+1) n n:=by
  refine⟨_,Wy _ go (Obj.isFreed_of_fields (Obj.data_mapFields J _)),by rw[Obj.cls_mapFields];exact O,?_⟩;rw[Obj.data_mapFields J];simp[Mq]
 refine Mj (Mk (Mj (NX N.typeIs (Mj (NX N.typeIs ?_)))));exact Mp (Mp ⟨_,rfl,Mp (H _ N (We.update ..))⟩)
def Ck (quiet:A.handled=none)(B:s.heap.IsValIter it d i n n)(g:s.heap.get? d=some od)(G:od.data=.dict es n)(sz:es.size=n)(M:n<=i)(H:∀h',Heap.ExtBut it s.heap h'->R none {s with heap:=h' }):L5 (L6 prog w) A (Mn (.ref it)) R E s:=by
 obtain⟨o,go,N,J⟩:=id B;have I:=B.typeIs;unfold Mn;apply Mj;apply NF;apply Nc I F.slot_dict_valueiterator_next;refine Nf F.slot_dict_valueiterator_next I F.entry_dict_valueiterator_next ?_ (F.args_dict_valueiterator_next_1 _);refine Mj (Mp (Mj (Mj (Mj (NW I (Mp ?_))))));refine Mj (NU go J ?_);have no:Builtin.Dict_items.ownsTuple "dict_valueiterator"=false:=by decide
 simp only[no,QL,if_false];change L5 _ _ (ite ((Value.ref d==Value.none)=true) _ _) _ _ s;rw[show(Value.ref d==Value.none)=false from rfl,N1 QQ];refine Mj (Mp (Mj (Nl g G ?_)));rw[sz,N1 (by simp)];refine Mj (Mp (Mj (Nm g G ?_)));rw[N1 (by simp)];apply Mp;simp only[show ¬(i:Int)<0 from by lia,if_false,W2,W8 (show es.size<=i by lia)];refine Mj (Mj (NW I (Mp ?_)));exact sK quiet go J (by rw[no];exact Nat.zero_lt_succ 3) H
def sF (H:s.heap.IsValuesView v d)(g:s.heap.get? d=some od)(B:od.data=.dict es n)(sz:es.size=n)(G:R (.ref s.heap.objs.size) {s with heap:=s.heap.push {cls:=.type "dict_valueiterator",data:=.fields #[.ref d,.int 0 0,.int n 0,.int n 0]} }):L5 (L6 prog w) A (pyIter (.ref v)) R E s:=by
 obtain⟨M,I,N,J⟩:=id H;apply wpAny_pyIter_slot H.typeIs F.slot_dict_values_iter;refine Nf F.slot_dict_values_iter H.typeIs F.entry_dict_values_iter ?_ (F.args_dict_values_iter_1 _);unfold Builtin.«dict_values.__iter__» Builtin.Dict_items.dictOf Builtin.Dict_items.newIterator;refine Mj (Mp (Mj (Mj (wpAny_field I J (x:=.ref d) rfl (Mp ?_)))));refine Mj (Mj (Nl g B (Mj (Nm g B ?_))));have no:Builtin.Dict_items.ownsTuple "dict_valueiterator"=false:=by decide
 simp only[no,QL,if_false];refine M8 (Mp ⟨_,rfl,"dict_valueiterator",_,⟨_,Qh _ rfl,rfl⟩,F.slot_dict_valueiterator_next.lookup,?_⟩);rw[sz];exact G
end
section
variable{X:Cx}
noncomputable def ki(v d:Addr):HO:=.ext λh=>h.IsValuesView v d
noncomputable def Cj(K:Qb):V->S6->Hp->VK->Prop:=λx A H Q=>∃d B,x=.ref d/\A=[]/\yn K H d B/\∀v,H v=none->Q (.ref v) (aG H v (ki v d))
def uu:eJ X "dict.values" (Cj X.K):=by
 intro A s O H x U v Y Q I E G h;obtain⟨d,j,rfl,rfl,J,q⟩:=h;cases E;cases G;obtain⟨d0,B⟩:=xi I J;refine Nf F.slot_dict_values B.typeIs F.entry_dict_values ?_ (F.args_dict_values_1 _);apply Mj (m:=Builtin.Dict.noArgs _ _);unfold Builtin.Dict.noArgs;apply Mj;apply Ng B.typeIs;apply Mp (a:=d);apply Mj (m:=Builtin.Dict.showsAll d);unfold Builtin.Dict.showsAll;rw[d0];apply Mp;refine Mj (M8 (Mp ⟨_,rfl,.ref s.heap.objs.size,aG H s.heap.objs.size (ki s.heap.objs.size d),I.laid (t':=s.toks) (λb u e=>Qc _ e) (Qk _) ?_,rfl,q _ I.fresh⟩));refine⟨⟨_,Qh _ rfl,rfl,rfl⟩,⟨_,Qh _ rfl⟩,λz l M k=>?_⟩;obtain⟨o,N,r⟩:=M;exact⟨o,k o N,r⟩
noncomputable def mN(K:Qb)(r:V->S6->Hp->VK->Prop)(B:TE):TE:=λE H Q=>B E H λx A=>(∃d G,x=.ref d/\yn K A d G)/\r x [] A Q
def tQ {id:String}(G:Slot "dict" name id)(N:typeOf (.builtin id)=pure (.type "method_descriptor"))(Y:eJ X id r)(j:PE X o u)(B:MQ o name X.env (eval o X.env)=eval o X.env)(E:(J.endLine==M.line)=true):PE X (.Call (.Attribute o name J) [] [] M) (mN X.K r u):=by
 intro A s O H Q I h;refine MR B E (aT (j A s O H _ I h) λv z ⟨x,l,U,g,⟨d,n,f,e⟩,t⟩=>?_);subst f;cases g;obtain⟨m,b⟩:=Ae U e;exact⟨"dict",id,PySem.F.plainAttrs_dict,G,N,m,b,Calls.callWith_builtin rfl (PySem.evalArgs_none (Y A z O l (.ref d) [] (.ref d) [] Q U rfl .nil t))⟩
def tP (quiet:A.handled=none)(it d:Addr)(J:d≠it)(M:Obj)(G:Array DictEntry)(n:Nat)(H:M.data=.dict G n)(sz:G.size=n):
  Walks prog w A it [it,d] [it] n (λi v=>∃e,G[i]?=some e/\v=e.val) (λi h=>h.IsValIter it d i n n/\h.get? d=some M) where
 sub:=by simp
 frame:=λi h I st k=>by
  obtain⟨⟨o,a,b⟩,c⟩:=st;exact⟨⟨o,k it (by simp) o a,b⟩,k d (by simp) M c⟩
 item:=λi s Q E Y st B=>by
  refine Cm st.1 st.2 H sz Y λI N U=>?_;exact B _ I s.toks ⟨G[i]'(by lia),by simp[show i<G.size by lia],rfl⟩ ⟨N,(U.2 d J).trans st.2⟩ λb o O e=>(U.2 b (by simpa using O)).trans e
 done:=λs Q E st B=>Ck quiet st.1 st.2 H sz (Qk _) λI j=>B I s.toks λb o O e=>j b o (by simpa using O) e
 self:=λ_ _ _ _ st B=>wpAny_pyIter_valiter st.1 B
def HJ(n:X.calm=true):aW X (.builtin "sum") (λU H Q=>∃(v d:Addr) (xs:List TK) (B:P8),U=[.ref v]/\H v=some (ki v d)/\yn X.K H d xs/\az (B.map V.int) (xs.map (·.2.2))/\Q (.int B.sum) H):=by
 intro Y s σ H U ws Q I r h;obtain⟨v,d,xs,B,rfl,a,w,j,q⟩:=h;obtain⟨u,rfl,rx⟩:=xb r;cases rx;obtain⟨_,od,es,g,ex,G,sz,J⟩:=ye I w;have vw:s.heap.IsValuesView v d:=(I.hok v _ a).1;have M:=j.length;have N:=Qe g;refine call_sum_walkG (sF vw g G sz ?_);refine⟨s.heap.objs.size,_,_,_,_,_,λi=>B.getD i 0,rfl,tP (A:=X.A.in1) (I.ok.hd n) s.heap.objs.size d (Qu N) od es xs.length G sz,⟨⟨_,Qh _ rfl,rfl,rfl⟩,Qc _ g⟩,?_,?_,λh' tk t' hk=>?_⟩
 .intro b E;have z:s.heap.objs.size<(s.heap.push {cls:=.type "dict_valueiterator",data:=.fields #[.ref d,.int 0 0,.int xs.length 0,.int xs.length 0]}).objs.size:=Qe (Qh _ rfl);have:b=s.heap.objs.size\/b=d:=by simpa using E
  rcases this with rfl|rfl
  .exact z
  .exact WE N z
 .rintro i _ ⟨e,l,rfl⟩;have f:i<xs.length:=by rw[<-sz];exact(WA.mp l).1
  have m:=J i _ (Ql f);rw[l]at m;obtain rfl:=Option.some.inj m;obtain⟨y,O,ry⟩:=j.at (i:=i) (u:=xs[i].2.2) (by rw[Qm,Ql f];rfl);rw[Qm]at O;cases E:B[i]? with
  |none=>rw[E]at O;cases O
  |some b=>
   rw[E]at O;cases O;obtain⟨t,ht⟩:=(ry:∃t,xs[i].2.2=.int b t);have e:B.getD i 0=b:=by rw[Qz,E];rfl
   exact⟨t,by show xs[i].2.2=Value.int (B.getD i 0) t;rw[e,ht]⟩
 .have e:xs.length=B.length:=by simp at M;lia
  rw[e,xW B B.length (Qk _),W5];exact⟨.int B.sum,H,I.kept (t':=tk) λb o e=>hk b o (λE=>by
   have:b=s.heap.objs.size:=by simpa using E
   exact N2 (Qe e) (by rw[this];exact Q3 _)) (Qc _ e),⟨t',rfl⟩,q⟩
end
end L2
namespace PySem
open Sem (wp)
open AutoSeq1 (wpAny_loadPart')
end PySem
namespace L2
open PySem PySem.Spec PyProof.Rows
end L2
namespace Mini
open PySem PySem.Spec PyProof.Rows L2
section
variable{K:Qb}{as:O9}{H:Hp}{m:Me}{Q:VK}
def wW{b:Bool}{r:Rz}(h:am K as H Q (match b with|true=>r|false=>.no)):b=true/\am K as H Q r:=by
 cases b with
 |true=>exact⟨rfl,h⟩
 |false=>exact h.elim
def vp (A:k=.get\/k=.sum)(h:fu k w m=true):∃l ks ws,w=.ref l/\m[l]?=some (.D ks ws):=by
 have go:∀{w:Wd},(match w with |.ref l=>(match m[l]? with|some (.D _ _)=>true|_=>false)|_=>false)=true->∃l ks ws,w=.ref l/\m[l]?=some (.D ks ws):=λ{w} h=>by
  cases w with
  |ref l=>
   cases e:m[l]? with
   |none=>simp[e]at h
   |some o=>
    cases o with
    |L B=>simp[e]at h
    |D ks ws=>exact⟨l,ks,ws,rfl,e⟩
  |_=>cases h
 cases k with
 |get=>exact go h
 |sum=>exact go h
 |_=>rcases A with e|e<;>cases e
def yS (S:aJ K as m H)(E:m[l]?=some (.D ks ws))(R:ai K as H (.ref l) v):∃a xs vs,v=.ref a/\as[l]?=some a/\yn K H a xs/\xs.map (·.1)=ks/\ab K as H ws vs/\az vs (xs.map (·.2.2)):=by
 obtain⟨a,B,rfl⟩:=aE.mp R;obtain⟨J,xs,vs,A,G,e,r,I,_⟩:=kZ S E;rw[B]at A;cases A;exact⟨a,xs,vs,rfl,B,G,e,r,I⟩
theorem gX:∀{xs:List TK}{ws:R7}{q:P8},xs.length=ws.length->bX (xs.map (·.1)) ws q=none->Nj xs q=none
 |[],_,_,_,_=>rfl
 |x::xs,[],q,h,_=>by cases h
 |x::xs,w::ws,q,h,e=>by
  have A:(if x.1=q then some w else bX (xs.map (·.1)) ws q)=none:=e;by_cases c:x.1=q
  .rw[N0 c]at A;cases A
  .rw[N1 c]at A;have:=gX (by simpa using h) A;simpa [Nj,WI,c]using this
def Ad (S:aJ K as m H)(R:ai K as H x v)(R':ai K as H y u)(R2:ai K as H z t)(h:am K as H Q (wP .get x y z m)):lW K v [u,t] H Q:=by
 unfold wP at h;cases x with
 |ref l=>
  dsimp only at h;cases e:m[l]? with
  |none=>rw[e]at h;exact h.elim
  |some o=>
   cases o with
   |L n=>rw[e]at h;exact h.elim
   |D i J=>
    rw[e]at h;dsimp only at h;obtain⟨a,I,vs,rfl,ha,j,rfl,r,M⟩:=yS S e R;cases N:gF y with
    |none=>rw[N]at h;exact h.elim
    |some k=>
     rw[N]at h;dsimp only at h;obtain⟨b,rfl,d⟩:=jn N R';have hl:I.length=J.length:=by have A:=r.length;have G:=M.length;simp at G;lia
     refine⟨a,b,k,I,t,rfl,rfl,d,j,λp z1 E g=>?_,λf=>?_,λp E=>?_⟩
     .cases B:bX (I.map (·.1)) J k with
      |none=>rw[gX hl B]at E;cases E
      |some w=>
       rw[B]at h;obtain⟨Y,O,A,G,U⟩:=jo r M B;rw[E]at A;cases A;rw[g.inj G];exact h.ok S U
     .cases B:bX (I.map (·.1)) J k with
      |none=>rw[B]at h;exact h.ok S R2
      |some w=>
       obtain⟨Y,O,A,G,U⟩:=jo r M B;rw[f]at A;cases A
     .cases B:bX (I.map (·.1)) J k with
      |none=>rw[gX hl B]at E;cases E
      |some w=>
       obtain⟨Y,O,A,G,U⟩:=jo r M B;rw[E]at A;cases A;exact⟨O,G⟩
 |_=>exact h.elim
end
section
variable{cl:N6}{X:Cx}{a b c:Ex}{x y z:Expr}{pos:Pos}
def Hb (g:X.A.units+64<Mz)(f:PE X x (aF X.K (ae cl a)))(e:PE X y (aF X.K (ae cl b)))(n:PE X z (aF X.K (ae cl c)))(i:ya x=true)(hl:(ap.endLine==pos.line)=true)(J:zi y=true)(A:zi z=true):
  PE X (.Call (.Attribute x "get" ap) [y,z] [] pos) (aF X.K (ae cl (.dop .get a b c))):=by
 have E:[y,z].all zi=true:=by simp[J,A]
 refine PE.imp (sG PySem.F.slot_dict_get PySem.F.type_dict_get (FM g) f (zA e (zA n yj (zd A)) (zd J)) (bp i) (gS E (by simp)) hl (zd J) (zC (by simp[A]))) λσ H Q h=>?_;obtain⟨as,B,m,S,G,P⟩:=h;refine⟨as,B,m,S,G,am.bind P λw m1 M H1 v Y I j N=>?_⟩;obtain⟨hd,N⟩:=wW N;obtain⟨l,ks,ws,rfl,hm⟩:=vp (by simp) hd;obtain⟨a1,xs,vs,rfl,_,td,_⟩:=yS I hm j;refine⟨⟨a1,xs,rfl,td⟩,M,B,m1,I,G.mono S Y,am.bind N λy m2 O H2 u o U R2 P2=>?_⟩;refine⟨O,B,m2,U,(G.mono S Y).mono I o,am.bind P2 λz m3 as3 H3 t d S3 R3 P3=>?_⟩;exact Ad S3 ((j.mono I o).mono U d) (R2.mono U d) R3 P3
def Ha (O:X.A.units+64<Mz)(U:PE X x (aF X.K (ae cl a)))(Y:PE X y (aF X.K (ae cl b)))(j:ya x=true)(hl:(o.endLine==pos.line)=true)(E:zi y=true):
  PE X (.Call (.Attribute x "get" o) [y] [] pos) (aF X.K (ae cl (.dop .get a b (.lit .N)))):=by
 have A:[y].all zi=true:=by simp[E]
 refine PE.imp (sG PySem.F.slot_dict_get PySem.F.type_dict_get (Hc O) U (zA Y yj (zd E)) (bp j) (gS A (by simp)) hl (zd E) (zC (by simp))) λσ H Q h=>?_;obtain⟨as,B,m,S,G,P⟩:=h;refine⟨as,B,m,S,G,am.bind P λw m1 I H1 v d J N M=>?_⟩;obtain⟨g,M⟩:=wW M;obtain⟨l,ks,ws,rfl,f⟩:=vp (by simp) g;obtain⟨e,t,vs,rfl,_,n,_⟩:=yS J f N;refine⟨⟨e,t,rfl,n⟩,I,B,m1,J,G.mono S d,am.bind M λy m2 i H2 u T2 S2 R2 P2=>?_⟩;exact⟨u,rfl,Ad S2 (N.mono J T2) R2 (ao.mpr rfl) P2⟩
def FL (hc:X.calm=true)(ha:PE X x (aF X.K (ae cl a)))(hg:Gl X "sum")(B:X.mg "sum"=none)(hx:ya x=true)(hl:(ap.endLine==p2.line)=true):
  PE X (.Call (.Name "sum" p1) [.Call (.Attribute x "values" ap) [] [] p2] [] pos) (aF X.K (ae cl (.dop .sum a .u .u))):=by
 refine PE.imp (zP (HJ hc) hg B PyProof.Rows.boot_sum (zA (tQ PySem.F.slot_dict_values PySem.F.type_dict_values uu ha (bp hx) hl) yj)) λσ H Q h=>?_;obtain⟨as,J,m,S,G,P⟩:=h;refine⟨as,J,m,S,G,am.bind P λw m1 A E v T1 M g N=>?_⟩;obtain⟨hd,N⟩:=wW N;obtain⟨l,ks,O,rfl,B⟩:=vp (by simp) hd;obtain⟨I,f,vs,rfl,ha1,t,_,r,rv⟩:=yS M B g;refine⟨⟨I,f,rfl,t⟩,I,f,rfl,rfl,t,λq n=>?_⟩;have P2:am X.K A E Q (wP .sum (.ref l) (.T []) (.T []) m1):=N;have P3:am X.K A E Q (match m1[l]? with
  |some (.D _ O)=>match jI O with
   |some i=>.ok (.int i) m1
   |none=>.no
  |_=>.no):=P2
 rw[B]at P3;dsimp only at P3;cases Y:jI O with
 |none=>rw[Y]at P3;exact P3.elim
 |some i=>
  rw[Y]at P3;have U:Step A E A (aG E q (ki q I)):=Step.updD .refl n;have S2:aJ X.K A m1 (aG E q (ki q I)):=M.keep U λb _ o e=>by rw[ze (zo e n)];exact e
  obtain⟨a2,j,vs2,e2,ha2,u,_,r2,d⟩:=yS S2 B (g.mono M U);cases e2;obtain⟨ns,rfl,rfl⟩:=gO r2 Y;exact⟨q,I,j,ns,rfl,zf,u,d,(am.step P3 U).ok S2 (aa.mpr rfl)⟩
end
end Mini
namespace L2
open PySem PySem.Spec PyProof.Rows
end L2
namespace Mini
open PySem PySem.Spec PyProof.Rows L2
section
variable{cl:N6}{X:Cx}{a b c:Ex}{x y z:Expr}{pos:Pos}
theorem ut [DecidableEq H]:∀{ks:List H}{i j:Nat},qL k ks i=some j->i<=j/\ks[j-i]?=some k/\∀p,p<j-i->ks[p]?≠some k
 |[],i,j,h=>by cases h
 |x::ks,i,j,h=>by
  have A:(if x=k then some i else qL k ks (i+1))=some j:=h;by_cases e:x=k
  .rw[N0 e]at A;cases A;refine⟨Qk _,by simp[e],λp I=>by lia⟩
  .rw[N1 e]at A;obtain⟨M,E,G⟩:=ut A;obtain⟨q,J⟩:∃q,j-i=q+1:=⟨j-(i+1),by lia⟩;have B:j-(i+1)=q:=by lia
   rw[B]at E G;refine⟨by lia,by rw[J];simpa using E,λp I=>?_⟩;cases p with
   |zero=>simpa using e
   |succ p=>simpa using G p (by lia)
def Ac {K:Qb}(S:aJ K as m H)(R:ai K as H w v)(h:gG w m=some ks):∃l,v=.ref l/\H l=some (.L (ks.map V.int)):=by
 cases w with
 |ref l=>
  have B:(zh m l).bind zT=some ks:=h;obtain⟨J,E,G⟩:=Qt.mp B;obtain⟨p,I,rfl⟩:=aE.mp R;obtain⟨M,N,A,e,r⟩:=zL S (zy E);rw[I]at A;cases A;have:=xj r G;subst this;exact⟨p,rfl,e⟩
 |_=>cases h
noncomputable def Ci(K:Qb):V->S6->Hp->VK->Prop:=λv B H Q=>∃(as:O9) (m:Me) (l:Nat) (A:R7) (y:Wd) (u:V) (bs:List Bool) (j:Nat),aJ K as m H/\ai K as H (.ref l) v/\m[l]?=some (.L A)/\B=[u]/\ai K as H y u/\du (λw=>bZ m ym w y) A=some bs/\bs[j]?=some true/\(∀i,i<j->bs[i]?≠some true)/\Q (.int j) H
theorem ur:∀{ws:List I}{bs:List Bool},du p ws=some bs->bs.length=ws.length/\∀(i:Nat) w,ws[i]?=some w->∃b,bs[i]?=some b/\p w=some b
 |[],bs,h=>by cases h;exact⟨rfl,λi w h=>by simp at h⟩
 |x::r,bs,h=>by
  unfold du at h;cases A:p x with
  |none=>simp[A]at h
  |some c=>
   cases B:du p r with
   |none=>simp[A,B]at h
   |some J=>
    rw[A,B]at h;cases h;obtain⟨G,H⟩:=ur B;refine⟨by simp[G],λi w E=>?_⟩;cases i with
    |zero=>cases E;exact⟨c,rfl,A⟩
    |succ i=>simpa using H i w (by simpa using E)
def FK(hu:X.A.units+64<Mz):iF X "list.index" (Ci X.K):=by
 intro pins s σ H x vs v us Q I rx rv h;obtain⟨as,m,l,N,y,u,bs,j,S,R,hm,rfl,R',hb,hj,g,q⟩:=h;obtain⟨a,ha,rfl⟩:=aE.mp R;obtain⟨a',AT,O,eH,RL⟩:=zL S hm;rw[ha]at O;cases O;cases rx;obtain⟨u',rfl,ru⟩:=rv.one;obtain⟨z,A,n,r,hl,e⟩:=I.lstM eH;obtain⟨q1,q2⟩:=ur hb;have hlen:=RL.length;have hz:(sizeLine:Int)<2^63-1:=by decide
 have B:∀i (E:i<A.length),∃w b v,N[i]?=some w/\AT[i]?=some v/\RelV v A[i]/\ai X.K as H w v/\bs[i]?=some b/\bZ m ym w y=some b:=λi E=>by
  have G:i<N.length:=by lia
  obtain⟨v,e1,r1⟩:=RL.get (i:=i) (x:=N[i]) (by simp[G]);obtain⟨b,e2,e3⟩:=q2 i N[i] (by simp[G]);obtain⟨u1,e4,e5⟩:=r.get e1;rw[Ql E]at e4;cases e4;exact⟨N[i],b,v,by simp[G],e1,e5,r1,e2,e3⟩
 have jl:j<A.length:=by
  have:=(Qa.mp hj).1;lia
 let f:Value->Bool:=λy=>@decide (∃i:Nat,A[i]?=some y/\bs[i]?=some true) (Classical.propDecidable _)
 have t:∀i (E:i<A.length) b,bs[i]?=some b->f A[i]=b:=λi E b U=>by
  cases b with
  |true=>exact @N3 _ (Classical.propDecidable _) ⟨i,by simp[E],U⟩
  |false=>
   refine @NZ _ (Classical.propDecidable _) ?_;rintro⟨i',G,h2⟩;obtain⟨hi',G⟩:=Qa.mp G;obtain⟨w1,M,v1,c1,c2,Y,o,J,d⟩:=B i E;obtain⟨w2,b2,v2,d1,d2,d3,d4,d5,d6⟩:=B i' hi';rw[G]at d3;have ev:=Y.inj d3;subst ev;have ew:=wr I S _ _ _ o d4;subst ew;rw[d]at d6;cases d6;rw[U]at J;cases J;rw[h2]at d5;cases d5
 refine MW F.slot_list_index ⟨_,e,rfl⟩ F.entry_list_index (F.args_list_index_2 _ _) (PySem.SeqAt.list_indexAt a A.toArray n none #[] u' f j (by simpa using jl) (by lia) (by simpa using t j jl true hj) (λi E hij=>?_)) ⟨e,λy' hy=>?_,?_⟩
 .obtain ⟨w1,M,v1,c1,c2,Y,o,J,d⟩:=B i (by simpa using E);have:=t i (by simpa using E) M J;have hb1:M=false:=by
   cases M with
   |false=>rfl
   |true=>exact N2 J (g i hij)
  rw[hb1]at this;simpa using this
 .obtain ⟨i,E,rfl⟩:=WS.mp (show y'∈A by simpa using hy);obtain⟨w1,M,v1,c1,c2,Y,o,J,d⟩:=B i E;rw[t i E M J];exact(qQ I S ym X.A.in1 _ _ _ _ _ _ _ (by show X.A.units+1+12<Mz;lia) d o R' Y ru).it
 .exact ⟨.int j,H,I.tok _,⟨_,rfl⟩,q⟩
def El (i:X.A.units+64<Mz)(ha:PE X x (aF X.K (ae cl a)))(hb:PE X y (aF X.K (ae cl b)))(hx:ya x=true)(hl:(ap.endLine==pos.line)=true)(J:zi y=true):
  PE X (.Call (.Attribute x "index" ap) [y] [] pos) (aF X.K (ae cl (.dop .lix a b .u))):=by
 have E:[y].all zi=true:=by simp[J]
 refine PE.imp (sn PySem.F.plainAttrs_list PySem.F.slot_list_index PySem.F.type_list_index (FK i) ha (zA hb yj (zd J)) (bp hx) (gS E (by simp)) hl (zd J) (zC (by simp))) λσ H Q h=>?_;obtain⟨as,I,m,S,G,P⟩:=h;refine⟨as,I,m,S,G,am.bind P λw m1 M H1 v T1 N d O=>?_⟩;obtain⟨hd,O⟩:=wW O;refine⟨ma N d (md hd),M,I,m1,N,G.mono S T1,am.bind O λy m2 B g u T2 f R2 P2=>?_⟩;have P3:am X.K B g Q (wP .lix w y (.T []) m2):=P2;cases w with
 |ref l=>
  have A:am X.K B g Q (match ((zh m2 l).bind (du λw=>bZ m2 ym w y)).bind λbs=>qL true bs 0 with
   |some j=>.ok (.int (j:Nat)) m2
   |none=>.no):=P3
  cases U:zh m2 l with
  |none=>rw[U]at A;exact A.elim
  |some e=>
   rw[U]at A;simp only[QW]at A;cases Y:du (λw=>bZ m2 ym w y) e with
   |none=>rw[Y]at A;exact A.elim
   |some bs=>
    rw[Y]at A;simp only[QW]at A;cases o:qL true bs 0 with
    |none=>rw[o]at A;exact A.elim
    |some j=>
     rw[o]at A;obtain⟨_,t,n⟩:=ut o;rw[Nat.sub_zero]at t n;exact⟨B,m2,l,e,y,u,bs,j,f,d.mono N T2,zy U,rfl,R2,Y,t,n,A.ok f (aa.mpr rfl)⟩
 |_=>exact P3.elim
end
end Mini
namespace L2
open PySem PySem.Spec PyProof.Rows
open PySem.W (KatTups KatLex KatGo kat_lt kat_cons kat_nil kat_go kat_yes kat_no kat_kind)
section
variable{prog:LU}{w:LV}{A:L3}{E:N7}{s:Shared}
noncomputable def rP(s:Shared)(vs:O7):Prop:=∃fs:O7,KatTups s.heap vs fs/\fs.length=vs.length/\∀v∈fs,∃i t,v=.int i t
def Ek (h:rP s vs)(H:2<=vs.length)(q:Q (tuples' true) s):L5 (L6 prog w) A (keyKind' vs.toArray) Q E s:=by
 obtain⟨fs,t,hl,B⟩:=h;refine kat_kind (T:=.type "int") t (by lia) (λv G=>?_) (by decide) (by
  have:(Value.type "int" != Value.type "tuple")=true:=by decide
  rw[this];exact q)
 obtain⟨i,k,rfl⟩:=B v G;exact .of_pure rfl
end
end L2
namespace L2
open PySem PySem.Spec PyProof.Rows
open PySem.SeqAt PySem.MeetsSeq PySem.MeetsSeq2 PySem.MeetsSeq3
open PySem.W (KatTups KatLex KatGo kat_lt kat_cons kat_nil kat_go kat_yes kat_no)
theorem sE:∀(B E:P8) (l1 l2:O7) (i:Nat),B.length=E.length->az (B.map V.int) l1->az (E.map V.int) l2->Q (HT.lexLt B E) s->KatLex prog w A true false Q (l1.zip l2) i s
 |[],[],_,_,_,_,.nil,.nil,q=>kat_nil q
 |[],_::_,_,_,_,h,_,_,_=>by cases h
 |_::_,[],_,_,_,h,_,_,_=>by cases h
 |a::B,b::E,_,_,i,h,.cons (l₂:=l1) ⟨t,G⟩ H,.cons (l₂:=l2) ⟨u,I⟩ J,q=>by
  subst G I;rw[HT.aQ]at q;refine kat_cons (EqAt.int_int a t b u prog w _ _ ?_);by_cases e:a=b
  .rw[N0 e]at q;rw[show(a==b)=true by simp[e]];exact kat_yes (sE B E l1 l2 (i+1) (Nat.succ.inj h) H J q)
  .rw[N1 e]at q;rw[show(a==b)=false by simp[e]];refine kat_no ?_;cases i with
   |zero=>exact oneLt_int q
   |succ i=>
    rw[show(true&&i+1==0)=false by simp,oneLt'_eq];simp only[QL,if_false];exact Mj (HT.cR A s a t b u prog w _ _ (Mc q))
def fg.T{A:L3}{s:Shared}{x y:Addr}{l1 l2:O7}{B G:P8}(O:s.heap.IsTuple x l1.toArray)(U:s.heap.IsTuple y l2.toArray)(J:az (B.map V.int) l1)(M:az (G.map V.int) l2)(hl:B.length=G.length):
  fg (tuples' true) A s (.ref x) (.ref y) (HT.lexLt B G):=λN w E Q q=>by
 obtain⟨o,Y,_,n,j⟩:=O;obtain⟨d,H,_,l,I⟩:=U;have u:=J.length;have z:=M.length;rw[Qs]at u z;refine kat_lt Y j H I ?_;rw[show decide (l1.toArray.size<l2.toArray.size)=false by simp;lia];exact sE B G l1 l2 0 hl J M q
end L2
namespace L2
open PySem PySem.Spec PyProof.Rows
section
def G9 (r:az ((a::l).map V.int) its):∃t A,its=.int a t::A:=by
 cases r with
 |cons p q=>obtain⟨t,rfl⟩:=p;exact⟨t,_,rfl⟩
theorem rO{s:Shared}:∀{bs:O9}{f:Addr->Value},(∀b∈bs,∃o xs n,s.heap.get? b=some o/\o.cls=.type "tuple" /\ o.data=.seq xs n/\xs[0]?=some (f b))->PySem.W.KatTups s.heap (bs.map Value.ref) (bs.map f)
 |[],_,_=>.nil
 |b::bs,f,h=>by
  obtain⟨o,xs,n,A,B,E,G⟩:=h b (by simp);exact .cons A B E G (rO λc H=>h c (by simp[H]))
end
end L2
namespace PySem
end PySem
namespace L2
open PySem PySem.Spec PyProof.Rows
end L2
namespace Mini
open PySem PySem.Spec PyProof.Rows L2
theorem uq (f:A->B)(p:P8×A):∀l:List (P8×A),(zZ p l).map (λq=>(q.1,f q.2))=zZ (p.1,f p.2) (l.map λq=>(q.1,f q.2))
 |[]=>rfl
 |q::r=>by
  show(if cg p.1 q.1 then p::q::r else q::zZ p r).map _=if cg p.1 q.1 then _ else _;split
  .rfl
  .rw[QS,uq f p r]
theorem Ab (f:A->B):∀l:List (P8×A),(zt l).map (λq=>(q.1,f q.2))=zt (l.map λq=>(q.1,f q.2))
 |[]=>rfl
 |p::r=>by rw[QS,zU,zU,uq,Ab f r]
def G8 (hl:ks.length=bs.length)(h:yF P8 (ks.map (0::·)) ks=some M):
  ∃ps:List (P8×Addr),ps.Perm (ks.zip bs)/\ps.map Prod.fst=M.reverse/\(ps.Pairwise λx y=>HT.lexLt x.1 y.1=false)/\ks.Nodup:=by
 rw[xY]at h;have N:(zt (((ks.map (0::·)).zip (ks.zip bs)))).map (λq=>(q.1,q.2.1))=zt ((ks.map (0::·)).zip ks):=by
  rw[Ab];congr 1;clear h
  induction ks generalizing bs with
  |nil=>rfl
  |cons k ks O=>
   cases bs with
   |nil=>cases hl
   |cons b bs=>exact NY ((0::k,k)::·) (O (Nat.succ.inj hl))
 rw[<-N]at h;have I:∀q∈zt ((ks.map (0::·)).zip (ks.zip bs)),q.1=0::q.2.1:=λq Q=>by
  obtain⟨i,U⟩:=QG ((wu _).mem_iff.mp Q);obtain⟨J,Y⟩:=Wg.mp U;obtain⟨j,_⟩:=Wg.mp Y;rw[Qm,j]at J;exact(Option.some.inj J).symm
 have u:=wu ((ks.map (0::·)).zip (ks.zip bs));generalize zt ((ks.map (0::·)).zip (ks.zip bs))=Z at *
 cases G:yk ((Z.map λq=>(q.1,q.2.1)).map Prod.fst)with
 |false=>rw[G,N1 QQ]at h;cases h
 |true=>
  rw[G,N0 rfl]at h;cases h;have pw:=(gP G).1;rw[Q6]at pw;have z:((ks.map (0::·)).zip (ks.zip bs)).map Prod.snd=ks.zip bs:=W6 (by simp;lia);have lt:∀{x y:P8×(P8×Addr)},x∈Z->y∈Z->HT.lexLt x.1 y.1=true->HT.lexLt x.2.1 y.2.1=true:=λ{x y} A B q=>by
   rw[I x A,I y B,HT.aQ,N0 rfl]at q;exact q
  have H:=u.map Prod.snd;rw[z]at H;refine⟨(Z.map Prod.snd).reverse,(Vn _).trans H,?_,?_,?_⟩
  .rw[List.map_reverse,Wv,Wv];rfl
  .rw[List.pairwise_reverse,Q6];refine pw.imp_of_mem λ{x y} A B q=>?_;have E:=lt A B q;cases e:HT.lexLt y.2.1 x.2.1 with
   |false=>rfl
   |true=>have:=xg _ _ _ E e;rw[yP]at this;cases this
  .have o:(Z.map λq=>q.2.1).Nodup:=by
    unfold VA;rw[Q6];refine pw.imp_of_mem λ{x y} A B q e=>?_;have E:=lt A B q;rw[e,yP]at E;cases E
   have:=H.map Prod.fst;rw[Wv,Vq (by lia)]at this;exact this.nodup_iff.mp o
end Mini
namespace L2
open PySem PySem.Spec PyProof.Rows
end L2
namespace L2
open PySem PySem.Spec PyProof.Rows
open PySem.W (KatTups KatLex KatGo kat_lt kat_cons kat_nil kat_go kat_yes kat_no kat_kind)
section
variable{prog:LU}{w:LV}{A:L3}{E:N7}{s:Shared}
noncomputable def pU(A:L3)(s:Shared)(vs out:O7):Prop:=∃B:Value->P8,(∀x∈vs,∀y∈vs,fg (tuples' true) A s x y (HT.lexLt (B x) (B y)))/\(vs.map B).Nodup/\out.Perm vs/\(out.Pairwise λx y=>HT.lexLt (B y) (B x)=false)/\vs.length<64
noncomputable def dJ(A:L3)(s:Shared)(vs out:O7):Prop:=(vs.length<2->out=vs)/\out.length=vs.length/\(2<=vs.length->∃G:Nt,(∀(prog:LU) (w:LV) (E:N7) (Q:Nt->Shared->Prop),Q G s->L5 (L6 prog w) A (keyKind' vs.toArray) Q E s) /\
 ∀(prog:LU) (w:LV) (E:N7) (Q:Unit->Nw->Prop),(∀B:Nw,(NA B).map (·.2)=out.toArray->Ny B=none->Q () B)->wpS (L6 prog w) A E s sortRuns' Q (SortSt.mk' G (vs.toArray.zip vs.toArray) #[] 7 none))
def dJ.T{vs out:O7}(h:rP s vs)(I:pU A s vs out):dJ A s vs out:=by
 obtain⟨G,J,M,H,N,O⟩:=I;exact⟨λB=>qX B H,H.length_eq,λB=>⟨tuples' true,λprog w E Q q=>Ek h B q,λprog w E Q q=>vj (key:=G) B J M H N (.inl O) q⟩⟩
def jq (M:s.heap.get? a=some (NG "list" vs.toArray n))(j:vs.length<=sizeLine)(u:out.length<=sizeLine)(z:∀s':Shared,(∀b o,b≠a->s.heap.get? b=some o->s'.heap.get? b=some o)->dJ A s' vs out)(h:P (.done (.ret .none)) {s with heap:=NH s.heap a vs out.toArray}):
  L5 (L6 prog w) A (Builtin.«list.sort» ⟨[.ref a],[]⟩) P E s:=by
 rw[list_sort_plain];have O:a<s.heap.objs.size:=Qe M;have N:vs.toArray.size<=sizeLine:=by simpa using j
 refine Mj (listItems_at M rfl ?_);refine Mj (NI M rfl ?_ N (by simp));obtain⟨H,I⟩:∃H,(s.heap.update a (Obj.mapSeq λ_=>#[])).get? a=some (NG "list" #[] H):=⟨_,NJ M (λ_=>#[])⟩;refine Mj (NK I rfl ?_);refine Mj (wpAny_newTuple ?_);refine Mj (NL ?_);refine Mk ?_;have G:(((s.heap.update a (Obj.mapSeq λ_=>#[])).push (NG "tuple" vs.toArray 0)).push (NG "list" #[] 0)).get? a=some (NG "list" #[] H):=by
  rw[WX _ _ _ (by rw[NM,WC];exact Qu (Wk O)),WX _ _ _ (by rw[WC];exact Qu O)];exact I
 have d:∀b o,b≠a->s.heap.get? b=some o->(((s.heap.update a (Obj.mapSeq λ_=>#[])).push (NG "tuple" vs.toArray 0)).push (NG "list" #[] 0)).get? b=some o:=by
  intro b o l e;refine Qc _ (Qc _ ?_);rw[Wf _ _ _ _ l];exact e
 have Q:=z {s with heap:=((s.heap.update a (Obj.mapSeq λ_=>#[])).push (NG "tuple" vs.toArray 0)).push (NG "list" #[] 0)} d;show L5 (L6 prog w) A _ P E {s with heap:=((s.heap.update a (Obj.mapSeq λ_=>#[])).push (NG "tuple" vs.toArray 0)).push (NG "list" #[] 0)};dsimp only;have g:vs.toArray.size=vs.length:=by simp
 by_cases J:vs.toArray.size<2
 .rw[N0 J,N0 J];refine Mj (Mp ?_);rw[StateT.run_pure];refine Mj (Mp ?_);dsimp only;have U:(vs.toArray.zip vs.toArray).map (·.2)=out.toArray:=by
   have H:out=vs:=Q.1 (by simpa using J);rw[H];apply Array.ext';simpa using gK vs
  refine Mj (NK G rfl ?_);refine Mj (NI G rfl ?_ (by simp) (by show((vs.toArray.zip vs.toArray).map (·.2)).size<=_;rw[U];simp;lia));simp only[bne_self_eq_false,QL,if_false];rw[show(NA (SortSt.mk' general' (vs.toArray.zip vs.toArray) #[] 7 none)).map (·.2)=out.toArray from U];exact Mp h
 .rw[N1 J,N1 J];obtain⟨κ,f,t⟩:=Q.2.2 (by lia);refine Mj (f _ _ _ _ ?_);refine Mj (L9 (t _ _ _ (λ_ B=>(NA B).map (·.2)=out.toArray/\Ny B=none) λB m i=>⟨m,i⟩) ?_ λ_ _ e=>e);rintro⟨⟨⟩,B⟩ s' ⟨rfl,Y,y⟩;dsimp only;refine Mj (NK G rfl ?_);refine Mj (NI G rfl ?_ (by simp) (by show((NA B).map (·.2)).size<=_;rw[Y];simp;lia));rw[y];simp only[bne_self_eq_false,QL,if_false];rw[Y];exact Mp h
end
end L2
namespace L2
open PySem PySem.Spec PyProof.Rows
noncomputable def rN(K:Qb)(H:Hp)(bs E:O9):Prop:=∃(A:O1) (n:Nat),0<n/\A.length=bs.length/\(∀(i:Nat) b k,bs[i]?=some b->A[i]?=some k->k.length=n/\bC K H b (k.map V.int)) /\
 A.Nodup/\∃B:List (P8×Addr),B.Perm (A.zip bs)/\E=B.map Prod.snd/\(B.Pairwise λx y=>HT.lexLt y.1 x.1=false)/\bs.length<64
section
variable{X:Cx}
def Ej (A:L3)(I:Inv X pins σ H s)(hr:rN X.K H bs cs):
  cs.length=bs.length/\∀s':Shared,(∀b o,s.heap.get? b=some o->s'.heap.get? b=some o)->dJ A s' (bs.map Value.ref) (cs.map Value.ref):=by
 obtain⟨B,n,hn0,hl,hk,U,Y,N,rfl,u,h64⟩:=hr;have O:bs.Nodup:=by
  unfold VA;rw[Q4];intro i j J hj hij e';have z:i<B.length:=by lia
  have d:j<B.length:=by lia
  obtain⟨_,q1⟩:=hk i bs[i] B[i] (by simp[J]) (by simp[z]);obtain⟨_,q2⟩:=hk j bs[j] B[j] (by simp[hj]) (by simp[d]);rw[e']at q1;have:=I.tuple_inj q1 q2;have e:B[i]=B[j]:=(List.map_inj_right λa b h=>by cases h;rfl).mp this;exact Q4.mp U i j z d hij e
 have f:(Y.map Prod.snd).Perm bs:=by
  have:=N.map Prod.snd
  rwa[W6 (by lia)]at this
 have hso:(Y.map Prod.snd).Pairwise λx y=>HT.lexLt ((B[bs.idxOf y]?).getD []) ((B[bs.idxOf x]?).getD [])=false:=by
  have hm:∀p∈Y,(B[bs.idxOf p.2]?).getD []=p.1:=λp hp=>by
   obtain⟨i,J⟩:=QG (N.mem_iff.mp hp);obtain⟨h1,h2⟩:=Wg.mp J;obtain⟨h3,h4⟩:=Qa.mp h2;rw[<-h4,O.idxOf_getElem i h3,h1];rfl
  rw[Q6];refine u.imp_of_mem λ{a b} ha E h=>?_;rw[hm a ha,hm b E];exact h
 have hcs:(Y.map Prod.snd).length=bs.length:=f.length_eq;clear u N;generalize Y.map Prod.snd=cs at *
 have M:∀b∈bs,∃(i:Nat) (k:P8),bs[i]?=some b/\B[i]?=some k/\(B[bs.idxOf b]?).getD []=k/\k.length=n/\bC X.K H b (k.map V.int):=λb E=>by
  obtain⟨i,J⟩:=QG E;obtain⟨h3,h4⟩:=Qa.mp J;have Q:B[i]?=some (B[i]'(by lia)):=by simp
  obtain⟨w,g2⟩:=hk i b _ J Q;exact⟨i,_,J,Q,by rw[<-h4,O.idxOf_getElem i h3,Q];rfl,w,g2⟩
 refine⟨hcs,λs' kp=>?_⟩
 .have tp:∀b∈bs,∃G:O7,az (((B[bs.idxOf b]?).getD []).map V.int) G/\s'.heap.IsTuple b G.toArray:=λb E=>by
   obtain⟨i,k,_,_,e,_,g⟩:=M b E;obtain⟨G,r,p,_⟩:=I.tuple g;obtain⟨o,ho,hc,m,hd⟩:=(show s.heap.IsTuple b G.toArray from p);exact⟨G,by rw[e];exact r,o,kp _ _ ho,hc,m,hd⟩
  have fst:∀b∈bs,∃t,∃o xs n,s'.heap.get? b=some o/\o.cls=.type "tuple" /\ o.data=.seq xs n/\xs[0]?=some (Value.int (((B[bs.idxOf b]?).getD []).getD 0 0) t):=λb E=>by
   obtain⟨G,r,o,ho,hc,m,hd⟩:=tp b E;obtain⟨i,k,_,_,e,w,_⟩:=M b E;rw[e]at r ⊢;cases k with
   |nil=>simp at w;lia
   |cons a l=>
    obtain⟨t,us,rfl⟩:=G9 r;exact⟨t,o,_,m,ho,hc,hd,by simp⟩
  classical
  refine dJ.T ⟨bs.map λb=>if h:b∈bs then Value.int (((B[bs.idxOf b]?).getD []).getD 0 0) (Classical.choose (fst b h))else .none,rO λb E=>?_,by simp,λv hv=>?_⟩ ⟨λv=>match v with
   |.ref b=>(B[bs.idxOf b]?).getD []
   |_=>[],λx hx y hy=>?_,?_,f.map _,by rw[Q6];exact⟨hso,by rw[Qs];exact h64⟩⟩
  .rw[dif_pos E];exact Classical.choose_spec (fst b E)
  .obtain ⟨b,E,rfl⟩:=Wc.mp hv;exact⟨_,_,dif_pos E⟩
  .obtain ⟨b1,hb1,rfl⟩:=Wc.mp hx;obtain⟨b0,hb0,rfl⟩:=Wc.mp hy;obtain⟨i1,r1,p1⟩:=tp b1 hb1;obtain⟨i0,r0,p0⟩:=tp b0 hb0;obtain⟨_,_,_,_,e1,w,_⟩:=M b1 hb1;obtain⟨_,_,_,_,e0,g0,_⟩:=M b0 hb0;exact fg.T p1 p0 r1 r0 (show((B[bs.idxOf b1]?).getD []).length=((B[bs.idxOf b0]?).getD []).length by rw[e1,e0,w,g0])
  .rw[Wv];have:bs.map (λb=>(B[bs.idxOf b]?).getD [])=B:=by
    apply Wq;intro i;rw[Qm];by_cases J:i<bs.length
    .have E:bs[i]?=some bs[i]:=by simp[J]
     rw[E];show some ((B[bs.idxOf bs[i]]?).getD [])=_;rw[O.idxOf_getElem i J];simp[show i<B.length by lia]
    .rw[Qq (by lia),Qq (by lia)];rfl
   exact(show(bs.map λb=>(B[bs.idxOf b]?).getD []).Nodup by rw[this];exact U)
end
end L2
namespace Mini
open PySem PySem.Spec PyProof.Rows L2
end Mini
namespace L2
open PySem PySem.Spec PyProof.Rows
section
variable{X:Cx}
def HI(w:X.calm=true):aW X (.builtin "min") (λY H Q=>∃(v d:Addr) (xs:List TK) (B:P8),Y=[.ref v]/\H v=some (ki v d)/\yn X.K H d xs/\az (B.map V.int) (xs.map (·.2.2))/\0<B.length/\Q (.int (wI B)) H):=by
 intro j s σ H Y ws Q I r h;obtain⟨v,d,xs,B,rfl,U,td,z,h0,q⟩:=h;obtain⟨u,rfl,rx⟩:=xb r;cases rx;obtain⟨_,od,l,g,ex,J,sz,M⟩:=ye I td;have vw:s.heap.IsValuesView v d:=(I.hok v _ U).1;have E:B.length=xs.length:=by have:=z.length;simpa using this
 have N:=Qe g;have val:∀(i:Nat) (v:Value),(∃e,l[i]?=some e/\v=e.val)->∃t,v=.int (B.getD i 0) t:=by
  rintro i _ ⟨e,f,rfl⟩;have m:i<xs.length:=by rw[<-sz];exact(WA.mp f).1
  have n:=M i _ (Ql m);rw[f]at n;obtain rfl:=Option.some.inj n;obtain⟨y,O,ry⟩:=z.at (i:=i) (u:=xs[i].2.2) (by rw[Qm,Ql m];rfl);rw[Qm]at O;cases G:B[i]? with
  |none=>rw[G]at O;cases O
  |some b=>
   rw[G]at O;cases O;obtain⟨t,ht⟩:=(ry:∃t,xs[i].2.2=.int b t);have e:B.getD i 0=b:=by rw[Qz,G];rfl
   exact⟨t,by show xs[i].2.2=Value.int (B.getD i 0) t;rw[e,ht]⟩
 refine NP (sF vw g J sz ?_);refine⟨s.heap.objs.size,_,_,_,_,_,_,rfl,tP (A:=X.A.in1) (I.ok.hd w) s.heap.objs.size d (Qu N) od l xs.length J sz,⟨⟨_,Qh _ rfl,rfl,rfl⟩,Qc _ g⟩,?_,by rw[<-E];exact h0,CmpOf.ints_lt (λi=>B.getD i 0) val,λv h' tk U hk=>?_⟩
 .intro b G;have a:s.heap.objs.size<(s.heap.push {cls:=.type "dict_valueiterator",data:=.fields #[.ref d,.int 0 0,.int xs.length 0,.int xs.length 0]}).objs.size:=Qe (Qh _ rfl);have:b=s.heap.objs.size\/b=d:=by simpa using G
  rcases this with rfl|rfl
  .exact a
  .exact WE N a
 .rw[<-E]at U;obtain⟨t,rfl⟩:=val _ v U;exact⟨.int (wI B),H,I.kept (t':=tk) λb o e=>hk b o (λG=>by
   have:b=s.heap.objs.size:=by simpa using G
   exact N2 (Qe e) (by rw[this];exact Q3 _)) (Qc _ e),⟨t,rfl⟩,q⟩
end
section
variable{prog:LU}{w:LV}{A:L3}{E:N7}{s:Shared}
def Ei (quiet:A.handled=none)(it d:Addr)(J:d≠it)(M:Obj)(G:Array DictEntry)(n:Nat)(H:M.data=.dict G n)(sz:G.size=n):
  Walks prog w A it [it,d] [it] n (λi v=>∃e,G[i]?=some e/\v=e.key) (λi h=>h.IsKeyIter it d i n n/\h.get? d=some M) where
 sub:=by simp
 frame:=λi h I st k=>by
  obtain⟨⟨o,a,b⟩,c⟩:=st;exact⟨⟨o,k it (by simp) o a,b⟩,k d (by simp) M c⟩
 item:=λi s Q E Y st B=>by
  refine sI st.1 st.2 H sz Y λI N U=>?_;exact B _ I s.toks ⟨G[i]'(by lia),by simp[show i<G.size by lia],rfl⟩ ⟨N,(U.2 d J).trans st.2⟩ λb o O e=>(U.2 b (by simpa using O)).trans e
 done:=λs Q E st B=>sH quiet st.1 st.2 H sz (Qk _) λI j=>B I s.toks λb o O e=>j b o (by simpa using O) e
 self:=λ_ _ _ _ st B=>NR st.1 B
def mT (B:(d==LZ)=false)(ex:G.ExactDict)(H:G.data=.dict I n)(sz:I.size=n):
  PySem.W.KdlSrc prog w "dict" d d n (λi v=>∃e,I[i]?=some e/\v=e.key) (λh=>h.get? d=some G) where
 type:=λ_ g=>⟨G,g,ex.1⟩
 there:=λ_ g=>⟨Qe g,Qe g⟩
 keep:=λ_ _ g M=>M d (.inl rfl) G g
 notList:=by decide
 notTuple:=by decide
 hint:=λ_ _ _ _ g J=>PySem.W.kdl_hint_dict ⟨G,g,ex.1⟩ J
 iter:=λA s N g=>⟨_,_,(λ_ _ J=>sJ B g ex H sz J),Ei N _ d (Qu (Qe g)) G I n H sz,⟨⟨_,Qh _ rfl,rfl,rfl⟩,Qc _ g⟩⟩
def G7 (K:PySem.W.KdlSrc prog w T r d n P g)(t:A.handled=none)(M:g s.heap)(m:n<=sizeLine)(h:∀(h':LY) (I:Nat) (acc:O4),(∀b o,s.heap.get? b=some o->h'.get? b=some o)->s.heap.objs.size<=h'.objs.size->ItemsOf P acc n->R acc.toList {s with heap:=h',toks:=I}):
  L5 (L6 prog w) A (collect (.ref r)) R E s:=by
 have N:=K.there _ M;unfold collect;refine Mj (wpAny_runValue (Np entry_proto_collect' ?_));rw[Around.under_plainId PySem.F.plain_proto_collect _];show L5 _ A.in1 (newList [] >>= λl=>again (.builtin "list.__iadd__" ⟨[l,.ref r],[]⟩)) _ _ s;refine Mj (M8 ?_);refine Mp ⟨No PySem.F.plain_list_iadd _,Np entry_list_iadd' ?_⟩;rw[Around.under_plainId PySem.F.plain_list_iadd _];have J:(s.heap.push {cls:=.type "list",data:=.seq ([]:O7).toArray}).get? s.heap.objs.size=some {cls:=.type "list",data:=.seq #[]}:=Qh _ rfl;show L5 _ A.in1 (Builtin.List.listExtendWith (.ref s.heap.objs.size) (.ref r) (.ref s.heap.objs.size)) _ _ _;have U:=PySem.W.kdl_extend (A:=A) (s:={s with heap:=s.heap.push {cls:=.type "list",data:=.seq ([]:O7).toArray} })
  (R:=λ(q:Result) (Y:Shared)=>∃(h':LY) (I:Nat) (B:O4) (O:Nat),q=.ok (.ret (.ref s.heap.objs.size))/\Y={s with heap:=h',toks:=I} /\
   (∀b o,s.heap.get? b=some o->h'.get? b=some o)/\h'.get? s.heap.objs.size=some {cls:=.type "list",dict:=none,data:=.seq B O,slots:=#[]}/\ItemsOf P B n)
  K t (K.keep _ _ M λb _ o e=>Qc _ e) s.heap.objs.size (WD N.1) (WD N.2) (.ref s.heap.objs.size) 0 J
  (λh' I B O Q H G=>⟨h',I,B,O,rfl,rfl,λb o e=>Q b o (Qu (Qe e)) (Qc _ e),H,G⟩) m
 refine L9 U (λj Y x=>?_) λe Y x=>?_
 .cases j with
  |done f=>
   obtain⟨h',I,B,O,e,rfl,Q,H,G⟩:=x;cases e;show L5 _ A (load s.heap.objs.size >>= _) _ _ _;refine Mj (wpAny_load H ?_);exact Mp (h h' I B Q (WF (Qe H)) G)
  |again u=>
   refine⟨x.1,MC x.2 λq z y=>?_⟩;obtain⟨h',I,B,O,rfl,rfl,Q,H,G⟩:=y;show L5 _ A (load s.heap.objs.size >>= _) _ _ _;refine Mj (wpAny_load H ?_);exact Mp (h h' I B Q (WF (Qe H)) G)
 .obtain ⟨_,_,_,_,i,_⟩:=x;cases i
end
section
variable{X:Cx}
def G6 {E:Array DictEntry}{xs:List TK}(A:∀(i:Nat) (x:TK),xs[i]?=some x->E[i]?=some (kS x))(h:ItemsOf (λi v=>∃e,E[i]?=some e/\v=e.key) acc xs.length):acc.toList=(xs.map (·.2.1)).map Value.ref:=by
 apply Wq;intro i;rw[Q5];by_cases B:i<xs.length
 .have G:acc[i]?=some (acc[i]'(by rw[h.1];exact B)):=by simp[h.1,B]
  obtain⟨e,H,I⟩:=h.2 i _ G;rw[A i _ (Ql B)]at H;obtain rfl:=Option.some.inj H;rw[G,I];simp[B,kS]
 .rw[W8 (by rw[h.1];lia),Qq (by simp;lia)]
def HH(hc:X.calm=true):aW X (.builtin "sorted") (λxs H Q=>∃(p:Addr) (O:List TK) (B:O9),xs=[.ref p]/\yn X.K H p O/\O.length<=sizeLine/\rN X.K H (O.map (·.2.1)) B/\∀l,H l=none->Q (.ref l) (aG H l (.L (B.map V.ref)))):=by
 intro i s σ H xs us Q I r h;obtain⟨p,O,B,rfl,td,j,hr,q⟩:=h;obtain⟨u,rfl,rx⟩:=xb r;cases rx;obtain⟨J,od,es,g,ex,z,sz,U⟩:=ye I td;obtain⟨M,a⟩:=Ej X.A.in1.in1 I hr;rw[Qs]at M;refine Calls.call_function_entry kind_sorted plain_sorted entry_sorted (args_sorted1 _) ?_;unfold Builtin.«sorted»;refine Mj (m:=checkCount "sorted" 1 1 _) (Mp ?_);refine Mj (G7 (mT J ex z sz) (I.ok.hd hc) g j λA w acc y E Y=>?_);rw[G6 U Y];generalize d:(O.map (·.2.1)).map Value.ref=G at a ⊢;have f:G.length=O.length:=by rw[<-d];simp
 refine Mj (NL ?_);have N:(A.push (NG "list" G.toArray 0)).get? A.objs.size=some (NG "list" G.toArray 0):=Qh _ rfl;refine Mj (Mk (Nf slot_list_sort ⟨_,N,rfl⟩ entry_list_sort (jq (s:={s with heap:=A.push (NG "list" G.toArray 0),toks:=w}) (out:=B.map Value.ref) N (by rw[f];exact j) (by rw[Qs,M];exact j) (λs' k=>a s' λb o e=>k b o (Qu (Qj (Qe e) E)) (Qc _ (y b o e))) ⟨_,rfl,?_⟩) (args_list_sort _)));refine Mp ⟨_,rfl,?_⟩;have t:∀b o,s.heap.get? b=some o->(NH (A.push (NG "list" G.toArray 0)) A.objs.size G (B.map Value.ref).toArray).get? b=some o:=by
  intro b o e;have hb:=Qj (Qe e) E;unfold NH;rw[Wf _ _ _ _ (Qu hb)];refine Qc _ (Qc _ ?_);rw[Wf _ _ _ _ (Qu hb)];exact Qc _ (y b o e)
 obtain⟨c,e⟩:∃c,(NH (A.push (NG "list" G.toArray 0)) A.objs.size G (B.map Value.ref).toArray).get? A.objs.size=some (NG "list" (B.map Value.ref).toArray c):=by
  unfold NH;obtain⟨e1,n⟩:∃e1,((A.push (NG "list" G.toArray 0)).update A.objs.size (Obj.mapSeq λ_=>#[])).get? A.objs.size=some (NG "list" #[] e1):=⟨_,NJ N (λ_=>#[])⟩;exact⟨_,NJ (Qc _ (Qc _ n)) (λ_=>(B.map Value.ref).toArray)⟩
 exact⟨.ref A.objs.size,_,I.laid (t':=w) t E (show bc X.prog X.w _ _ _ (.L (B.map V.ref))from⟨by rw[Qs,M];exact j,_,c,vK B,e⟩),rfl,q _ (I.hok.fresh E)⟩
end
section
variable{X:Cx}
def IE (E:(d==LZ)=false)(B:G.data=.dict H n):
  MeetsIn prog w (Builtin.«dict.__len__» ⟨[.ref d],[]⟩) (λ_ R s=>s.heap.get? d=some G/\R (.ok (.ret (.int H.size s.toks))) {s with toks:=s.toks+1}):=
 .of_wp λA R s ⟨I,h⟩=>by
  show L5 _ _ (dictSize d >>= _) _ _ s;unfold dictSize;refine Mj (Mj (Nl I B (Mp ?_)));show L5 _ _ (Builtin.Dict.pendingCount d >>= _) _ _ s;refine Mj (wpAny_pendingCount_other E ?_);refine wpAny_ret_mkInt ?_;rw[Nat.add_zero];exact h
def HG:aW X (.builtin "len") (λxs H Q=>∃(d:Addr) (B:List TK),xs=[.ref d]/\yn X.K H d B/\B.length<=sizeLine/\Q (.int B.length) H):=by
 intro J s o H xs l Q I r h;obtain⟨d,B,rfl,O,U,q⟩:=h;obtain⟨u,rfl,Y⟩:=xb r;cases Y;obtain⟨A,j,E,g,z,G,sz,M⟩:=ye I O;have N:s.TypeIs (.ref d) "dict":=⟨j,g,z.1⟩;refine Calls.call_function_entry kind_len plain_len entry_len (args_len1 _) ?_;unfold Builtin.«len»;refine Mj (m:=oneArg "len" _) (Mp ?_);refine Mj (m:=callSpecial? (.ref d) (Str.ofString "__len__")) (Nc (name:=Str.ofString "__len__") N PySem.F.slot_dict_len
  (call_meetsIn PySem.F.slot_dict_len N PySem.F.entry_dict_len (PySem.F.args_dict_len_1 _) (IE A G) ⟨g,?_⟩))
 show L5 _ _ _ _ _ {s with toks:=s.toks+1};refine Mj (Mk (Mp ?_));refine Mj (wpAny_letGo ?_);have f:E.size<2^63:=by rw[sz];rw[My]at U;lia
 show L5 _ _ (if((E.size:Nat):Int)<0 then _ else _) _ _ _;rw[N1 (by lia)];show L5 _ _ (if((E.size:Nat):Int) ≥ 2^63 then _ else _) _ _ _;rw[N1 (by lia)];exact Mj (wpAny_mkInt (Mp ⟨_,rfl,⟨.int B.length,H,I.kept (t':=s.toks+1+1) (λ_ _ e=>e),⟨_,by rw[sz]⟩,q⟩⟩))
end
noncomputable def dN:P8->P8->Bool
 |[],_=>true
 |_::_,[]=>false
 |x::A,y::B=>if x=y then dN A B else decide (x<=y)
section
open PySem.SeqAt
open PySem.AutoSeq1 (wpAny_loadPart')
open PySem.MeetsSeq PySem.MeetsSeq2 PySem.MeetsSeq3
theorem Aa(l b:Addr)(items B:O4)(n n2:Nat)(dd O:O6)(sl Q:Array O3):
  ∀(x y:P8) (i:Nat),items.size=i+x.length->B.size=i+y.length->(∀(j:Nat) (v:Value),items[i+j]?=some v->∃t,v=.int (x.getD j 0) t)->(∀(j:Nat) (v:Value),B[i+j]?=some v->∃t,v=.int (y.getD j 0) t) ->
   Meets (Builtin.«list.__eq__.loop» ⟨[.ref l,.ref b,Mq i,Mq 1],[]⟩)
   (λA R s=>s.heap.get? l=some {cls:=.type "list",dict:=dd,data:=.seq items n,slots:=sl}/\s.heap.get? b=some {cls:=.type "list",dict:=O,data:=.seq B n2,slots:=Q} /\
    R (.ok (.ret (.bool (dN x y)))) s)
 |x,[],i,J,M,ix,Y=>by
  intro E w A R s h;obtain⟨hp,g,d,tk,os⟩:=s;obtain⟨hl,G,h⟩:=h
  wp_walk using Nn hl,Nn G
  have H:B[((i:Nat):Int).toNat]?=none:=by simp at M ⊢;lia
  have e:decide (items.size<=B.size)=dN x []:=by
   cases x with
   |nil=>exact N3 (by simp at J M;lia)
   |cons _ _=>exact NZ (by simp at J M;lia)
  rw[H];cases items[((i:Nat):Int).toNat]? with
  |none=>
   wp_walk using Nn hl,Nn G
   show R (.ok (.ret (.bool (decide (items.size<=B.size))))) _;rw[e];exact h
  |some _=>
   wp_walk using Nn hl,Nn G
   show R (.ok (.ret (.bool (decide (items.size<=B.size))))) _;rw[e];exact h
 |[],y::o,i,J,M,ix,Y=>by
  intro E w A R s h;obtain⟨hp,g,d,tk,os⟩:=s;obtain⟨hl,G,h⟩:=h
  wp_walk using Nn hl,Nn G
  have I:items[((i:Nat):Int).toNat]?=none:=by simp at J ⊢;lia
  rw[I]
  wp_walk using Nn hl,Nn G
  show R (.ok (.ret (.bool (decide (items.size<=B.size))))) _;rw[N3 (by simp at J M;lia)];exact h
 |x::xs,y::o,i,J,M,ix,Y=>by
  intro E w A R s h;have ih:=Aa l b items B n n2 dd O sl Q xs o (i+1) (by simp at J;lia) (by simp at M;lia)
   (λj v f=>by simpa using ix (j+1) v (by rw[show i+(j+1)=i+1+j by lia];exact f)) (λj v f=>by simpa using Y (j+1) v (by rw[show i+(j+1)=i+1+j by lia];exact f))
  obtain⟨hp,g,d,tk,os⟩:=s;obtain⟨hl,G,h⟩:=h
  wp_walk using Nn hl,Nn G
  have U:i<items.size:=by simp at J;lia
  have N:i<B.size:=by simp at M;lia
  have I:items[((i:Nat):Int).toNat]?=some items[i]:=by simp[U]
  have H:B[((i:Nat):Int).toNat]?=some B[i]:=by simp[N]
  have hc:((i:Int)+1)=((i+1:Nat):Int):=by push_cast;rfl
  obtain⟨m,u⟩:=ix 0 items[i] (by simp[U]);obtain⟨a,z⟩:=Y 0 B[i] (by simp[N]);have u:items[i]=.int x m:=u;have z:B[i]=.int y a:=z;have he:∀s,EqAt A.in1 s items[i] B[i] (decide (x=y)):=λs=>by rw[u,z];exact EqAt.int_int _ m _ a
  replace h:R (.ok (.ret (.bool (if x=y then dN xs o else decide (x<=y))))) _:=h
  rw[I,H];refine Mj (he _ E w _ _ ?_);by_cases e:x=y
  .rw[N0 e]at h;simp only[e,decide_true]
   wp_walk
   rw[hc];exact⟨No plain_eq_loop _,Np entry_eq_loop (by
    rw[Around.under_plainId plain_eq_loop _];exact ih E w A R _ ⟨hl,G,h⟩)⟩
  .rw[N1 e]at h;simp only[e,decide_false]
   wp_walk using Nn hl,Nn G
   rw[I,H,u,z];refine Mj ?_;refine(le_int ?_:L5 (L6 E w) _ (Mv .LtE (.int x m) (.int y a)) _ _ _)
   wp_walk
   exact h
def gY (l b:Addr)(items B:O4)(n n2:Nat)(J E:O6)(M G:Array O3)(N:ba items x)(O:ba B y):
  Meets (Builtin.«list.__le__» ⟨[.ref l,.ref b],[]⟩)
   (λA R s=>s.heap.get? l=some {cls:=.type "list",dict:=J,data:=.seq items n,slots:=M}/\s.heap.get? b=some {cls:=.type "list",dict:=E,data:=.seq B n2,slots:=G} /\
    R (.ok (.ret (.bool (dN x y)))) s):=by
 intro H w A R s h;obtain⟨U,g,d,Y,os⟩:=s;obtain⟨hl,Q,h⟩:=h;have f3:=AutoSeq1.sub_list_list
 wp_walk using Nn hl,Nn Q
 exact⟨No plain_eq_loop _,Np entry_eq_loop (by
  rw[Around.under_plainId plain_eq_loop _];exact Aa l b items B n n2 J E M G x y 0 (by simpa using N.1) (by simpa using O.1) (λj v I=>N.2 j v (by simpa using I)) (λj v I=>O.2 j v (by simpa using I)) H w A R _ ⟨hl,Q,h⟩)⟩
end
section
variable{X:Cx}
noncomputable def rM(K:Qb):R2:=λx y H Q=>∃(p q:Addr) (A B:P8),x=.ref p/\y=.ref q/\bb K H p (A.map V.int)/\bb K H q (B.map V.int)/\Q (.bl (dN A B)) H
def tO(g:X.A.units<Mz):bV X (Mv .LtE) (rM X.K):=by
 intro O s σ H x y v u Q I f t h;obtain⟨a,b,U,Y,rfl,rfl,m,i,q⟩:=h;cases f;cases t;obtain⟨J,w,i1⟩:=kE I (s':=s) (λ_ _ e=>e) m;obtain⟨A,h2,i2⟩:=kE I (s':=s) (λ_ _ e=>e) i;obtain⟨⟨cls,dd,j,sl⟩,z,o,n,d⟩:=w;obtain⟨⟨l,M,data2,N⟩,B,E,n2,G⟩:=h2;simp only at o d E G;subst o d E G;show L5 _ _ (MJ .LtE _ _) _ _ s;exact Nq (op:=.LtE) ⟨_,z,rfl⟩ ⟨_,B,rfl⟩ PySem.F.slot_list_le PySem.F.entry_list_le (PySem.F.args_list_le_2 _ _) (gY a b J A n n2 dd M sl N i1 i2)
  ⟨z,B,show Value.bool (dN U Y)≠Value.notImplemented/\_ from⟨(λx=>nomatch x),⟨.bl (dN U Y),H,I,rfl,q⟩⟩⟩ g
end
end L2
namespace Mini
open PySem PySem.Spec PyProof.Rows L2
section
variable{X:Cx}{cl:N6}{x y:Expr}{a b:Ex}{pos:Pos}
def jr (A:k=.mnv\/k=.sok\/k=.dln)(h:fu k w m=true):∃l ks ws,w=.ref l/\m[l]?=some (.D ks ws):=by
 have B:fu .sum w m=true:=by rcases A with rfl|rfl|rfl<;>exact h
 exact vp (.inr rfl) B
def FJ (hc:X.calm=true)(ha:PE X x (aF X.K (ae cl a)))(hg:Gl X "min")(B:X.mg "min"=none)(hx:ya x=true)(hl:(ap.endLine==p2.line)=true):
  PE X (.Call (.Name "min" p1) [.Call (.Attribute x "values" ap) [] [] p2] [] pos) (aF X.K (ae cl (.dop .mnv a .u .u))):=by
 refine PE.imp (zP (HI hc) hg B PyProof.Rows.boot_min (zA (tQ PySem.F.slot_dict_values PySem.F.type_dict_values uu ha (bp hx) hl) yj)) λσ H Q h=>?_;obtain⟨as,M,m,S,G,P⟩:=h;refine⟨as,M,m,S,G,am.bind P λw m1 A E v T1 N d O=>?_⟩;obtain⟨hd,O⟩:=wW O;obtain⟨l,ks,Y,rfl,B⟩:=jr (.inl rfl) hd;obtain⟨I,g,vs,rfl,ha1,f,_,r,rv⟩:=yS N B d;refine⟨⟨I,g,rfl,f⟩,I,g,rfl,rfl,f,λq t=>?_⟩;have P2:am X.K A E Q (wP .mnv (.ref l) (.T []) (.T []) m1):=O;have P3:am X.K A E Q (match m1[l]? with
  |some (.D _ Y)=>match zT Y with
   |some (i::r)=>.ok (.int (xV i r)) m1
   |_=>.no
  |_=>.no):=P2
 rw[B]at P3;dsimp only at P3;cases J:zT Y with
 |none=>rw[J]at P3;exact P3.elim
 |some k=>
  cases k with
  |nil=>rw[J]at P3;exact P3.elim
  |cons i k=>
   rw[J]at P3;have U:Step A E A (aG E q (ki q I)):=Step.updD .refl t;have n:aJ X.K A m1 (aG E q (ki q I)):=N.keep U λb _ o e=>by rw[ze (zo e t)];exact e
   obtain⟨a2,j,vs2,e2,ha2,u,_,r2,z⟩:=yS n B (d.mono N U);cases e2;obtain rfl:=xj r2 J;exact⟨q,I,j,i::k,rfl,zf,u,z,by simp,by rw[je];exact(am.step P3 U).ok n (aa.mpr rfl)⟩
def FI:∀{ks:O1},eW ks=true->∃n,0<n/\∀k∈ks,k.length=n
 |[],h=>by cases h
 |k::r,h=>by
  simp only[eW,Qr,N5,Qx]at h;exact⟨k.length,h.1,λq hq=>by
   rcases Qn.mp hq with rfl|hq
   .rfl
   .exact h.2 q hq⟩
def Eh (hc:X.calm=true)(hg:Gl X "sorted")(o:X.mg "sorted"=none)(hs:zi x=true)(ha:PE X x (aF X.K (ae cl a))):
  PE X (.Call (.Name "sorted" p) [x] [] pos) (aF X.K (ae cl (.dop .sok a .u .u))):=by
 refine PE.imp (zP (HH hc) hg o PyProof.Rows.boot_sorted (zA ha yj (zd hs)) (by decide +kernel) (by decide +kernel) (zd hs) rfl) λσ H Q h=>?_;obtain⟨as,env,m,S,G,P⟩:=h;refine⟨as,env,m,S,G,am.bind P λw m1 I N v T1 S1 R1 d=>?_⟩;obtain⟨hd,d⟩:=wW d;obtain⟨l,B,ws,rfl,o⟩:=jr (.inr (.inl rfl)) hd;obtain⟨a1,O,vs,rfl,ha1,td,U,r,rv⟩:=yS S1 o R1;have P2:am X.K I N Q (wP .sok (.ref l) (.T []) (.T []) m1):=d;have P3:am X.K I N Q (match m1[l]? with
  |some (.D B _)=>match eW B&&decide (B.length<64),yF P8 (B.map (0::·)) B with
   |true,some g=>alloc m1 (g.map λk=>.T (k.map Wd.int))
   |_,_=>.no
  |_=>.no):=P2
 clear P d P2;rw[o]at P3;dsimp only at P3;cases M:eW B&&decide (B.length<64)with
 |false=>rw[M]at P3;exact P3.elim
 |true=>
  cases ht:yF P8 (B.map (0::·)) B with
  |none=>rw[M,ht]at P3;exact P3.elim
  |some g=>
   rw[M,ht]at P3;dsimp only at P3;rw[Qr,N5]at M;obtain⟨n,hn0,hn⟩:=FI M.1;have hl:B.length=(O.map (·.2.1)).length:=by rw[<-U];simp
   obtain⟨J,Y,j,u,hnd⟩:=G8 hl ht;have hb:∀(i:Nat) b k,(O.map (·.2.1))[i]?=some b->B[i]?=some k->k.length=n/\bC X.K N b (k.map V.int):=λi b k e1 f=>by
    refine⟨hn k (Qo f),?_⟩;rw[<-U,Qm]at f;rw[Qm]at e1;obtain⟨t,e3,rfl⟩:=Qy.mp e1;rw[e3]at f;cases f;exact td.2 t (Qo e3)
   have A:J.reverse.Perm (B.zip (O.map (·.2.1))):=(Vn _).trans Y;have E:J.reverse.map Prod.fst=g:=by rw[List.map_reverse,j,List.reverse_reverse]
   have tp:∀q∈J.reverse,bC X.K N q.2 (q.1.map V.int):=λq hq=>by
    obtain⟨n,hn⟩:=QG (A.mem_iff.mp hq);obtain⟨z1,z2⟩:=Wg.mp hn;exact(hb n _ _ z2 z1).2
   have rr:ab X.K I N (g.map λk=>.T (k.map Wd.int)) ((J.reverse.map Prod.snd).map V.ref):=by
    rw[<-E];generalize J.reverse=zs at tp;clear Y j u A E
    induction zs with
    |nil=>exact aq.mpr rfl
    |cons z zs ih=>exact ak.mpr ⟨_,_,rfl,ah.mpr ⟨_,_,rfl,tp z (by simp),vL z.1⟩,ih λq hq=>tp q (by simp[hq])⟩
   obtain⟨h2,h3⟩:=xC S1 rr P3;have hz:O.length<=aA:=by
    have e:=A.length_eq;rw[Qs,Qs,e,Vd,hl,Nat.min_self,Qs]at h2;exact h2
   exact⟨a1,O,J.reverse.map Prod.snd,rfl,td,Qp hz yx,⟨B,n,hn0,hl,hb,hnd,J.reverse,A,rfl,List.pairwise_reverse.mpr u,by rw[<-hl];exact M.2⟩,h3⟩
def Eg (U:Gl X "len")(A:X.mg "len"=none)(N:zi x=true)(Y:PE X x (aF X.K (ae cl a))):
  PE X (.Call (.Name "len" p) [x] [] pos) (aF X.K (ae cl (.dop .dln a .u .u))):=by
 refine PE.imp (zP HG U A PySem.boot_len (zA Y yj (zd N)) (by decide +kernel) (by decide +kernel) (zd N) rfl) λe H Q h=>?_;obtain⟨as,B,m,S,G,P⟩:=h;refine⟨as,B,m,S,G,am.bind P λw m1 E j v t O u I=>?_⟩;obtain⟨z,I⟩:=wW I;obtain⟨l,J,n,rfl,A⟩:=jr (.inr (.inr rfl)) z;obtain⟨o,d,i,rfl,g,f,M,r,rv⟩:=yS O A u;have P3:am X.K E j Q (match m1[l]? with
  |some (.D J _)=>if J.length<=aA then .ok (.int J.length) m1 else .no
  |_=>.no):=I
 rw[A]at P3;obtain⟨hl,P3⟩:=xu P3;rw[<-M,Qs]at hl P3;exact⟨o,d,rfl,f,Qp hl yx,P3.ok O (aa.mpr rfl)⟩
theorem tN:∀a b:P8,dN a b=fD a b
 |[],_=>rfl
 |_::_,[]=>rfl
 |x::A,y::B=>by
  show(if x=y then dN A B else decide (x<=y))=if x=y then fD A B else decide (x<=y);rw[tN A B]
def u9 {K:Qb}(h:aF K (ae cl (.dop .lle a b .u)) σ H Q):dM (rM K) (aF K (ae cl a)) (aF K (ae cl b)) σ H Q:=by
 obtain⟨as,A,m,S,G,P⟩:=h;refine⟨as,A,m,S,G,am.bind P λw m1 E n v O N U Y=>?_⟩;refine⟨E,A,m1,N,G.mono S O,am.bind Y λy m2 I j u z J R2 o=>?_⟩;have P3:am K I j Q (match gG w m2,gG y m2 with
  |some a,some b=>.ok (.bl (fD a b)) m2
  |_,_=>.no):=o
 cases B:gG w m2 with
 |none=>rw[B]at P3;exact P3.elim
 |some d=>
  cases M:gG y m2 with
  |none=>rw[B,M]at P3;exact P3.elim
  |some l=>
   rw[B,M]at P3;obtain⟨g,rfl,f⟩:=Ac J (U.mono N z) B;obtain⟨e,rfl,t⟩:=Ac J R2 M;exact⟨g,e,d,l,rfl,rfl,bb.of f,bb.of t,by rw[tN];exact P3.ok J (ag.mpr rfl)⟩
def tM(G:X.A.units+64<Mz)(A:zV y=true)(B:PE X x (aF X.K (ae cl a)))(E:PE X y (aF X.K (ae cl b))):
  PE X (.Compare x [.LtE] [y] pos) (aF X.K (ae cl (.dop .lle a b .u))):=PE.imp (uP (tO (by lia)) B E (j6 A)) λI H Q h=>u9 h
def Ef(G:X.A.units+64<Mz)(A:zV y=true)(B:PE X x (aF X.K (ae cl a)))(E:PE X y (aF X.K (ae cl b))):
  PT X (.Compare x [.LtE] [y] pos) (y6 X.K (ae cl (.dop .lle a b .u))):=PT.imp (gu (tO (by lia)) B E (j6 A)) λI H Q h=>u9 h
end
section
variable{cl:N6}
def bF.pe (h:bF cl X e (.e x))(A:zg e=false):PE X x (aF X.K (ae cl e)):=(h.1 A).1
def bF.pt (h:bF cl X e (.e x))(A:zg e=false)(B:wU e=false):PT X x (y6 X.K (ae cl e)):=(h.1 A).2.1 B
def bF.pw (h:bF cl X e (.e (.BoolOp op vs pos)))(A:zg e=false):PW X (.BoolOp op vs pos) (y6 X.K (ae cl e)):=(h.1 A).2.2 op vs pos rfl
def bF.pa (h:bF cl X e (.a xs)):PA X xs (jh X.K (ae cl e)):=h
def jt (h:eD A x=true):fH A x:=by
 unfold eD at h;simp only[Ve,N5]at h;exact h
def yN (h:cq A x=true):A.names.lookup x=some .globalImplicit:=N4 h
def vq {K:Qb}(A:∀as H,ai K as H w v):∀σ H Q,aF K (ae cl (.lit w)) σ H Q->tC v σ H Q:=λσ H Q h=>by
 obtain⟨as,B,m,S,G,P⟩:=h;exact am.ok (m:=m) P S (A as H)
def yC (A:zV y=true):∀v,Mt y env v=pure v:=λv=>by
 cases y<;>first|rfl|cases A
structure aw(C:Ctx)(sc:LR)(N:R0)(e:Ex)(n:Nd):Prop where
 h:∀(cl:Nat → R7 → Me → Rz) (d:Nat) (X:Cx),bL C X cl d → X.env.scope=sc → X.N=N → bF cl X e n
def zE (h:aw C A N e n):∀X:Cx,bL C X cl d->X.env.scope=A->X.N=N->bF cl X e n:=h.h cl d
def aw.«V»{C:Ctx}{I:LR}{N:R0}{i:Nat}{x:Str}{p:Pos}(J:N[i]?=some x)(M:eD I x=true)(O:yq x=true):aw C I N (.V i) (.e (.Name x p)):=by
 constructor;intro cl d;intro X l U Y;subst U;subst Y;obtain⟨j,u,_⟩:=yQ O;refine bF.of (PE.imp (kM J (jt M) j u) λg H Q q=>?_);obtain⟨as,A,m,S,G,P⟩:=q;cases E:A[i]? with
 |none=>have B:am X.K as H Q (match A[i]? with|some (some w)=>.ok w m|_=>.no):=P;rw[E]at B;exact B.elim
 |some o=>
  cases o with
  |none=>have B:am X.K as H Q (match A[i]? with|some (some w)=>.ok w m|_=>.no):=P;rw[E]at B;exact B.elim
  |some w=>
   have B:am X.K as H Q (match A[i]? with|some (some w)=>.ok w m|_=>.no):=P;rw[E]at B;obtain⟨v,z,R⟩:=G.get i w E;exact⟨v,z,am.ok (m:=m) B S R⟩
def aw.«N»{C:Ctx}{A:LR}{N:R0}{k}{p:Pos}:aw C A N (.lit .N) (.e (.Constant .none k p)):=by
 constructor;intro cl d;intro X B E G;exact bF.of (PE.imp EY (vq λ_ _=>ao.mpr rfl))
def aw.«bl»{C:Ctx}{A:LR}{N:R0}{b:Bool}{k}{p:Pos}:aw C A N (.lit (.bl b)) (.e (.Constant (.bool b) k p)):=by
 constructor;intro cl d;intro X B E G;exact bF.of (PE.imp Df (vq λ_ _=>ag.mpr rfl))
def aw.«int»{C:Ctx}{A:LR}{N:R0}{i:Int}{k}{p:Pos}:aw C A N (.lit (.int i)) (.e (.Constant (.int i) k p)):=by
 constructor;intro cl d;intro X B E G;exact bF.of (PE.imp EZ (vq λ_ _=>aa.mpr rfl))
def aw.«str»{C:Ctx}{A:LR}{N:R0}{s:Str}{t:R5}{k}{p:Pos}(h:s.cps.toList=t):aw C A N (.lit (.str t)) (.e (.Constant (.str s) k p)):=by
 constructor;intro cl d;intro X B E G;subst h;exact bF.of (PE.imp kN (vq λ_ _=>aB.mpr (by simp)))
def aw.«con»{C:Ctx}{A:LR}{N:R0}{x:Str}{i:Int}{p:Pos}(B:cq A x=true)(E:C.cons.lookup x=some i)(G:yq x=true):aw C A N (.lit (.int i)) (.e (.Name x p)):=by
 constructor;intro cl d;intro X H I O;subst I;obtain⟨J,Q,_⟩:=yQ G;obtain⟨t,M⟩:=H.con.1 x i E;exact bF.of (PE.imp (uR (yN B) M (v:=.int i) ⟨t,rfl⟩ J) (vq λ_ _=>aa.mpr rfl))
def aw.«bin»{C:Ctx}{A:LR}{N:R0}{op:Bo}{a b:Ex}{x y:Expr}{p:Pos}(J:zg a=false)(M:aw C A N a (.e x))(O:zg b=false)(Q:aw C A N b (.e y)):aw C A N (.bin op a b) (.e (.BinOp x (fB op) y p)):=by
 constructor;intro cl d;have B:=M.h cl d;have E:=Q.h cl d;intro X G H I;exact bF.of (DV ((B X G H I).pe J) ((E X G H I).pe O))
def aw.«neg»{C:Ctx}{B:LR}{N:R0}{a:Ex}{x:Expr}{p:Pos}(E:zg a=false)(G:aw C B N a (.e x)):aw C B N (.neg a) (.e (.UnaryOp .USub x p)):=by
 constructor;intro cl d;have A:=G.h cl d;intro X H I J;exact bF.of (DU ((A X H I J).pe E))
def aw.«not»{C:Ctx}{G:LR}{N:R0}{a:Ex}{x:Expr}{p:Pos}(A:zg a=false)(H:wU a=false)(I:aw C G N a (.e x)):aw C G N (.not a) (.e (.UnaryOp .Not x p)):=by
 constructor;intro cl d;have B:=I.h cl d;intro X J M O;have E:=B X J M O;exact⟨λ_=>⟨tG (E.pe A),λ_=>DT (E.pt A H),λU Y Q z=>by cases z⟩,λj=>wJ (tG (E.pe A))⟩
def aw.«and2»{C:Ctx}{A:LR}{N:R0}{a b:Ex}{x y:Expr}{p:Pos}(G:zg a=false)(U:wU a=false)(Y:aw C A N a (.e x))(H:zg b=false)(j:wU b=false)(u:aw C A N b (.e y)):aw C A N (.and a b) (.e (.BoolOp .And [x,y] p)):=by
 constructor;intro cl d;have B:=Y.h cl d;have E:=u.h cl d;intro X I J M;have O:=B X I J M;have Q:=E X I J M;have e:=λ(p:Pos)=>tE (pos:=p) (O.pe G) (tS (Q.pe H));have w:=λ(p:Pos)=>tD (pos:=p) (O.pt G U) (GH (Q.pt H j));exact⟨λ_=>⟨e _,λ_=>(w _).pt,λl g o z=>by cases z;exact w _⟩,λf=>wJ (e _)⟩
def aw.«andN»{C:Ctx}{A:LR}{N:R0}{a b:Ex}{x y z:Expr}{r:P6}{p:Pos}(G:zg a=false)(U:wU a=false)(Y:aw C A N a (.e x))(H:zg b=false)(j:aw C A N b (.e (.BoolOp .And (y::z::r) p))):aw C A N (.and a b) (.e (.BoolOp .And (x::y::z::r) p)):=by
 constructor;intro cl d;have B:=Y.h cl d;have E:=j.h cl d;intro X I J M;have O:=B X I J M;have Q:=E X I J M;have e:=tE (O.pe G) (Q.pe H);have w:=tD (O.pt G U) (Q.pw H);exact⟨λ_=>⟨e,λ_=>w.pt,λo l u z=>by cases z;exact w⟩,λg=>wJ e⟩
def aw.«or2»{C:Ctx}{A:LR}{N:R0}{a b:Ex}{x y:Expr}{p:Pos}(G:zg a=false)(U:wU a=false)(Y:aw C A N a (.e x))(H:zg b=false)(j:wU b=false)(u:aw C A N b (.e y)):aw C A N (.or a b) (.e (.BoolOp .Or [x,y] p)):=by
 constructor;intro cl d;have B:=Y.h cl d;have E:=u.h cl d;intro X I J M;have O:=B X I J M;have Q:=E X I J M;have e:=λ(p:Pos)=>sM (pos:=p) (O.pe G) (tS (Q.pe H));have w:=λ(p:Pos)=>sL (pos:=p) (O.pt G U) (EW (Q.pt H j));exact⟨λ_=>⟨e _,λ_=>(w _).pt,λl g o z=>by cases z;exact w _⟩,λf=>wJ (e _)⟩
def aw.«orN»{C:Ctx}{A:LR}{N:R0}{a b:Ex}{x y z:Expr}{r:P6}{p:Pos}(G:zg a=false)(U:wU a=false)(Y:aw C A N a (.e x))(H:zg b=false)(j:aw C A N b (.e (.BoolOp .Or (y::z::r) p))):aw C A N (.or a b) (.e (.BoolOp .Or (x::y::z::r) p)):=by
 constructor;intro cl d;have B:=Y.h cl d;have E:=j.h cl d;intro X I J M;have O:=B X I J M;have Q:=E X I J M;have e:=sM (O.pe G) (Q.pe H);have w:=sL (O.pt G U) (Q.pw H);exact⟨λ_=>⟨e,λ_=>w.pt,λo l u z=>by cases z;exact w⟩,λg=>wJ e⟩
def aw.«cmp»{C:Ctx}{B:LR}{N:R0}{op:Co}{a b:Ex}{x y:Expr}{p:Pos}(E:zV y=true)(Q:zg a=false)(U:aw C B N a (.e x))(Y:zg b=false)(j:aw C B N b (.e y)):aw C B N (.cmp op a b) (.e (.Compare x [cK op] [y] p)):=by
 constructor;intro cl d;have G:=U.h cl d;have H:=j.h cl d;intro X A M O;have I:=(G X A M O).pe Q;have J:=(H X A M O).pe Y;exact⟨λ_=>⟨tz A.room.units I J E,λ_=>DS A.room.units I J E,λop o u z=>by cases z⟩,λl=>wJ (tz A.room.units I J E)⟩
def aw.«chain»{C:Ctx}{B:LR}{N:R0}{o q:Co}{a b c:Ex}{x y z:Expr}{p:Pos}(E:zV z=true)(Y:zg a=false)(j:aw C B N a (.e x))(u:zg b=false)(l:aw C B N b (.e y))(g:zg c=false)(f:aw C B N c (.e z)):aw C B N (.chain o q a b c) (.e (.Compare x [cK o,cK q] [y,z] p)):=by
 constructor;intro cl d;have G:=j.h cl d;have H:=l.h cl d;have I:=f.h cl d;intro X A J M;have O:=(G X A J M).pe Y;have Q:=(H X A J M).pe u;have U:=(I X A J M).pe g;exact⟨λ_=>⟨Ah A.room.units O Q U E,λ_=>GN A.room.units O Q U E,λt m e z=>by cases z⟩,λn=>wJ (Ah A.room.units O Q U E)⟩
def aw.«ife»{C:Ctx}{A:LR}{N:R0}{a b c:Ex}{x y z:Expr}{p:Pos}(M:zg c=false)(O:wU c=false)(Q:aw C A N c (.e x))(U:zg a=false)(Y:aw C A N a (.e y))(j:zg b=false)(u:aw C A N b (.e z)):aw C A N (.ife c a b) (.e (.IfExp x y z p)):=by
 constructor;intro cl d;have B:=Q.h cl d;have E:=Y.h cl d;have G:=u.h cl d;intro X H I J;have e:=λ(p:Pos)=>DR (pos:=p) ((B X H I J).pt M O) ((E X H I J).pe U) ((G X H I J).pe j);exact⟨λ_=>⟨e _,λz=>(by cases z),λl g o z=>(by cases z)⟩,λf=>wJ (e _)⟩
def aw.«u»{C:Ctx}{A:LR}{N:R0}:aw C A N .u (.a []):=by
 constructor;intro cl d;intro X B E G;exact E9
def aw.«P»{C:Ctx}{A:LR}{N:R0}{a b:Ex}{x:Expr}{xs:P6}(J:zi x=true)(M:zg a=false)(O:aw C A N a (.e x))(Q:aw C A N b (.a xs)):aw C A N (.P a b) (.a (x::xs)):=by
 constructor;intro cl d;have B:=O.h cl d;have E:=Q.h cl d;intro X G H I;exact E8 ((B X G H I).pe M) (E X G H I).pa J
def aw.«call»{C:Ctx}{A:LR}{N:R0}{k:Nat}{a:Ex}{f:Str}{y:Expr}{ys:P6}{p G:Pos}(H:C.fns[k]?=some f)(I:cq A f=true)(J:yq f=true)(M:(y::ys).all zi=true)(O:aw C A N a (.a (y::ys))):aw C A N (.call k a) (.e (.Call (.Name f p) (y::ys) [] G)):=by
 constructor;intro cl d;have B:=O.h cl d;intro X E Q U;subst Q;exact bF.of (E7 E H (yN I) J M (B X E rfl U).pa)
def aw.«blt»{C:Ctx}{B:LR}{N:R0}{b:dL}{a:Ex}{A:Str}{f:Value}{y:Expr}{ys:P6}{p H:Pos}(I:iK b=some (A,f))(J:cq B A=true)(M:yq A=true)(O:(y::ys).all zi=true)(Q:aw C B N a (.a (y::ys))):aw C B N (.blt b a) (.e (.Call (.Name A p) (y::ys) [] H)):=by
 constructor;intro cl d;have E:=Q.h cl d;intro X G U Y;subst U;exact bF.of (DQ G I (yN J) M O (E X G rfl Y).pa)
def aw.«isi»{C:Ctx}{A:LR}{N:R0}{t:Tg}{a:Ex}{y:Expr}{p H B:Pos}(I:cq A "isinstance"=true)(J:cq A (Str.ofString (cO t))=true)(M:zi y=true)(O:zg a=false)(Q:aw C A N a (.e y)):aw C A N (.isi t a) (.e (.Call (.Name "isinstance" p) [y,.Name (Str.ofString (cO t)) H] [] B)):=by
 constructor;intro cl d;have E:=Q.h cl d;intro X G U Y;subst U;exact bF.of (DP G (yN I) (yN J) M ((E X G rfl Y).pe O))
def aw.«L»{C:Ctx}{B:LR}{N:R0}{a:Ex}{xs:P6}{p:Pos}(E:aw C B N a (.a xs)):aw C B N (.L a) (.e (.List xs p)):=by
 constructor;intro cl d;have A:=E.h cl d;intro X G H I;exact bF.of (DO (A X G H I).pa)
def aw.«T»{C:Ctx}{B:LR}{N:R0}{a:Ex}{xs:P6}{k}{p:Pos}(E:aw C B N a (.a xs)):aw C B N (.T a) (.e (.Tuple xs k p)):=by
 constructor;intro cl d;have A:=E.h cl d;intro X G H I;exact bF.of (DN (A X G H I).pa)
def aw.«i»{C:Ctx}{A:LR}{N:R0}{a b:Ex}{x y:Expr}{p:Pos}(J:yy y=true)(M:zg a=false)(O:aw C A N a (.e x))(Q:zg b=false)(U:aw C A N b (.e y)):aw C A N (.i a b) (.e (.Subscript x y p)):=by
 constructor;intro cl d;have B:=O.h cl d;have E:=U.h cl d;intro X G H I;exact bF.of (DM ((B X G H I).pe M) ((E X G H I).pe Q) J)
def aw.«dict0»{C:Ctx}{A:LR}{N:R0}{p:Pos}:aw C A N .dict0 (.e (.Dict [] [] p)):=by
 constructor;intro cl d;intro X B E G;exact bF.of Hf
def aw.«dget»{C:Ctx}{A:LR}{N:R0}{a b:Ex}{x y:Expr}{p:Pos}(J:yy y=true)(M:zg a=false)(O:aw C A N a (.e x))(Q:zg b=false)(U:aw C A N b (.e y)):aw C A N (.dget a b) (.e (.Subscript x y p)):=by
 constructor;intro cl d;have B:=O.h cl d;have E:=U.h cl d;intro X G H I;exact bF.of (FR G.room.units ((B X G H I).pe M) ((E X G H I).pe Q) J)
def aw.«dcon»{C:Ctx}{E:LR}{N:R0}{u z o l g f e t:Int}{A B:Str}{p b n:Pos}{i:Nat}{G H I J:R5}(m:[G,H,I,J].Nodup)(h:cq E A=true)(w:C.dcs.lookup A=some [(G,u,z),(H,o,l),(I,g,f),(J,e,t)])(y:yq A=true)(h1:N[i]?=some B)(h2:eD E B=true)(h3:yq B=true):
   aw C E N (.i (kq (cP u z) (cP o l) (cP g f) (cP e t)) (qN i G H I J)) (.e (.Subscript (.Name A b) (.Name B n) p)):=by
 constructor;intro cl d;intro X hC es eN;subst es;subst eN;obtain⟨n1,n2,_⟩:=yQ h3;obtain⟨m1,_,_⟩:=yQ y;simp only[QC,Qn,Wi,not_or,or_false]at m;obtain⟨⟨M,O,Q⟩,⟨U,Y⟩,j,_⟩:=m;obtain⟨a,ha,hD⟩:=hC.con.2 _ _ w;exact bF.of (FN M O Q U Y j (uR (yN h) ha (v:=.ref a) rfl m1) hD (kM h1 (jt h2) n1 n2))
def aw.«dgetM»{C:Ctx}{A:LR}{N:R0}{a b c:Ex}{x y z:Expr}{O Q:Pos}(U:ya x=true)(hl:(O.endLine==Q.line)=true)(Y:zi y=true)(E:zi z=true)(j:zg a=false)(u:aw C A N a (.e x))(o:zg b=false)(l:aw C A N b (.e y))(g:zg c=false)(f:aw C A N c (.e z)):aw C A N (.dop .get a b c) (.e (.Call (.Attribute x "get" O) [y,z] [] Q)):=by
 constructor;intro cl d;have G:=u.h cl d;have H:=l.h cl d;have I:=f.h cl d;intro X B J M;exact bF.of (Hb B.room.units ((G X B J M).pe j) ((H X B J M).pe o) ((I X B J M).pe g) U hl Y E)
def aw.«dgetN»{C:Ctx}{A:LR}{N:R0}{a b:Ex}{x y:Expr}{H I:Pos}(O:ya x=true)(hl:(H.endLine==I.line)=true)(Q:zi y=true)(U:zg a=false)(Y:aw C A N a (.e x))(j:zg b=false)(u:aw C A N b (.e y)):aw C A N (.dop .get a b (.lit .N)) (.e (.Call (.Attribute x "get" H) [y] [] I)):=by
 constructor;intro cl d;have B:=Y.h cl d;have E:=u.h cl d;intro X G J M;exact bF.of (Ha G.room.units ((B X G J M).pe U) ((E X G J M).pe j) O hl Q)
def aw.«dlix»{C:Ctx}{A:LR}{N:R0}{a b:Ex}{x y:Expr}{H I:Pos}(O:ya x=true)(hl:(H.endLine==I.line)=true)(Q:zi y=true)(U:zg a=false)(Y:aw C A N a (.e x))(j:zg b=false)(u:aw C A N b (.e y)):aw C A N (.dop .lix a b .u) (.e (.Call (.Attribute x "index" H) [y] [] I)):=by
 constructor;intro cl d;have B:=Y.h cl d;have E:=u.h cl d;intro X G J M;exact bF.of (El G.room.units ((B X G J M).pe U) ((E X G J M).pe j) O hl Q)
def aw.«dmnv»{C:Ctx}{A:LR}{N:R0}{a:Ex}{x:Expr}{G p M H:Pos}(I:cq A "min"=true)(O:ya x=true)(hl:(G.endLine==H.line)=true)(Q:zg a=false)(U:aw C A N a (.e x)):aw C A N (.dop .mnv a .u .u) (.e (.Call (.Name "min" M) [.Call (.Attribute x "values" G) [] [] H] [] p)):=by
 constructor;intro cl d;have B:=U.h cl d;intro X E J Y;exact bF.of (FJ E.calm ((B X E J Y).pe Q) (by rw[<-J]at I;exact yN I) (E.blt _ (by simp[zm])) O hl)
def aw.«ddln»{C:Ctx}{A:LR}{N:R0}{a:Ex}{x:Expr}{p I:Pos}(E:cq A "len"=true)(J:zi x=true)(M:zg a=false)(O:aw C A N a (.e x)):aw C A N (.dop .dln a .u .u) (.e (.Call (.Name "len" I) [x] [] p)):=by
 constructor;intro cl d;have B:=O.h cl d;intro X G H Q;exact bF.of (Eg (by rw[<-H]at E;exact yN E) (G.blt _ (by simp[zm])) J ((B X G H Q).pe M))
def aw.«dsok»{C:Ctx}{A:LR}{N:R0}{a:Ex}{x:Expr}{p I:Pos}(G:cq A "sorted"=true)(J:zi x=true)(M:zg a=false)(O:aw C A N a (.e x)):aw C A N (.dop .sok a .u .u) (.e (.Call (.Name "sorted" I) [x] [] p)):=by
 constructor;intro cl d;have B:=O.h cl d;intro X E H Q;exact bF.of (Eh E.calm (by rw[<-H]at G;exact yN G) (E.blt _ (by simp[zm])) J ((B X E H Q).pe M))
def aw.«dlle»{C:Ctx}{B:LR}{N:R0}{a b:Ex}{x y:Expr}{p:Pos}(E:zV y=true)(Q:zg a=false)(U:aw C B N a (.e x))(Y:zg b=false)(j:aw C B N b (.e y)):aw C B N (.dop .lle a b .u) (.e (.Compare x [.LtE] [y] p)):=by
 constructor;intro cl d;have G:=U.h cl d;have H:=j.h cl d;intro X A M O;have I:=(G X A M O).pe Q;have J:=(H X A M O).pe Y;exact⟨λ_=>⟨tM A.room.units E I J,λ_=>Ef A.room.units E I J,λo l u z=>by cases z⟩,λg=>wJ (tM A.room.units E I J)⟩
def aw.«dsum»{C:Ctx}{A:LR}{N:R0}{a:Ex}{x:Expr}{G p M H:Pos}(I:cq A "sum"=true)(O:ya x=true)(hl:(G.endLine==H.line)=true)(Q:zg a=false)(U:aw C A N a (.e x)):aw C A N (.dop .sum a .u .u) (.e (.Call (.Name "sum" M) [.Call (.Attribute x "values" G) [] [] H] [] p)):=by
 constructor;intro cl d;have B:=U.h cl d;intro X E J Y;exact bF.of (FL E.calm ((B X E J Y).pe Q) (by rw[<-J]at I;exact yN I) (E.blt _ (by simp[zm])) O hl)
def aw.«meth0»{C:Ctx}{B:LR}{N:R0}{k:dE}{o:Ex}{x:Expr}{E G:Pos}(H:ya x=true)(hl:(E.endLine==G.line)=true)(I:zg o=false)(J:aw C B N o (.e x)):aw C B N (.meth k o .u) (.e (.Call (.Attribute x (eG k).1 E) [] [] G)):=by
 constructor;intro cl d;have A:=J.h cl d;intro X M O Q;exact bF.of (GL ((A X M O Q).pe I) H hl)
def aw.«meth»{C:Ctx}{A:LR}{N:R0}{k:dE}{o a:Ex}{x y:Expr}{ys:P6}{G H:Pos}(O:ya x=true)(hl:(G.endLine==H.line)=true)(Q:(y::ys).length<29)(U:(y::ys).all zi=true)(Y:zg o=false)(j:aw C A N o (.e x))(u:aw C A N a (.a (y::ys))):aw C A N (.meth k o a) (.e (.Call (.Attribute x (eG k).1 G) (y::ys) [] H)):=by
 constructor;intro cl d;have B:=j.h cl d;have E:=u.h cl d;intro X I J M;exact bF.of (FV ((B X I J M).pe Y) (E X I J M).pa O hl Q U)
def aw.«rng1»{C:Ctx}{A:LR}{N:R0}{b:Ex}{y:Expr}{p G:Pos}(H:cq A "range"=true)(I:zi y=true)(J:zg b=false)(M:aw C A N b (.e y)):aw C A N (.rng (.lit (.int 0)) b (.lit (.int 1))) (.e (.Call (.Name "range" p) [y] [] G)):=by
 constructor;intro cl d;have B:=M.h cl d;intro X E O Q;subst O;exact⟨λz=>(by cases z),λU=>FU E (yN H) I ((B X E rfl Q).pe J)⟩
def aw.«rng2»{C:Ctx}{A:LR}{N:R0}{a b:Ex}{x y:Expr}{p J:Pos}(M:cq A "range"=true)(O:zi x=true)(B:zi y=true)(Q:zg a=false)(U:aw C A N a (.e x))(Y:zg b=false)(j:aw C A N b (.e y)):aw C A N (.rng a b (.lit (.int 1))) (.e (.Call (.Name "range" p) [x,y] [] J)):=by
 constructor;intro cl d;have E:=U.h cl d;have G:=j.h cl d;intro X H u I;subst u;exact⟨λz=>(by cases z),λo=>FT H (yN M) O B ((E X H rfl I).pe Q) ((G X H rfl I).pe Y)⟩
def aw.«comp0»{C:Ctx}{M A:LR}{N:R0}{elt it:Ex}{x i:Expr}{y:Str}{p j:Pos}(u:zV i=true)(z:y8 M N A [y]=true)(o:aw C M N it (.e i))(l:zg elt=false)(g:aw C (zG A M) (zR N [y]) elt (.e x)):aw C M N (.comp elt it (.lit (.bl true))) (.e (.ListComp x [⟨.Name y p,i,[],0⟩] A j)):=by
 constructor;intro cl d;have O:=o.h cl d;have U:=g.h cl d;intro X Y f t;subst f;subst t;have B:=zJ z;have n:=(O X Y rfl rfl).2 (.Name y p);have I:∀v,Mt i X.env v=pure v:=yC u;have J:∀E,bi X A [y] E->PE E x (aF X.K (ae cl elt)):=λE c=>by
  have q:=(U E (Y.comp c) c.sc c.N).pe l;rw[c.K]at q;exact q
 refine bF.of (PE.imp (xK B Y.calm (kC B) n (λE c=>⟨wn,J E c⟩) I) λh H Q q=>vM (λh H Q q=>?_) q);obtain⟨as,a,m,S,G,P⟩:=q;obtain⟨b,e,q⟩:=am.ok (m:=m) P S (ag.mpr rfl);cases e;exact q
def aw.«comp1»{C:Ctx}{G A:LR}{N:R0}{elt it cond:Ex}{x i f:Expr}{y:Str}{p j:Pos}(u:zV i=true)(z:y8 G N A [y]=true)(o:aw C G N it (.e i))(l:zg cond=false)(g:wU cond=false)(e:aw C (zG A G) (zR N [y]) cond (.e f))(t:zg elt=false)(m:aw C (zG A G) (zR N [y]) elt (.e x)):aw C G N (.comp elt it cond) (.e (.ListComp x [⟨.Name y p,i,[f],0⟩] A j)):=by
 constructor;intro cl d;have O:=o.h cl d;have U:=e.h cl d;have Y:=m.h cl d;intro X M b n;subst b;subst n;have B:=zJ z;have h:=(O X M rfl rfl).2 (.Name y p);have I:∀v,Mt i X.env v=pure v:=yC u;have J:∀E,bi X A [y] E->PE E x (aF X.K (ae cl elt)):=λE c=>by
  have q:=(Y E (M.comp c) c.sc c.N).pe t;rw[c.K]at q;exact q
 refine bF.of (PE.imp (xK B M.calm (kC B) h (λE c=>⟨kB ?_,J E c⟩) I) λa H Q q=>vM (λa H Q q=>q) q);have q:=(U E (M.comp c) c.sc c.N).pt l g;rw[c.K]at q;exact q
def aw.«compZ0»{C:Ctx}{I A:LR}{N:R0}{elt a b:Ex}{x i j:Expr}{y z:Str}{p t q o l pt:Pos}{g:Nat}(n:cq I "zip"=true)(h:y8 I N A [y,z]=true)(f:zi i=true)(E:zi j=true)(w:zg a=false)(ha:aw C I N a (.e i))(rb:zg b=false)(hb:aw C I N b (.e j))(re:zg elt=false)(he:aw C (zG A I) (zR N [y,z]) elt (.e x)):
   aw C I N (.compP .zip elt a b (.lit (.bl true))) (.e (.ListComp x [⟨.Tuple [.Name y p,.Name z q] g pt,.Call (.Name "zip" o) [i,j] [] l,[],0⟩] A t)):=by
 constructor;intro cl d;have U:=ha.h cl d;have Y:=hb.h cl d;have u:=he.h cl d;intro X J es eN;subst es;subst eN;have B:=zJ h;have hI:PI X (.Tuple [.Name y p,.Name z q] g pt) (.Call (.Name "zip" o) [i,j] [] l) _:=tw (yN n) (J.blt _ (by simp[zm])) (zA ((U X J rfl rfl).pe w) (zA ((Y X J rfl rfl).pe rb) yj (zd E)) (zd f)) (by rw[zd f,zd E];rfl) (zd E);have O:∀M,bi X A [y,z] M->PE M x (aF X.K (ae cl elt)):=λM c=>by
  have q:=(u M (J.comp c) c.sc c.N).pe re;rw[c.K]at q;exact q
 refine bF.of (PE.imp (xK B J.calm (wq J.calm B) hI (λM c=>⟨wn,O M c⟩) (λ_=>rfl)) λσ H Q q=>jk (λσ H Q q=>?_) q);obtain⟨as,env,m,S,G,P⟩:=q;obtain⟨b,e,q⟩:=am.ok (m:=m) P S (ag.mpr rfl);cases e;exact q
def aw.«compT0»{C:Ctx}{M A:LR}{N:R0}{elt a:Ex}{x i:Expr}{y z:Str}{p u q pt:Pos}{j:Nat}(o:zV i=true)(l:y8 M N A [y,z]=true)(g:aw C M N a (.e i))(f:zg elt=false)(t:aw C (zG A M) (zR N [y,z]) elt (.e x)):
   aw C M N (.compP .prs elt a (.lit (.int 0)) (.lit (.bl true))) (.e (.ListComp x [⟨.Tuple [.Name y p,.Name z q] j pt,i,[],0⟩] A u)):=by
 constructor;intro cl d;have U:=g.h cl d;have Y:=t.h cl d;intro X O n h;subst n;subst h;have B:=zJ l;have w:=(U X O rfl rfl).2 (.Tuple [.Name y p,.Name z q] j pt);have I:∀v,Mt i X.env v=pure v:=yC o;have J:∀E,bi X A [y,z] E->PE E x (aF X.K (ae cl elt)):=λE c=>by
  have q:=(Y E (O.comp c) c.sc c.N).pe f;rw[c.K]at q;exact q
 refine bF.of (PE.imp (xK B O.calm (wq O.calm B) w (λE c=>⟨wn,J E c⟩) I) λσ H Q q=>IG (λσ H Q q=>?_) q);obtain⟨as,env,m,S,G,P⟩:=q;obtain⟨b,e,q⟩:=am.ok (m:=m) P S (ag.mpr rfl);cases e;exact q
def aw.«compE0»{C:Ctx}{I A:LR}{N:R0}{elt a:Ex}{x i:Expr}{y z:Str}{p l q Y j pt:Pos}{u:Nat}(g:cq I "enumerate"=true)(f:y8 I N A [y,z]=true)(o:zi i=true)(t:zg a=false)(n:aw C I N a (.e i))(h:zg elt=false)(w:aw C (zG A I) (zR N [y,z]) elt (.e x)):
   aw C I N (.compP .enum elt a (.lit (.int 0)) (.lit (.bl true))) (.e (.ListComp x [⟨.Tuple [.Name y p,.Name z q] u pt,.Call (.Name "enumerate" Y) [i] [] j,[],0⟩] A l)):=by
 constructor;intro cl d;have O:=n.h cl d;have U:=w.h cl d;intro X J es eN;subst es;subst eN;have B:=zJ f;have hI:PI X (.Tuple [.Name y p,.Name z q] u pt) (.Call (.Name "enumerate" Y) [i] [] j) _:=kF (yN g) (J.blt _ (by simp[zm])) (zA ((O X J rfl rfl).pe t) yj (zd o)) (zd o);have M:∀E,bi X A [y,z] E->PE E x (aF X.K (ae cl elt)):=λE c=>by
  have q:=(U E (J.comp c) c.sc c.N).pe h;rw[c.K]at q;exact q
 refine bF.of (PE.imp (xK B J.calm (wq J.calm B) hI (λE c=>⟨wn,M E c⟩) (λ_=>rfl)) λσ H Q q=>wV (c:=0) rfl (λσ H Q q=>?_) q);obtain⟨as,env,m,S,G,P⟩:=q;obtain⟨b,e,q⟩:=am.ok (m:=m) P S (ag.mpr rfl);cases e;exact q
def aw.«compE1»{C:Ctx}{G A:LR}{N:R0}{elt a cond:Ex}{x i f:Expr}{y z:Str}{p l q Y j pt:Pos}{u:Nat}(g:cq G "enumerate"=true)(e:y8 G N A [y,z]=true)(o:zi i=true)(t:zg a=false)(m:aw C G N a (.e i))(b:zg cond=false)(n:wU cond=false)(h:aw C (zG A G) (zR N [y,z]) cond (.e f))(w:zg elt=false)(he:aw C (zG A G) (zR N [y,z]) elt (.e x)):
   aw C G N (.compP .enum elt a (.lit (.int 0)) cond) (.e (.ListComp x [⟨.Tuple [.Name y p,.Name z q] u pt,.Call (.Name "enumerate" Y) [i] [] j,[f],0⟩] A l)):=by
 constructor;intro cl d;have M:=m.h cl d;have O:=h.h cl d;have U:=he.h cl d;intro X I es eN;subst es;subst eN;have B:=zJ e;have hI:PI X (.Tuple [.Name y p,.Name z q] u pt) (.Call (.Name "enumerate" Y) [i] [] j) _:=kF (yN g) (I.blt _ (by simp[zm])) (zA ((M X I rfl rfl).pe t) yj (zd o)) (zd o);have J:∀E,bi X A [y,z] E->PE E x (aF X.K (ae cl elt)):=λE c=>by
  have q:=(U E (I.comp c) c.sc c.N).pe w;rw[c.K]at q;exact q
 refine bF.of (PE.imp (xK B I.calm (wq I.calm B) hI (λE c=>⟨kB ?_,J E c⟩) (λ_=>rfl)) λσ H Q q=>wV (c:=0) rfl (λσ H Q q=>q) q);have q:=(O E (I.comp c) c.sc c.N).pt b n;rw[c.K]at q;exact q
end
def tL:swappedStores [.Subscript o i A] v env=pure none:=rfl
def gZ (h:∀x p,A≠.Name x p):swapsWithSole [A] v B env=pure false:=by
 cases v<;>first|rfl|(cases A<;>first|rfl|exact N2 rfl (h _ _))
noncomputable def ju:Expr->Bool
 |.ListComp _ _ _ _=>true
 |.SetComp _ _ _ _=>true
 |.DictComp _ _ _ _ _=>true
 |_=>false
def l9 (h:ju v=false):Mf v t A env=pure false:=by
 cases v<;>first|rfl|cases h
noncomputable def ax(K:Qb)(as:O9)(H:Hp)(D:bP)(r:Rs):Prop:=match r with
 |.next e G=>∀A B E,Step as H A B->aJ K A G B->aD K A B e E->D.nx E B
 |.ret w G=>∀A B v,Step as H A B->aJ K A G B->ai K A B w v->D.rt v B
 |_=>False
noncomputable def yG(K:Qb)(g:En->Me->Rs):TS:=λD B H=>∃as A m,aJ K as m H/\aD K as H A B/\ax K as H D (g A m)
section
variable{K:Qb}{as as':O9}{H H':Hp}{m:Me}{D:bP}
set_option tactic.hygienic true in
def ax.step{r:Rs}(h:ax K as H D r)(T:Step as H as' H'):ax K as' H' D r:=by
 cases r with
 |next e I=>exact λA B E U S G=>h A B E (T.trans U) S G
 |ret w I=>exact λA B v U S R=>h A B v (T.trans U) S R
 |no=>exact h
def ax.bind (h:ax K as H D (r.bindS env f))(k:∀w m' as' H' v,Step as H as' H'->aJ K as' m' H'->ai K as' H' w v->ax K as' H' D (f w m')->B v H'):am K as H B r:=by
 cases r with
 |ok w m'=>exact λA E v U S R=>k w m' A E v U S R (ax.step (r:=f w m') h U)
 |no=>exact h
def ax.bindI (h:ax K as H D (r.bindS env f))(k:∀w m',ax K as H D (f w m')->(yE m' w).isSome=true/\∀as' H' J,Step as H as' H'->aJ K as' m' H'->rR K as' H' w J->A J H'):bK K as H A r:=by
 cases r with
 |ok w m'=>exact k w m' h
 |no=>exact h
theorem ax.next (h:ax K as H D (.next env m))(S:aJ K as m H)(G:aD K as H env σ):D.nx σ H:=h as H σ .refl S G
end
section
variable{cl:N6}{X:Cx}{e o i:Ex}{x y z:Expr}{pos:Pos}
def FH:ci X [] (yG X.K (aV cl .skip)):=ci.imp GG λD B H h=>by
 obtain⟨as,A,m,S,G,P⟩:=h;exact ax.next (m:=m) P S G
set_option tactic.hygienic true in
def Ee {st:Stmt}(N:PS X st (yG X.K (aV cl a)))(O:ci X E (yG X.K (aV cl b))):ci X (st::E) (yG X.K (aV cl (.seq a b))):=
 ci.imp (qy N O) λD j H h=>by
  obtain⟨as,A,m,S,G,P⟩:=h;refine⟨as,A,m,S,G,?_⟩;have B:ax X.K as H D (match aV cl a A m with |.next I m1=>aV cl b I m1|r=>r):=P;cases J:aV cl a A m with
  |next I m1=>
   rw[J]at B;exact λM u Q T U Y=>⟨M,I,m1,U,Y,ax.step B T⟩
  |ret w m1=>rw[J]at B;exact B
  |no=>rw[J]at B;exact B
def jv {K:Qb}{i:Nat}(h:yG K (aV cl (.a i e)) D σ H):fT (aF K (ae cl e)) (xh i) D σ H:=by
 obtain⟨as,A,m,S,G,P⟩:=h;refine⟨as,A,m,S,G,ax.bind P λw m1 B N v E I J M=>?_⟩;exact ax.next (m:=m1) M I ((G.mono S E).set J i)
def C0(E:PE X x (aF X.K (ae cl e))):PS X (.Return (some x) pos) (yG X.K (aV cl (.ret e))):=PS.imp (t5 E) λD O H h=>by
 obtain⟨as,A,m,S,G,P⟩:=h;refine⟨as,A,m,S,G,ax.bind P λw m1 B I v Q J M N=>?_⟩;exact N B I v .refl J M
def FG(B:PE X x (aF X.K (ae cl e)))(E:ju x=false):PS X (.Expr x pos) (yG X.K (aV cl (.expr e))):=PS.imp (GF B (l9 E)) λD O H h=>by
 obtain⟨as,A,m,S,G,P⟩:=h;refine⟨as,A,m,S,G,ax.bind P λw m1 I Q v J M U N=>?_⟩;exact ax.next (m:=m1) N M (G.mono S J)
def GZ{st:Stmt}:PS X st (yG X.K (aV cl .never)):=PS.imp HV λD B H h=>by
 obtain⟨as,A,m,S,G,P⟩:=h;exact P
def Ch (M:PT X x (y6 X.K (ae cl e)))(N:ci X xs (yG X.K (aV cl a)))(O:ci X ys (yG X.K (aV cl b))):PS X (.If x xs ys pos) (yG X.K (aV cl (.ite e a b))):=
 PS.imp (C8 M N O) λD U H h=>by
  obtain⟨as,A,m,S,G,P⟩:=h;refine⟨as,A,m,S,G,ax.bind P λw m1 B Y v I J Q E=>?_⟩;cases w with
  |bl k=>
   obtain rfl:=ag.mp Q;refine⟨k,rfl,?_⟩;cases k with
   |true=>exact qF ⟨B,A,m1,J,G.mono S I,E⟩
   |false=>exact qE ⟨B,A,m1,J,G.mono S I,E⟩
  |_=>exact E.elim
def GY {K:Qb}{o i:Wd}(S:aJ K as m H)(G:ai K as H o I)(J:ai K as H i M)(N:ai K as H w v)(h:ax K as H D ((gE o i w m).bindS env f))(k:∀m' A,Step as H as A->aJ K as m' A->ax K as A D (f .N m')->Q A):l6 I M v H Q:=by
 have B:∀r,gE o i w m=r->(∃m',r=.ok .N m')\/r=.no:=λr e=>by
  unfold gE at e;split at e
  .split at e
   .split at e
    .exact .inl ⟨_,e.symm⟩
    .exact .inr e.symm
   .exact .inr e.symm
  .exact .inr e.symm
 rcases B _ rfl with⟨m',e⟩|e
 .refine DZ S G J N (λm2 E A T O=>?_) ⟨m',e⟩;rw[e]at E;cases E;rw[e]at h;exact k m' A T O (ax.step (r:=f .N m') h T)
 .rw[e]at h;exact h.elim
def HF {K:Qb}{o i:Wd}(S:aJ K as m H)(M:ai K as H o N)(O:ai K as H i U)(Y:ai K as H w v)(h:ax K as H D ((jW o i w m).bindS env f))(k:∀m' B,Step as H as B->aJ K as m' B->ax K as B D (f .N m')->Q B):sm K N U v H Q:=by
 unfold jW at h;cases o with
 |ref l=>
  obtain⟨a,E,rfl⟩:=aE.mp M;dsimp only at h;cases e:m[l]? with
  |none=>rw[e]at h;exact h.elim
  |some j=>
   cases j with
   |L ys=>rw[e]at h;exact h.elim
   |D d ws=>
    rw[e]at h;dsimp only at h;obtain⟨a',g,vs,A,G,I,r,t,n⟩:=kZ S e;rw[E]at A;cases A;cases eq:gF i with
    |none=>rw[eq]at h;exact h.elim
    |some q=>
     rw[eq]at h;dsimp only at h;obtain⟨b,rfl,J⟩:=jn eq O;by_cases hl:d.length<aA
     .rw[N0 hl]at h;refine⟨a,b,q,g,rfl,rfl,J,G,?_,λu ru=>?_⟩
      .rw[<-I,Qs]at hl;exact WF hl
      .obtain ⟨T,S'⟩:=S.setD E e G I r t n J Y ru;exact k _ _ T S' (ax.step (r:=f .N _) h T)
     .rw[N1 hl]at h;exact h.elim
 |_=>exact h.elim
def jw {o i:Expr}(E:yy i=true):∀v,assign (.Subscript o i p) env v=(do
   let A <-holding [v] (eval o env)
   let B <-holding [v,A] (eval i env)
   standAt p
   holding [v,A,B] (Mh A B v)
   release [v,A,B] []):=λv=>by
 cases i<;>first|rfl|cases E
def FF (U:X.A.units+64<Mz)(Y:PE X x (aF X.K (ae cl (.V j))))(u:PE X y (aF X.K (ae cl i)))(d:PE X z (aF X.K (ae cl e)))(l:yy y=true):PS X (.Assign [.Subscript x y p1] z pos) (yG X.K (aV cl (.dput j i e))):=
 PS.imp (mA d (tZ Y u (Cu U) (jw l)) (gZ (by intros;intro q;cases q)) tL) λD σ H h=>by
  obtain⟨as,A,m,S,G,P⟩:=h;refine⟨as,A,m,S,G,ax.bind P λw m1 I H1 v J B g f=>?_⟩;refine⟨I,A,m1,B,G.mono S J,ax.bind f λwo m2 M H2 vo N E R2 t=>?_⟩;refine⟨M,A,m2,E,(G.mono S J).mono B N,ax.bind t λwi m3 b H3 vi O Q n P3=>?_⟩;refine HF Q (R2.mono E O) n ((g.mono B N).mono E O) P3 λm4 H4 a S4 P4=>?_;exact ax.next (m:=m4) P4 S4 ((((G.mono S J).mono B N).mono E O).mono Q a)
def FE (U:PE X x (aF X.K (ae cl o)))(Y:PE X y (aF X.K (ae cl i)))(j:PE X z (aF X.K (ae cl e)))(u:yy y=true):PS X (.Assign [.Subscript x y p1] z pos) (yG X.K (aV cl (.asgS o i e))):=
 PS.imp (mA j (tZ U Y HQ (jw u)) (gZ (by intros;intro q;cases q)) tL) λD σ H h=>by
  obtain⟨as,A,m,S,G,P⟩:=h;refine⟨as,A,m,S,G,ax.bind P λw m1 I H1 v J B d l=>?_⟩;refine⟨I,A,m1,B,G.mono S J,ax.bind l λwo m2 M H2 vo N E R2 g=>?_⟩;refine⟨M,A,m2,E,(G.mono S J).mono B N,ax.bind g λwi m3 f H3 vi O Q t P3=>?_⟩;refine GY Q (R2.mono E O) t ((d.mono B N).mono E O) P3 λm4 H4 b n a=>?_;exact ax.next (m:=m4) a n ((((G.mono S J).mono B N).mono E O).mono Q b)
end
section
variable{cl:N6}{X:Cx}{e i j:Ex}{x y z u v:Expr}{pos:Pos}
noncomputable def fQ:Bo->Bool
 |.add=>true
 |.sub=>true
 |_=>false
noncomputable def rL:Bo->Int->Int->Int
 |.sub=>λi j=>i-j
 |_=>λi j=>i+j
noncomputable def rK:Bo->Int->Int->Prop
 |_=>λ_ _=>True
noncomputable def rJ(op:Bo):iC:=λx y H Q=>∃i j,x=.int i/\y=.int j/\rK op i j/\Q (.int (rL op i j)) H
def Cg (h:fQ op=true):lE X (fB op) (rJ op):=by
 intro A s B H x y v u Q I E G q;obtain⟨i,j,J,M,c,q⟩:=q;cases op with
 |add=>exact DI A s B H x y v u Q I E G ⟨i,j,J,M,q⟩
 |sub=>exact DH A s B H x y v u Q I E G ⟨i,j,J,M,q⟩
 |_=>cases h
def FD (h:fQ op=true){i j:Int}:(rK op i j/\cB op (.int i) (.int j) m=.ok (.int (rL op i j)) m)\/cB op (.int i) (.int j) m=.no:=by
 cases op with
 |add=>exact .inl ⟨trivial,rfl⟩
 |sub=>exact .inl ⟨trivial,rfl⟩
 |_=>cases h
def FC {K:Qb}(B:fQ op=true)(I:ai K as H E J)(M:ai K as H G N)(h:ax K as H D (fW op E G m env f))(k:∀z,ax K as H D (f (.int z) m)->Q (.int z) H):rJ op J N H Q:=by
 cases E with
 |int i=>
  cases G with
  |int j=>
   have A:ax K as H D ((cB op (.int i) (.int j) m).bindS env f):=h;rcases FD B (i:=i) (j:=j) (m:=m)with⟨c,e⟩|e
   .rw[e]at A;exact⟨i,j,aa.mp I,aa.mp M,c,k _ A⟩
   .rw[e]at A;exact A.elim
  |_=>exact h.elim
 |_=>exact h.elim
set_option tactic.hygienic true in
def CZ (B:fQ op=true)(M:X.N.Nodup)(N:X.N[n]?=some E)(O:Loc X.env.scope E)(Q:X.fn E=true\/X.env.scope.names.lookup E=some .local)(U:PE X x (aF X.K (ae cl e))):
  PS X (.AugAssign (.Name E p1) (fB op) x pos) (yG X.K (aV cl (.aug n op e))):=PS.imp (DJ M N O U (Cg B) Q) λD σ H h=>by
 obtain⟨as,A,m,S,G,P⟩:=h;have I:ax X.K as H D (match A[n]? with
  |some (some x)=>(ae cl e A m).bindS A λy m1=>fW op x y m1 A λz m2=>.next (A.set n (some z)) m2
  |_=>.no):=P
 split at I
 .rename_i Y o;obtain⟨d,l,g⟩:=G.get n Y o;refine⟨d,l,as,A,m,S,G,ax.bind I λwy m1 f H1 vy J t b a=>?_⟩;refine FC B (g.mono S J) b a λz w=>?_;exact ax.next (m:=m1) w t ((G.mono S J).set (aa.mpr rfl) n)
 .exact I.elim
end
section
variable{cl:N6}{K:Qb}
structure cV(K:Qb)(g:TG)(st:Wd->En->Option En):Prop where
 ok:∀{as:O9}{H:Hp}{m:Me}{env env':En}{σ:St}{w:Wd}{v:V}{Q:L2.St->Hp->Prop},aJ K as m H->aD K as H env σ->ai K as H w v->st w env=some env'->(∀σ',aD K as H env' σ'->Q σ' H)->g v σ H Q
def AN(i:Nat):cV K (xh i) (λw env=>some (env.set i (some w))):=
 ⟨λS G R e k=>by cases e;exact k _ (G.set R i)⟩
set_option tactic.hygienic true in
def jx(i j:Nat):cV K (fU K 2 (w5 (xh i) (w5 (xh j) fV))) (bR i j):=by
 refine⟨λ{as H m I B U w v Q} S G R e k=>?_⟩;unfold bR at e;split at e
 .rename_i a b;cases e;obtain⟨p,Y,rfl,J,M⟩:=ah.mp R;obtain⟨E,A,rfl,N,O⟩:=gN M;exact⟨p,[E,A],rfl,J,rfl,E,[A],rfl,A,[],rfl,rfl,k _ ((G.set N i).set O j)⟩
 .cases e
set_option tactic.hygienic true in
def vt{g:TG}{st:Wd->En->Option En}{b:En->Me->Rs}(f:cV K g st){D:bP}{H A:O9}{Y M:Hp}{m':Me}{B:En}{Q:St}{x:Wd}{v:V}{next:En->Me->Rs}{N:L2.St->Hp->Prop}(T:Step H Y A M)(l:aJ K A m' M)(e:aD K A M B Q)(t:ai K A M x v)
  (E:ax K H Y D (match zB st b x B m' with
    |.next e1 m1=>next e1 m1
    |r=>r))
  (m:∀I m2 e2 G O,Step A M I O->aJ K I m2 O->aD K I O e2 G->ax K H Y D (next e2 m2)->N G O) :
  g v Q M λG O=>yG K b {D with nx:=N,ct:=N,bk:=D.nx} G O:=by
 unfold zB at E;cases j:st x B with
 |none=>rw[j]at E;exact E.elim
 |some e2=>
  rw[j]at E;simp only[]at E;refine f.ok l e t j λG n=>⟨A,e2,m',l,n,?_⟩;cases u:b e2 m' with
  |next h m3=>rw[u]at E;exact λJ z o U d i=>m J m3 h o z U d i E
  |ret y m3=>rw[u]at E;exact λJ z a U d w=>E J z a (T.trans U) d w
  |no=>rw[u]at E;exact E.elim
def AM {st:Wd->En->Option En}(hg:cV K g st)(h:yG K (λenv m=>(it env m).bindS env λw m1=>gH (zB st b) w env m1) D σ H):iP (eZ K it) g (yG K b) D σ H:=by
 obtain⟨as,env,m,S,G,P⟩:=h;refine⟨as,env,m,S,G,ax.bindI P λw m1 P1=>?_⟩;have y:∀(I:R7),ax K as H D (x0 (zB st b) I env m1)->∀A u J,Step as H A u->aJ K A m1 u->iX K A u J I ->
   ∃W:Nat->Nat->L2.St->Hp->Prop,(∃m,W 0 m σ u)/\∀i m σ H,W i m σ H ->
    (J.stop i H/\D.nx σ H)\/(J.go i H/\∃N:L2.St->Hp->Prop,(∀Y Q,N Y Q->∃o,o<m/\W (i+1) o Y Q)/\∀x Q,J.yld i H x Q->g x σ Q λj z=>yG K b {D with nx:=N,ct:=N,bk:=D.nx} j z):=by
  intro I Pc A u J f S1 hI;obtain⟨vs,ok,hJ,iu,RL,stab⟩:=hI;have hlen:=RL.length;have Pc1:=ax.step Pc f;refine⟨λi n Y Q=>∃E o M,i<=I.length/\n=I.length-i/\Step A u E Q/\aJ K E o Q/\aD K E Q M Y/\ok Q/\ab K E Q I vs/\ax K A u D (x0 (zB st b) (I.drop i) M o),
   ⟨I.length,A,m1,env,WT _,rfl,.refl,S1,G.mono S f,iu,RL,Pc1⟩,?_⟩
  rintro i n Y Q ⟨E,o,M,hi,rfl,T',S',G',t,RL',Pi⟩;by_cases d:i<I.length
  .refine .inr ⟨hJ.go i Q t (by rw[<-hlen];exact d),λj z=>∃B m2 O,i+1<=I.length/\Step A u B z/\aJ K B m2 z/\aD K B z O j/\ok z/\ab K B z I vs/\ax K A u D (x0 (zB st b) (I.drop (i+1)) O m2),?_,λv H'' hy=>?_⟩
   .rintro j z ⟨B,m2,O,q⟩;exact⟨I.length-(i+1),by lia,B,m2,O,q.1,rfl,q.2⟩
   .obtain ⟨rfl,hv⟩:=hJ.yld i Q v H'' t (by rw[<-hlen];exact d) hy;obtain⟨v',hv',Rx⟩:=RL'.get (i:=i) (x:=I[i]) (by simp[d]);rw[hv]at hv';cases hv';rw[Wh d]at Pi;refine vt hg (next:=λe m=>x0 (zB st b) (I.drop (i+1)) e m) T' S' G' Rx Pi ?_;intro B m2 e2 j z U S2 G2 P2;exact⟨B,m2,e2,d,T'.trans U,S2,G2,stab _ _ (S'.kp U) t,RL'.mono S' U,P2⟩
  .have e:i=I.length:=by lia
   subst e;rw[List.drop_length]at Pi;exact .inl ⟨hJ.stop _ Q t (by lia),Pi E Q Y T' S' G'⟩
 cases w with
 |T I=>exact⟨rfl,λA u J f S1 hI=>y I P1 A u J f S1 hI⟩
 |rol I=>exact⟨rfl,λA u J f S1 hI=>y I P1 A u J f S1 hI⟩
 |ref l=>
  have P2:ax K as H D (xq (zB st b) l (aA+1) 0 env m1):=P1;refine⟨?_,λA u J f S1 hI=>?_⟩
  .show (zh m1 l).isSome=true;cases e:zh m1 l with
   |some I=>rfl
   |none=>
    unfold xq at P2;rw[e]at P2;exact P2.elim
  .obtain ⟨a,ha,rfl⟩:=hI;have Pc1:=ax.step P2 f;refine⟨λi n Y Q=>∃E o M,E[l]?=some a/\Step A u E Q/\aJ K E o Q/\aD K E Q M Y/\ax K A u D (xq (zB st b) l n i M o),⟨aA+1,A,m1,env,ha,.refl,S1,G.mono S f,Pc1⟩,?_⟩;rintro i n Y Q ⟨E,o,M,hl,T',S',G',Pi⟩;cases n with
   |zero=>exact Pi.elim
   |succ n=>
    unfold xq at Pi;cases e:zh o l with
    |none=>rw[e]at Pi;exact Pi.elim
    |some I=>
     rw[e]at Pi;simp only[]at Pi;obtain⟨a',vs,ha',eH,RL⟩:=zL S' (zy e);rw[hl]at ha';cases ha';cases ex:I[i]? with
     |none=>
      rw[ex]at Pi;have hle:vs.length<=i:=by rw[<-RL.length];exact QT.mp ex
      exact .inl ⟨⟨vs,bb.of eH,hle⟩,Pi E Q Y T' S' G'⟩
     |some x=>
      rw[ex]at Pi;obtain⟨v0,hv0,Rx⟩:=RL.get ex;refine .inr ⟨⟨vs,v0,bb.of eH,hv0⟩,λj z=>∃B m2 O,B[l]?=some a/\Step A u B z/\aJ K B m2 z/\aD K B z O j/\ax K A u D (xq (zB st b) l n (i+1) O m2),?_,λv H'' hy=>?_⟩
      .rintro j z q;exact⟨n,Wb _,q⟩
      .obtain ⟨rfl,hy⟩:=hy;have:=hy vs (bb.of eH);rw[hv0]at this;cases this;refine vt hg (next:=λe m=>xq (zB st b) l n (i+1) e m) T' S' G' Rx Pi ?_;intro B m2 e2 j z U S2 G2 P2;exact⟨B,m2,e2,U.get hl,T'.trans U,S2,G2,P2⟩
 |N=>exact P1.elim
 |bl k=>exact P1.elim
 |int i=>exact P1.elim
 |str s=>exact P1.elim
def HE (hg:cV K g (bR i j))(hJ:gT K B Q J f)(S1:aJ K B m1 Q)(G1:aD K B Q env σ)(P:ax K B Q D (xB (zB (bR i j) b) f (aA+1) 0 env m1)):
  ∃W:Nat->Nat->L2.St->Hp->Prop,(∃m,W 0 m σ Q)/\∀i m σ H,W i m σ H ->
   (J.stop i H/\D.nx σ H)\/(J.go i H/\∃N:L2.St->Hp->Prop,(∀G E,N G E->∃m',m'<m/\W (i+1) m' G E)/\∀x E,J.yld i H x E->g x σ E λM u=>yG K b {D with nx:=N,ct:=N,bk:=D.nx} M u):=by
 refine⟨λz n G E=>∃A m' O,(∀(l:Nat) (a:Addr),B[l]?=some a->A[l]?=some a)/\Step B Q A E/\aJ K A m' E/\aD K A E O G/\ax K B Q D (xB (zB (bR i j) b) f n z O m'),⟨aA+1,B,m1,env,λ_ _ e=>e,.refl,S1,G1,P⟩,?_⟩;rintro z n G E ⟨A,m',O,hl,t,d,G',Pi⟩;cases n with
 |zero=>exact Pi.elim
 |succ n=>
  unfold xB at Pi;obtain⟨q1,q2⟩:=hJ A m' E hl t d z;cases e:f z m' with
  |none=>rw[e]at Pi;exact Pi.elim
  |some o=>
   rw[e]at Pi;cases o with
   |none=>exact .inl ⟨q1 e,Pi A E G t d G'⟩
   |some p=>
    obtain⟨x,y⟩:=p;simp only[]at Pi;obtain⟨go,yl⟩:=q2 x y e;refine .inr ⟨go,λM u=>∃I m2 Y,(∀(l:Nat) (a:Addr),B[l]?=some a->I[l]?=some a)/\Step B Q I u/\aJ K I m2 u/\aD K I u Y M/\ax K B Q D (xB (zB (bR i j) b) f n (z+1) Y m2),?_,λv H'' hy=>?_⟩
    .rintro M u q;exact⟨n,Wb _,q⟩
    .obtain ⟨h,w,⟨T,hT,rfl,rfl⟩,Rx,Ry⟩:=yl v H'' hy;have U:Step A E A (aG E T (.T [h,w])):=Step.updD .refl hT;have S2:aJ K A m' (aG E T (.T [h,w])):=d.keep U λb _ o e=>by rw[ze (zo e hT)];exact e
     have Rp:ai K A (aG E T (.T [h,w])) (.T [x,y]) (.ref T):=ah.mpr ⟨T,[h,w],rfl,bC.of zf,(ab.one (Rx.mono d U)).append (.one (Ry.mono d U))⟩;refine vt hg (next:=λe m=>xB (zB (bR i j) b) f n (z+1) e m) (t.trans U) S2 (G'.mono d U) Rp Pi ?_;intro I m2 e2 M u U2 S3 G3 P2;exact⟨I,m2,e2,λl a q=>U2.get (hl l a q),(t.trans U).trans U2,S3,G3,P2⟩
def ID (h:g i m=none):xB b g (k+1) i env m=.no:=by
 unfold xB;rw[h]
def HD (h:yG K (aV cl (.forE i j a body)) D σ H):
  iP (lU K 0 (qB (aF K (ae cl a)) iN)) (fU K 2 (w5 (xh i) (w5 (xh j) fV))) (yG K (aV cl body)) D σ H:=by
 obtain⟨as,E,m,S,G,P⟩:=h;refine⟨as,E,m,S,G,ax.bind P λw m1 O l v Q M U I=>?_⟩;have look:∃J N,w=.ref J/\zh m1 J=some N:=by
  cases e:zn .enum w (.int 0) 0 m1 with
  |none=>rw[ID e]at I;exact I.elim
  |some o=>exact kg e
 obtain⟨J,N,rfl,Y⟩:=look;obtain⟨u,A,rfl⟩:=aE.mp U;obtain⟨g,z,B,d,f⟩:=zL M (zy Y);rw[A]at B;cases B;exact⟨u,z,rfl,bb.of d,HE (jx i j) (kf (c:=0) A) M (G.mono S Q) I⟩
set_option tactic.hygienic true in
def IC (h:yG K (aV cl (.while c b)) D σ H):tY (y6 K (ae cl c)) (yG K (aV cl b)) D σ H:=by
 obtain⟨as,z,m,S,G,P⟩:=h;refine⟨λn I Y=>∃B N A,Step as H B Y/\aJ K B N Y/\aD K B Y A I/\ax K as H D (kW (ae cl c) (aV cl b) n A N),⟨1000000,as,m,z,.refl,S,G,P⟩,?_⟩;rintro n I Y ⟨B,N,A,f,o,d,Pi⟩;cases n with
 |zero=>exact Pi.elim
 |succ n=>
  unfold kW at Pi;refine⟨B,A,N,o,d,?_⟩;cases e:ae cl c A N with
  |no=>rw[e]at Pi;exact Pi.elim
  |ok w m1=>
   rw[e]at Pi;intro O y v j t R1;cases w with
   |bl k=>
    obtain rfl:=ag.mp R1;refine⟨k,rfl,?_⟩;cases k with
    |false=>exact qE (Pi O y I (f.trans j) t (d.mono o j))
    |true=>
     refine qF ⟨λQ u=>∃J m2 E,Step as H J u/\aJ K J m2 u/\aD K J u E Q/\ax K as H D (kW (ae cl c) (aV cl b) n E m2),λQ u q=>⟨n,Wb _,q⟩,O,A,m1,t,d.mono o j,?_⟩;simp only[]at Pi;have i:=f.trans j;cases l:aV cl b A m1 with
     |next e3 m3=>rw[l]at Pi;exact λM a σ3 U g G3=>⟨M,m3,e3,i.trans U,g,G3,Pi⟩
     |ret w' m3=>rw[l]at Pi;exact λM a v3 U g R3=>Pi M a v3 (i.trans U) g R3
     |no=>rw[l]at Pi;exact Pi.elim
   |_=>exact Pi.elim
end
section
variable{X:Cx}{cl:N6}
noncomputable def x8(n j:Nat):Ex->Bool
 |.V i=>decide (i<n) && ! decide (i=j)
 |.lit _=>true
 |.u=>true
 |.P a b=>x8 n j a&&x8 n j b
 |.call _ a=>x8 n j a
 |.blt _ a=>x8 n j a
 |.i a b=>x8 n j a&&x8 n j b
 |_=>false
def tK (h:∀i,i<n->i≠j->e1[i]?=e2[i]?)(e:Ex):∀(m:Me),x8 n j e=true->ae cl e e1 m=ae cl e e2 m:=by
 induction e with
 |V i=>
  intro m q;have q:=QD.mp (show(decide (i<n) && ! decide (i=j))=true from q);show(match e1[i]? with|some (some w)=>Rz.ok w m|_=>.no)=(match e2[i]? with|some (some w)=>Rz.ok w m|_=>.no);rw[h i (N4 q.1) (by simpa using q.2)]
 |lit _=>exact λ_ _=>rfl
 |u=>exact λ_ _=>rfl
 |P a b A B=>
  intro m q;have q:=QD.mp (show(x8 n j a&&x8 n j b)=true from q);show(ae cl a e1 m).bind (λx m1=>(ae cl b e1 m1).bind λy m2=>.ok (.T (x::zj y)) m2)=(ae cl a e2 m).bind (λx m1=>(ae cl b e2 m1).bind λy m2=>.ok (.T (x::zj y)) m2);rw[A m q.1];congr 1;funext x m1;rw[B m1 q.2]
 |call k a A=>
  intro m q;show(ae cl a e1 m).bind _=(ae cl a e2 m).bind _;rw[A m q]
 |blt k a A=>
  intro m q;show(ae cl a e1 m).bind _=(ae cl a e2 m).bind _;rw[A m q]
 |i a b A B=>
  intro m q;have q:=QD.mp (show(x8 n j a&&x8 n j b)=true from q);show(ae cl a e1 m).bind (λx m1=>(ae cl b e1 m1).bind λy m2=>wO x y m2)=(ae cl a e2 m).bind (λx m1=>(ae cl b e2 m1).bind λy m2=>wO x y m2);rw[A m q.1];congr 1;funext x m1;rw[B m1 q.2]
 |_=>exact λ_ q=>N2 (show false=true from q) (by decide)
noncomputable def dG(p:R5×Wd):Wd:=.T [.str p.1,p.2]
def CY(ws:List (R5×Wd))(i:Nat)(m:Me):zn .ptp (.T (ws.map dG)) (.int 0) i m=some (ws[i]?.map λp=>(.str p.1,p.2)):=by
 show(match (ws.map dG)[i]? with
  |none=>some none
  |some w=>(qM w).map some)=_
 rw[Qm];cases ws[i]?<;>rfl
def GX {ws:List (R5×Wd)}(hj:j<env.length)(le:x8 (env.length+1) j elt=true)(lm:x8 (env.length+1) j mx=true)(S:aJ X.K as m H)(G:aD X.K as H (env.set j none) σ)(h:σ[j]?=some (some (.ref p)))(hp:H p=some (xT p o))(np:p∉as)(f:FO X.prog X.w p o ep kvs)(hl:kvs.length=ws.length)(hk:∀(i:Nat) (k:R5) (w:Wd),ws[i]?=some (k,w)->∃v,kvs[i]?=some ((Sum.inr ⟨k.toArray⟩:bH),v)/\xN kvs (Sum.inr ⟨k.toArray⟩)=some v/\ai X.K as H w v)(P:am X.K as H Q (zI (λu v m=>ae cl (.cmp .eq (.V (env.length+1)) mx) (env++[some u]++[some v]) m) (λu v m=>ae cl elt (env++[some u]++[some v]) m) (zn .ptp (.T (ws.map dG)) (.int 0)) (aA+1) 0 [] m)):
  v8 i6 (Bb X (jG j)) (iW (dM (rC X.K .eq) (dM (j4 X) (jG j) (jG env.length)) (aF X.K (ae cl mx)))) (aF X.K (ae cl elt)) σ H Q:=by
 have a:j<σ.length:=(Qa.mp h).1;have hls:env.length=σ.length:=by have:=G.len;simpa using this
 refine⟨.ref p,h,p,o,ep,kvs,rfl,f,hp,λD hD=>?_⟩;refine⟨λi n ys H'=>∃B I A,cj X.K as H D (env.set j none) σ B I A ys H' /\
  am X.K as H Q (zI (λu v m=>ae cl (.cmp .eq (.V (env.length+1)) mx) (env++[some u]++[some v]) m) (λu v m=>ae cl elt (env++[some u]++[some v]) m) (zn .ptp (.T (ws.map dG)) (.int 0)) n i A I),⟨aA+1,as,m,[],cj.start (as:=as) (H:=H) S G hD,P⟩,?_⟩
 rintro i n ys H' ⟨B,I,A,M,Pi⟩;have J:=M.T.frame _ _ hp np;cases n with
 |zero=>exact Pi.elim
 |succ n=>
  unfold zI at Pi;rw[CY]at Pi;cases g:ws[i]? with
  |none=>
   rw[g]at Pi;have hi:=QT.mp g;exact .inl ⟨⟨J,by lia⟩,xk M.S M.T hD M.hD M.n M.R Pi⟩
  |some kw=>
   obtain⟨k,w⟩:=kw;rw[g]at Pi;obtain⟨v,U,hv2,R⟩:=hk i k w g;have hi:=(Qa.mp U).1;refine .inr ⟨⟨J,hi⟩,λx H'' hy=>?_⟩;obtain⟨rfl,kv,Y,rfl⟩:=hy;rw[U]at Y;cases Y;have E:∀O,O<env.length+1->O≠j->(env++[some (Wd.str k)]++[some w])[O]?=(env.set j none++[some (Wd.str k)])[O]?:=λO h1 h2=>by
    rw[Qf (by simp;lia)];by_cases z:O<env.length
    .rw[Qf z,Qf (by simpa using z),Qi (λe=>h2 e.symm)]
    .rw[Qd (by lia),Qd (by simp;lia),Wx]
   have d:∀m,ae cl (.V (env.length+1)) (env++[some (Wd.str k)]++[some w]) m=.ok w m:=λm=>by
    show(match (env++[some (Wd.str k)]++[some w])[env.length+1]? with|some (some w)=>Rz.ok w m|_=>.no)=_;rw[Qd (by simp)];simp
   have e1:∀m,ae cl (.cmp .eq (.V (env.length+1)) mx) (env++[some (Wd.str k)]++[some w]) m=(ae cl mx (env.set j none++[some (Wd.str k)]) m).bind λy m2=>cA .eq w y m2:=λm=>by
    show(ae cl (.V (env.length+1)) _ m).bind (λx m1=>(ae cl mx _ m1).bind λy m2=>cA .eq x y m2)=_;rw[d m];show(ae cl mx (env++[some (Wd.str k)]++[some w]) m).bind (λy m2=>cA .eq w y m2)=_;rw[tK E mx m lm]
   have Pi:am X.K as H Q (((ae cl mx (env.set j none++[some (Wd.str k)]) I).bind λy m2=>cA .eq w y m2).bind λb m1=>match b with
     |.bl true=>(ae cl elt (env++[some (Wd.str k)]++[some w]) m1).bind λz m2=>if A.length<aA then zI (λu v m=>ae cl (.cmp .eq (.V (env.length+1)) mx) (env++[some u]++[some v]) m) (λu v m=>ae cl elt (env++[some u]++[some v]) m) (zn .ptp (.T (ws.map dG)) (.int 0)) n (i+1) (A++[z]) m2 else .no
     |.bl false=>zI (λu v m=>ae cl (.cmp .eq (.V (env.length+1)) mx) (env++[some u]++[some v]) m) (λu v m=>ae cl elt (env++[some u]++[some v]) m) (zn .ptp (.T (ws.map dG)) (.int 0)) n (i+1) A m1
     |_=>.no):=by
    have:=Pi;simp only[QR]at this;rw[e1]at this;exact this
   have G1:aD X.K B H'' (env.set j none++[some (Wd.str k)]) (σ++[some (V.str ⟨k.toArray⟩)]):=M.G.push (aB.mpr rfl);refine⟨[V.str ⟨k.toArray⟩],rfl,?_⟩;refine⟨.ref p,by rw[Qf a];exact h,.str ⟨k.toArray⟩,by rw[hls,Qd (Qk _)];simp,p,o,ep,kvs,Sum.inr ⟨k.toArray⟩,v,rfl,rfl,f,J,hv2,?_⟩;have Pi':am X.K as H Q ((ae cl mx (env.set j none++[some (Wd.str k)]) I).bind λy m2=>(cA .eq w y m2).bind λb m1=>match b with
     |.bl true=>(ae cl elt (env++[some (Wd.str k)]++[some w]) m1).bind λz m2=>if A.length<aA then zI (λu v m=>ae cl (.cmp .eq (.V (env.length+1)) mx) (env++[some u]++[some v]) m) (λu v m=>ae cl elt (env++[some u]++[some v]) m) (zn .ptp (.T (ws.map dG)) (.int 0)) n (i+1) (A++[z]) m2 else .no
     |.bl false=>zI (λu v m=>ae cl (.cmp .eq (.V (env.length+1)) mx) (env++[some u]++[some v]) m) (λu v m=>ae cl elt (env++[some u]++[some v]) m) (zn .ptp (.T (ws.map dG)) (.int 0)) n (i+1) A m1
     |_=>.no):=by
    cases z:ae cl mx (env.set j none++[some (Wd.str k)]) I with
    |ok y m2=>rw[z]at Pi;exact Pi
    |no=>rw[z]at Pi;exact Pi
   refine⟨B,_,I,M.S,G1,eC Pi' M.T λy m2 as2 H2 u T2 S2 R2 P2=>?_⟩;have M2:=M.go T2 S2;refine⟨as2,m2,w,y,S2,(R.mono S M.T).mono M.S T2,R2,eC P2 M2.T λwb m3 l H3 vb T3 S3 R3 P3=>?_⟩;have M3:=M2.go T3 S3;cases wb with
   |bl b=>
    obtain rfl:=ag.mp R3;refine⟨b,rfl,?_⟩;cases b with
    |false=>exact qE ⟨n,Wb _,l,m3,A,M3,P3⟩
    |true=>
     have P3:am X.K as H Q ((ae cl elt (env++[some (Wd.str k)]++[some w]) m3).bind λz m2=>if A.length<aA then zI (λu v m=>ae cl (.cmp .eq (.V (env.length+1)) mx) (env++[some u]++[some v]) m) (λu v m=>ae cl elt (env++[some u]++[some v]) m) (zn .ptp (.T (ws.map dG)) (.int 0)) n (i+1) (A++[z]) m2 else .no):=P3;rw[tK E elt m3 le]at P3;refine qF ⟨l,_,m3,S3,(G1.mono M.S T2).mono S2 T3,eC P3 M3.T λwy m4 as4 H4 vy T4 S4 R4 t=>?_⟩;have M4:=M3.go T4 S4;by_cases N:A.length<aA
     .rw[N0 N]at t;exact⟨M4.hD,by rw[<-M4.R.length];exact Qj N yx,n,Wb _,as4,m4,A++[wy],M4.push hD R4,t⟩
     .rw[N1 N]at t;exact t.elim
   |_=>exact P3.elim
def CW(k:R5)(a:Ex)(env:En)(m:Me):ae cl (cE k a) env m=(ae cl a env m).bind λw m1=>.ok (dG (k,w)) m1:=by
 show((((ae cl a env m).bind λy m2=>(Rz.ok (.T []) m2).bind λz m3=>.ok (.T (y::zj z)) m3).bind λy m2=>.ok (.T (Wd.str k::zj y)) m2).bind λx m1=>if(zj x).length<=aA then .ok (.T (zj x)) m1 else .no)=_;cases ae cl a env m with
 |ok w m1=>
  show(if([Wd.str k,w]:R7).length<=aA then Rz.ok (.T [.str k,w]) m1 else .no)=_;rw[N0 (show([Wd.str k,w]:R7).length<=aA by show 2<=aA;decide)];rfl
 |no=>rfl
def GW (H:ae cl (kq a b c d) env m=.ok w m'):
  ∃A m1 B m2 E m3 wd,ae cl a env m=.ok A m1/\ae cl b env m1=.ok B m2/\ae cl c env m2=.ok E m3/\ae cl d env m3=.ok wd m'/\w=.T [A,B,E,wd]:=by
 obtain⟨z,I,J,G⟩:=cC (show(ae cl (.P a (.P b (.P c (.P d .u)))) env m).bind (λx m1=>if(zj x).length<=aA then Rz.ok (.T (zj x)) m1 else .no)=_ from H);obtain⟨A,m1,M,N⟩:=cC (show(ae cl a env m).bind (λx m1=>(ae cl (.P b (.P c (.P d .u))) env m1).bind λy m2=>Rz.ok (.T (x::zj y)) m2)=_ from J);obtain⟨n,h,O,Q⟩:=cC N;obtain⟨B,m2,U,Y⟩:=cC (show(ae cl b env m1).bind (λx m1=>(ae cl (.P c (.P d .u)) env m1).bind λy m2=>Rz.ok (.T (x::zj y)) m2)=_ from O);obtain⟨i,n2,j,u⟩:=cC Y;obtain⟨E,m3,o,l⟩:=cC (show(ae cl c env m2).bind (λx m1=>(ae cl (.P d .u) env m1).bind λy m2=>Rz.ok (.T (x::zj y)) m2)=_ from j);obtain⟨yd,n3,g,f⟩:=cC l;obtain⟨wd,m4,e,t⟩:=cC (show(ae cl d env m3).bind (λx m1=>(Rz.ok (.T []) m1).bind λy m2=>Rz.ok (.T (x::zj y)) m2)=_ from g);cases t;cases f;cases u;cases Q
 replace G:(if([A,B,E,wd]:R7).length<=aA then Rz.ok (.T [A,B,E,wd]) I else .no)=.ok w m':=G
 rw[N0 (show([A,B,E,wd]:R7).length<=aA by show 4<=aA;decide)]at G;cases G;exact⟨A,m1,B,m2,E,m3,wd,M,U,o,e,rfl⟩
def kG (h:ae cl (cE k a) env m=.ok w m'):∃u,ae cl a env m=.ok u m'/\w=dG (k,u):=by
 rw[CW]at h;obtain⟨u,m1,A,B⟩:=cC h;cases B;exact⟨u,A,rfl⟩
def GV {K:Qb}(h:ax K as H D (r.bindS env λw m1=>.ret w m1)):am K as H D.rt r:=by
 cases r with
 |ok w A=>exact h
 |no=>exact h
def CV {c1 c2 c3 c4}(hu:X.A.units+64<Mz)(hc:X.calm=true)(hN:X.N.Nodup)(hj:X.N[j]?=some J)(hl:Loc X.env.scope J)(hf:X.fn J=true)(e1:s1.cps.toList=l)(e2:s2.cps.toList=g)(e3:s3.cps.toList=t)(e4:s4.cps.toList=n)(n12:l≠g)(n13:l≠t)(n14:l≠n)(n23:g≠t)(n24:g≠n)(n34:t≠n)(hsw:Mf (.Dict [some (.Constant (.str s1) c1 p1),some (.Constant (.str s2) c2 p2),some (.Constant (.str s3) c3 p3),some (.Constant (.str s4) c4 p4)] [x1,x2,x3,x4] pd) (some (.Name J p0)) pa.line X.env=pure false)(ha:PE X x1 (aF X.K (ae cl a)))(hb:PE X x2 (aF X.K (ae cl b)))(hcc:PE X x3 (aF X.K (ae cl c)))(hd:PE X x4 (aF X.K (ae cl d)))(hv:PE X (.Name J pi) (jG j))(B:bx X M [E])(hm:∀N,bi X M [E] N->PE N (.Name J pm) (jG j)/\PE N (.Name E ps) (jG X.N.length)/\PE N xm (aF X.K (ae cl mx))/\PE N xe (aF X.K (ae cl elt)))(hmk:Mx .Eq xm=false)(le:x8 (X.N.length+1) j elt=true)(lm:x8 (X.N.length+1) j mx=true):
  ci X [.Assign [.Name J p0] (.Dict [some (.Constant (.str s1) c1 p1),some (.Constant (.str s2) c2 p2),some (.Constant (.str s3) c3 p3),some (.Constant (.str s4) c4 p4)] [x1,x2,x3,x4] pd) pa,
   .Return (some (.ListComp xe [⟨.Name E pt,.Name J pi,[.Compare (.Subscript (.Name J pm) (.Name E ps) pq) [.Eq] [xm] pc],0⟩] M pl)) pr] (yG X.K (aV cl (.ret (fm X.N.length l g t n a b c d mx elt)))):=by
 obtain rfl:=gU e1;obtain rfl:=gU e2;obtain rfl:=gU e3;obtain rfl:=gU e4;intro pins s σ H D I h;have hlen:=I.len;have body:∀N,bi X M [E] N->ff N [.Compare (.Subscript (.Name J pm) (.Name E ps) pq) [.Eq] [xm] pc] (iW (dM (rC X.K .eq) (dM (j4 X) (jG j) (jG X.N.length)) (aF X.K (ae cl mx))))/\PE N xe (aF X.K (ae cl elt)):=λN c=>by
  obtain⟨h1,h2,h3,h4⟩:=hm N c;refine⟨kB ?_,h4⟩;have q:=gu (pos:=pc) (k9 (X:=N) (by rw[c.A];exact hu) .eq) (iV (pos:=pq) oB h1 h2 (λ_ _=>rfl)) h3 hmk;have er:j4 N=j4 X:=by unfold j4;rw[c.prog,c.w]
  rw[c.K,er]at q;exact q
 refine(qy (mw hN hj hl (GO (vm kN ha (vm kN hb (vm kN hcc (vm kN hd Fb)))) rfl rfl (by simp) (by show 4<=15;decide)) hsw (.inl hf)) (uQ (t5 (xK B hc (kC B) (GP hv) body)))) pins s σ H D I ?_;obtain⟨as,A,m,S,G,P⟩:=h;have U:A.length=X.N.length:=by rw[G.len,hlen]
 have P:am X.K as H D.rt ((ae cl (kq (cE l a) (cE g b) (cE t c) (cE n d)) A m).bind λx m1=>(Rz.ok (.int 0) m1).bind λy m2=>
   zI (λu v m=>ae cl (.cmp .eq (.V (X.N.length+1)) mx) (A++[some u]++[some v]) m) (λu v m=>ae cl elt (A++[some u]++[some v]) m) (zn .ptp x y) (aA+1) 0 [] m2):=GV P
 cases hr:ae cl (kq (cE l a) (cE g b) (cE t c) (cE n d)) A m with
 |no=>rw[hr]at P;exact P.elim
 |ok w m4=>
  rw[hr]at P;obtain⟨ta,m1,tb,m2,tc,m3,td,ea,eb,ec,ed,rfl⟩:=GW hr;obtain⟨wa,fa,rfl⟩:=kG ea;obtain⟨wb,fb,rfl⟩:=kG eb;obtain⟨wc,fc,rfl⟩:=kG ec;obtain⟨wd,fd,rfl⟩:=kG ed;intro p Y;have T0:Step as H as (aG H p (.dK [])):=⟨⟨[],by simp⟩,λb o h _=>by rw[ze (zo h Y)];exact h,λb hb=>.inl hb⟩;have S0:aJ X.K as m (aG H p (.dK [])):=S.keep T0 λb _ o e=>by rw[ze (zo e Y)];exact e
  have G0:=G.mono S T0;have h0:aG H p (.dK []) p=some (.dK []):=zf;have n0:p∉as:=S.new Y;refine⟨as,A,m,S0,G0,?_⟩;rw[fa];intro as1 H1 va T1 S1 R1;have h1:=T1.frame _ _ h0 n0;have n1:=T1.out h0 n0;have G1:=G0.mono S0 T1;refine⟨as1,A,m1,S1,G1,?_⟩;rw[fb];intro as2 H2 vb T2 S2 R2;have h2:=T2.frame _ _ h1 n1;have n2:=T2.out h1 n1;have G2:=G1.mono S1 T2;refine⟨as2,A,m2,S2,G2,?_⟩;rw[fc];intro as3 H3 vc T3 S3 R3;have h3:=T3.frame _ _ h2 n2;have n3:=T3.out h2 n2;have G3:=G2.mono S2 T3;refine⟨as3,A,m3,S3,G3,?_⟩;rw[fd];intro as4 H4 vd T4 S4 R4;have h4:=T4.frame _ _ h3 n3;have n4:=T4.out h3 n3;have G4:=G3.mono S3 T4;have ne:∀{u v:R5},u≠v->(Sum.inr ⟨u.toArray⟩:bH)≠Sum.inr ⟨v.toArray⟩:=λ{u v} h e=>h (by
   have e:=Sum.inr.inj e;have e:u.toArray=v.toArray:=Str.mk.inj e;simpa using NY WM e)
  refine⟨h4,[((Sum.inr ⟨l.toArray⟩:bH),va),(Sum.inr ⟨g.toArray⟩,vb),(Sum.inr ⟨t.toArray⟩,vc),(Sum.inr ⟨n.toArray⟩,vd)],rfl,(by show 4<=15;decide),by simp[n12,n13,n14,n23,n24,n34],λo ep f=>?_⟩;have T04:=((T0.trans T1).trans T2).trans (T3.trans T4);have T5:Step as H as4 (aG H4 p (xT p o)):=⟨T04.pre,λb o h hb=>by rw[ze (zo h Y)];exact T04.frame b o h hb,T04.fresh⟩;have k6:Kp X.K H4 (aG H4 p (xT p o)):=Kp.updL h4 trivial;have S5:aJ X.K as4 m4 (aG H4 p (xT p o)):=S4.updK k6 λb hb o e=>by rw[ze (by rintro rfl;exact n4 hb)];exact e
  have G5:aD X.K as4 (aG H4 p (xT p o)) (A.set j none) (σ.set j (some (.ref p))):=by
   have Gk:=G4.kp k6;refine⟨by simp[Gk.len],λi w e=>?_⟩;by_cases z:i=j
   .subst z;rw[List.getElem?_set_self' ]at e;cases hz:A[i]? with
    |none=>rw[hz]at e;cases e
    |some q=>rw[hz]at e;cases e
   .rw[Qi (λq=>z q.symm)]at e ⊢;exact Gk.get i w e
  have hjn:j<X.N.length:=(Qa.mp hj).1;have res:=GX (X:=X) (cl:=cl) (elt:=elt) (mx:=mx) (env:=A) (σ:=σ.set j (some (.ref p))) (m:=m4) (H:=aG H4 p (xT p o)) (Q:=D.rt) (p:=p) (o:=o) (ep:=ep) (j:=j) (ws:=[(l,wa),(g,wb),(t,wc),(n,wd)])
   (by lia) (by rw[U];exact le) (by rw[U];exact lm) S5 G5 (by rw[QU (by lia)]) zf n4 f rfl (λi k w O=>by
    match i,O with
    |0,O=>cases O;exact⟨va,rfl,by simp[xN],((((R1.mono S1 T2).mono S2 T3).mono S3 T4).kp k6)⟩
    |1,O=>cases O;exact⟨vb,rfl,by simp[xN,n12],(((R2.mono S2 T3).mono S3 T4).kp k6)⟩
    |2,O=>cases O;exact⟨vc,rfl,by simp[xN,n13,n23],((R3.mono S3 T4).kp k6)⟩
    |3,O=>cases O;exact⟨vd,rfl,by simp[xN,n14,n24,n34],(R4.kp k6)⟩
    |i+4,O=>simp at O) (by
    rw[U];exact am.step P T5)
  rw[U]at res;exact res
end
section
variable{K:Qb}{cl:N6}
def GU (e:m[l]?=some (.D ks ws)):vg m l=ks.length:=by
 unfold vg;rw[e]
def FB {xs:List TK}{i:Nat}(h:xs[i]?=some k):(xs.map (·.1))[i]?=some k.1:=by rw[Qm,h];rfl
def HC (hK:X.K=K)(h:yG K (aV cl (.forD i x body)) D σ H):
  iP (Ba X (aF K (ae cl (.V x)))) (xh i) (yG K (aV cl body)) D σ H:=by
 subst hK;obtain⟨as,A,m,S,G,P⟩:=h;refine⟨as,A,m,S,G,ax.bind P λw m1 E g v T1 S1 R1 P1=>?_⟩;cases w with
 |ref l=>
  have M:ax X.K E g D (xt (zB (λw A=>some (A.set i (some w))) (aV cl body)) l (vg m1 l) (aA+1) 0 A m1):=P1;cases e:m1[l]? with
  |none=>unfold xt at M;rw[e]at M;exact M.elim
  |some o=>
   cases o with
   |L ys=>unfold xt at M;rw[e]at M;exact M.elim
   |D ks ws=>
    obtain⟨a,z,vs,rfl,ha,td,ek,_,_⟩:=yS S1 e R1;have hn:vg m1 l=z.length:=by rw[GU e,<-ek,Qs]
    rw[hn]at M;refine⟨a,z,rfl,td,λd n j f=>∃B m' J,B[l]?=some a/\Step E g B f/\aJ X.K B m' f/\aD X.K B f J j/\ax X.K E g D (xt (zB (λw A=>some (A.set i (some w))) (aV cl body)) l z.length n d J m'),⟨aA+1,E,m1,A,ha,.refl,S1,G.mono S T1,M⟩,?_⟩;rintro d n j f ⟨B,m',J,hl,T',S',G',Pi⟩;cases n with
    |zero=>exact Pi.elim
    |succ n=>
     unfold xt at Pi;cases e':m'[l]? with
     |none=>rw[e']at Pi;exact Pi.elim
     |some o=>
      cases o with
      |L ys=>rw[e']at Pi;exact Pi.elim
      |D N ws'=>
       rw[e']at Pi;dsimp only at Pi;obtain⟨a',O,vs',t,Q,b,r',rv',_⟩:=kZ S' e';rw[hl]at t;cases t;have lk:N.length=O.length:=by rw[<-b,Qs]
       by_cases hc:N.length=z.length
       .rw[N0 hc]at Pi;cases y:N[d]? with
        |none=>
         rw[y]at Pi;have:=QT.mp y;exact .inl ⟨⟨O,Q,by lia,by lia⟩,Pi B f j T' S' G'⟩
        |some q=>
         rw[y]at Pi;have hi:d<N.length:=(Qa.mp y).1;refine .inr ⟨⟨O,Q,by lia,by lia⟩,λu H2=>∃I m2 Y,I[l]?=some a/\Step E g I H2/\aJ X.K I m2 H2/\aD X.K I H2 Y u/\ax X.K E g D (xt (zB (λw A=>some (A.set i (some w))) (aV cl body)) l z.length n (d+1) Y m2),?_,λv H'' hy=>?_⟩
         .rintro u H2 q;exact⟨n,Wb _,q⟩
         .obtain ⟨rfl,hy⟩:=hy;obtain⟨k,hk,rfl⟩:=hy O Q;have eq:k.1=q:=by
           have:=FB hk;rw[b,y]at this;exact(Option.some.inj this).symm
          have Rk:ai X.K B H'' (.T (q.map Wd.int)) (.ref k.2.1):=ah.mpr ⟨k.2.1,q.map V.int,rfl,eq▸Q.2 k (Qo hk),vL q⟩;refine vt (AN i) (next:=λe m=>xt (zB (λw A=>some (A.set i (some w))) (aV cl body)) l z.length n (d+1) e m) T' S' G' Rk Pi ?_;intro I m2 e2 u H2 U S2 G2 M;exact⟨I,m2,e2,U.get hl,T'.trans U,S2,G2,M⟩
       .rw[N1 hc]at Pi;exact Pi.elim
 |_=>exact P1.elim
end
set_option genInjectivity false in
inductive Ns where
 |s (st:Stmt)|b (sts:P7)
noncomputable def x9(A:LR)(x:Str):Bool:=decide (A.names.lookup x=some .local) || decide (A.names.lookup x=some .cell)
noncomputable def mF:Expr->Bool
 |.Call _ _ _ _=>true
 |.Name _ _=>true
 |_=>false
noncomputable def eF(cl:N6)(X:Cx)(s:Sm):Ns->Prop
 |.s st=>PS X st (yG X.K (aV cl s))
 |.b A=>ci X A (yG X.K (aV cl s))
structure eo(X:Cx):Prop where
 nd:X.N.Nodup
 fn:∀x,X.fn x=true
 hp:PassesOwn (L6 X.prog X.w) X.A X.env X.xe
section
variable{cl:N6}
def yJ (h:x9 A x=true):Loc A x:=by
 unfold x9 at h;simp only[Ve,N5]at h;exact h
def g6 (z:X.calm=true)(M:eo X)(Y:X.N[i]?=some I)(hl:Loc X.env.scope I)(B:bx X A xs)(o:iB X A xs N g un)(d:PI X N w l)(body:∀O,bi X A xs O->ff O fs tc/\PE O x te)(J:∀v,Mt w X.env v=pure v)(G:∀σ H Q,aF X.K (ae cl j) σ H Q->v8 un l tc te σ H Q)(f:PE X (.ListComp x [⟨N,w,fs,0⟩] A E) (aF X.K (ae cl j))):
  PS X (.Assign [.Name I e] (.ListComp x [⟨N,w,fs,0⟩] A E) pos) (yG X.K (aV cl (.a i j))):=by
 have U:∃b:Bool,Mf (.ListComp x [⟨N,w,fs,0⟩] A E) (some (.Name I e)) pos.line X.env=pure b:=⟨_,rfl⟩;obtain⟨b,u⟩:=U;cases b with
 |false=>exact PS.imp (mw M.nd Y hl f u (.inl (M.fn I))) λD σ H q=>jv q
 |true=>
  refine PS.imp (IR B z o d body M.nd Y hl (.inl (M.fn I)) u J) λD σ H q=>?_;exact G _ _ _ (jv q)
def CU(i j:Nat)(e:Ex)(env:En)(m:Me):aV cl (.fort i j (.T (.P e .u)) .skip) env m=(ae cl e env m).bindS env λw m1=>match bR i j w env with
  |some A=>.next A m1
  |none=>.no:=by
 have h:ae cl (.T (.P e .u)) env m=(ae cl e env m).bind λw m1=>.ok (.T [w]) m1:=by
  show(((ae cl e env m).bind λx m1=>.ok (.T [x]) m1).bind λx m1=>if(zj x).length<=aA then .ok (.T (zj x)) m1 else .no)=_;cases ae cl e env m with
  |ok w m1=>
   simp only[Rz.bind];simp[zj,aA]
  |no=>rfl
 show(ae cl (.T (.P e .u)) env m).bindS env (λw m1=>gH (zB (bR i j) (aV cl .skip)) w env m1)=_;rw[h];cases ae cl e env m with
 |ok w m1=>
  show x0 (zB (bR i j) (aV cl .skip)) [w] env m1=match bR i j w env with
   |some A=>.next A m1
   |none=>.no
  unfold x0 zB;cases bR i j w env with
  |none=>rfl
  |some B=>rfl
 |no=>rfl
def Hl {K:Qb}(h:yG K (aV cl (.fort i j (.T (.P e .u)) .skip)) D σ H):fT (aF K (ae cl e)) (fU K 2 (w5 (xh i) (w5 (xh j) fV))) D σ H:=by
 obtain⟨as,A,m,S,G,P⟩:=h;rw[CU]at P;refine⟨as,A,m,S,G,ax.bind P λw m1 J U v M I N B=>?_⟩;cases E:bR i j w A with
 |none=>rw[E]at B;exact B.elim
 |some Y=>rw[E]at B;exact(jx i j).ok I (G.mono S M) N E λO Q=>ax.next (m:=m1) B I Q
structure bh(C:Ctx)(sc:LR)(N:R0)(s:Sm)(n:Ns):Prop where
 h:∀(cl:Nat → R7 → Me → Rz) (d:Nat) (X:Cx),bL C X cl d → eo X → X.env.scope=sc → X.N=N → eF cl X s n
def CT (A:bL C X cl d)(B:eo X)(h:bh C X.env.scope X.N s n):eF cl X s n:=h.h cl d X A B rfl rfl
def bh.«skip0»{C:Ctx}{A:LR}{N:R0}:bh C A N .skip (.b []):=by
 constructor;intro cl d X G H B E;subst B;subst E;exact FH
def bh.«one»{C:Ctx}{A:LR}{N:R0}{s:Sm}{st:Stmt}(h:bh C A N s (.s st)):bh C A N s (.b [st]):=by
 constructor;intro cl d X B E G H;subst G;subst H;have I:=h.h cl d X B E rfl rfl;exact uQ I
def bh.«seq»{C:Ctx}{B:LR}{N:R0}{a b:Sm}{st A:Stmt}{r:P7}(J:bh C B N a (.s st))(M:bh C B N b (.b (A::r))):bh C B N (.seq a b) (.b (st::A::r)):=by
 constructor;intro cl d X H I O Q;subst O;subst Q;have E:=J.h cl d X H I rfl rfl;have G:=M.h cl d X H I rfl rfl;exact Ee E G
def bh.«a»{C:Ctx}{A:LR}{N:R0}{i:Nat}{e:Ex}{x:Str}{v:Expr}{p E:Pos}(G:ju v=false)(I:N[i]?=some x)(J:x9 A x=true)(M:zg e=false)(O:aw C A N e (.e v)):bh C A N (.a i e) (.s (.Assign [.Name x p] v E)):=by
 constructor;intro cl d X Q B U Y;subst U;subst Y;exact PS.imp (mw B.nd I (yJ J) ((zE O X Q rfl rfl).pe M) (l9 G) (.inl (B.fn _))) λD j H q=>jv q
def bh.«asgC0»{C:Ctx}{B:LR}{N:R0}{i:Nat}{elt it:Ex}{x y:Str}{z w:Expr}{A:LR}{p j q u:Pos}(o:N[i]?=some x)(l:x9 B x=true)(M:zV w=true)(J:y8 B N A [y]=true)(O:aw C B N it (.e w))(U:zg elt=false)(Y:aw C (zG A B) (zR N [y]) elt (.e z)):
   bh C B N (.a i (.comp elt it (.lit (.bl true)))) (.s (.Assign [.Name x p] (.ListComp z [⟨.Name y q,w,[],0⟩] A u) j)):=by
 constructor;intro cl d X I g f t;subst f;subst t;have E:∀v,Mt w X.env v=pure v:=yC M;refine g6 (fs:=[]) (tc:=_) I.calm g o (yJ l) (zJ J) (kC (zJ J)) ((zE O X I rfl rfl).2 _) (te:=aF X.K (ae cl elt)) (λn c=>⟨wn,?_⟩) E (λh H Q q=>vM (λh H Q q=>?_) q) ((zE (aw.comp0 M J O U Y) X I rfl rfl).pe rfl)
 .have q:=(zE Y n (I.comp c) c.sc c.N).pe U;rw[c.K]at q;exact q
 .obtain ⟨as,a,m,S,G,P⟩:=q;obtain⟨b,e,q⟩:=am.ok (m:=m) P S (ag.mpr rfl);cases e;exact q
def bh.«asgCZ0»{C:Ctx}{E:LR}{N:R0}{i:Nat}{elt a b:Ex}{x y J:Str}{z w M:Expr}{A:LR}{p t q n h q3 q4 pt:Pos}{kt:Nat}(h1:N[i]?=some x)(h2:x9 E x=true)(Y:cq E "zip"=true)(O:y8 E N A [y,J]=true)(U:zi w=true)(B:zi M=true)(j:zg a=false)(u:aw C E N a (.e w))(o:zg b=false)(l:aw C E N b (.e M))(g:zg elt=false)(f:aw C (zG A E) (zR N [y,J]) elt (.e z)):
   bh C E N (.a i (.compP .zip elt a b (.lit (.bl true)))) (.s (.Assign [.Name x p] (.ListComp z [⟨.Tuple [.Name y q,.Name J h] kt pt,.Call (.Name "zip" q3) [w,M] [] q4,[],0⟩] A n) t)):=by
 constructor;intro cl d X I hX es eN;subst es;subst eN;refine g6 (fs:=[]) (tc:=_) I.calm hX h1 (yJ h2) (zJ O) (wq I.calm (zJ O)) (tw (yN Y) (I.blt _ (by simp[zm])) (zA ((zE u X I rfl rfl).pe j) (zA ((zE l X I rfl rfl).pe o) yj (zd B)) (zd U)) (by rw[zd U,zd B];rfl) (zd B)) (te:=aF X.K (ae cl elt)) (λXc c=>⟨wn,?_⟩) (λ_=>rfl) (λσ H Q q=>jk (λσ H Q q=>?_) q) ((zE (aw.compZ0 Y O U B j u o l g f) X I rfl rfl).pe rfl)
 .have q:=(zE f Xc (I.comp c) c.sc c.N).pe g;rw[c.K]at q;exact q
 .obtain ⟨as,env,m,S,G,P⟩:=q;obtain⟨b,e,q⟩:=am.ok (m:=m) P S (ag.mpr rfl);cases e;exact q
def bh.«asgCE1»{C:Ctx}{B:LR}{N:R0}{i:Nat}{elt a cond:Ex}{x y G:Str}{z w f:Expr}{A:LR}{p e q t m b n pt:Pos}{h:Nat}(h1:N[i]?=some x)(h2:x9 B x=true)(M:cq B "enumerate"=true)(I:y8 B N A [y,G]=true)(J:zi w=true)(O:zg a=false)(U:aw C B N a (.e w))(Y:zg cond=false)(j:wU cond=false)(u:aw C (zG A B) (zR N [y,G]) cond (.e f))(o:zg elt=false)(l:aw C (zG A B) (zR N [y,G]) elt (.e z)):
   bh C B N (.a i (.compP .enum elt a (.lit (.int 0)) cond)) (.s (.Assign [.Name x p] (.ListComp z [⟨.Tuple [.Name y q,.Name G m] h pt,.Call (.Name "enumerate" b) [w] [] n,[f],0⟩] A t) e)):=by
 constructor;intro cl d X E hX es eN;subst es;subst eN;refine g6 (fs:=[f]) (tc:=_) E.calm hX h1 (yJ h2) (zJ I) (wq E.calm (zJ I)) (kF (yN M) (E.blt _ (by simp[zm])) (zA ((zE U X E rfl rfl).pe O) yj (zd J)) (zd J)) (te:=aF X.K (ae cl elt)) (λg c=>⟨kB ?_,?_⟩) (λ_=>rfl) (λσ H Q q=>wV (c:=0) rfl (λσ H Q q=>q) q) ((zE (aw.compE1 M I J O U Y j u o l) X E rfl rfl).pe rfl)
 .have q:=(zE u g (E.comp c) c.sc c.N).pt Y j;rw[c.K]at q;exact q
 .have q:=(zE l g (E.comp c) c.sc c.N).pe o;rw[c.K]at q;exact q
def bh.«sel»{C:Ctx}{G:LR}{N:R0}{a b c d elt mx:Ex}{I J M O:R5}{g f e t E A:Str}{j:Nat}{m n h i w Q:Expr}{B:LR}{c1 c2 c3 c4}{p0 p1 p2 p3 p4 pd pa pt pi pm ps pq pc pl pr:Pos}(e1:g.cps.toList=I)(e2:f.cps.toList=J)(e3:e.cps.toList=M)(e4:t.cps.toList=O)(y:[I,J,M,O].Nodup)
   (h1:N[j]?=some E) (h2:x9 G E=true) (h3:yq E=true) (v1:eD G E=true) (g1:(zR N [A])[j]?=some E) (v2:eD (zG B G) E=true) (g2:(zR N [A])[N.length]?=some A) (v3:eD (zG B G) A=true) (g3:yq A=true) (hB:y8 G N B [A]=true)
   (ra:zg a=false) (ha:aw C G N a (.e m)) (rb:zg b=false) (hb:aw C G N b (.e n)) (rc:zg c=false) (hc:aw C G N c (.e h)) (rd:zg d=false) (hd:aw C G N d (.e i))
   (rm:zg mx=false) (hm:aw C (zG B G) (zR N [A]) mx (.e Q)) (re:zg elt=false) (he:aw C (zG B G) (zR N [A]) elt (.e w)) (hs:zV Q=true) (le:x8 (N.length+1) j elt=true) (lm:x8 (N.length+1) j mx=true) :
   bh C G N (.ret (fm N.length I J M O a b c d mx elt)) (.b [.Assign [.Name E p0] (.Dict [some (.Constant (.str g) c1 p1),some (.Constant (.str f) c2 p2),some (.Constant (.str e) c3 p3),some (.Constant (.str t) c4 p4)] [m,n,h,i] pd) pa,
    .Return (some (.ListComp w [⟨.Name A pt,.Name E pi,[.Compare (.Subscript (.Name E pm) (.Name A ps) pq) [.Eq] [Q] pc],0⟩] B pl)) pr]):=by
 constructor;intro cl d X H hX es eN;subst es;subst eN;simp only[QC,Qn,Wi,not_or,or_false]at y;obtain⟨⟨U,Y,u⟩,⟨z,o⟩,l,_⟩:=y;obtain⟨o1,o2,_⟩:=yQ h3;obtain⟨o3,o4,_⟩:=yQ g3;refine CV H.room.units H.calm hX.nd h1 (yJ h2) (hX.fn _) e1 e2 e3 e4 U Y u z o l (l9 rfl) ((zE ha X H rfl rfl).pe ra) ((zE hb X H rfl rfl).pe rb) ((zE hc X H rfl rfl).pe rc) ((zE hd X H rfl rfl).pe rd) (kM h1 (jt v1) o1 o2) (zJ hB) (λXc c=>⟨kM (by rw[c.N];exact g1) (by rw[c.sc];exact jt v2) o1 o2,kM (by rw[c.N];exact g2) (by rw[c.sc];exact jt v3) o3 o4,?_,?_⟩) (j6 hs) le lm
 .have q:=(zE hm Xc (H.comp c) c.sc c.N).pe rm;rw[c.K]at q;exact q
 .have q:=(zE he Xc (H.comp c) c.sc c.N).pe re;rw[c.K]at q;exact q
def bh.«dput»{C:Ctx}{A:LR}{N:R0}{j:Nat}{i e:Ex}{x y z:Expr}{p E:Pos}(G:yy y=true)(H:aw C A N (.V j) (.e x))(I:zg i=false)(J:aw C A N i (.e y))(M:zg e=false)(O:aw C A N e (.e z)):bh C A N (.dput j i e) (.s (.Assign [.Subscript x y p] z E)):=by
 constructor;intro cl d X B Y Q U;subst Q;subst U;exact FF B.room.units ((zE H X B rfl rfl).pe rfl) ((zE J X B rfl rfl).pe I) ((zE O X B rfl rfl).pe M) G
def bh.«asgS»{C:Ctx}{A:LR}{N:R0}{o i e:Ex}{x y z:Expr}{p E:Pos}(G:yy y=true)(H:zg o=false)(I:aw C A N o (.e x))(J:zg i=false)(M:aw C A N i (.e y))(O:zg e=false)(Q:aw C A N e (.e z)):bh C A N (.asgS o i e) (.s (.Assign [.Subscript x y p] z E)):=by
 constructor;intro cl d X B j U Y;subst U;subst Y;exact FE ((zE I X B rfl rfl).pe H) ((zE M X B rfl rfl).pe J) ((zE Q X B rfl rfl).pe O) G
def bh.«aug»{C:Ctx}{A:LR}{N:R0}{i:Nat}{op:Bo}{e:Ex}{x:Str}{v:Expr}{p E:Pos}(G:N[i]?=some x)(H:x9 A x=true)(I:fQ op=true)(J:zg e=false)(M:aw C A N e (.e v)):bh C A N (.aug i op e) (.s (.AugAssign (.Name x p) (fB op) v E)):=by
 constructor;intro cl d X O B Q U;subst Q;subst U;exact CZ I B.nd G (yJ H) (.inl (B.fn _)) ((zE M X O rfl rfl).pe J)
def bh.«ite»{C:Ctx}{A:LR}{N:R0}{c:Ex}{a b:Sm}{x:Expr}{xs ys:P7}{p:Pos}(I:zg c=false)(J:wU c=false)(M:aw C A N c (.e x))(O:bh C A N a (.b xs))(Q:bh C A N b (.b ys)):bh C A N (.ite c a b) (.s (.If x xs ys p)):=by
 constructor;intro cl d X B H U Y;subst U;subst Y;have E:=O.h cl d X B H rfl rfl;have G:=Q.h cl d X B H rfl rfl;exact Ch ((zE M X B rfl rfl).pt I J) E G
def bh.«forv»{C:Ctx}{E:LR}{N:R0}{i:Nat}{it:Ex}{body:Sm}{x:Str}{y:Expr}{A:P7}{p M:Pos}(O:N[i]?=some x)(Q:x9 E x=true)(U:zV y=true)(Y:aw C E N it (.e y))(j:bh C E N body (.b A)):bh C E N (.forv i it body) (.s (.For (.Name x p) y A [] M)):=by
 constructor;intro cl d X I G u z;subst u;subst z;have J:=j.h cl d X I G rfl rfl;have B:∀v,Mt y X.env v=pure v:=yC U;refine PS.imp (gs G.hp I.calm ((zE Y X I rfl rfl).2 _) (yI G.nd O (yJ Q) (.inl (G.fn _))) J B) λD o H q=>?_;exact AM (AN i) q
def bh.«unp»{C:Ctx}{A:LR}{N:R0}{i j:Nat}{e:Ex}{x E:Str}{v:Expr}{k}{p I J M:Pos}(O:N[i]?=some x)(Q:x9 A x=true)(U:N[j]?=some E)(Y:x9 A E=true)(u:mF v=true)(z:zg e=false)(o:aw C A N e (.e v)):
   bh C A N (.fort i j (.T (.P e .u)) .skip) (.s (.Assign [.Tuple [.Name x p,.Name E I] k J] v M)):=by
 constructor;intro cl d X G B l g;subst l;subst g;refine PS.imp (mA ((zE o X G rfl rfl).pe z) (gr G.calm (yU (yI B.nd O (yJ Q) (.inl (B.fn _))) (yU (yI B.nd U (yJ Y) (.inl (B.fn _))) kz))) (gZ (by intros;intro q;cases q)) (by cases v<;>first|rfl|cases u)) λD f H q=>?_;exact Hl q
def bh.«fort»{C:Ctx}{B:LR}{N:R0}{i j:Nat}{it:Ex}{body:Sm}{x J:Str}{y:Expr}{E:P7}{k}{p O Q U:Pos}(Y:N[i]?=some x)(u:x9 B x=true)(z:N[j]?=some J)(o:x9 B J=true)(l:zV y=true)(g:aw C B N it (.e y))(f:bh C B N body (.b E)):bh C B N (.fort i j it body) (.s (.For (.Tuple [.Name x p,.Name J Q] k U) y E [] O)):=by
 constructor;intro cl d X I A e t;subst e;subst t;have M:=f.h cl d X I A rfl rfl;have G:∀v,Mt y X.env v=pure v:=yC l;refine PS.imp (gs A.hp I.calm ((zE g X I rfl rfl).2 _) (gr I.calm (yU (yI A.nd Y (yJ u) (.inl (A.fn _))) (yU (yI A.nd z (yJ o) (.inl (A.fn _))) kz))) M G) λD m H q=>?_;exact AM (jx i j) q
def bh.«forD»{C:Ctx}{B:LR}{N:R0}{i x:Nat}{body:Sm}{G M:Str}{A:P7}{p Q O:Pos}(U:N[i]?=some G)(Y:x9 B G=true)(j:aw C B N (.V x) (.e (.Name M O)))(u:bh C B N body (.b A)):bh C B N (.forD i x body) (.s (.For (.Name G p) (.Name M O) A [] Q)):=by
 constructor;intro cl d X I E z o;subst z;subst o;have J:=u.h cl d X I E rfl rfl;refine PS.imp (gs E.hp I.calm (GI ((zE j X I rfl rfl).pe rfl)) (yI E.nd U (yJ Y) (.inl (E.fn _))) J (yC rfl)) λD l H q=>?_;exact HC rfl q
def bh.«bor»{C:Ctx}{H:LR}{N:R0}{i:Nat}{e c f:Ex}{n:Ns}(h:bh C H N (.seq (.a i e) (.seq (.ite c (.ret (.lit (.bl false))) .skip) (.ite f (.ret (.lit (.bl false))) .skip))) n):bh C H N (.bor i e c f) n:=by
 constructor;intro cl d X I J M O;subst M;subst O;have B:=h.h cl d X I J rfl rfl;have z:aV cl (.bor i e c f)=aV cl (.seq (.a i e) (.seq (.ite c (.ret (.lit (.bl false))) .skip) (.ite f (.ret (.lit (.bl false))) .skip))):=by
  funext A m;show((ae cl e A m).bindS A λw m1=>(ae cl c (A.set i (some w)) m1).bindS (A.set i (some w)) λb m2=>match b with
   |.bl true=>.ret (.bl false) m2
   |.bl false=>(ae cl f (A.set i (some w)) m2).bindS (A.set i (some w)) λb m3=>match b with
    |.bl true=>.ret (.bl false) m3
    |.bl false=>.next (A.set i (some w)) m3
    |_=>.no
   |_=>.no)=match (ae cl e A m).bindS A λw m1=>.next (A.set i (some w)) m1 with
   |.next E m1=>(match (ae cl c E m1).bindS E λb m2=>match b with
     |.bl true=>.ret (.bl false) m2
     |.bl false=>.next E m2
     |_=>.no with
    |.next G m2=>(ae cl f G m2).bindS G λb m3=>match b with
     |.bl true=>.ret (.bl false) m3
     |.bl false=>.next G m3
     |_=>.no
    |r=>r)
   |r=>r
  cases ae cl e A m with
  |ok w m1=>
   simp only[Rz.bindS];cases ae cl c (A.set i (some w)) m1 with
   |ok b m2=>
    simp only;cases b with
    |bl b=>cases b<;>rfl
    |_=>rfl
   |_=>rfl
  |_=>rfl
 cases n with
 |s st=>unfold eF at B ⊢;rw[z];exact B
 |b Q=>unfold eF at B ⊢;rw[z];exact B
def bh.«clrT»{C:Ctx}{G:LR}{N:R0}{i k x:Nat}{c:Sm}{n:Ns}(h:bh C G N (.seq (.fort i k (.V x) (.expr (.meth .clear (.V i) .u))) (.seq (.expr (.meth .clear (.V x) .u)) c)) n):bh C G N (.seq (.clrT i k x) c) n:=by
 constructor;intro cl d X H I J M;subst J;subst M;have E:=h.h cl d X H I rfl rfl;have e:aV cl (.seq (.clrT i k x) c)=aV cl (.seq (.fort i k (.V x) (.expr (.meth .clear (.V i) .u))) (.seq (.expr (.meth .clear (.V x) .u)) c)):=by
  funext A m;have O:aV cl (.clrT i k x) A m=match aV cl (.fort i k (.V x) (.expr (.meth .clear (.V i) .u))) A m with
   |.next B m1=>aV cl (.expr (.meth .clear (.V x) .u)) B m1
   |r=>r:=rfl
  show(match aV cl (.clrT i k x) A m with
   |.next B m1=>aV cl c B m1
   |r=>r)=match aV cl (.fort i k (.V x) (.expr (.meth .clear (.V i) .u))) A m with
   |.next B m1=>(match aV cl (.expr (.meth .clear (.V x) .u)) B m1 with
    |.next B m1=>aV cl c B m1
    |r=>r)
   |r=>r
  rw[O];cases aV cl (.fort i k (.V x) (.expr (.meth .clear (.V i) .u))) A m<;>rfl
 cases n with
 |s st=>unfold eF at E ⊢;rw[e];exact E
 |b Q=>unfold eF at E ⊢;rw[e];exact E
def bh.«forE»{C:Ctx}{A:LR}{N:R0}{i j:Nat}{a:Ex}{body:Sm}{x I:Str}{w:Expr}{E:P7}{k}{p O Q U q Y:Pos}(u:N[i]?=some x)(z:x9 A x=true)(o:N[j]?=some I)(l:x9 A I=true)(g:cq A "enumerate"=true)(M:zi w=true)(f:zg a=false)(e:aw C A N a (.e w))(t:bh C A N body (.b E)):
   bh C A N (.forE i j a body) (.s (.For (.Tuple [.Name x p,.Name I O] k Q) (.Call (.Name "enumerate" q) [w] [] Y) E [] U)):=by
 constructor;intro cl d X G B m b;subst m;subst b;have J:=t.h cl d X G B rfl rfl;refine PS.imp (gs B.hp G.calm (kF (yN g) (G.blt _ (by simp[zm])) (zA ((zE e X G rfl rfl).pe f) yj (zd M)) (zd M)) (gr G.calm (yU (yI B.nd u (yJ z) (.inl (B.fn _))) (yU (yI B.nd o (yJ l) (.inl (B.fn _))) kz))) J (λ_=>rfl)) λD n H q=>?_;exact HD q
def bh.«popI»{C:Ctx}{B:LR}{N:R0}{j:Nat}{x:Ex}{a b:Sm}{n:Ns}(h:bh C B N (.ite (.cmp .ne (.meth .pop (.V j) .u) x) a b) n):bh C B N (.popI j x a b) n:=by
 constructor;intro cl d X E G H I;subst H;subst I;have A:=h.h cl d X E G rfl rfl;have e:aV cl (.popI j x a b)=aV cl (.ite (.cmp .ne (.meth .pop (.V j) .u) x) a b):=by
  funext J m;rfl
 cases n with
 |s st=>unfold eF at A ⊢;rw[e];exact A
 |b M=>unfold eF at A ⊢;rw[e];exact A
def bh.«while»{C:Ctx}{B:LR}{N:R0}{c:Ex}{body:Sm}{x:Expr}{A:P7}{p:Pos}(J:zg c=false)(M:wU c=false)(O:aw C B N c (.e x))(Q:bh C B N body (.b A)):bh C B N (.while c body) (.s (.While x A [] p)):=by
 constructor;intro cl d X G I U Y;subst U;subst Y;have E:=Q.h cl d X G I rfl rfl;exact PS.imp (HU I.hp ((zE O X G rfl rfl).pt J M) E) λD j H q=>IC q
def bh.«ret»{C:Ctx}{A:LR}{N:R0}{e:Ex}{x:Expr}{p:Pos}(B:zg e=false)(E:aw C A N e (.e x)):bh C A N (.ret e) (.s (.Return (some x) p)):=by
 constructor;intro cl d X G J H I;subst H;subst I;exact C0 ((zE E X G rfl rfl).pe B)
def bh.«expr»{C:Ctx}{A:LR}{N:R0}{e:Ex}{x:Expr}{p:Pos}(B:ju x=false)(E:zg e=false)(G:aw C A N e (.e x)):bh C A N (.expr e) (.s (.Expr x p)):=by
 constructor;intro cl d X H M I J;subst I;subst J;exact FG ((zE G X H rfl rfl).pe E) B
def bh.«never»{C:Ctx}{A:LR}{N:R0}{st:Stmt}:bh C A N .never (.s st):=by
 constructor;intro cl d X G H B E;subst B;subst E;exact GZ
end
set_option genInjectivity false in
structure bm where
 nm:Str
 st:Stmt
 N:R0
 ps:R0
 fn:Fn
 on:Str
noncomputable def l8(N ps:R0)(A:LR):Bool:=
 decide (A.kind=.function)&&(decide (A.isCoroutine=false)&&(decide (A.isGenerator=false)&&(decide N.Nodup&&(decide (N.take ps.length=ps) &&
  (ps.all (λx=>decide (A.names.lookup x=some .local) || decide (A.names.lookup x=some .cell))&&A.names.all (λy=>!(decide (y.2=.free))))))))
def HB (h:l8 N ps A=true):ck N ps A:=by
 unfold l8 at h;simp only[Qr,Ve,N5,Qx,WY,decide_eq_false_iff_not]at h;obtain⟨B,E,G,H,I,J,M⟩:=h;exact⟨B,E,G,H,I,J,M⟩
structure bu(C:Ctx)(d:bm):Prop where
 sc:l8 d.N d.ps (zK d.st)=true
 ar:d.ps.length=d.fn.ar
 sz:d.N.length=d.fn.sz
 body:bh C (zK d.st) d.N d.fn.body (.b (yR d.st))
section
variable{P:LU}{w:LV}{K:Qb}{mg:N8}{base:LY}{C:Ctx}{cl:N6}
def HA (R:ab K as H ws vs)(hl:ws.length=B.ar)(G:N.length=B.sz):aD K as H (xM B ws) (L2.start N vs):=by
 have I:=R.length;refine⟨by simp[xM,L2.start,G,I],λi w e=>?_⟩;unfold xM at e;by_cases E:i<ws.length
 .rw[Qf (by simpa using E),Qm]at e;cases A:ws[i]? with
  |none=>rw[A]at e;cases e
  |some x=>
   rw[A]at e;cases e;obtain⟨v,J,M⟩:=R.get A;refine⟨v,?_,M⟩;unfold L2.start;rw[Qf (by simp;lia),Qm,J];rfl
 .rw[Qd (by simpa using E),W7]at e;split at e<;>cases e
set_option tactic.hygienic true in
def Hk (F:eK K d.on d.on d.st f j)(b:bu C d)(z:∀(i:Nat) (u:Str),C.fns[i]?=some u->∃f j ps,mg u=some (.ref f)/\WL K (.ref f)=true/\Binds K j ps []/\cx P w K mg base dP k f j ps (gR K (cl i)))(N:hZ K w mg C)(O:∀u∈zm,mg u=none):
  cx P w K mg base dP (k+1) f j d.ps (gR K (gI cl d.fn)):=by
 obtain⟨n,a,y,h4⟩:=b;have g:=HB n;have B:∀{as:O9}{H:Hp}{Q:VK}{J:R7}{m:Me},am K as H Q (gI cl d.fn J m)->J.length=d.fn.ar:=λ{as H Q J m} h=>by
  unfold gI at h;split at h
  .assumption
  .exact h.elim
 refine F.ok g (λvs H Q E h=>?_) (λU A I s H vs Q E Y h=>?_)
 .obtain ⟨as,m,J,S,R,q⟩:=h;rw[<-R.length,B q,a]
 .obtain ⟨as,m,J,S,R,q⟩:=h;have t:=B q;have hC:bL C (qC dP P w K mg base d.N d.on (zK d.st) f U A I s H E).nox cl k:=⟨Y,rfl,z,N,O⟩;have hX:eo (qC dP P w K mg base d.N d.on (zK d.st) f U A I s H E).nox:=⟨g.nd,λ_=>rfl,PassesOwn.never⟩;refine⟨_,CT hC hX h4,as,xM d.fn J,m,S,HA R t y,?_⟩;unfold gI at q;rw[N0 t]at q;cases Y:aV cl d.fn.body (xM d.fn J) m with
  |next e m1=>rw[Y]at q;exact λM o σ' T l G=>q M o .N T l (ao.mpr rfl)
  |ret w m1=>rw[Y]at q;exact λM o v T l R'=>q M o v T l R'
  |no=>rw[Y]at q;exact q.elim
noncomputable def jy(K:Qb)(mg:N8)(d:bm):Prop:=∃f A,eK K d.on d.on d.st f A/\mg d.nm=some (.ref f)
noncomputable def p9(d:bm):Prop:=∀(kV doc pm:Value) (E:O6) (A G:Value) (B:O7),B.length=d.ps.length->bindArgs (Wz d.on d.on (xp d.st) (yR d.st) (zK d.st) .none kV doc pm E A G) ⟨B,[]⟩=pure (d.ps.zip B)
theorem kj{D:List bm}(o:C.fns=D.map (·.nm))(l:∀d∈D,bu C d)(g:∀d∈D,p9 d)(t:∀d∈D,jy K mg d)
  (B:hZ K w mg C) (G:∀b∈zm,mg b=none) :
  ∀(k:Nat) (i:Nat) (d:bm),D[i]?=some d->∀f N,eK K d.on d.on d.st f N->cx P w K mg base dP k f N d.ps (gR K (xc (D.map (·.fn)) k i))
 |0,i,d,Y,f,N,F=>by
  have no:∀{O:S6}{H:Hp}{Q:VK}{E:XK},¬gR K (xc (D.map (·.fn)) 0 i) O H Q E:=λ{O H Q E} h=>by
   obtain⟨as,m,y,S,R,q⟩:=h;exact q
  exact⟨λO H Q E h=>(no h).elim,λA u s H n us O Q E _ _ _ _ h=>(no h).elim⟩
 |k+1,i,d,Y,f,N,F=>by
  have ih:=kj o l g t B G k;have e:gR K (xc (D.map (·.fn)) (k+1) i)=gR K (gI (xc (D.map (·.fn)) k) d.fn):=by
   have:xc (D.map (·.fn)) (k+1) i=gI (xc (D.map (·.fn)) k) d.fn:=by
    funext y m;unfold xc;rw[Qm,Y];rfl
   rw[this]
  rw[e];refine Hk F (l d (Qo Y)) (λj b I=>?_) B G;rw[o,Qm]at I;cases J:D[j]? with
  |none=>rw[J]at I;cases I
  |some U=>
   rw[J]at I;cases I;obtain⟨a,M,z,m'⟩:=t U (Qo J);exact⟨a,M,U.ps,m',z.kp,z.binds (g U (Qo J)),ih j U J a M z⟩
end
def Hj {K:Qb}{D:List bm}{A:P8}(B:iL H)(hS:bb K H a (A.map V.int))(h:∃m,xc (D.map (·.fn)) k i [.rol (A.map Wd.int)] []=.ok (.bl true) m):
  gR K (xc (D.map (·.fn)) k i) [.ref a] H (λv _=>v=.bl true) E:=by
 obtain⟨m,h⟩:=h;refine⟨[],[],[.rol (A.map Wd.int)],⟨rfl,QB,λl a o e=>by simp at e⟩,ak.mpr ⟨.ref a,[],rfl,bg.mpr ⟨a,A.map V.int,rfl,?_,?_⟩,aq.mpr rfl⟩,?_⟩
 .rcases hS with (hS|⟨o,hS⟩)|hS
  .rcases B a with z|⟨o,J,z⟩
   .rw[z]at hS;cases hS
   .rw[z]at hS;cases hS
  .exact .inl ⟨o,hS⟩
  .exact .inr hS
 .have all:∀l:P8,ab K [] H (l.map Wd.int) (l.map V.int):=by
   intro l
   induction l with
   |nil=>exact aq.mpr rfl
   |cons n l G=>exact ak.mpr ⟨_,_,rfl,aa.mpr rfl,G⟩
  exact all A
 .rw[h];exact λI M v T S R=>ag.mp R
def Cf {l:PySem.W.OpenLaw}{Kp:LS->Qb}{D:List bm}{dl:bm}(y:l.most=some n)(M:n<=sizeLine)(N:d.params.defaults=[])(hr:bY k MY)(hY:∀(w:LV) (h:LY),YP w h->(Kp w.params).In h)(hC:C.fns=D.map (·.nm))(hD:∀d∈D,bu C d)(j:∀d∈D,p9 d)(O:D[i]?=some dl)(Q:dl.ps=[x])(U:d.name=dl.nm)(F:∀(w:LV) (A:N8) (I:Addr) (h:LY),(Kp w.params).In h->h.Ns L0 A->A d.name=some (.ref I) ->
   (∀e∈D,jy (Kp w.params) A e)/\hZ (Kp w.params) w A C/\∀nm∈zm,A nm=none)(B:∀J:P8,J.length<=n->∃m,xc (D.map (·.fn)) k i [.rol (J.map Wd.int)] []=.ok (.bl true) m):
  Vx q loose XP YP l.row.toRowW d [] (λf vs=>PySem.call f vs):=by
 refine L2.cD (n:=n) (k:=k) (x:=x) (CX:=λ_=>dP) (sp:=λw=>gR (Kp w.params) (xc (D.map (·.fn)) k i)) y M N hr hY ?_ (λw H a J hl hO hS=>Hj hO hS (B J hl)) λ_ _ _ _ _ z=>z;intro w A I h KX G E;obtain⟨o,h2,h3⟩:=F w A I h KX G E;obtain⟨f,g,t,hm⟩:=o dl (Qo O);rw[U,hm]at E;cases E;refine⟨g,λs u=>?_,λb kb nb=>?_⟩
 .obtain ⟨oc,od,kV,doc,pm,an,Y,ct,osl,rfl,lk,hcd⟩:=t.ex;have q:=j dl (Qo O) kV doc pm an Y ct [u] (by rw[Q];rfl);rw[Q]at q;exact .of_eq q
 .rw[<-Q];exact kj hC hD j o h2 h3 k i dl O I g t
theorem aw.v{C:Ctx}{A:LR}{N:R0}{i:Nat}{x:Str}{p:Pos}(B:N[i]?=some x:=by rfl)(E:eD A x=true:=by kernel_rfl)(G:yq x=true:=by kernel_rfl):aw C A N (.V i) (.e (.Name x p)):=.V B E G
def AT{P:O7->Prop}(h:P []):∀A:O7,A.length=0->P A
 |[],_=>h
def cb{P:O7->Prop}(h:∀a,P [a]):∀A:O7,A.length=1->P A
 |[a],_=>h a
def mE {P:O7->Prop}(h:∀a (A:O7),A.length=n->P (a::A)):∀A:O7,A.length=n+1->P A
 |a::A,e=>h a A (Nat.succ.inj e)
def df{P:O7->Prop}(h:∀a b,P [a,b]):∀A:O7,A.length=2->P A:=mE λa=>cb (P:=λA=>P (a::A)) (h a)
def i5{P:O7->Prop}(h:∀a b c,P [a,b,c]):∀A:O7,A.length=3->P A:=mE λa=>df (P:=λA=>P (a::A)) (h a)
def i4{P:O7->Prop}(h:∀a b c d,P [a,b,c,d]):∀A:O7,A.length=4->P A:=mE λa=>i5 (P:=λA=>P (a::A)) (h a)
end Mini
namespace Mini
namespace Vl
namespace Lib
inductive Di where|u|r|d|l
deriving DecidableEq
noncomputable def dg:Di->Di
 |.u=>.d |.r=>.l |.d=>.u |.l=>.r
noncomputable def bD:List Di:=[.u,.r,.d,.l]
abbrev Pl:=Int×Int
noncomputable def bv(e:Di)(p:Pl):Pl:=match e with
 |.u=>(p.1-1,p.2) |.r=>(p.1,p.2+1) |.d=>(p.1+1,p.2) |.l=>(p.1,p.2-1)
noncomputable def ca(n:Nat)(p:Pl):Bool:=decide (0<=p.1)&&decide (p.1<n)&&(decide (0<=p.2)&&decide (p.2<n))
noncomputable def ku(n:Nat)(p:Pl):Di->Int
 |.u=>p.2 |.r=>n+p.1 |.d=>3*n-1-p.2 |.l=>4*n-1-p.1
abbrev Tr:=Pl->Di->Bool
structure fJ(n:Nat)(t:Tr):Prop where
 con:∀p e,ca n p=true->ca n (bv e p)=true->t (bv e p) (dg e)=t p e
 two:∀p,ca n p=true->(bD.filter (t p)).length=2
noncomputable def bS(f:Di->Bool)(d:Di):Di:=((bD.filter f).filter λe=>! decide (e=d)).headD d
def bO:ca n p=true↔(0<=p.1/\p.1<n)/\(0<=p.2/\p.2<n):=by
 unfold ca;simp only[Qr,N5]
def FA(e:Di):dg (dg e)=e:=by cases e<;>rfl
def jz(e:Di)(p:Pl):bv (dg e) (bv e p)=p:=by
 obtain⟨a,b⟩:=p;cases e<;>simp[bv,dg]<;>lia
def AL (h:(bD.filter f).length=2)(H:f d=true):f (bS f d)=true/\bS f d≠d/\bS f (bS f d)=d/\(bD.filter f).filter (λe=>! decide (e=d))=[bS f d]:=by
 unfold bS bD at *
 cases A:f .u<;>cases B:f .r<;>cases E:f .d<;>cases G:f .l<;>simp[A,B,E,G]at h ⊢<;>cases d<;>simp_all
abbrev cu:=Pl×Di
noncomputable def dq(n:Nat)(t:Tr)(s:cu):Option cu:=if ca n (bv (bS (t s.1) s.2) s.1)=true then some (bv (bS (t s.1) s.2) s.1,dg (bS (t s.1) s.2))else none
noncomputable def iM(n:Nat)(t:Tr)(s:cu):Int:=ku n s.1 (bS (t s.1) s.2)
noncomputable def eO(n:Nat)(t:Tr):Nat->cu->List Pl->Option (List Pl×Int)
 |0,_,_=>none
 |k+1,s,A=>match dq n t s with
  |some B=>eO n t k B (A++[B.1])
  |none=>some (A,iM n t s)
noncomputable def Good(n:Nat)(t:Tr)(s:cu):Prop:=ca n s.1=true/\t s.1 s.2=true
noncomputable def BQ(n:Nat)(s:cu):Prop:=ca n (bv s.2 s.1)=false
set_option tactic.hygienic true in
def Hi (F:fJ n t)(g:Good n t s)(h:dq n t s=some s'):Good n t s'/\ca n (bv s'.2 s'.1)=true/\s=(bv s'.2 s'.1,bS (t (bv s'.2 s'.1)) (dg s'.2)):=by
 unfold dq at h;obtain⟨B,G,E,_⟩:=AL (F.two s.1 g.1) g.2;split at h
 .next A=>
  cases h;refine⟨⟨A,?_⟩,?_,?_⟩
  .show t (bv _ s.1) (dg _)=true;rw[F.con s.1 _ g.1 A];exact B
  .show ca n (bv (dg _) (bv _ s.1))=true;rw[jz];exact g.1
  .show s=(bv (dg _) (bv _ s.1),bS (t (bv (dg _) (bv _ s.1))) (dg (dg _)));rw[jz,FA,E]
 .cases h
noncomputable def fA(n:Nat)(t:Tr)(s:cu):Nat->Option cu
 |0=>some s
 |k+1=>(fA n t s k).bind (dq n t)
noncomputable def JS:Di->Nat
 |.u=>0 |.r=>1 |.d=>2 |.l=>3
noncomputable def code(n:Nat)(s:cu):Nat:=(s.1.1.toNat*n+s.1.2.toNat)*4+JS s.2
section
variable{n:Nat}{t:Tr}{s:cu}
theorem j7 (h:dq n t s=some s'):∀k,fA n t s (k+1)=fA n t s' k
 |0=>by show(some s).bind (dq n t)=some s';exact h
 |k+1=>by
  show(fA n t s (k+1)).bind (dq n t)=(fA n t s' k).bind (dq n t);rw[j7 h k]
theorem cD:∀(k:Nat) (s:cu) (acc:List Pl),fA n t s k=none->∃B ρ,eO n t k s acc=some (B,ρ)
 |0,s,acc,h=>by cases h
 |k+1,s,acc,h=>by
  show ∃B ρ,(match dq n t s with|some A=>eO n t k A (acc++[A.1])|none=>some (acc,iM n t s))=some (B,ρ);cases e:dq n t s with
  |none=>exact⟨_,_,rfl⟩
  |some A=>
   rw[j7 e]at h;exact cD k A _ h
end
end Lib
inductive Dat where
 |N|bl (b:Bool)|int (i:Int)|str (s:R5)|T (xs:List Dat)|L (xs:List Dat)|scr (ns:P8)|D (ks:O1) (xs:List Dat)
deriving Inhabited
abbrev _root_.O8:=Option Dat
abbrev _root_.P9:=List Dat
inductive Lv where|no|top|F
deriving DecidableEq,Inhabited
abbrev _root_.R8:=List Lv
abbrev _root_.R9:=Nat->Lv
abbrev aI:=List O8
inductive Rd where|ok (d:Dat)|no
deriving Inhabited
abbrev _root_.N9:=Nat->List Dat->Rd
noncomputable def Rd.bind(r:Rd)(f:Dat->Rd):Rd:=match r with
 |.ok d=>f d
 |.no=>.no
mutual
noncomputable def ay:Dat->Bool
 |.L _=>false
 |.T A=>aZ A
 |.N=>true
 |.bl _=>true
 |.int _=>true
 |.str _=>true
 |.scr _=>true
 |.D _ _=>false
noncomputable def aZ:P9->Bool
 |[]=>true
 |d::A=>ay d&&aZ A
end
mutual
noncomputable def xo:Nat->Dat->Bool
 |0,_=>false
 |_+1,.scr _=>false
 |_+1,.D _ _=>false
 |k+1,.T A=>br k A
 |k+1,.L A=>br k A
 |_+1,.N=>true
 |_+1,.bl _=>true
 |_+1,.int _=>true
 |_+1,.str _=>true
noncomputable def br:Nat->P9->Bool
 |_,[]=>true
 |k,d::A=>xo k d&&br k A
end
mutual
noncomputable def c8:Dat->Dat->Bool
 |.T a,.T b=>cc a b
 |.L a,.L b=>cc a b
 |.N,.N=>true
 |.bl a,.bl b=>a==b
 |.int a,.int b=>decide (a=b)
 |.bl a,.int b=>decide (b2i a=b)
 |.int a,.bl b=>decide (a=b2i b)
 |.str a,.str b=>decide (a=b)
 |_,_=>false
noncomputable def cc:P9->P9->Bool
 |[],[]=>true
 |x::A,y::B=>c8 x y&&cc A B
 |_,_=>false
end
noncomputable def yH:Dat->Option P9
 |.T A=>some A
 |.L A=>some A
 |.scr B=>some (B.map .int)
 |_=>none
noncomputable def eX:Dat->Option P9
 |.L A=>some A
 |.scr B=>some (B.map .int)
 |_=>none
noncomputable def bo(xs:P9):Rd:=if xs.length<=aA then .ok (.L xs)else .no
noncomputable def yK(op:Bo)(x y:Dat):Rd:=match x,y with
 |.int i,.int j=>match op with
  |.add=>.ok (.int (i+j))
  |.sub=>.ok (.int (i-j))
  |.mul=>if w9 i || w9 j then .ok (.int (i*j))else .no
  |.fdiv=>if 0<j/\j<1073741824 then .ok (.int (i/j))else .no
  |.mod=>if 0<j then .ok (.int (i%j))else .no
  |.shr=>if 0<=j/\j<=1000 then .ok (.int (i/2^j.toNat))else .no
  |.band=>if 0<=i/\j=1 then .ok (.int (i%2))else .no
 |.L A,.L B=>match op with
  |.add=>bo (A++B)
  |_=>.no
 |.L A,.int k=>match op with
  |.mul=>if -aA<=k/\k<=aA then bo (QH k.toNat A).flatten else .no
  |_=>.no
 |.T A,.T B=>match op with
  |.add=>if A.length+B.length<=aA then .ok (.T (A++B))else .no
  |_=>.no
 |_,_=>.no
noncomputable def eg(x y:Dat):O5:=if xo ym x&&xo ym y then some (c8 x y)else none
noncomputable def oE(x:Dat)(ys:P9):O5:=if xo ym x&&br ym ys then some (ys.any λy=>c8 y x)else none
noncomputable def eM:O5->Rd
 |some b=>.ok (.bl b)
 |none=>.no
noncomputable def fS(r:Int->Int->Bool)(x y:Dat):Rd:=match x,y with
 |.int i,.int j=>.ok (.bl (r i j))
 |_,_=>.no
noncomputable def zD:P9->Option P8
 |[]=>some []
 |.int i::r=>(zD r).map (i::·)
 |_=>none
noncomputable def oD(x y:Dat):O5:=match y with
 |.D A _=>match x with
  |.int _=>some false
  |.T B=>(zD B).map λk=>decide (k∈A)
  |_=>none
 |_=>none
noncomputable def yV(op:Co)(x y:Dat):Rd:=match op with
 |.eq=>eM (eg x y)
 |.ne=>eM ((eg x y).map (!·))
 |.isN=>match y,x with
  |.N,.N=>.ok (.bl true)
  |.N,_=>.ok (.bl false)
  |_,_=>.no
 |.notN=>match y,x with
  |.N,.N=>.ok (.bl false)
  |.N,_=>.ok (.bl true)
  |_,_=>.no
 |.isin=>match yH y with
  |some A=>eM (oE x A)
  |none=>eM (oD x y)
 |.lt=>fS (λi j=>decide (i<j)) x y
 |.le=>fS (λi j=>decide (i<=j)) x y
 |.gt=>fS (λi j=>decide (j<i)) x y
 |.ge=>fS (λi j=>decide (j<=i)) x y
noncomputable def lr(t:Tg)(x:Dat):Bool:=match t with
 |.int=>match x with
  |.int _=>true
  |.bl _=>true
  |_=>false
 |.bool=>match x with
  |.bl _=>true
  |_=>false
 |.str=>match x with
  |.str _=>true
  |_=>false
 |.tuple=>match x with
  |.T _=>true
  |_=>false
 |.list=>match x with
  |.scr _=>true
  |.L _=>true
  |_=>false
 |.dict=>match x with
  |.D _ _=>true
  |_=>false
noncomputable def g7:P9->Option Int
 |[]=>some 0
 |.int i::r=>(g7 r).map (i+·)
 |_=>none
noncomputable def eL:P9->O5
 |[]=>some true
 |.bl b::r=>(eL r).map (b && ·)
 |_=>none
noncomputable def yW:P9->Option O1
 |[]=>some []
 |.L A::r=>match zD A,yW r with
  |some k,some B=>some (k::B)
  |_,_=>none
 |_=>none
noncomputable def eR(xs:P9):Option P8:=match zD xs with
 |some k=>some (0::k)
 |none=>(yW xs).bind iT
noncomputable def xU:P9->Option O1
 |[]=>some []
 |.L A::r=>match eR A,xU r with
  |some k,some B=>some (k::B)
  |_,_=>none
 |_=>none
noncomputable def fR:P9->Option (List (Dat×Dat))
 |[]=>some []
 |.T [x,y]::r=>(fR r).map ((x,y)::·)
 |_=>none
noncomputable def wF(b:dL)(ws:P9):Rd:=match b with
 |.sorted=>match ws with
  |[.L B]=>match (dt (xU B)).bind λE=>yF Dat E B with
   |some G=>bo G
   |none=>.no
  |_=>.no
 |.minS=>match ws with
  |[x]=>match (yH x).bind zD with
   |some (i::r)=>.ok (.int (xV i r))
   |_=>.no
  |_=>.no
 |.maxS=>match ws with
  |[x]=>match (yH x).bind zD with
   |some (i::r)=>.ok (.int (wN i r))
   |_=>.no
  |_=>.no
 |.len=>match ws with
  |[x]=>match yH x with
   |some A=>.ok (.int A.length)
   |none=>.no
  |_=>.no
 |.int=>match ws with
  |[.int i]=>.ok (.int i)
  |[.bl b]=>.ok (.int (b2i b))
  |_=>.no
 |.list=>match ws with
  |[x]=>match yH x with
   |some A=>bo A
   |none=>.no
  |_=>.no
 |.tuple=>match ws with
  |[x]=>match yH x with
   |some A=>.ok (.T A)
   |none=>.no
  |_=>.no
 |.sum=>match ws with
  |[x]=>match (eX x).bind g7 with
   |some i=>.ok (.int i)
   |none=>.no
  |_=>.no
 |.all=>match ws with
  |[x]=>match (eX x).bind eL with
   |some i=>.ok (.bl i)
   |none=>.no
  |_=>.no
 |.max2=>match ws with
  |[.int i,.int j]=>.ok (.int (if j > i then j else i))
  |_=>.no
 |.min2=>match ws with
  |[.int i,.int j]=>.ok (.int (if j<i then j else i))
  |_=>.no
noncomputable def zW(x y:Dat):Rd:=match y with
 |.int i=>match yH x with
  |some A=>match (ix A.length i).bind λj=>A[j]? with
   |some v=>.ok v
   |none=>.no
  |none=>.no
 |_=>.no
noncomputable def xF:Dat->Option P8
 |.T A=>zD A
 |_=>none
noncomputable def vu(x y:Dat):Rd:=match x with
 |.D A B=>match (xF y).bind (bX A B)with
  |some v=>.ok v
  |none=>.no
 |_=>.no
noncomputable def yr(lo st:Int)(n:Nat):P9:=(QF n).map λ(i:Nat)=>.int (lo+st*(i:Int))
noncomputable def ig(x:Dat):Option P8:=match x with
 |.L A=>zD A
 |_=>none
noncomputable def oC(x:Dat):Bool:=match x with
 |.L _=>true
 |_=>false
noncomputable def lY(k:Dk)(x:Dat):Bool:=match k with
 |.lle=>true
 |.lix=>oC x
 |_=>match x with
  |.D _ _=>true
  |_=>false
noncomputable def g8(k:Dk)(x y z:Dat):Rd:=match k with
 |.get=>match x with
  |.D A B=>match xF y with
   |some q=>match bX A B q with
    |some v=>.ok v
    |none=>.ok z
   |none=>.no
  |_=>.no
 |.sum=>match x with
  |.D _ B=>match g7 B with
   |some i=>.ok (.int i)
   |none=>.no
  |_=>.no
 |.lix=>match x with
  |.L B=>match (du (λd=>eg d y) B).bind λbs=>qL true bs 0 with
   |some j=>.ok (.int (j:Nat))
   |none=>.no
  |_=>.no
 |.mnv=>match x with
  |.D _ B=>match zD B with
   |some (i::r)=>.ok (.int (xV i r))
   |_=>.no
  |_=>.no
 |.sok=>match x with
  |.D A _=>match eW A&&decide (A.length<64),yF P8 (A.map (0::·)) A with
   |true,some E=>bo (E.map λk=>.T (k.map Dat.int))
   |_,_=>.no
  |_=>.no
 |.dln=>match x with
  |.D A _=>if A.length<=aA then .ok (.int A.length)else .no
  |_=>.no
 |.lle=>match ig x,ig y with
  |some a,some b=>.ok (.bl (fD a b))
  |_,_=>.no
noncomputable def g9(a b c:Dat):Rd:=match a,b,c with
 |.int a,.int b,.int c=>if -aA<=a/\a<=aA/\-aA<=b/\b<=aA/\(c=1\/c=-1\/c=-2\/c=2)then .ok (.T (yr a c (ft a b c)))else .no
 |_,_,_=>.no
noncomputable def zu{B:Type}(c e:B->Rd):List B->P9->Rd
 |[],A=>bo A
 |x::E,A=>(c x).bind λb=>match b with
  |.bl true=>(e x).bind λy=>if A.length<aA then zu c e E (A++[y])else .no
  |.bl false=>zu c e E A
  |_=>.no
noncomputable def cy(d:Dat):Option P9:=match d with
 |.T A=>some A
 |.scr B=>some (B.map .int)
 |.L A=>if A.length<=aA then some A else none
 |_=>none
noncomputable def iq:Dat->Option P9
 |.L A=>some A
 |_=>none
noncomputable def xl(k:Kd)(x y:Dat):Option (List (Dat×Dat)):=match k,x,y with
 |.zip,x,y=>match iq x,iq y with
  |some A,some B=>if A.length<=aA/\B.length<=aA then some (A.zip B)else none
  |_,_=>none
 |.enum,.L A,.int s=>if A.length<=aA then some ((yr s 1 A.length).zip A)else none
 |.prs,.L A,.int _=>if A.length<=aA then fR A else none
 |.ptp,.T A,.int _=>if A.length<=aA then fR A else none
 |_,_,_=>none
noncomputable def zw:Dat->P9
 |.T A=>A
 |_=>[]
noncomputable def oq:Wd->O8
 |.N=>some .N
 |.bl b=>some (.bl b)
 |.int i=>some (.int i)
 |.str s=>some (.str s)
 |_=>none
noncomputable def au(cl:N9):Ex->aI->Rd
 |.V i,A=>match A[i]? with
  |some (some d)=>.ok d
  |_=>.no
 |.lit w,_=>match oq w with
  |some d=>.ok d
  |none=>.no
 |.bin E a b,A=>(au cl a A).bind λx=>(au cl b A).bind λy=>yK E x y
 |.neg a,A=>(au cl a A).bind λx=>match x with
  |.int i=>.ok (.int (-i))
  |_=>.no
 |.not a,A=>(au cl a A).bind λx=>match x with
  |.bl b=>.ok (.bl (! b))
  |_=>.no
 |.and a b,A=>(au cl a A).bind λx=>match x with
  |.bl true=>au cl b A
  |.bl false=>.ok (.bl false)
  |_=>.no
 |.or a b,A=>(au cl a A).bind λx=>match x with
  |.bl false=>au cl b A
  |.bl true=>.ok (.bl true)
  |_=>.no
 |.cmp E a b,A=>(au cl a A).bind λx=>(au cl b A).bind λy=>yV E x y
 |.chain p q a b c,A=>(au cl a A).bind λx=>(au cl b A).bind λy=>(yV p x y).bind λz=>match z with
  |.bl true=>(au cl c A).bind λu=>yV q y u
  |.bl false=>.ok (.bl false)
  |_=>.no
 |.ife c a b,A=>(au cl c A).bind λx=>match x with
  |.bl true=>au cl a A
  |.bl false=>au cl b A
  |_=>.no
 |.u,_=>.ok (.T [])
 |.P a b,A=>(au cl a A).bind λx=>(au cl b A).bind λy=>.ok (.T (x::zw y))
 |.call k a,A=>(au cl a A).bind λx=>cl k (zw x)
 |.blt b a,A=>(au cl a A).bind λx=>wF b (zw x)
 |.isi t a,A=>(au cl a A).bind λx=>.ok (.bl (lr t x))
 |.L a,A=>(au cl a A).bind λx=>bo (zw x)
 |.T a,A=>(au cl a A).bind λx=>if(zw x).length<=aA then .ok (.T (zw x))else .no
 |.dict0,_=>.ok (.D [] [])
 |.dget a b,A=>(au cl a A).bind λx=>(au cl b A).bind λy=>vu x y
 |.i a b,A=>(au cl a A).bind λx=>(au cl b A).bind λy=>zW x y
 |.dop k a b c,A=>(au cl a A).bind λx=>match lY k x with
  |true=>(au cl b A).bind λy=>(au cl c A).bind λz=>g8 k x y z
  |false=>.no
 |.meth _ _ _,_=>.no
 |.rng a b c,A=>(au cl a A).bind λx=>(au cl b A).bind λy=>(au cl c A).bind λz=>g9 x y z
 |.comp B G cond,A=>(au cl G A).bind λx=>match cy x with
  |some H=>zu (λx=>au cl cond (A++[some x])) (λx=>au cl B (A++[some x])) H []
  |none=>.no
 |.compP k B a b cond,A=>(au cl a A).bind λx=>(au cl b A).bind λy=>match xl k x y with
  |some I=>zu (λp=>au cl cond (A++[some p.1]++[some p.2])) (λp=>au cl B (A++[some p.1]++[some p.2])) I []
  |none=>.no
def vA (h:env[i]?=some (some w))(m:Me):ae cl (.V i) env m=.ok w m:=by
 show(match env[i]? with|some (some w)=>Rz.ok w m|_=>.no)=_;rw[h]
def xG (h:de[i]?=some (some d)):au cl (.V i) de=.ok d:=by
 show(match de[i]? with|some (some d)=>Rd.ok d|_=>.no)=_;rw[h]
def yX (h:de[i]?=none\/de[i]?=some none):au cl (.V i) de=.no:=by
 show(match de[i]? with|some (some d)=>Rd.ok d|_=>.no)=_;rcases h with h|h<;>rw[h]
def vB (h:au cl (.V i) de=.ok d):de[i]?=some (some d):=by
 cases z:de[i]? with
 |none=>rw[yX (.inl z)]at h;cases h
 |some o=>
  cases o with
  |none=>rw[yX (.inr z)]at h;cases h
  |some e=>rw[xG z]at h;cases h;rfl
mutual
noncomputable def ai(R:P5)(m:Me):Dat->Wd->Prop
 |.N,w=>w=.N
 |.bl b,w=>w=.bl b
 |.int i,w=>w=.int i
 |.str s,w=>w=.str s
 |.scr E,w=>w=.rol (E.map Wd.int)
 |.T B,w=>∃A,w=.T A/\ab R m B A
 |.L B,w=>∃l A,w=.ref l/\R l/\m[l]?=some (.L A)/\ab R m B A
 |.D G B,w=>∃l A,w=.ref l/\R l/\m[l]?=some (.D G A)/\ab R m B A
noncomputable def ab(R:P5)(m:Me):P9->R7->Prop
 |[],A=>A=[]
 |d::B,A=>∃x r,A=x::r/\ai R m d x/\ab R m B r
end
noncomputable def Le(m m':Me):Prop:=∀(l:Nat) o,m[l]?=some o->m'[l]?=some o
def Le.refl(m:Me):Le m m:=λ_ _ h=>h
def Le.trans{a b c:Me}(h:Le a b)(k:Le b c):Le a c:=λl o z=>k l o (h l o z)
def Le.app(m x:Me):Le m (m++x):=λl o z=>by
 obtain⟨hl,_⟩:=Qa.mp z;rw[Qf hl];exact z
def Le.len (h:Le a b):a.length<=b.length:=by
 rcases Nat.lt_or_ge b.length a.length with z|z
 .have:=h b.length a[b.length] (Ql z);have:=(Qa.mp this).1;lia
 .exact z
noncomputable def Rf(R:P5)(n:Nat):Nat->Prop:=λl=>R l\/n<=l
mutual
theorem ai.frame{R R':P5}{m m':Me}(h:∀(l:Nat) o,R l->m[l]?=some o->R' l/\m'[l]?=some o):∀(d:Dat) (w:Wd),ai R m d w->ai R' m' d w
 |.N,w,q=>by unfold ai at q ⊢;exact q
 |.bl b,w,q=>by unfold ai at q ⊢;exact q
 |.int b,w,q=>by unfold ai at q ⊢;exact q
 |.str b,w,q=>by unfold ai at q ⊢;exact q
 |.scr b,w,q=>by unfold ai at q ⊢;exact q
 |.T B,w,q=>by
  unfold ai at q ⊢;obtain⟨A,rfl,q⟩:=q;exact⟨A,rfl,ab.frame h B A q⟩
 |.L B,w,q=>by
  unfold ai at q ⊢;obtain⟨l,A,rfl,r,z,q⟩:=q;exact⟨l,A,rfl,(h l _ r z).1,(h l _ r z).2,ab.frame h B A q⟩
 |.D E B,w,q=>by
  unfold ai at q ⊢;obtain⟨l,A,rfl,r,z,q⟩:=q;exact⟨l,A,rfl,(h l _ r z).1,(h l _ r z).2,ab.frame h B A q⟩
theorem ab.frame{R R':P5}{m m':Me}(h:∀(l:Nat) o,R l->m[l]?=some o->R' l/\m'[l]?=some o):∀(ds:P9) (xs:R7),ab R m ds xs->ab R' m' ds xs
 |[],xs,q=>by unfold ab at q ⊢;exact q
 |d::ds,xs,q=>by
  unfold ab at q ⊢;obtain⟨x,r,rfl,a,b⟩:=q;exact⟨x,r,rfl,ai.frame h d x a,ab.frame h ds r b⟩
end
def ai.up{R:P5}{m m':Me}{d:Dat}{w:Wd}(n:Nat)(h:Le m m')(q:ai R m d w):ai (Rf R n) m' d w:=
 ai.frame (λl o r z=>⟨.inl r,h l o z⟩) d w q
def ab.up{R:P5}{m m':Me}{d:P9}{w:R7}(n:Nat)(h:Le m m')(q:ab R m d w):ab (Rf R n) m' d w:=
 ab.frame (λl o r z=>⟨.inl r,h l o z⟩) d w q
theorem bj:∀{ds:P9}{xs:R7},ab R m ds xs↔ds.length=xs.length/\∀(i:Nat) d x,ds[i]?=some d->xs[i]?=some x->ai R m d x
 |[],xs=>by
  unfold ab;constructor
  .rintro rfl;exact⟨rfl,by simp⟩
  .rintro ⟨h,_⟩;exact Vt h.symm
 |d::ds,xs=>by
  unfold ab;constructor
  .rintro ⟨x,r,rfl,a,b⟩;obtain⟨hl,E⟩:=bj.mp b;refine⟨by simp[hl],λi e y A B=>?_⟩;cases i with
   |zero=>simp at A B;subst A;subst B;exact a
   |succ i=>simp at A B;exact E i e y A B
  .rintro ⟨hl,h⟩;cases xs with
   |nil=>cases hl
   |cons x r=>
    refine⟨x,r,rfl,h 0 d x rfl rfl,bj.mpr ⟨by simpa using hl,λi e y A B=>h (i+1) e y (by simpa using A) (by simpa using B)⟩⟩
def ab.len (h:ab R m ds xs):ds.length=xs.length:=(bj.mp h).1
def ab.get (h:ab R m ds xs){i:Nat}(z:ds[i]?=some d):∃x,xs[i]?=some x/\ai R m d x:=by
 obtain⟨hl,h⟩:=bj.mp h;obtain⟨A,_⟩:=Qa.mp z;exact⟨xs[i],Ql (by lia),h i d _ z (Ql (by lia))⟩
def ab.nil{R:P5}{m:Me}:ab R m [] []:=by unfold ab;rfl
def ab.cons{R:P5}{m:Me}{d:Dat}{x:Wd}{ds:P9}{xs:R7}(a:ai R m d x)(b:ab R m ds xs):ab R m (d::ds) (x::xs):=by
 unfold ab;exact⟨x,xs,rfl,a,b⟩
def ab.cons_inv (h:ab R m (d::ds) xs):∃x r,xs=x::r/\ai R m d x/\ab R m ds r:=by
 unfold ab at h;exact h
def ab.nil_inv (h:ab R m [] xs):xs=[]:=by unfold ab at h;exact h
theorem ab.app:∀{ds A:P9}{xs ys:R7},ab R m ds xs->ab R m A ys->ab R m (ds++A) (xs++ys)
 |[],A,xs,ys,a,b=>by rw[a.nil_inv];exact b
 |d::ds,A,xs,ys,a,b=>by
  obtain⟨x,r,rfl,p,q⟩:=a.cons_inv;exact .cons p (ab.app q b)
theorem ab.drop{R:P5}{m:Me}(n:Nat){ds:P9}{xs:R7}(h:ab R m ds xs):ab R m (ds.drop n) (xs.drop n):=by
 obtain⟨hl,h⟩:=bj.mp h;refine bj.mpr ⟨by simp[hl],λi d x a b=>h (n+i) d x (by simpa using a) (by simpa using b)⟩
set_option tactic.hygienic true in
theorem ab.take{R:P5}{m:Me}(n:Nat){ds:P9}{xs:R7}(h:ab R m ds xs):ab R m (ds.take n) (xs.take n):=by
 obtain⟨hl,h⟩:=bj.mp h;refine bj.mpr ⟨by simp[hl],λi d x a b=>?_⟩;rw[List.getElem?_take]at a b;split at a
 .next z=>rw[N0 z]at b;exact h i d x a b
 .cases a
theorem ab.rev:∀{ds:P9}{xs:R7},ab R m ds xs->ab R m ds.reverse xs.reverse
 |[],xs,a=>by rw[a.nil_inv];exact .nil
 |d::ds,xs,a=>by
  obtain⟨x,r,rfl,p,q⟩:=a.cons_inv;rw[Wj,Wj];exact ab.app (ab.rev q) (.cons p .nil)
theorem ab.set{R:P5}{m:Me}{ds:P9}{xs:R7}(h:ab R m ds xs)(j:Nat){d:Dat}{x:Wd}(z:ai R m d x):ab R m (ds.set j d) (xs.set j x):=by
 obtain⟨hl,h⟩:=bj.mp h;refine bj.mpr ⟨by simp[hl],λi e y a b=>?_⟩;rw[QE]at a b;by_cases q:j=i
 .rw[N0 q]at a b;split at a
  .split at b
   .cases a;cases b;exact z
   .cases b
  .cases a
 .rw[N1 q]at a b;exact h i e y a b
theorem ab.rep (h:ab R m ds xs):∀k:Nat,ab R m (QH k ds).flatten (QH k xs).flatten
 |0=>.nil
 |k+1=>by
  rw[Wa,Wa,Q7,Q7];exact ab.app h (ab.rep h k)
theorem dQ:∀(l:P8),ab R m (l.map Dat.int) (l.map Wd.int)
 |[]=>.nil
 |i::l=>.cons (by unfold ai;rfl) (dQ l)
def aa:ai R m (.int i) w↔w=.int i:=by unfold ai;exact Iff.rfl
def ag:ai R m (.bl i) w↔w=.bl i:=by unfold ai;exact Iff.rfl
def ao:ai R m .N w↔w=.N:=by unfold ai;exact Iff.rfl
def aB:ai R m (.str s) w↔w=.str s:=by unfold ai;exact Iff.rfl
def aS:ai R m (.scr s) w↔w=.rol (s.map Wd.int):=by unfold ai;exact Iff.rfl
def ah:ai R m (.T ds) w↔∃xs,w=.T xs/\ab R m ds xs:=by
 constructor
 .intro h;unfold ai at h;exact h
 .intro h;unfold ai;exact h
def av:ai R m (.L ds) w↔∃l xs,w=.ref l/\R l/\m[l]?=some (.L xs)/\ab R m ds xs:=by
 constructor
 .intro h;unfold ai at h;exact h
 .intro h;unfold ai;exact h
def aH:ai R m (.D ks ds) w↔∃l xs,w=.ref l/\R l/\m[l]?=some (.D ks xs)/\ab R m ds xs:=by
 constructor
 .intro h;unfold ai at h;exact h
 .intro h;unfold ai;exact h
noncomputable def af(R:P5)(m:Me)(r:Rz)(B:Rd):Prop:=match B with
 |.ok d=>∃w A,r=.ok w A/\Le m A/\ai (Rf R m.length) A d w
 |.no=>True
def af.lift{R:P5}{m m1:Me}{r:Rz}{B:Rd}(h:Le m m1)(q:af (Rf R m.length) m1 r B):af R m r B:=by
 have hl:=h.len;have E:∀(A:Me) (d:Dat) (w:Wd),ai (Rf (Rf R m.length) m1.length) A d w->ai (Rf R m.length) A d w:=λA d w=>ai.frame (λl o z k=>⟨by rcases z with (z|z)|z;exact .inl z;exact .inr z;exact .inr (by lia),k⟩) d w;cases B with
 |ok d=>obtain⟨w,A,rfl,k,z⟩:=q;exact⟨w,A,rfl,h.trans k,E _ _ _ z⟩
 |no=>trivial
theorem af.bind{R:P5}{m:Me}{r:Rz}{A:Rd}{f:Wd->Me->Rz}{g:Dat->Rd}(h:af R m r A)
  (k:∀d w m',Le m m'->ai (Rf R m.length) m' d w->af (Rf R m.length) m' (f w m') (g d)):af R m (r.bind f) (A.bind g):=by
 cases A with
 |ok d=>obtain⟨w,m',rfl,l,z⟩:=h;exact af.lift l (k d w m' l z)
 |no=>trivial
def cY (h:ai R m d w):af R m (.ok w m) (.ok d):=
 ⟨w,m,rfl,Le.refl m,h.up _ (Le.refl m)⟩
theorem af.no{R:P5}{m:Me}{r:Rz}:af R m r .no:=trivial
def af.new{R:P5}{m:Me}{ds:P9}{xs:R7}(h:ab R m ds xs):af R m (alloc m xs) (bo ds):=by
 unfold bo alloc;rw[h.len];by_cases z:xs.length<=aA
 .rw[N0 z,N0 z];exact⟨_,_,rfl,Le.app m _,av.mpr ⟨_,xs,rfl,.inr (Qk _),by simp,h.up _ (Le.app m _)⟩⟩
 .rw[N1 z,N1 z];exact af.no
def xw (h:ai R m d w)(z:yH d=some ds):∃xs,yE m w=some xs/\ab R m ds xs:=by
 cases d with
 |T A=>obtain⟨xs,rfl,q⟩:=ah.mp h;cases z;exact⟨xs,rfl,q⟩
 |L A=>
  obtain⟨l,xs,rfl,_,e,q⟩:=av.mp h;cases z;exact⟨xs,by show zh m l=_;unfold zh;rw[e],q⟩
 |scr B=>rw[aS.mp h];cases z;exact⟨_,rfl,dQ B⟩
 |_=>cases z
def tR (h:ai R m d w)(z:eX d=some ds):∃xs,gD m w=some xs/\ab R m ds xs:=by
 cases d with
 |L B=>
  obtain⟨l,xs,rfl,_,e,q⟩:=av.mp h;cases z;exact⟨xs,by show zh m l=_;unfold zh;rw[e],q⟩
 |scr A=>rw[aS.mp h];cases z;exact⟨_,rfl,dQ A⟩
 |_=>cases z
theorem AK:∀{a b:P8},a.map Wd.int=b.map Wd.int->a=b
 |[],[],_=>rfl
 |[],_::_,h=>by cases h
 |_::_,[],h=>by cases h
 |x::a,y::b,h=>by
  simp only[QS,List.cons.injEq,Wd.int.injEq]at h;rw[h.1,AK h.2]
mutual
theorem ai.det{R R':P5}{m:Me}:∀(d e:Dat) (w:Wd),ai R m d w->ai R' m e w->d=e
 |.N,e,w,q,z=>by rw[ao.mp q]at z;cases e<;>unfold ai at z<;>first|rfl|(exfalso;simp at z)
 |.bl b,e,w,q,z=>by rw[ag.mp q]at z;cases e<;>unfold ai at z<;>first|(injection z with z;rw[z])|(exfalso;simp at z)
 |.int b,e,w,q,z=>by rw[aa.mp q]at z;cases e<;>unfold ai at z<;>first|(injection z with z;rw[z])|(exfalso;simp at z)
 |.str b,e,w,q,z=>by rw[aB.mp q]at z;cases e<;>unfold ai at z<;>first|(injection z with z;rw[z])|(exfalso;simp at z)
 |.scr b,e,w,q,z=>by rw[aS.mp q]at z;cases e<;>unfold ai at z<;>first|(injection z with z;rw[AK z])|(exfalso;simp at z)
 |.T G,e,w,q,z=>by
  obtain⟨H,rfl,I⟩:=ah.mp q;cases e with
  |T B=>obtain⟨M,e,E⟩:=ah.mp z;cases e;rw[ab.det G B H I E]
  |_=>exfalso;unfold ai at z;simp at z
 |.L G,e,w,q,z=>by
  obtain⟨l,H,rfl,_,J,I⟩:=av.mp q;cases e with
  |L B=>obtain⟨N,M,e,_,A,E⟩:=av.mp z;cases e;rw[J]at A;cases A;rw[ab.det G B H I E]
  |D O B=>obtain⟨N,M,e,_,A,E⟩:=aH.mp z;cases e;rw[J]at A;cases A
  |_=>exfalso;unfold ai at z;simp at z
 |.D O G,e,w,q,z=>by
  obtain⟨l,H,rfl,_,J,I⟩:=aH.mp q;cases e with
  |D Q B=>obtain⟨N,M,e,_,A,E⟩:=aH.mp z;cases e;rw[J]at A;cases A;rw[ab.det G B H I E]
  |L B=>obtain⟨N,M,e,_,A,E⟩:=av.mp z;cases e;rw[J]at A;cases A
  |_=>exfalso;unfold ai at z;simp at z
theorem ab.det{R R':P5}{m:Me}:∀(ds A:P9) (xs:R7),ab R m ds xs->ab R' m A xs->ds=A
 |[],A,xs,q,z=>by
  rw[q.nil_inv]at z;cases A with
  |nil=>rfl
  |cons e A=>obtain⟨_,_,h,_⟩:=z.cons_inv;cases h
 |d::ds,A,xs,q,z=>by
  obtain⟨x,r,rfl,a,b⟩:=q.cons_inv;cases A with
  |nil=>cases z.nil_inv
  |cons e A=>
   obtain⟨_,_,h,B,E⟩:=z.cons_inv;cases h;rw[ai.det d e x a B,ab.det ds A r b E]
end
def sD(d:Dat):xo 0 d=false:=by cases d<;>rfl
mutual
theorem AJ:∀(k:Nat) (d:Dat),xo k d=true->c8 d d=true
 |0,d,h=>by rw[sD]at h;cases h
 |k+1,.N,h=>rfl
 |k+1,.bl b,h=>by show(b==b)=true;simp
 |k+1,.int b,h=>by show decide (b=b)=true;simp
 |k+1,.str b,h=>by show decide (b=b)=true;simp
 |k+1,.scr b,h=>N2 (show false=true from h) (by decide)
 |k+1,.D _ _,h=>N2 (show false=true from h) (by decide)
 |k+1,.T A,h=>bI k A h
 |k+1,.L A,h=>bI k A h
theorem bI:∀(k:Nat) (ds:P9),br k ds=true->cc ds ds=true
 |k,[],h=>rfl
 |k,d::ds,h=>by
  replace h:(xo k d&&br k ds)=true:=h
  show(c8 d d&&cc ds ds)=true;rw[Qr]at h ⊢;exact⟨AJ k d h.1,bI k ds h.2⟩
end
theorem qc (G:∀(d e:Dat) (x y:Wd),xo k d=true->xo k e=true->ai R m d x->ai R m e y->bZ m k x y=some (c8 d e)):
  ∀(ds A:P9) (xs ys:R7),br k ds=true->br k A=true->ab R m ds xs->ab R m A ys->∃q,cz (bZ m k) xs ys=some q/\(q&&decide (xs.length=ys.length))=cc ds A
 |[],A,xs,ys,B,E,a,b=>by
  rw[a.nil_inv];cases A with
  |nil=>rw[b.nil_inv];exact⟨true,rfl,rfl⟩
  |cons e A=>obtain⟨y,r,rfl,_,_⟩:=b.cons_inv;exact⟨true,rfl,rfl⟩
 |d::ds,A,xs,ys,B,E,a,b=>by
  obtain⟨x,r,rfl,p,q⟩:=a.cons_inv;cases A with
  |nil=>rw[b.nil_inv];exact⟨true,rfl,rfl⟩
  |cons e A=>
   obtain⟨y,s,rfl,H,I⟩:=b.cons_inv
   replace B:(xo k d&&br k ds)=true:=B
   replace E:(xo k e&&br k A)=true:=E
   rw[Qr]at B E;obtain⟨t,J,M⟩:=qc G ds A r s B.2 E.2 q I;refine⟨c8 d e&&t,?_,?_⟩
   .unfold cz;rw[G d e x y B.1 E.1 p H,J];rfl
   .show (c8 d e&&t&&decide (r.length+1=s.length+1))=(c8 d e&&cc ds A);simp only[<-M,Nat.succ_inj,Bool.and_assoc]
def aO (h:m[l]?=some (.L xs)):aN m l=true:=by unfold aN;rw[h]
def yT (h:m[l]?=some (.L xs)):(if aN m l&&true then some false else none)=some false:=by rw[aO h];rfl
theorem mq:∀(k:Nat) (d e:Dat) (x y:Wd),xo k d=true->xo k e=true->ai R m d x->ai R m e y->bZ m k x y=some (c8 d e)
 |0,d,e,x,y,h,_,_,_=>by rw[sD]at h;cases h
 |k+1,d,e,x,y,Q,B,a,b=>by
  have U:=mq (R:=R) (m:=m) k;cases d with
  |scr M=>exact N2 (show false=true from Q) (by decide)
  |D _ _=>exact N2 (show false=true from Q) (by decide)
  |T O=>
   obtain⟨G,rfl,Y⟩:=ah.mp a;cases e with
   |scr M=>exact N2 (show false=true from B) (by decide)
   |D _ _=>exact N2 (show false=true from B) (by decide)
   |T E=>
    obtain⟨A,rfl,j⟩:=ah.mp b;obtain⟨q,h,e⟩:=qc U O E G A Q B Y j;show(cz (bZ m k) G A).map (· && decide (G.length=A.length))=some (cc O E);rw[h,<-e];rfl
   |L E=>
    obtain⟨l,A,rfl,_,H,b⟩:=av.mp b;exact yT H
   |N=>rw[ao.mp b];rfl
   |bl _=>rw[ag.mp b];rfl
   |int _=>rw[aa.mp b];rfl
   |str _=>rw[aB.mp b];rfl
  |L O=>
   have u:=a;obtain⟨l,G,rfl,_,H,a⟩:=av.mp a;cases e with
   |scr M=>exact N2 (show false=true from B) (by decide)
   |D _ _=>exact N2 (show false=true from B) (by decide)
   |L E=>
    have o:=b;obtain⟨J,A,rfl,_,I,b⟩:=av.mp b;show(if l=J then(if aN m l then some true else none)else match m[l]?,m[J]? with
     |some (.L G),some (.L A)=>if G.length=A.length then cz (bZ m k) G A else some false
     |_,_=>none)=_
    by_cases q:l=J
    .subst q;rw[N0 rfl,N0 (aO H)];rw[ai.det _ _ _ u o]at *
     rw[AJ (k+1) _ B]
    .rw[N1 q,H,I];obtain⟨q,h,e⟩:=qc U O E G A Q B a b;show(if G.length=A.length then cz (bZ m k) G A else some false)=some (cc O E);by_cases z:G.length=A.length
     .simp only[z,if_true,h,<-e];simp
     .simp only[z,if_false,<-e];simp
   |T E=>obtain⟨A,rfl,b⟩:=ah.mp b;exact yT H
   |N=>rw[ao.mp b];exact yT H
   |bl _=>rw[ag.mp b];exact yT H
   |int _=>rw[aa.mp b];exact yT H
   |str _=>rw[aB.mp b];exact yT H
  |N=>
   rw[ao.mp a];cases e with
   |scr M=>exact N2 (show false=true from B) (by decide)
   |D _ _=>exact N2 (show false=true from B) (by decide)
   |L E=>obtain⟨J,A,rfl,_,I,b⟩:=av.mp b;exact yT I
   |T E=>obtain⟨A,rfl,b⟩:=ah.mp b;rfl
   |N=>rw[ao.mp b];rfl
   |bl _=>rw[ag.mp b];rfl
   |int _=>rw[aa.mp b];rfl
   |str _=>rw[aB.mp b];rfl
  |bl _=>
   rw[ag.mp a];cases e with
   |scr M=>exact N2 (show false=true from B) (by decide)
   |D _ _=>exact N2 (show false=true from B) (by decide)
   |L E=>obtain⟨J,A,rfl,_,I,b⟩:=av.mp b;exact yT I
   |T E=>obtain⟨A,rfl,b⟩:=ah.mp b;rfl
   |N=>rw[ao.mp b];rfl
   |bl _=>rw[ag.mp b];rfl
   |int _=>rw[aa.mp b];rfl
   |str _=>rw[aB.mp b];rfl
  |int _=>
   rw[aa.mp a];cases e with
   |scr M=>exact N2 (show false=true from B) (by decide)
   |D _ _=>exact N2 (show false=true from B) (by decide)
   |L E=>obtain⟨J,A,rfl,_,I,b⟩:=av.mp b;exact yT I
   |T E=>obtain⟨A,rfl,b⟩:=ah.mp b;rfl
   |N=>rw[ao.mp b];rfl
   |bl _=>rw[ag.mp b];rfl
   |int _=>rw[aa.mp b];rfl
   |str _=>rw[aB.mp b];rfl
  |str _=>
   rw[aB.mp a];cases e with
   |scr M=>exact N2 (show false=true from B) (by decide)
   |D _ _=>exact N2 (show false=true from B) (by decide)
   |L E=>obtain⟨J,A,rfl,_,I,b⟩:=av.mp b;exact yT I
   |T E=>obtain⟨A,rfl,b⟩:=ah.mp b;rfl
   |N=>rw[ao.mp b];rfl
   |bl _=>rw[ag.mp b];rfl
   |int _=>rw[aa.mp b];rfl
   |str _=>rw[aB.mp b];rfl
set_option tactic.hygienic true in
def qd (h:eg d e=some q)(a:ai R m d x)(b:ai R m e y):bZ m ym x y=some q:=by
 unfold eg at h;split at h
 .next z=>simp only[Qr]at z;cases h;exact mq ym d e x y z.1 z.2 a b
 .cases h
theorem um (h:xo ym d=true)(a:ai R m d x):∀(A:P9) (ys:R7),br ym A=true->ab R m A ys->ef (bZ m ym) x ys=some (A.any λe=>c8 e d)
 |[],ys,_,b=>by rw[b.nil_inv];rfl
 |e::A,ys,z,b=>by
  obtain⟨y,r,rfl,p,q⟩:=b.cons_inv
  replace z:(xo ym e&&br ym A)=true:=z
  rw[Qr]at z;show(match bZ m ym y x with
   |some a=>(ef (bZ m ym) x r).map (a || ·)
   |none=>none)=_
  rw[mq ym e d y x z.1 h p a,um h a A r z.2 q];rfl
set_option tactic.hygienic true in
def Fz (h:oE d A=some q)(a:ai R m d x)(b:ab R m A ys):ef (bZ m ym) x ys=some q:=by
 unfold oE at h;split at h
 .next z=>simp only[Qr]at z;cases h;exact um z.1 a A ys z.2 b
 .cases h
theorem af.int{R:P5}{m:Me}{i:Int}:af R m (.ok (.int i) m) (.ok (.int i)):=cY (aa.mpr rfl)
theorem af.bl{R:P5}{m:Me}{i:Bool}:af R m (.ok (.bl i) m) (.ok (.bl i)):=cY (ag.mpr rfl)
def qe (op:Bo)(a:ai R m d x)(b:ai R m e y):af R m (cB op x y m) (yK op d e):=by
 cases d with
 |int i=>
  rw[aa.mp a];cases e with
  |int j=>
   rw[aa.mp b];cases op<;>simp only[cB,yK]
   .exact af.int
   .exact af.int
   .by_cases z:(w9 i || w9 j)=true
    .rw[N0 z,N0 z];exact af.int
    .rw[N1 z,N1 z];exact af.no
   .by_cases z:0<j/\j<1073741824
    .rw[N0 z,N0 z];exact af.int
    .rw[N1 z,N1 z];exact af.no
   .by_cases z:0<j
    .rw[N0 z,N0 z];exact af.int
    .rw[N1 z,N1 z];exact af.no
   .by_cases z:0<=j/\j<=1000
    .rw[N0 z,N0 z];exact af.int
    .rw[N1 z,N1 z];exact af.no
   .by_cases z:0<=i/\j=1
    .rw[N0 z,N0 z];exact af.int
    .rw[N1 z,N1 z];exact af.no
  |_=>exact af.no
 |L I=>
  obtain⟨l,E,rfl,_,G,A⟩:=av.mp a;cases e with
  |L J=>
   obtain⟨Q,H,rfl,_,M,B⟩:=av.mp b;cases op<;>first|exact af.no|skip
   simp only[cB,yK,G,M];exact af.new (A.app B)
  |int k=>
   rw[aa.mp b];cases op<;>first|exact af.no|skip
   simp only[cB,yK,G];by_cases z:-(aA:Int)<=k/\k<=(aA:Int)
   .rw[N0 z,N0 z];exact af.new (A.rep _)
   .rw[N1 z,N1 z];exact af.no
  |_=>exact af.no
 |T I=>
  obtain⟨E,rfl,A⟩:=ah.mp a;cases e with
  |T J=>
   obtain⟨H,rfl,B⟩:=ah.mp b;cases op<;>first|exact af.no|skip
   simp only[cB,yK];have N:=A.len;have O:=B.len;rw[N,O];by_cases z:E.length+H.length<=aA
   .rw[N0 z,N0 z];exact cY (ah.mpr ⟨_,rfl,A.app B⟩)
   .rw[N1 z,N1 z];exact af.no
  |_=>exact af.no
 |_=>exact af.no
def kH (r:Int->Int->Bool)(a:ai R m d x)(b:ai R m e y):af R m (kT r x y m) (fS r d e):=by
 cases d with
 |int i=>
  rw[aa.mp a];cases e with
  |int j=>rw[aa.mp b];exact af.bl
  |_=>exact af.no
 |_=>exact af.no
def qf (h:∀b,q=some b->p=some b):af R m (di p m) (eM q):=by
 cases q with
 |none=>exact af.no
 |some b=>rw[h b rfl];exact af.bl
def Hh (h:∀b,q=some b->p=some b):af R m (di (p.map (!·)) m) (eM (q.map (!·))):=by
 cases q with
 |none=>exact af.no
 |some b=>rw[h b rfl];exact af.bl
def Fy (a:ai R m d x)(b:ai R m e y):af R m (cA .isN x y m) (yV .isN d e):=by
 cases e with
 |N=>
  rw[ao.mp b];cases d with
  |N=>rw[ao.mp a];exact af.bl
  |bl _=>rw[ag.mp a];exact af.bl
  |int _=>rw[aa.mp a];exact af.bl
  |str _=>rw[aB.mp a];exact af.bl
  |scr _=>rw[aS.mp a];exact af.bl
  |T _=>obtain⟨A,rfl,_⟩:=ah.mp a;exact af.bl
  |L _=>obtain⟨l,A,rfl,_⟩:=av.mp a;exact af.bl
  |D _ _=>obtain⟨l,A,rfl,_⟩:=aH.mp a;exact af.bl
 |_=>exact af.no
def Hg (a:ai R m d x)(b:ai R m e y):af R m (cA .notN x y m) (yV .notN d e):=by
 cases e with
 |N=>
  rw[ao.mp b];cases d with
  |N=>rw[ao.mp a];exact af.bl
  |bl _=>rw[ag.mp a];exact af.bl
  |int _=>rw[aa.mp a];exact af.bl
  |str _=>rw[aB.mp a];exact af.bl
  |scr _=>rw[aS.mp a];exact af.bl
  |T _=>obtain⟨A,rfl,_⟩:=ah.mp a;exact af.bl
  |L _=>obtain⟨l,A,rfl,_⟩:=av.mp a;exact af.bl
  |D _ _=>obtain⟨l,A,rfl,_⟩:=aH.mp a;exact af.bl
 |_=>exact af.no
theorem wz:∀{ds:P9}{xs:R7}{k:P8},ab R m ds xs->zD ds=some k->zT xs=some k
 |[],xs,k,a,h=>by rw[a.nil_inv];exact h
 |d::ds,xs,k,a,h=>by
  obtain⟨x,r,rfl,p,q⟩:=a.cons_inv;cases d with
  |int j=>
   rw[aa.mp p];simp only[zD,Qy]at h;obtain⟨k,A,rfl⟩:=h;simp only[zT,wz q A,QR]
  |_=>simp[zD]at h
def qg (op:Co)(a:ai R m d x)(b:ai R m e y):af R m (cA op x y m) (yV op d e):=by
 cases op with
 |eq=>exact qf λq h=>qd h a b
 |ne=>exact Hh λq h=>qd h a b
 |isN=>exact Fy a b
 |notN=>exact Hg a b
 |isin=>
  simp only[cA,yV];cases z:yH e with
  |none=>
   cases e with
   |D B J=>
    obtain⟨l,M,rfl,_,A,q⟩:=aH.mp b;have E:yE m (.ref l)=none:=by show zh m l=none;unfold zh;rw[A]
    rw[E];refine qf λt h=>?_;unfold ls;simp only[A];cases d with
    |int i=>rw[aa.mp a];exact h
    |T G=>
     obtain⟨H,rfl,q⟩:=ah.mp a;have h:(zD G).map (λk=>decide (k∈B))=some t:=h;obtain⟨k,I,rfl⟩:=Qy.mp h;show(zT H).map _=_;rw[wz q I];rfl
    |_=>cases h
   |_=>exact af.no
  |some N=>
   obtain⟨O,h,q⟩:=xw b z;rw[h];exact qf λt h=>Fz h a q
 |lt=>exact kH _ a b
 |le=>exact kH _ a b
 |gt=>exact kH _ a b
 |ge=>exact kH _ a b
def Fx (t:Tg)(a:ai R m d x):af R m (di (c7 t x m) m) (.ok (.bl (lr t d))):=by
 have h:c7 t x m=some (lr t d):=by
  cases d with
  |N=>rw[ao.mp a];cases t<;>rfl
  |bl _=>rw[ag.mp a];cases t<;>rfl
  |int _=>rw[aa.mp a];cases t<;>rfl
  |str _=>rw[aB.mp a];cases t<;>rfl
  |scr _=>rw[aS.mp a];cases t<;>rfl
  |T _=>obtain⟨B,rfl,_⟩:=ah.mp a;cases t<;>rfl
  |L _=>obtain⟨l,B,rfl,_,A,_⟩:=av.mp a;cases t<;>(show(match m[l]? with|some (.L _)=>_|some (.D _ _)=>_|none=>_)=_;rw[A];rfl)
  |D _ _=>obtain⟨l,B,rfl,_,A,_⟩:=aH.mp a;cases t<;>(show(match m[l]? with|some (.L _)=>_|some (.D _ _)=>_|none=>_)=_;rw[A];rfl)
 rw[h];exact af.bl
def vC (a:ai R m d x)(h:xF d=some k):gF x=some k:=by
 cases d with
 |T A=>obtain⟨B,rfl,q⟩:=ah.mp a;exact wz q h
 |_=>cases h
theorem qh:∀{ks:O1}{ds:P9}{xs:R7}{d:Dat},ab R m ds xs->bX ks ds q=some d->∃x,bX ks xs q=some x/\ai R m d x
 |[],ds,xs,d,a,h=>by cases ds<;>cases h
 |k::ks,[],xs,d,a,h=>by cases h
 |k::ks,e::ds,xs,d,a,h=>by
  obtain⟨x,r,rfl,p,z⟩:=a.cons_inv;have A:(if k=q then some e else bX ks ds q)=some d:=h;show ∃y,(if k=q then some x else bX ks r q)=some y/\_;by_cases c:k=q
  .rw[N0 c]at A ⊢;cases A;exact⟨x,rfl,p⟩
  .rw[N1 c]at A ⊢;exact qh z A
theorem AI:∀{ks:O1}{ds:List B}{xs:List E},ds.length=xs.length->bX ks ds q=none->bX ks xs q=none
 |[],_,_,_,_=>rfl
 |k::ks,[],xs,h,_=>by cases xs with
  |nil=>rfl
  |cons _ _=>cases h
 |k::ks,d::ds,[],h,_=>by cases h
 |k::ks,d::ds,x::xs,h,e=>by
  have A:(if k=q then some d else bX ks ds q)=none:=e;show(if k=q then some x else bX ks xs q)=none;by_cases c:k=q
  .rw[N0 c]at A;cases A
  .rw[N1 c]at A ⊢;exact AI (by simpa using h) A
def AH (a:ai R m d x)(b:ai R m e y):af R m (kU x y m) (vu d e):=by
 cases d with
 |D A B=>
  obtain⟨l,M,rfl,_,E,q⟩:=aH.mp a;unfold vu kU;simp only[E];cases G:xF e with
  |none=>exact af.no
  |some k=>
   rw[vC b G];simp only[Vo];cases H:bX A B k with
   |none=>exact af.no
   |some v=>
    obtain⟨w,I,J⟩:=qh q H;rw[I];exact cY J
 |_=>exact af.no
theorem qi:∀{ds:P9}{xs:R7}{i:Int},ab R m ds xs->g7 ds=some i->jI xs=some i
 |[],xs,i,a,h=>by rw[a.nil_inv];exact h
 |d::ds,xs,i,a,h=>by
  obtain⟨x,r,rfl,p,q⟩:=a.cons_inv;cases d with
  |int j=>
   rw[aa.mp p];simp only[g7,Qy]at h;obtain⟨k,A,rfl⟩:=h;simp only[jI,qi q A,QR]
  |_=>simp[g7]at h
theorem ul:∀{ds:P9}{xs:R7}{i:Bool},ab R m ds xs->eL ds=some i->eP xs=some i
 |[],xs,i,a,h=>by rw[a.nil_inv];exact h
 |d::ds,xs,i,a,h=>by
  obtain⟨x,r,rfl,p,q⟩:=a.cons_inv;cases d with
  |bl j=>
   rw[ag.mp p];simp only[eL,Qy]at h;obtain⟨k,A,rfl⟩:=h;simp only[eP,ul q A,QR]
  |_=>simp[eL]at h
theorem xH:∀{ds:P9}{xs:R7}{k:P8},ab R m ds xs->zD ds=some k->zT xs=some k
 |[],xs,k,q,h=>by rw[q.nil_inv];exact h
 |d::ds,xs,k,q,h=>by
  obtain⟨x,r,rfl,a,b⟩:=q.cons_inv;cases d with
  |int i=>
   have A:(zD ds).map (i::·)=some k:=h;obtain⟨B,e,rfl⟩:=Qy.mp A;rw[aa.mp a];show(zT r).map (i::·)=_;rw[xH b e];rfl
  |_=>cases h
theorem AG:∀{ds:P9}{xs:R7}{ks:O1},ab R m ds xs->yW ds=some ks->v9 m xs=some ks
 |[],xs,k,q,h=>by rw[q.nil_inv];exact h
 |d::ds,xs,ks,q,h=>by
  obtain⟨x,r,rfl,a,b⟩:=q.cons_inv;cases d with
  |L G=>
   have A:(match zD G,yW ds with
    |some k,some ks=>some (k::ks)
    |_,_=>none)=some ks:=h
   cases B:zD G with
   |none=>simp only[B]at A;cases A
   |some k=>
    cases E:yW ds with
    |none=>simp only[B,E]at A;cases A
    |some H=>
     simp only[B,E]at A;cases A;obtain⟨l,I,rfl,_,J,M⟩:=av.mp a;show(match zh m l with
      |some xs=>match zT xs,v9 m r with
       |some k,some ks=>some (k::ks)
       |_,_=>none
      |none=>none)=_
     have N:zh m l=some I:=by unfold zh;rw[J]
     simp only[N,xH M B,AG b E]
  |_=>cases h
def Fw (q:ab R m ds xs)(h:eR ds=some k):qJ m xs=some k:=by
 unfold eR at h;cases e:zD ds with
 |some G=>
  rw[e]at h;unfold qJ;rw[xH q e];exact h
 |none=>
  rw[e]at h;obtain⟨H,A,B⟩:=Qt.mp h;have E:=AG q A;cases ds with
  |nil=>cases A;cases B
  |cons d ds=>
   cases d with
   |L I=>
    obtain⟨x,r,rfl,a,b⟩:=q.cons_inv;obtain⟨l,J,rfl,_⟩:=av.mp a;show(v9 m (.ref l::r)).bind iT=_;rw[E];exact B
   |_=>cases A
theorem jA:∀{ds:P9}{xs:R7}{ks:O1},ab R m ds xs->xU ds=some ks->xX m xs=some ks
 |[],xs,k,q,h=>by rw[q.nil_inv];exact h
 |d::ds,xs,ks,q,h=>by
  obtain⟨x,r,rfl,a,b⟩:=q.cons_inv;cases d with
  |L G=>
   have A:(match eR G,xU ds with
    |some k,some ks=>some (k::ks)
    |_,_=>none)=some ks:=h
   cases B:eR G with
   |none=>simp only[B]at A;cases A
   |some k=>
    cases E:xU ds with
    |none=>simp only[B,E]at A;cases A
    |some H=>
     simp only[B,E]at A;cases A;obtain⟨l,I,rfl,_,J,M⟩:=av.mp a;show(match zh m l with
      |some xs=>match qJ m xs,xX m r with
       |some k,some ks=>some (k::ks)
       |_,_=>none
      |none=>none)=_
     have N:zh m l=some I:=by unfold zh;rw[J]
     simp only[N,Fw M B,jA b E]
  |_=>cases h
theorem uk (a:ai R m d x):∀{ps:List (P8×Dat)}{A:List (P8×Wd)},ps.map Prod.fst=A.map Prod.fst->ab R m (ps.map Prod.snd) (A.map Prod.snd) ->
  (zZ (k,d) ps).map Prod.fst=(zZ (k,x) A).map Prod.fst/\ab R m ((zZ (k,d) ps).map Prod.snd) ((zZ (k,x) A).map Prod.snd)
 |[],[],_,_=>⟨rfl,.cons a .nil⟩
 |[],_::_,h,_=>by cases h
 |_::_,[],h,_=>by cases h
 |p::ps,q::A,h,r=>by
  obtain⟨B,E⟩:=List.cons.inj (show p.1::ps.map Prod.fst=q.1::A.map Prod.fst from h);obtain⟨_,_,e,G,H⟩:=ab.cons_inv (show ab R m (p.2::ps.map Prod.snd) (q.2::A.map Prod.snd)from r);cases e;show(if cg k p.1 then(k,d)::p::ps else p::zZ (k,d) ps).map Prod.fst=(if cg k q.1 then(k,x)::q::A else q::zZ (k,x) A).map Prod.fst/\ab R m ((if cg k p.1 then(k,d)::p::ps else p::zZ (k,d) ps).map Prod.snd) ((if cg k q.1 then(k,x)::q::A else q::zZ (k,x) A).map Prod.snd);rw[B];cases cg k q.1 with
  |true=>exact⟨NY (k::·) h,.cons a r⟩
  |false=>
   obtain⟨I,J⟩:=uk a E H;exact⟨by show p.1::(zZ (k,d) ps).map Prod.fst=q.1::(zZ (k,x) A).map Prod.fst;rw[B,I],.cons G J⟩
theorem AF:∀{ks:O1}{ds:P9}{xs:R7},ab R m ds xs ->
  (zt (ks.zip ds)).map Prod.fst=(zt (ks.zip xs)).map Prod.fst/\ab R m ((zt (ks.zip ds)).map Prod.snd) ((zt (ks.zip xs)).map Prod.snd)
 |[],_,_,_=>⟨rfl,.nil⟩
 |_::_,[],xs,r=>by rw[r.nil_inv];exact⟨rfl,.nil⟩
 |k::ks,d::ds,xs,r=>by
  obtain⟨x,H,rfl,A,B⟩:=r.cons_inv;obtain⟨E,G⟩:=AF (ks:=ks) B;rw[Wu,Wu,zU,zU];exact uk A E G
set_option tactic.hygienic true in
def qj (h:dt o=some ks):o=some ks/\(ks.length<64\/yk ks=true):=by
 cases o with
 |none=>cases h
 |some k=>
  replace h:(if k.length<64\/yk k=true then some k else none)=some ks:=h
  split at h
  .next c=>cases h;exact⟨rfl,c⟩
  .cases h
def uj (h:dt o=some ks):dt (some ks)=some ks:=N0 (qj h).2
def AE (q:ab R m ds xs)(h:yF Dat ks ds=some B):∃ys,yF Wd ks xs=some ys/\ab R m B ys:=by
 obtain⟨E,G⟩:=AF (ks:=ks) q;rw[xY]at h;have A:(if yk ((zt (ks.zip ds)).map Prod.fst)then some ((zt (ks.zip ds)).map Prod.snd)else none)=some B:=h;rw[xY];show ∃ys,(if yk ((zt (ks.zip xs)).map Prod.fst)then some ((zt (ks.zip xs)).map Prod.snd)else none)=some ys/\ab R m B ys;rw[E]at A;cases z:yk ((zt (ks.zip xs)).map Prod.fst)with
 |false=>rw[z]at A;cases A
 |true=>rw[z]at A;cases A;exact⟨_,rfl,G⟩
def F5 (b:dL)(a:ab R m ds xs):af R m (vf b xs m) (wF b ds):=by
 have one:∀{d:Dat}{xs:R7},ab R m [d] xs->∃x,xs=[x]/\ai R m d x:=by
  intro d xs h;obtain⟨x,r,rfl,p,q⟩:=h.cons_inv;rw[q.nil_inv];exact⟨x,rfl,p⟩
 cases b with
 |len=>
  cases ds with
  |nil=>exact af.no
  |cons d ds=>
   cases ds with
   |cons _ _=>exact af.no
   |nil=>
    obtain⟨x,rfl,p⟩:=one a;show af R m _ (match yH d with|some i=>.ok (.int i.length)|none=>.no);cases z:yH d with
    |none=>exact af.no
    |some i=>
     obtain⟨A,h,q⟩:=xw p z;simp only[vf,h,q.len];exact af.int
 |int=>
  cases ds with
  |nil=>exact af.no
  |cons d ds=>
   cases d with
   |int i=>
    cases ds with
    |cons _ _=>exact af.no
    |nil=>obtain⟨x,rfl,p⟩:=one a;rw[aa.mp p];exact af.int
   |bl i=>
    cases ds with
    |cons _ _=>exact af.no
    |nil=>obtain⟨x,rfl,p⟩:=one a;rw[ag.mp p];exact af.int
   |_=>exact af.no
 |list=>
  cases ds with
  |nil=>exact af.no
  |cons d ds=>
   cases ds with
   |cons _ _=>exact af.no
   |nil=>
    obtain⟨x,rfl,p⟩:=one a;show af R m _ (match yH d with|some i=>bo i|none=>.no);cases z:yH d with
    |none=>exact af.no
    |some i=>
     obtain⟨A,h,q⟩:=xw p z;simp only[vf,h];exact af.new q
 |tuple=>
  cases ds with
  |nil=>exact af.no
  |cons d ds=>
   cases ds with
   |cons _ _=>exact af.no
   |nil=>
    obtain⟨x,rfl,p⟩:=one a;show af R m _ (match yH d with|some i=>.ok (.T i)|none=>.no);cases z:yH d with
    |none=>exact af.no
    |some i=>
     obtain⟨A,h,q⟩:=xw p z;simp only[vf,h];exact cY (ah.mpr ⟨_,rfl,q⟩)
 |sum=>
  cases ds with
  |nil=>exact af.no
  |cons d ds=>
   cases ds with
   |cons _ _=>exact af.no
   |nil=>
    obtain⟨x,rfl,p⟩:=one a;show af R m _ (match (eX d).bind g7 with|some i=>.ok (.int i)|none=>.no);cases z:(eX d).bind g7 with
    |none=>exact af.no
    |some i=>
     obtain⟨B,E,G⟩:=Qt.mp z;obtain⟨A,h,q⟩:=tR p E;simp only[vf,h,QW,qi q G];exact af.int
 |all=>
  cases ds with
  |nil=>exact af.no
  |cons d ds=>
   cases ds with
   |cons _ _=>exact af.no
   |nil=>
    obtain⟨x,rfl,p⟩:=one a;show af R m _ (match (eX d).bind eL with|some i=>.ok (.bl i)|none=>.no);cases z:(eX d).bind eL with
    |none=>exact af.no
    |some i=>
     obtain⟨B,E,G⟩:=Qt.mp z;obtain⟨A,h,q⟩:=tR p E;simp only[vf,h,QW,ul q G];exact af.bl
 |max2=>
  cases ds with
  |nil=>exact af.no
  |cons d ds=>
   cases d with
   |int i=>
    cases ds with
    |nil=>exact af.no
    |cons e ds=>
     cases e with
     |int j=>
      cases ds with
      |cons _ _=>exact af.no
      |nil=>
       obtain⟨x,r,rfl,p,q⟩:=a.cons_inv;obtain⟨y,rfl,I⟩:=one q;rw[aa.mp p,aa.mp I];exact af.int
     |_=>exact af.no
   |_=>exact af.no
 |min2=>
  cases ds with
  |nil=>exact af.no
  |cons d ds=>
   cases d with
   |int i=>
    cases ds with
    |nil=>exact af.no
    |cons e ds=>
     cases e with
     |int j=>
      cases ds with
      |cons _ _=>exact af.no
      |nil=>
       obtain⟨x,r,rfl,p,q⟩:=a.cons_inv;obtain⟨y,rfl,I⟩:=one q;rw[aa.mp p,aa.mp I];exact af.int
     |_=>exact af.no
   |_=>exact af.no
 |sorted=>
  cases ds with
  |nil=>exact af.no
  |cons d ds=>
   cases d with
   |L B=>
    cases ds with
    |cons _ _=>exact af.no
    |nil=>
     obtain⟨x,rfl,p⟩:=one a;obtain⟨l,J,rfl,_,N,q⟩:=av.mp p;show af R m _ (match (dt (xU B)).bind λH=>yF Dat H B with|some i=>bo i|none=>.no);cases z:(dt (xU B)).bind λH=>yF Dat H B with
     |none=>exact af.no
     |some i=>
      obtain⟨H,M,O⟩:=Qt.mp z;obtain⟨A,Q,U⟩:=AE q O;have Y:zh m l=some J:=by unfold zh;rw[N]
      have u:((dt (xX m J)).bind λH=>yF Wd H J)=some A:=by rw[jA q (qj M).1,uj M];exact Q
      simp only[vf,Y,u];exact af.new U
   |_=>exact af.no
 |minS=>
  cases ds with
  |nil=>exact af.no
  |cons d ds=>
   cases ds with
   |cons _ _=>exact af.no
   |nil=>
    obtain⟨x,rfl,p⟩:=one a;show af R m _ (match (yH d).bind zD with|some (i::r)=>.ok (.int (xV i r))|_=>.no);cases z:(yH d).bind zD with
    |none=>exact af.no
    |some k=>
     cases k with
     |nil=>exact af.no
     |cons i k=>
      obtain⟨B,E,G⟩:=Qt.mp z;obtain⟨A,h,q⟩:=xw p E;simp only[vf,h,QW,xH q G];exact af.int
 |maxS=>
  cases ds with
  |nil=>exact af.no
  |cons d ds=>
   cases ds with
   |cons _ _=>exact af.no
   |nil=>
    obtain⟨x,rfl,p⟩:=one a;show af R m _ (match (yH d).bind zD with|some (i::r)=>.ok (.int (wN i r))|_=>.no);cases z:(yH d).bind zD with
    |none=>exact af.no
    |some k=>
     cases k with
     |nil=>exact af.no
     |cons i k=>
      obtain⟨B,E,G⟩:=Qt.mp z;obtain⟨A,h,q⟩:=xw p E;simp only[vf,h,QW,xH q G];exact af.int
def F4 (a:ai R m d x)(b:ai R m e y):af R m (wO x y m) (zW d e):=by
 cases e with
 |int i=>
  rw[aa.mp b];simp only[zW,wO];cases z:yH d with
  |none=>exact af.no
  |some A=>
   obtain⟨H,h,q⟩:=xw a z;simp only[h];cases z:(ix A.length i).bind λj=>A[j]? with
   |none=>exact af.no
   |some v=>
    obtain⟨j,B,E⟩:=Qt.mp z;obtain⟨x,G,p⟩:=q.get E;rw[q.len]at B;simp only[B,QW,G];exact cY p
 |_=>exact af.no
theorem AD (st:Int):∀(n:Nat) (lo:Int),ab R m (yr lo st n) (fX lo st n)
 |0,lo=>.nil
 |n+1,lo=>by
  have h:yr lo st (n+1)=.int lo::yr (lo+st) st n:=by
   unfold yr;rw[W9,QS,Wv];congr 1
   .simp
   .apply List.map_congr_left;intro i _;show Dat.int _=Dat.int _;congr 1;rw[show((Nat.succ i:Nat):Int)=(i:Int)+1 from rfl,Int.mul_add,Int.mul_one];lia
  rw[h];exact .cons (aa.mpr rfl) (AD st n _)
def AC (a:ai R m d x)(h:ig d=some ks):gG x m=some ks:=by
 cases d with
 |L B=>
  obtain⟨l,E,rfl,_,A,q⟩:=av.mp a;unfold gG zh;simp only[A,QW];exact wz q h
 |_=>cases h
theorem AB:∀A:O1,ab R m (A.map λk=>.T (k.map Dat.int)) (A.map λk=>.T (k.map Wd.int))
 |[]=>.nil
 |k::A=>.cons (ah.mpr ⟨_,rfl,dQ k⟩) (AB A)
theorem uh (b:ai R m e y):∀{ds:P9}{xs:R7}{bs:List Bool},ab R m ds xs->du (λd=>eg d e) ds=some bs->du (λw=>bZ m ym w y) xs=some bs
 |[],xs,bs,q,h=>by rw[q.nil_inv];exact h
 |d::ds,xs,bs,q,h=>by
  obtain⟨x,r,rfl,a,q⟩:=q.cons_inv;unfold du at h ⊢;cases A:eg d e with
  |none=>simp[A]at h
  |some c=>
   cases B:du (λd=>eg d e) ds with
   |none=>simp[A,B]at h
   |some E=>
    rw[A,B]at h;rw[qd A a b,uh b q B];exact h
def F3 (k:Dk)(a:ai R m d x)(b:ai R m e y)(c:ai R m f z):af R m (wP k x y z m) (g8 k d e f):=by
 cases k with
 |get=>
  cases d with
  |D A E=>
   obtain⟨l,G,rfl,_,B,q⟩:=aH.mp a;unfold g8 wP;simp only[B];cases N:xF e with
   |none=>exact af.no
   |some k=>
    rw[vC b N];simp only;cases M:bX A E k with
    |none=>
     have:bX A G k=none:=AI q.len M;rw[this];exact cY c
    |some v=>
     obtain⟨w,H,I⟩:=qh q M;rw[H];exact cY I
  |_=>exact af.no
 |sum=>
  cases d with
  |D A E=>
   obtain⟨l,G,rfl,_,B,q⟩:=aH.mp a;unfold g8 wP;simp only[B];cases J:g7 E with
   |none=>exact af.no
   |some i=>rw[qi q J];exact af.int
  |_=>exact af.no
 |lix=>
  cases d with
  |L E=>
   obtain⟨l,G,rfl,_,B,q⟩:=av.mp a;have O:zh m l=some G:=by unfold zh;rw[B]
   unfold g8 wP;simp only[O,QW];cases Q:du (λd=>eg d e) E with
   |none=>exact af.no
   |some bs=>
    rw[uh b q Q];simp only[QW];cases qL true bs 0 with
    |none=>exact af.no
    |some i=>exact af.int
  |_=>exact af.no
 |mnv=>
  cases d with
  |D A E=>
   obtain⟨l,G,rfl,_,B,q⟩:=aH.mp a;unfold g8 wP;simp only[B];cases J:zD E with
   |none=>exact af.no
   |some k=>rw[xH q J];cases k with
    |nil=>exact af.no
    |cons i r=>exact af.int
  |_=>exact af.no
 |sok=>
  cases d with
  |D A E=>
   obtain⟨l,G,rfl,_,B,q⟩:=aH.mp a;unfold g8 wP;simp only[B];cases eW A&&decide (A.length<64)with
   |false=>exact af.no
   |true=>
    cases yF P8 (A.map (0::·)) A with
    |none=>exact af.no
    |some U=>exact af.new (AB U)
  |_=>exact af.no
 |dln=>
  cases d with
  |D A E=>
   obtain⟨l,G,rfl,_,B,q⟩:=aH.mp a;unfold g8 wP;simp only[B];by_cases hl:A.length<=aA
   .rw[N0 hl,N0 hl];exact af.int
   .rw[N1 hl,N1 hl];exact af.no
  |_=>exact af.no
 |lle=>
  unfold g8 wP;simp only;cases H:ig d with
  |none=>exact af.no
  |some Y=>
   cases I:ig e with
   |none=>exact af.no
   |some j=>rw[AC a H,AC b I];exact af.bl
def Gm (a:ai R m d x)(h:lY k d=true):fu k x m=true:=by
 cases k with
 |lle=>rfl
 |lix=>
  cases d with
  |L B=>obtain⟨l,E,rfl,_,A,q⟩:=av.mp a;unfold fu yB aN;simp only[A]
  |_=>cases h
 |get=>
  cases d with
  |D G B=>
   obtain⟨l,E,rfl,_,A,q⟩:=aH.mp a;show(match m[l]? with|some (.D _ _)=>true|_=>false)=true;rw[A]
  |_=>cases h
 |sum=>
  cases d with
  |D G B=>
   obtain⟨l,E,rfl,_,A,q⟩:=aH.mp a;show(match m[l]? with|some (.D _ _)=>true|_=>false)=true;rw[A]
  |_=>cases h
 |mnv=>
  cases d with
  |D G B=>
   obtain⟨l,E,rfl,_,A,q⟩:=aH.mp a;show(match m[l]? with|some (.D _ _)=>true|_=>false)=true;rw[A]
  |_=>cases h
 |sok=>
  cases d with
  |D G B=>
   obtain⟨l,E,rfl,_,A,q⟩:=aH.mp a;show(match m[l]? with|some (.D _ _)=>true|_=>false)=true;rw[A]
  |_=>cases h
 |dln=>
  cases d with
  |D G B=>
   obtain⟨l,E,rfl,_,A,q⟩:=aH.mp a;show(match m[l]? with|some (.D _ _)=>true|_=>false)=true;rw[A]
  |_=>cases h
def F2 (a:ai R m d x)(b:ai R m e y)(c:ai R m f z):af R m (fq x y z m) (g9 d e f):=by
 cases d with
 |int i=>
  cases e with
  |int j=>
   cases f with
   |int k=>
    rw[aa.mp a,aa.mp b,aa.mp c];simp only[fq,g9];split
    .exact cY (ah.mpr ⟨_,rfl,AD k _ i⟩)
    .exact af.no
   |_=>exact af.no
  |_=>exact af.no
 |_=>exact af.no
theorem wA {R:P5}(H:∀(R':P5) m d x,(∀l,R l->R' l)->Le m0 m->ai R' m d x->af R' m (c x m) (cd d))(I:∀(R':P5) m d x,(∀l,R l->R' l)->Le m0 m->ai R' m d x->af R' m (e x m) (ed d)):
  ∀(ds:P9) (xs:R7) (acc:P9) (A:R7) (R':P5) (m:Me),(∀l,R l->R' l)->Le m0 m->ab R' m ds xs->ab R' m acc A->af R' m (yo c e xs A m) (zu cd ed ds acc)
 |[],xs,acc,A,R',m,E,G,a,b=>by
  rw[a.nil_inv];unfold yo zu;exact af.new b
 |d::ds,xs,acc,A,R',m,E,G,a,b=>by
  obtain⟨x,r,rfl,p,q⟩:=a.cons_inv;unfold yo zu;refine(H R' m d x E G p).bind λt w m1 B M=>?_;cases t with
  |bl t=>
   rw[ag.mp M];cases t with
   |true=>
    refine(I _ m1 d x (λl z=>.inl (E l z)) (G.trans B) (p.up _ B)).bind λt w m2 J N=>?_;simp only[b.len];by_cases z:A.length<aA
    .rw[N0 z,N0 z];exact wA H I ds r _ _ _ m2 (λl z=>.inl (.inl (E l z))) ((G.trans B).trans J) ((q.up _ B).up _ J) (((b.up _ B).up _ J).app (.cons N .nil))
    .rw[N1 z,N1 z];exact af.no
   |false=>exact wA H I ds r _ _ _ m1 (λl z=>.inl (E l z)) (G.trans B) (q.up _ B) (b.up _ B)
  |_=>exact af.no
theorem vN {R:P5}(hl:m0[l]?=some (.L A))(O:∀(R':P5) m d x,(∀l,R l->R' l)->Le m0 m->ai R' m d x->af R' m (c x m) (cd d))(Q:∀(R':P5) m d x,(∀l,R l->R' l)->Le m0 m->ai R' m d x->af R' m (e x m) (ed d)):
  ∀(ds:P9) (i k:Nat) (acc:P9) (B:R7) (R':P5) (m:Me),(∀l,R l->R' l)->Le m0 m->ab R' m ds (A.drop i)->i+ds.length=A.length->ds.length<k->ab R' m acc B->af R' m (yw c e l k i B m) (zu cd ed ds acc)
 |[],i,0,acc,B,R',m,H,E,a,J,I,b=>by simp at I
 |d::ds,i,0,acc,B,R',m,H,E,a,J,I,b=>by simp at I
 |[],i,k+1,acc,B,R',m,H,E,a,J,I,b=>by
  unfold yw zu zh;rw[E l _ hl];simp only;rw[Qq (by simp at J;lia)];exact af.new b
 |d::ds,i,k+1,acc,B,R',m,H,E,a,J,I,b=>by
  obtain⟨x,r,Y,p,q⟩:=a.cons_inv;have j:A[i]?=some x:=by
   have:(A.drop i)[0]?=some x:=by rw[Y];rfl
   simpa using this
  have u:r=A.drop (i+1):=by
   have:(A.drop i).drop 1=r:=by rw[Y];rfl
   rw[<-this,Ws]
  rw[u]at q;have M:i+1+ds.length=A.length:=by simp at J;lia
  have N:ds.length<k:=by simp at I;lia
  unfold yw zu zh;rw[E l _ hl];simp only;rw[j];simp only;refine(O R' m d x H E p).bind λt w m1 G o=>?_;cases t with
  |bl t=>
   rw[ag.mp o];cases t with
   |true=>
    refine(Q _ m1 d x (λl z=>.inl (H l z)) (E.trans G) (p.up _ G)).bind λt w m2 U g=>?_;simp only[b.len];by_cases z:B.length<aA
    .rw[N0 z,N0 z];exact vN hl O Q ds (i+1) k _ _ _ m2 (λl z=>.inl (.inl (H l z))) ((E.trans G).trans U) ((q.up _ G).up _ U) M N (((b.up _ G).up _ U).app (.cons g .nil))
    .rw[N1 z,N1 z];exact af.no
   |false=>exact vN hl O Q ds (i+1) k _ _ _ m1 (λl z=>.inl (H l z)) (E.trans G) (q.up _ G) M N (b.up _ G)
  |_=>exact af.no
noncomputable def lO(R:P5)(m0:Me)(ps:List (Dat×Dat))(g:Nat->Me->Option (Option (Wd×Wd))):Prop:=
 ∀m,Le m0 m->(∀i p,ps[i]?=some p->∃a b,g i m=some (some (a,b))/\ai R m p.1 a/\ai R m p.2 b)/\∀i,ps.length<=i->g i m=some none
theorem kI{A B:Type}:∀{xs:List A}{ys:List B}{i:Nat}{p:A×B},(xs.zip ys)[i]?=some p->xs[i]?=some p.1/\ys[i]?=some p.2
 |[],_,i,p,h=>by simp at h
 |_::_,[],i,p,h=>by simp at h
 |x::xs,y::ys,0,p,h=>by simp at h;subst h;exact⟨rfl,rfl⟩
 |x::xs,y::ys,i+1,p,h=>by
  have E:(xs.zip ys)[i]?=some p:=by simpa using h
  simpa using kI E
set_option tactic.hygienic true in
theorem qk:∀{xs:P9}{ps:List (Dat×Dat)},fR xs=some ps->ps.length=xs.length/\∀(i:Nat) p,ps[i]?=some p->xs[i]?=some (.T [p.1,p.2])
 |[],ps,h=>by cases h;exact⟨rfl,λi p q=>by simp at q⟩
 |d::xs,ps,h=>by
  unfold fR at h;split at h
  .next A=>cases A
  .next x y r A=>
   cases A;obtain⟨B,e,rfl⟩:=Qy.mp h;obtain⟨a,b⟩:=qk e;refine⟨by simp[a],λi p q=>?_⟩;cases i with
   |zero=>cases q;rfl
   |succ i=>exact b i p q
  .cases h
def tf (A:ai R m0 x a)(h:iq x=some ds):∃xs,(∀m,Le m0 m->vH m a=some xs)/\ab R m0 ds xs:=by
 cases x with
 |L E=>
  cases h;obtain⟨l,xs,rfl,_,B,q⟩:=av.mp A;exact⟨xs,λm h=>by show zh m l=_;unfold zh;rw[h _ _ B],q⟩
 |_=>cases h
set_option tactic.hygienic true in
def j8 (e:xl k x y=some ps)(M:ai R m0 x a)(N:ai R m0 y b):lO R m0 ps (zn k a b)/\ps.length<=aA:=by
 unfold xl at e;split at e
 .cases f1:iq x with
  |none=>rw[f1]at e;cases e
  |some ds1=>
   cases f2:iq y with
   |none=>rw[f1,f2]at e;cases e
   |some ds2=>
    rw[f1,f2]at e;obtain⟨J,B,A⟩:=tf M f1;obtain⟨n,w,k2⟩:=tf N f2;dsimp only at e;split at e
    .next z=>
     cases e;refine⟨λm h=>⟨λi p q=>?_,λi q=>?_⟩,by simp;lia⟩
     .obtain ⟨E,O⟩:=kI q;obtain⟨a,G,H⟩:=A.get E;obtain⟨b,b1,b2⟩:=k2.get O;refine⟨a,b,?_,ai.frame (λl o r z=>⟨r,h l o z⟩) _ _ H,ai.frame (λl o r z=>⟨r,h l o z⟩) _ _ b2⟩;simp only[zn,B m h,w m h,G,b1]
     .simp only[zn,B m h,w m h];have Q:=A.len;have l2:=k2.len;simp only[Vd]at q;rcases Nat.le_total J.length n.length with z3|z3
      .rw[Qq (by lia)]
      .rw[Qq (l:=n) (by lia)];cases J[i]?<;>rfl
    .cases e
 .rename_i I st;obtain⟨l,J,rfl,_,B,A⟩:=av.mp M;rw[aa.mp N];split at e
  .next z=>
   cases e;have Q:=A.len;refine⟨λm h=>⟨λi p q=>?_,λi q=>?_⟩,by simp[yr];lia⟩
   .obtain ⟨E,O⟩:=kI q;obtain⟨a,G,H⟩:=A.get O;have hp:p.1=.int (st+(i:Int)):=by
     simp only[yr,Qm]at E;cases U:(QF I.length)[i]? with
     |none=>rw[U]at E;cases E
     |some j=>
      rw[U]at E;have:=Qa.mp U;obtain⟨_,hj⟩:=this;simp only[List.getElem_range]at hj;subst hj;simp only[QR,Option.some.injEq,Int.one_mul]at E;exact E.symm
    refine⟨.int (st+(i:Int)),a,?_,by rw[hp];exact aa.mpr rfl,ai.frame (λl o r z=>⟨r,h l o z⟩) _ _ H⟩;simp only[zn,zh];rw[h _ _ B];simp only[G,QR]
   .simp only[zn,zh];rw[h _ _ B];simp only[yr,Vd,Qs,List.length_range]at q;simp only;rw[Qq (by lia)];rfl
  .cases e
 .rename_i I st;obtain⟨l,J,rfl,_,B,A⟩:=av.mp M;rw[aa.mp N];split at e
  .next z=>
   have Q:=A.len;obtain⟨g1,Y⟩:=qk e;refine⟨λm h=>⟨λi p q=>?_,λi q=>?_⟩,by lia⟩
   .obtain ⟨a,G,H⟩:=A.get (Y i p q);obtain⟨us,rfl,u⟩:=ah.mp H;obtain⟨x,r,rfl,d,g⟩:=u.cons_inv;obtain⟨y,r',rfl,f,t⟩:=g.cons_inv;obtain rfl:=t.nil_inv;refine⟨x,y,?_,ai.frame (λl o r z=>⟨r,h l o z⟩) _ _ d,ai.frame (λl o r z=>⟨r,h l o z⟩) _ _ f⟩;simp only[zn,zh];rw[h _ _ B];simp only[G];rfl
   .simp only[zn,zh];rw[h _ _ B];simp only;rw[Qq (by lia)]
  .cases e
 .rename_i I st;obtain⟨J,rfl,A⟩:=ah.mp M;rw[aa.mp N];split at e
  .next z=>
   have Q:=A.len;obtain⟨g1,Y⟩:=qk e;refine⟨λm h=>⟨λi p q=>?_,λi q=>?_⟩,by lia⟩
   .obtain ⟨a,G,H⟩:=A.get (Y i p q);obtain⟨us,rfl,u⟩:=ah.mp H;obtain⟨x,r,rfl,d,g⟩:=u.cons_inv;obtain⟨y,r',rfl,f,t⟩:=g.cons_inv;obtain rfl:=t.nil_inv;refine⟨x,y,?_,ai.frame (λl o r z=>⟨r,h l o z⟩) _ _ d,ai.frame (λl o r z=>⟨r,h l o z⟩) _ _ f⟩;simp only[zn,G];rfl
   .simp only[zn];rw[Qq (by lia)]
  .cases e
 .cases e
theorem vO (N:lO R m0 ps g)(O:∀(R':P5) m p a b,(∀l,R l->R' l)->Le m0 m->ai R' m p.1 a->ai R' m p.2 b->af R' m (c a b m) (cd p))(Q:∀(R':P5) m p a b,(∀l,R l->R' l)->Le m0 m->ai R' m p.1 a->ai R' m p.2 b->af R' m (e a b m) (ed p)):
  ∀(ds:List (Dat×Dat)) (i k:Nat) (acc:P9) (A:R7) (R':P5) (m:Me),(∀l,R l->R' l)->Le m0 m->ds=ps.drop i->i+ds.length=ps.length->ds.length<k->ab R' m acc A->af R' m (zI c e g k i A m) (zu cd ed ds acc)
 |[],i,0,acc,A,R',m,E,B,a,I,H,b=>by simp at H
 |d::ds,i,0,acc,A,R',m,E,B,a,I,H,b=>by simp at H
 |[],i,k+1,acc,A,R',m,E,B,a,I,H,b=>by
  unfold zI zu;rw[(N m B).2 i (by simp at I;lia)];exact af.new b
 |d::ds,i,k+1,acc,A,R',m,E,B,a,I,H,b=>by
  have j:ps[i]?=some d:=by
   have:(ps.drop i)[0]?=some d:=by rw[<-a];rfl
   simpa using this
  have U:ds=ps.drop (i+1):=by
   have:(ps.drop i).drop 1=ds:=by rw[<-a];rfl
   rw[<-this,Ws]
  have J:i+1+ds.length=ps.length:=by simp at I;lia
  have M:ds.length<k:=by simp at H;lia
  obtain⟨u,v,f,p,q⟩:=(N m B).1 i d j;have up:∀{d:Dat}{w:Wd},ai R m d w->ai R' m d w:=λz=>ai.frame (λl o r z=>⟨E l r,z⟩) _ _ z;unfold zI zu;rw[f];simp only;refine(O R' m d u v E B (up p) (up q)).bind λt w m1 G n=>?_;cases t with
  |bl t=>
   rw[ag.mp n];cases t with
   |true=>
    refine(Q _ m1 d u v (λl z=>.inl (E l z)) (B.trans G) ((up p).up _ G) ((up q).up _ G)).bind λt w m2 Y h=>?_;simp only[b.len];by_cases z:A.length<aA
    .rw[N0 z,N0 z];exact vO N O Q ds (i+1) k _ _ _ m2 (λl z=>.inl (.inl (E l z))) ((B.trans G).trans Y) U J M (((b.up _ G).up _ Y).app (.cons h .nil))
    .rw[N1 z,N1 z];exact af.no
   |false=>exact vO N O Q ds (i+1) k _ _ _ m1 (λl z=>.inl (E l z)) (B.trans G) U J M (b.up _ G)
  |_=>exact af.no
noncomputable def zl:Ex->R5
 |.V i=>[i]
 |.lit _=>[]
 |.bin _ a b=>zl a++zl b
 |.neg a=>zl a
 |.not a=>zl a
 |.and a b=>zl a++zl b
 |.or a b=>zl a++zl b
 |.cmp _ a b=>zl a++zl b
 |.chain _ _ a b c=>zl a++(zl b++zl c)
 |.ife c a b=>zl c++(zl a++zl b)
 |.u=>[]
 |.P a b=>zl a++zl b
 |.call _ a=>zl a
 |.blt _ a=>zl a
 |.isi _ a=>zl a
 |.L a=>zl a
 |.T a=>zl a
 |.dict0=>[]
 |.dget a b=>zl a++zl b
 |.dop _ a b c=>zl a++(zl b++zl c)
 |.i a b=>zl a++zl b
 |.meth _ a b=>zl a++zl b
 |.rng a b c=>zl a++(zl b++zl c)
 |.comp e i c=>zl i++(zl e++zl c)
 |.compP _ e a b c=>zl a++(zl b++(zl e++zl c))
@[simp]theorem Ly(i:Nat):zl (.V i)=[i]:=rfl
@[simp]theorem Lx(w:Wd):zl (.lit w)=[]:=rfl
@[simp]theorem Lw(a b:Ex):zl (.i a b)=zl a++zl b:=rfl
@[simp]theorem Lu(a:Ex):zl (.T a)=zl a:=rfl
@[simp]theorem LO(a b:Ex):zl (.P a b)=zl a++zl b:=rfl
@[simp]theorem LN  : zl (.u)=[]:=rfl
@[simp]theorem Ls(op:Bo)(a b:Ex):zl (.bin op a b)=zl a++zl b:=rfl
@[simp]theorem LM(k:Nat)(a:Ex):zl (.call k a)=zl a:=rfl
@[simp]theorem Lr(a:Ex):zl (.neg a)=zl a:=rfl
@[simp]theorem Lq(a:Ex):zl (.L a)=zl a:=rfl
noncomputable def bB(R:P5)(m:Me)(vs:R5)(de:aI)(env:En):Prop:=
 de.length=env.length/\∀i∈vs,∀d,de[i]?=some (some d)->∃w,env[i]?=some (some w)/\ai R m d w
def bB.up{R R':P5}{m m':Me}{vs:R5}{de:aI}{env:En}(A:∀l,R l->R' l)(h:Le m m')(q:bB R m vs de env):bB R' m' vs de env:=
 ⟨q.1,λi B d z=>by
  obtain⟨w,a,b⟩:=q.2 i B d z;exact⟨w,a,ai.frame (λl o r k=>⟨A l r,h l o k⟩) d w b⟩⟩
def bB.sub{R:P5}{m:Me}{vs A:R5}{de:aI}{env:En}(h:∀i∈A,i∈vs)(q:bB R m vs de env):bB R m A de env:=
 ⟨q.1,λi B=>q.2 i (h i B)⟩
def bB.left{R:P5}{m:Me}{A vs:R5}{de:aI}{env:En}(q:bB R m (A++vs) de env):bB R m A de env:=q.sub λ_ h=>QY _ h
def bB.right{R:P5}{m:Me}{A vs:R5}{de:aI}{env:En}(q:bB R m (A++vs) de env):bB R m vs de env:=q.sub λ_ h=>Qv _ h
set_option tactic.hygienic true in
def bB.push{R:P5}{m:Me}{vs:R5}{de:aI}{env:En}{d:Dat}{w:Wd}(q:bB R m vs de env)(h:ai R m d w):bB R m vs (de++[some d]) (env++[some w]):=by
 refine⟨by simp[q.1],λi A e z=>?_⟩;rw[List.getElem?_append]at z;split at z
 .next k=>
  obtain⟨w,a,b⟩:=q.2 i A e z;exact⟨w,by rw[Qf (by rw[<-q.1];exact k)];exact a,b⟩
 .next k=>
  rw[Qd (by rw[<-q.1];lia),<-q.1];have:i-de.length=0:=by
   rcases Nat.eq_zero_or_pos (i-de.length)with z0|z0
   .exact z0
   .rw[Qq (by simp;lia)]at z;cases z
  rw[this]at z ⊢;cases z;exact⟨w,rfl,h⟩
noncomputable def aW(cl:N6)(cd:N9):Prop:=∀(k:Nat) (A:P9) (B:R7) (R:P5) (m:Me),ab R m A B->af R m (cl k B m) (cd k A)
def yz (h:ai R m d w):ab R m (zw d) (zj w):=by
 cases d with
 |T B=>obtain⟨A,rfl,q⟩:=ah.mp h;exact q
 |N=>rw[ao.mp h];exact .nil
 |bl _=>rw[ag.mp h];exact .nil
 |int _=>rw[aa.mp h];exact .nil
 |str _=>rw[aB.mp h];exact .nil
 |scr _=>rw[aS.mp h];exact .nil
 |L _=>obtain⟨l,A,rfl,_⟩:=av.mp h;exact .nil
 |D _ _=>obtain⟨l,A,rfl,_⟩:=aH.mp h;exact .nil
theorem za (H:aW cl cd):∀(e:Ex) (R:P5) (m:Me) (de:aI) (env:En),bB R m (zl e) de env->af R m (ae cl e env m) (au cd e de)
 |.V i,R,m,de,env,q=>by
  cases z:de[i]? with
  |none=>rw[yX (.inl z)];exact af.no
  |some o=>
   cases o with
   |none=>rw[yX (.inr z)];exact af.no
   |some d=>
    obtain⟨w,a,b⟩:=q.2 i (QK.mpr rfl) d z;rw[xG z,vA a];exact cY b
 |.lit w,R,m,de,env,q=>by
  cases w<;>first|exact af.no|(exact cY (by unfold ai;rfl))
 |.bin g a b,R,m,de,env,q=>by
  refine(za H a R m de env q.left).bind λd w m1 B A=>?_;refine(za H b _ m1 de env (q.right.up (λ_=>.inl) B)).bind λd2 O m2 J G=>?_;exact qe g (A.up _ J) G
 |.neg a,R,m,de,env,q=>by
  refine(za H a R m de env q).bind λd w m1 B A=>?_;cases d with
  |int i=>rw[aa.mp A];exact af.int
  |_=>exact af.no
 |.not a,R,m,de,env,q=>by
  refine(za H a R m de env q).bind λd w m1 B A=>?_;cases d with
  |bl i=>rw[ag.mp A];exact af.bl
  |_=>exact af.no
 |.and a b,R,m,de,env,q=>by
  refine(za H a R m de env q.left).bind λd w m1 B A=>?_;cases d with
  |bl i=>
   rw[ag.mp A];cases i with
   |true=>exact za H b _ m1 de env (q.right.up (λ_=>.inl) B)
   |false=>exact af.bl
  |_=>exact af.no
 |.or a b,R,m,de,env,q=>by
  refine(za H a R m de env q.left).bind λd w m1 B A=>?_;cases d with
  |bl i=>
   rw[ag.mp A];cases i with
   |false=>exact za H b _ m1 de env (q.right.up (λ_=>.inl) B)
   |true=>exact af.bl
  |_=>exact af.no
 |.cmp g a b,R,m,de,env,q=>by
  refine(za H a R m de env q.left).bind λd w m1 B A=>?_;refine(za H b _ m1 de env (q.right.up (λ_=>.inl) B)).bind λd2 O m2 J G=>?_;exact qg g (A.up _ J) G
 |.chain o p a b c,R,m,de,env,q=>by
  refine(za H a R m de env q.left).bind λd w m1 B A=>?_;refine(za H b _ m1 de env (q.right.left.up (λ_=>.inl) B)).bind λd2 O m2 J G=>?_;refine(qg o (A.up _ J) G).bind λd3 w3 m3 N U=>?_;cases d3 with
  |bl i=>
   rw[ag.mp U];cases i with
   |false=>exact af.bl
   |true=>
    refine(za H c _ m3 de env (q.right.right.up (λ_ h=>.inl (.inl (.inl h))) ((B.trans J).trans N))).bind λd4 w4 m4 l4 k4=>?_;exact qg p ((G.up _ N).up _ l4) k4
  |_=>exact af.no
 |.ife c a b,R,m,de,env,q=>by
  refine(za H c R m de env q.left).bind λd w m1 B A=>?_;cases d with
  |bl i=>
   rw[ag.mp A];cases i with
   |true=>exact za H a _ m1 de env (q.right.left.up (λ_=>.inl) B)
   |false=>exact za H b _ m1 de env (q.right.right.up (λ_=>.inl) B)
  |_=>exact af.no
 |.u,R,m,de,env,q=>by
  exact cY (ah.mpr ⟨[],rfl,.nil⟩)
 |.P a b,R,m,de,env,q=>by
  refine(za H a R m de env q.left).bind λd w m1 B A=>?_;refine(za H b _ m1 de env (q.right.up (λ_=>.inl) B)).bind λd2 O m2 J G=>?_;exact cY (ah.mpr ⟨_,rfl,.cons (A.up _ J) (yz G)⟩)
 |.call k a,R,m,de,env,q=>by
  refine(za H a R m de env q).bind λd w m1 B A=>?_;exact H k _ _ _ m1 (yz A)
 |.blt b a,R,m,de,env,q=>by
  refine(za H a R m de env q).bind λd w m1 B A=>?_;exact F5 b (yz A)
 |.isi t a,R,m,de,env,q=>by
  refine(za H a R m de env q).bind λd w m1 B A=>?_;exact Fx t A
 |.L a,R,m,de,env,q=>by
  refine(za H a R m de env q).bind λd w m1 B A=>?_;exact af.new (yz A)
 |.T a,R,m,de,env,q=>by
  refine(za H a R m de env q).bind λd w m1 B A=>?_;have G:=yz A;simp only[G.len];split
  .exact cY (ah.mpr ⟨_,rfl,G⟩)
  .exact af.no
 |.dict0,R,m,de,env,q=>by
  exact⟨_,_,rfl,Le.app m _,aH.mpr ⟨_,[],rfl,.inr (Qk _),by simp,.nil⟩⟩
 |.dget a b,R,m,de,env,q=>by
  refine(za H a R m de env q.left).bind λd w m1 B A=>?_;refine(za H b _ m1 de env (q.right.up (λ_=>.inl) B)).bind λd2 O m2 J G=>?_;exact AH (A.up _ J) G
 |.dop k a b c,R,m,de,env,q=>by
  refine(za H a R m de env q.left).bind λd w m1 B A=>?_;cases hb:lY k d with
  |false=>exact af.no
  |true=>
   rw[Gm A hb];refine(za H b _ m1 de env (q.right.left.up (λ_=>.inl) B)).bind λd2 O m2 J G=>?_;refine(za H c _ m2 de env ((q.right.right.up (λ_=>.inl) B).up (λ_=>.inl) J)).bind λd3 w3 m3 N U=>?_;exact F3 k ((A.up _ J).up _ N) (G.up _ N) U
 |.i a b,R,m,de,env,q=>by
  refine(za H a R m de env q.left).bind λd w m1 B A=>?_;refine(za H b _ m1 de env (q.right.up (λ_=>.inl) B)).bind λd2 O m2 J G=>?_;exact F4 (A.up _ J) G
 |.meth _ _ _,R,m,de,env,q=>by
  exact af.no
 |.rng a b c,R,m,de,env,q=>by
  refine(za H a R m de env q.left).bind λd w m1 B A=>?_;refine(za H b _ m1 de env (q.right.left.up (λ_=>.inl) B)).bind λd2 O m2 J G=>?_;refine(za H c _ m2 de env (q.right.right.up (λ_ h=>.inl (.inl h)) (B.trans J))).bind λd3 w3 m3 N U=>?_;exact F2 ((A.up _ J).up _ N) (G.up _ N) U
 |.comp M it cond,R,m,de,env,q=>by
  refine(za H it R m de env q.left).bind λd w m1 B A=>?_;have Y:∀(I:P5) E d x,(∀l,Rf R m.length l->I l)->Le m1 E->ai I E d x->af I E (ae cl cond (env++[some x]) E) (au cd cond (de++[some d])):=
   λI E d x Q l k=>za H cond I E _ _ ((q.right.right.up (λl h=>Q l (.inl h)) (B.trans l)).push k)
  have j:∀(I:P5) E d x,(∀l,Rf R m.length l->I l)->Le m1 E->ai I E d x->af I E (ae cl M (env++[some x]) E) (au cd M (de++[some d])):=
   λI E d x Q l k=>za H M I E _ _ ((q.right.left.up (λl h=>Q l (.inl h)) (B.trans l)).push k)
  cases d with
  |T u=>
   obtain⟨xs,rfl,G⟩:=ah.mp A;exact wA Y j u xs [] [] _ m1 (λ_ h=>h) (Le.refl _) G .nil
  |scr f=>
   rw[aS.mp A];exact wA Y j (f.map .int) (f.map .int) [] [] _ m1 (λ_ h=>h) (Le.refl _) (dQ f) .nil
  |L u=>
   obtain⟨l,xs,rfl,_,hm,G⟩:=av.mp A;simp only[cy];by_cases z:u.length<=aA
   .rw[N0 z];have hl:=G.len;exact vN hm Y j u 0 (aA+1) [] [] _ m1 (λ_ h=>h) (Le.refl _) (by simpa using G) (by lia) (by lia) .nil
   .rw[N1 z];exact af.no
  |_=>exact af.no
 |.compP k M a b cond,R,m,de,env,q=>by
  refine(za H a R m de env q.left).bind λd w m1 B A=>?_;refine(za H b _ m1 de env (q.right.left.up (λl h=>.inl h) B)).bind λd' w' m2 J G=>?_;have Y:∀(I:P5) E (p:Dat×Dat) x y,(∀l,Rf (Rf R m.length) m1.length l->I l)->Le m2 E->ai I E p.1 x->ai I E p.2 y->af I E (ae cl cond (env++[some x]++[some y]) E) (au cd cond (de++[some p.1]++[some p.2])):=
   λI E d x y Q l k n=>za H cond I E _ _ (((q.right.right.right.up (λl h=>Q l (.inl (.inl h))) ((B.trans J).trans l)).push k).push n)
  have j:∀(I:P5) E (p:Dat×Dat) x y,(∀l,Rf (Rf R m.length) m1.length l->I l)->Le m2 E->ai I E p.1 x->ai I E p.2 y->af I E (ae cl M (env++[some x]++[some y]) E) (au cd M (de++[some p.1]++[some p.2])):=
   λI E d x y Q l k n=>za H M I E _ _ (((q.right.right.left.up (λl h=>Q l (.inl (.inl h))) ((B.trans J).trans l)).push k).push n)
  cases e:xl k d d' with
  |none=>exact af.no
  |some ps=>
   obtain⟨pr,hl⟩:=j8 e (A.up _ J) G;exact vO pr Y j ps 0 (aA+1) [] [] _ m2 (λ_ h=>h) (Le.refl _) (by simp) (by simp) (by lia) .nil
mutual
noncomputable def aR(m:Me):Dat->Wd->R5->Prop
 |.N,w,A=>w=.N/\A=[]
 |.bl b,w,A=>w=.bl b/\A=[]
 |.int i,w,A=>w=.int i/\A=[]
 |.str s,w,A=>w=.str s/\A=[]
 |.scr H,w,A=>w=.rol (H.map Wd.int)/\A=[]
 |.T G,w,A=>∃E,w=.T E/\aj m G E A
 |.L G,w,A=>∃l E B,w=.ref l/\A=l::B/\m[l]?=some (.L E)/\aj m G E B
 |.D I G,w,A=>∃l E B,w=.ref l/\A=l::B/\m[l]?=some (.D I E)/\aj m G E B
noncomputable def aj(m:Me):P9->R7->R5->Prop
 |[],E,A=>E=[]/\A=[]
 |d::G,E,A=>∃x r B C,E=x::r/\A=B++C/\aR m d x B/\aj m G r C
end
def aM:aR m (.L ds) w A↔∃l xs B,w=.ref l/\A=l::B/\m[l]?=some (.L xs)/\aj m ds xs B:=by
 constructor
 .intro h;unfold aR at h;exact h
 .intro h;unfold aR;exact h
def bE:aR m (.D ks ds) w A↔∃l xs B,w=.ref l/\A=l::B/\m[l]?=some (.D ks xs)/\aj m ds xs B:=by
 constructor
 .intro h;unfold aR at h;exact h
 .intro h;unfold aR;exact h
def aY:aR m (.T ds) w A↔∃xs,w=.T xs/\aj m ds xs A:=by
 constructor
 .intro h;unfold aR at h;exact h
 .intro h;unfold aR;exact h
def aj.cons_inv (h:aj m (d::ds) xs A):∃x r B C,xs=x::r/\A=B++C/\aR m d x B/\aj m ds r C:=by unfold aj at h;exact h
def aj.nil_inv (h:aj m [] xs A):xs=[]/\A=[]:=by unfold aj at h;exact h
def aj.nil{m:Me}:aj m [] [] []:=by unfold aj;exact⟨rfl,rfl⟩
def aj.cons{m:Me}{d:Dat}{ds:P9}{x:Wd}{xs:R7}{B C:R5}(a:aR m d x B)(b:aj m ds xs C):aj m (d::ds) (x::xs) (B++C):=by
 unfold aj;exact⟨x,xs,B,C,rfl,rfl,a,b⟩
theorem aj.app:∀{ds E:P9}{xs ys:R7}{A B:R5},aj m ds xs A->aj m E ys B->aj m (ds++E) (xs++ys) (A++B)
 |[],E,xs,ys,A,B,a,b=>by rw[a.nil_inv.1,a.nil_inv.2];exact b
 |d::ds,E,xs,ys,A,B,a,b=>by
  obtain⟨x,r,P,Q,rfl,rfl,p,q⟩:=a.cons_inv;rw[QZ];exact .cons p (aj.app q b)
mutual
theorem aR.frame{m m':Me}:∀(d:Dat) (w:Wd) (A:R5),(∀l∈A,∀o,m[l]?=some o->m'[l]?=some o)->aR m d w A->aR m' d w A
 |.N,w,A,h,q=>by unfold aR at q ⊢;exact q
 |.bl _,w,A,h,q=>by unfold aR at q ⊢;exact q
 |.int _,w,A,h,q=>by unfold aR at q ⊢;exact q
 |.str _,w,A,h,q=>by unfold aR at q ⊢;exact q
 |.scr _,w,A,h,q=>by unfold aR at q ⊢;exact q
 |.T G,w,A,h,q=>by
  obtain⟨E,rfl,H⟩:=aY.mp q;exact aY.mpr ⟨E,rfl,aj.frame G E A h H⟩
 |.L G,w,A,h,q=>by
  obtain⟨l,E,B,rfl,rfl,I,H⟩:=aM.mp q;exact aM.mpr ⟨l,E,B,rfl,rfl,h l Q0 _ I,aj.frame G E B (λl hl=>h l (Qg _ hl)) H⟩
 |.D J G,w,A,h,q=>by
  obtain⟨l,E,B,rfl,rfl,I,H⟩:=bE.mp q;exact bE.mpr ⟨l,E,B,rfl,rfl,h l Q0 _ I,aj.frame G E B (λl hl=>h l (Qg _ hl)) H⟩
theorem aj.frame{m m':Me}:∀(ds:P9) (xs:R7) (A:R5),(∀l∈A,∀o,m[l]?=some o->m'[l]?=some o)->aj m ds xs A->aj m' ds xs A
 |[],xs,A,h,q=>by rw[q.nil_inv.1,q.nil_inv.2];exact .nil
 |d::ds,xs,A,h,q=>by
  obtain⟨x,r,B,C,rfl,rfl,a,b⟩:=q.cons_inv;exact .cons (aR.frame d x B (λl hl=>h l (QY _ hl)) a) (aj.frame ds r C (λl hl=>h l (Qv _ hl)) b)
end
mutual
theorem aR.rep{m:Me}{R:P5}:∀(d:Dat) (w:Wd) (A:R5),(∀l∈A,R l)->aR m d w A->ai R m d w
 |.N,w,A,h,q=>by unfold aR at q;exact ao.mpr q.1
 |.bl _,w,A,h,q=>by unfold aR at q;exact ag.mpr q.1
 |.int _,w,A,h,q=>by unfold aR at q;exact aa.mpr q.1
 |.str _,w,A,h,q=>by unfold aR at q;exact aB.mpr q.1
 |.scr _,w,A,h,q=>by unfold aR at q;exact aS.mpr q.1
 |.T G,w,A,h,q=>by
  obtain⟨E,rfl,H⟩:=aY.mp q;exact ah.mpr ⟨E,rfl,aj.rep G E A h H⟩
 |.L G,w,A,h,q=>by
  obtain⟨l,E,B,rfl,rfl,I,H⟩:=aM.mp q;exact av.mpr ⟨l,E,rfl,h l Q0,I,aj.rep G E B (λl hl=>h l (Qg _ hl)) H⟩
 |.D J G,w,A,h,q=>by
  obtain⟨l,E,B,rfl,rfl,I,H⟩:=bE.mp q;exact aH.mpr ⟨l,E,rfl,h l Q0,I,aj.rep G E B (λl hl=>h l (Qg _ hl)) H⟩
theorem aj.rep{m:Me}{R:P5}:∀(ds:P9) (xs:R7) (A:R5),(∀l∈A,R l)->aj m ds xs A->ab R m ds xs
 |[],xs,A,h,q=>by rw[q.nil_inv.1];exact .nil
 |d::ds,xs,A,h,q=>by
  obtain⟨x,r,B,C,rfl,rfl,a,b⟩:=q.cons_inv;exact .cons (aR.rep d x B (λl hl=>h l (QY _ hl)) a) (aj.rep ds r C (λl hl=>h l (Qv _ hl)) b)
end
mutual
theorem aR.lt{m:Me}:∀(d:Dat) (w:Wd) (A:R5),aR m d w A->∀l∈A,l<m.length
 |.N,w,A,q=>by unfold aR at q;rw[q.2];simp
 |.bl _,w,A,q=>by unfold aR at q;rw[q.2];simp
 |.int _,w,A,q=>by unfold aR at q;rw[q.2];simp
 |.str _,w,A,q=>by unfold aR at q;rw[q.2];simp
 |.scr _,w,A,q=>by unfold aR at q;rw[q.2];simp
 |.T E,w,A,q=>by
  obtain⟨G,rfl,H⟩:=aY.mp q;exact aj.lt E G A H
 |.L E,w,A,q=>by
  obtain⟨l,G,B,rfl,rfl,I,H⟩:=aM.mp q;intro k hk;rcases Qn.mp hk with rfl|hk
  .exact (Qa.mp I).1
  .exact aj.lt E G B H k hk
 |.D J E,w,A,q=>by
  obtain⟨l,G,B,rfl,rfl,I,H⟩:=bE.mp q;intro k hk;rcases Qn.mp hk with rfl|hk
  .exact (Qa.mp I).1
  .exact aj.lt E G B H k hk
theorem aj.lt{m:Me}:∀(ds:P9) (xs:R7) (A:R5),aj m ds xs A->∀l∈A,l<m.length
 |[],xs,A,q=>by rw[q.nil_inv.2];simp
 |d::ds,xs,A,q=>by
  obtain⟨x,r,B,C,rfl,rfl,a,b⟩:=q.cons_inv;intro k hk;rcases QJ.mp hk with hk|hk
  .exact aR.lt d x B a k hk
  .exact aj.lt ds r C b k hk
end
mutual
theorem ai.flat{R:P5}{m m':Me}:∀(d:Dat) (w:Wd),ay d=true->ai R m d w->aR m' d w []
 |.N,w,h,q=>by unfold aR;exact⟨ao.mp q,rfl⟩
 |.bl _,w,h,q=>by unfold aR;exact⟨ag.mp q,rfl⟩
 |.int _,w,h,q=>by unfold aR;exact⟨aa.mp q,rfl⟩
 |.str _,w,h,q=>by unfold aR;exact⟨aB.mp q,rfl⟩
 |.scr _,w,h,q=>by unfold aR;exact⟨aS.mp q,rfl⟩
 |.T A,w,h,q=>by
  obtain⟨B,rfl,E⟩:=ah.mp q;exact aY.mpr ⟨B,rfl,ab.flat A B (by unfold Vl.ay at h;exact h) E⟩
 |.L A,w,h,q=>by unfold Vl.ay at h;cases h
 |.D G A,w,h,q=>by unfold Vl.ay at h;cases h
theorem ab.flat{R:P5}{m m':Me}:∀(ds:P9) (xs:R7),aZ ds=true->ab R m ds xs->aj m' ds xs []
 |[],xs,h,q=>by rw[q.nil_inv];exact .nil
 |d::ds,xs,h,q=>by
  obtain⟨x,r,rfl,a,b⟩:=q.cons_inv;unfold aZ at h;rw[Qr]at h;exact aj.cons (B:=[]) (C:=[]) (ai.flat d x h.1 a) (ab.flat ds r h.2 b)
end
noncomputable def a7(R:P5)(m:Me)(lv:Lv)(d:Dat)(w:Wd)(A:R5):Prop:=match lv with
 |.no=>ai R m d w/\A=[]
 |.top=>∃B l E,d=.L B/\w=.ref l/\A=[l]/\m[l]?=some (.L E)/\ab R m B E
 |.F=>aR m d w A
theorem a7.rep (h:∀l,R l->R' l)(k:∀l∈A,R' l)(q:a7 R m lv d w A):ai R' m d w:=by
 cases lv with
 |no=>exact ai.frame (λl o r z=>⟨h l r,z⟩) d w q.1
 |top=>
  obtain⟨E,l,B,rfl,rfl,rfl,G,a⟩:=q;exact av.mpr ⟨l,B,rfl,k l (by simp),G,ab.frame (λl o r z=>⟨h l r,z⟩) E B a⟩
 |F=>exact aR.rep d w A k q
theorem a7.frame{R R':P5}{m m':Me}{lv:Lv}{d:Dat}{w:Wd}{A:R5}(h:∀(l:Nat) o,R l->m[l]?=some o->R' l/\m'[l]?=some o)(k:∀l∈A,∀o,m[l]?=some o->m'[l]?=some o)(q:a7 R m lv d w A):a7 R' m' lv d w A:=by
 cases lv with
 |no=>exact⟨ai.frame h d w q.1,q.2⟩
 |top=>
  obtain⟨B,l,E,rfl,rfl,rfl,G,a⟩:=q;exact⟨B,l,E,rfl,rfl,rfl,k l (by simp) _ G,ab.frame h B E a⟩
 |F=>exact aR.frame d w A k q
theorem a7.lt (q:a7 R m lv d w A):∀l∈A,l<m.length:=by
 cases lv with
 |no=>rw[q.2];simp
 |top=>
  obtain⟨G,l,H,rfl,rfl,rfl,B,a⟩:=q;intro k E;rw[QK.mp E];exact(Qa.mp B).1
 |F=>exact aR.lt d w A q
noncomputable def aU(lev:R9):Ex->Dat->Lv
 |.comp B _ _,d=>if ay d then .F else match d with
  |.L A=>if A.all (λx=>aU lev B x == .F)then .F else .top
  |_=>.no
 |.compP _ B _ _ _,d=>if ay d then .F else match d with
  |.L A=>if A.all (λx=>aU lev B x == .F)then .F else .top
  |_=>.no
 |.L a,d=>if ay d then .F else match d with
  |.L A=>if aU lev a (.T A) == .F then .F else .top
  |_=>.no
 |.T a,d=>aU lev a d
 |.P a b,d=>if ay d then .F else match d with
  |.T (x::A)=>if aU lev a x == .F&&aU lev b (.T A) == .F then .F else .no
  |_=>.no
 |.call k _,d=>if ay d then .F else lev k
 |.blt .list _,d=>if ay d then .F else match d with
  |.L A=>if aZ A then .F else .top
  |_=>.no
 |.bin _ _ _,d=>if ay d then .F else match d with
  |.L A=>if aZ A then .F else .top
  |_=>.no
 |.dict0,d=>if ay d then .F else match d with
  |.D _ []=>.F
  |_=>.no
 |_,d=>if ay d then .F else .no
@[simp]theorem Lp(lev:R9)(d:Dat):aU lev .dict0 d=if ay d then .F else match d with
  |.D _ []=>.F
  |_=>.no:=rfl
@[simp]theorem Kn(lev:R9)(a b:Ex)(d:Dat):aU lev (.dget a b) d=if ay d then .F else .no:=rfl
@[simp]theorem Km(lev:R9)(e i c:Ex)(d:Dat):aU lev (.comp e i c) d=if ay d then .F else match d with
  |.L A=>if A.all (λx=>aU lev e x == .F)then .F else .top
  |_=>.no:=rfl
@[simp]theorem Gj(lev:R9)(k:Kd)(e a b c:Ex)(d:Dat):aU lev (.compP k e a b c) d=if ay d then .F else match d with
  |.L A=>if A.all (λx=>aU lev e x == .F)then .F else .top
  |_=>.no:=rfl
@[simp]theorem Kz(lev:R9)(a:Ex)(d:Dat):aU lev (.L a) d=if ay d then .F else match d with
  |.L A=>if aU lev a (.T A) == .F then .F else .top
  |_=>.no:=rfl
@[simp]theorem Ky(lev:R9)(a:Ex)(d:Dat):aU lev (.T a) d=aU lev a d:=rfl
@[simp]theorem ug(lev:R9)(a b:Ex)(d:Dat):aU lev (.P a b) d=if ay d then .F else match d with
  |.T (x::A)=>if aU lev a x == .F&&aU lev b (.T A) == .F then .F else .no
  |_=>.no:=rfl
@[simp]theorem ql(lev:R9)(k:Nat)(a:Ex)(d:Dat):aU lev (.call k a) d=if ay d then .F else lev k:=rfl
@[simp]theorem Kl(lev:R9)(a:Ex)(d:Dat):aU lev (.blt .list a) d=if ay d then .F else match d with
  |.L A=>if aZ A then .F else .top
  |_=>.no:=rfl
@[simp]theorem Kx(lev:R9)(op:Bo)(a b:Ex)(d:Dat):aU lev (.bin op a b) d=if ay d then .F else match d with
  |.L A=>if aZ A then .F else .top
  |_=>.no:=rfl
@[simp]theorem Kw(lev:R9)(i:Nat)(d:Dat):aU lev (.V i) d=if ay d then .F else .no:=rfl
@[simp]theorem Kv(lev:R9)(w:Wd)(d:Dat):aU lev (.lit w) d=if ay d then .F else .no:=rfl
@[simp]theorem Ku(lev:R9)(a b:Ex)(d:Dat):aU lev (.i a b) d=if ay d then .F else .no:=rfl
@[simp]theorem Kt(lev:R9)(a:Ex)(d:Dat):aU lev (.neg a) d=if ay d then .F else .no:=rfl
@[simp]theorem Ks(lev:R9)(a:Ex)(d:Dat):aU lev (.not a) d=if ay d then .F else .no:=rfl
@[simp]theorem Kr(lev:R9)(a b:Ex)(d:Dat):aU lev (.and a b) d=if ay d then .F else .no:=rfl
@[simp]theorem A8(lev:R9)(a b:Ex)(d:Dat):aU lev (.or a b) d=if ay d then .F else .no:=rfl
@[simp]theorem Kq(lev:R9)(op:Co)(a b:Ex)(d:Dat):aU lev (.cmp op a b) d=if ay d then .F else .no:=rfl
@[simp]theorem Ko(lev:R9)(c a b:Ex)(d:Dat):aU lev (.ife c a b) d=if ay d then .F else .no:=rfl
@[simp]theorem Kk(lev:R9)(d:Dat):aU lev (.u) d=if ay d then .F else .no:=rfl
@[simp]theorem K8(lev:R9)(t:Tg)(a:Ex)(d:Dat):aU lev (.isi t a) d=if ay d then .F else .no:=rfl
@[simp]theorem K7(lev:R9)(a b c:Ex)(d:Dat):aU lev (.rng a b c) d=if ay d then .F else .no:=rfl
@[simp]theorem Kj(lev:R9)(a:Ex)(d:Dat):aU lev (.blt .len a) d=if ay d then .F else .no:=rfl
@[simp]theorem Ki(lev:R9)(a:Ex)(d:Dat):aU lev (.blt .int a) d=if ay d then .F else .no:=rfl
@[simp]theorem LL(lev:R9)(a:Ex)(d:Dat):aU lev (.blt .tuple a) d=if ay d then .F else .no:=rfl
@[simp]theorem KR(lev:R9)(a:Ex)(d:Dat):aU lev (.blt .sum a) d=if ay d then .F else .no:=rfl
@[simp]theorem KQ(lev:R9)(a:Ex)(d:Dat):aU lev (.blt .all a) d=if ay d then .F else .no:=rfl
@[simp]theorem Lo(lev:R9)(a:Ex)(d:Dat):aU lev (.blt .min2 a) d=if ay d then .F else .no:=rfl
@[simp]theorem Ln(lev:R9)(a:Ex)(d:Dat):aU lev (.blt .max2 a) d=if ay d then .F else .no:=rfl
noncomputable def aL(R:P5)(m:Me)(lv:Dat->Lv)(r:Rz)(E:Rd):Prop:=match E with
 |.ok d=>∃w B A,r=.ok w B/\Le m B/\a7 (λl=>Rf R m.length l/\l∉A) B (lv d) d w A/\A.Nodup/\∀a∈A,m.length<=a
 |.no=>True
noncomputable def we(lev:R9)(k:Nat)(d:Dat):Lv:=if ay d then .F else lev k
noncomputable def bn(lev:R9)(cl:N6)(cd:N9):Prop:=∀(k:Nat) (A:P9) (B:R7) (R:P5) (m:Me),ab R m A B->aL R m (we lev k) (cl k B m) (cd k A)
def aL.sim (h:aL R m lv r B):af R m r B:=by
 cases B with
 |ok d=>
  obtain⟨w,E,A,rfl,l,q,_,G⟩:=h;exact⟨w,E,rfl,l,q.rep (λ_ z=>z.1) (λa z=>.inr (G a z))⟩
 |no=>trivial
def bn.r (H:bn lev cl cd):aW cl cd:=λk A B R m q=>(H k A B R m q).sim
set_option tactic.hygienic true in
def af.own (h:af R m r A)(hl:∀d,lv d=if ay d then .F else .no):aL R m lv r A:=by
 cases A with
 |ok d=>
  obtain⟨w,B,rfl,l,q⟩:=h;refine⟨w,B,[],rfl,l,?_,QB,by simp⟩;rw[hl];split
  .next z=>exact q.flat d w z
  .exact ⟨ai.frame (λl o r z=>⟨⟨r,by simp⟩,z⟩) d w q,rfl⟩
 |no=>trivial
def aL.lift{R:P5}{m m1:Me}{r:Rz}{B:Rd}{lv:Dat->Lv}(h:Le m m1)(q:aL (Rf R m.length) m1 lv r B):aL R m lv r B:=by
 have hl:=h.len;cases B with
 |ok d=>
  obtain⟨w,E,A,rfl,k,z,G,H⟩:=q;exact⟨w,E,A,rfl,h.trans k,z.frame (λl o r z=>⟨⟨by rcases r.1 with (r|r)|r;exact .inl r;exact .inr r;exact .inr (by lia),r.2⟩,z⟩) (λ_ _ _ z=>z),G,λa I=>by have:=H a I;lia⟩
 |no=>trivial
def af.bindO (h:af R m r A)(k:∀d w m',Le m m'->ai (Rf R m.length) m' d w->aL (Rf R m.length) m' lv (f w m') (g d)):aL R m lv (r.bind f) (A.bind g):=by
 cases A with
 |ok d=>obtain⟨w,m',rfl,l,z⟩:=h;exact aL.lift l (k d w m' l z)
 |no=>trivial
theorem aL.no{R:P5}{m:Me}{r:Rz}{lv:Dat->Lv}:aL R m lv r .no:=trivial
set_option tactic.hygienic true in
def aL.new{R:P5}{m:Me}{ds:P9}{xs:R7}{lv:Dat->Lv}(h:ab R m ds xs)(hl:∀A,lv (.L A)=if aZ A then .F else .top):aL R m lv (alloc m xs) (bo ds):=by
 unfold bo alloc;rw[h.len];by_cases z:xs.length<=aA
 .rw[N0 z,N0 z];refine⟨_,_,[m.length],rfl,Le.app m _,?_,by simp,by simp⟩;rw[hl];split
  .next f=>exact aM.mpr ⟨_,xs,[],rfl,rfl,by simp,h.flat ds xs f⟩
  .refine ⟨ds,_,xs,rfl,rfl,rfl,by simp,ab.frame (λl o r z=>⟨⟨.inl r,?_⟩,Le.app m _ l o z⟩) ds xs h⟩;have:=(Qa.mp z).1;simp;lia
 .rw[N1 z,N1 z];exact aL.no
def rl (G:Le m0 m)(h:aj m ds xs A)(H:A.Nodup)(I:∀a∈A,m0.length<=a)(hl:lv (.L ds)=.F)(B:ds.length=xs.length):aL R m0 lv (alloc m xs) (bo ds):=by
 unfold bo alloc;rw[B];have E:=h.lt;by_cases z:xs.length<=aA
 .rw[N0 z,N0 z];refine⟨_,_,m.length::A,rfl,G.trans (Le.app m _),?_,QC.mpr ⟨λq=>by have:=E _ q;lia,H⟩,?_⟩
  .rw[hl];exact aM.mpr ⟨_,xs,A,rfl,rfl,by simp,aj.frame ds xs A (λl hl o q=>Le.app m _ l o q) h⟩
  .intro a ha;rcases Qn.mp ha with rfl|ha
   .exact G.len
   .exact I a ha
 .rw[N1 z,N1 z];exact aL.no
theorem aj.len:∀{ds:P9}{xs:R7}{A:R5},aj m ds xs A->ds.length=xs.length
 |[],xs,A,q=>by rw[q.nil_inv.1];rfl
 |d::ds,xs,A,q=>by
  obtain⟨x,r,B,C,rfl,rfl,a,b⟩:=q.cons_inv;simp[aj.len b]
noncomputable def cX(R:P5)(m:Me)(lv:Dat->Lv)(r:Rz)(E:Rd):Prop:=match E with
 |.ok d=>∃out m2 B,d=.L out/\out.length<=aA/\r=alloc m2 B/\Le m m2/\ab (Rf R m.length) m2 out B/\((∀y∈out,lv y=.F)->∃A,aj m2 out B A/\A.Nodup/\∀a∈A,m.length<=a)
 |.no=>True
noncomputable def cn(m0 m:Me)(lv:Dat->Lv)(acc:P9)(B:R7):Prop:=(∀y∈acc,lv y=.F)->∃A,aj m acc B A/\A.Nodup/\∀a∈A,m0.length<=a
def cn.up{m0 m m':Me}{lv:Dat->Lv}{acc:P9}{B:R7}(h:Le m m')(q:cn m0 m lv acc B):cn m0 m' lv acc B:=λz=>by
 obtain⟨A,a,b,c⟩:=q z;exact⟨A,aj.frame acc B A (λl _ o k=>h l o k) a,b,c⟩
def cn.push{m0 m m':Me}{lv:Dat->Lv}{acc:P9}{E:R7}{d:Dat}{w:Wd}{B:R5}(I:Le m0 m)(h:Le m m')(q:cn m0 m lv acc E)(z:lv d=.F->aR m' d w B)(J:B.Nodup)(H:∀b∈B,m.length<=b):cn m0 m' lv (acc++[d]) (E++[w]):=λf=>by
 obtain⟨A,a,b,c⟩:=q λy G=>f y (QY _ G);refine⟨A++(B++[]),(aj.frame acc E A (λl _ o k=>h l o k) a).app (.cons (z (f d (by simp))) .nil),?_,?_⟩
 .rw[QX];refine Qw.mpr ⟨b,J,λx hx y G e=>?_⟩;have:=aj.lt acc E A a x hx;have:=H y G;lia
 .intro x hx;rw[QX]at hx;rcases QJ.mp hx with hx|hx
  .exact c x hx
  .have:=H x hx;have:=I.len;lia
theorem wB (O:∀(R':P5) m d x,(∀l,R l->R' l)->Le m0 m->ai R' m d x->af R' m (c x m) (cd d))(Q:∀(R':P5) m d x,(∀l,R l->R' l)->Le m0 m->ai R' m d x->aL R' m lv (e x m) (ed d)):
  ∀(ds:P9) (xs:R7) (acc:P9) (A:R7) (m:Me),Le m0 m->ab (Rf R m0.length) m ds xs->ab (Rf R m0.length) m acc A->cn m0 m lv acc A->cX R m0 lv (yo c e xs A m) (zu cd ed ds acc)
 |[],xs,acc,A,m,E,a,b,f=>by
  rw[a.nil_inv];unfold yo zu bo;by_cases z:acc.length<=aA
  .rw[N0 z];exact⟨acc,m,A,rfl,z,rfl,E,b,f⟩
  .rw[N1 z];trivial
 |d::ds,xs,acc,A,m,E,a,b,f=>by
  obtain⟨x,r,rfl,p,q⟩:=a.cons_inv;have hl:=E.len;have u:∀{n:Nat}{Y:Me}{d:Dat}{w:Wd},m0.length<=n->ai (Rf (Rf R m0.length) n) Y d w->ai (Rf R m0.length) Y d w:=λhn k=>ai.frame (λl o r z=>⟨by rcases r with (r|r)|r;exact .inl r;exact .inr r;exact .inr (by lia),z⟩) _ _ k;unfold yo zu;have I:=O _ m d x (λl z=>.inl z) E p;cases g:cd d with
  |no=>trivial
  |ok t=>
   rw[g]at I;obtain⟨w,m1,I,G,h⟩:=I;rw[I];simp only[Rz.bind,Rd.bind];cases t with
   |bl t=>
    rw[ag.mp h];have J:∀{ds:P9}{xs:R7},ab (Rf R m0.length) m ds xs->ab (Rf R m0.length) m1 ds xs:=λk=>ab.frame (λl o r z=>⟨r,G l o z⟩) _ _ k;cases t with
    |false=>exact wB O Q ds r acc A m1 (E.trans G) (J q) (J b) (f.up G)
    |true=>
     have H:=Q _ m1 d x (λl z=>.inl z) (E.trans G) (ai.frame (λl o r z=>⟨r,G l o z⟩) _ _ p);have U:=(E.trans G).len;simp only;cases i:ed d with
     |no=>trivial
     |ok y=>
      rw[i]at H;have M:=H.sim;obtain⟨w,m2,B,H,N,j,nd,hB⟩:=H;obtain⟨w',m2',M,_,k3⟩:=M;rw[H]at M ⊢;cases M;simp only[Rz.bind,Rd.bind,b.len];split
      .refine wB O Q ds r _ _ m2 ((E.trans G).trans N) (ab.frame (λl o r z=>⟨r,N l o z⟩) _ _ (J q)) ((ab.frame (λl o r z=>⟨r,N l o z⟩) _ _ (J b)).app (.cons (u U k3) .nil)) ((f.up G).push (E.trans G) N ?_ nd hB);intro z;rw[z]at j;exact j
      .trivial
   |_=>trivial
theorem vP (H:m0[l]?=some (.L E))(g:∀(R':P5) m d x,(∀l,R l->R' l)->Le m0 m->ai R' m d x->af R' m (c x m) (cd d))(h:∀(R':P5) m d x,(∀l,R l->R' l)->Le m0 m->ai R' m d x->aL R' m lv (e x m) (ed d)):
  ∀(ds:P9) (i k:Nat) (acc:P9) (A:R7) (m:Me),Le m0 m->ab (Rf R m0.length) m ds (E.drop i)->i+ds.length=E.length->ds.length<k->ab (Rf R m0.length) m acc A->cn m0 m lv acc A->cX R m0 lv (yw c e l k i A m) (zu cd ed ds acc)
 |[],i,0,acc,A,m,G,a,M,J,b,f=>by simp at J
 |d::ds,i,0,acc,A,m,G,a,M,J,b,f=>by simp at J
 |[],i,k+1,acc,A,m,G,a,M,J,b,f=>by
  unfold yw zu zh bo;rw[G l _ H];simp only;rw[Qq (by simp at M;lia)];by_cases z:acc.length<=aA
  .rw[N0 z];exact⟨acc,m,A,rfl,z,rfl,G,b,f⟩
  .rw[N1 z];trivial
 |d::ds,i,k+1,acc,A,m,G,a,M,J,b,f=>by
  obtain⟨x,r,e0,p,q⟩:=a.cons_inv;have hx:E[i]?=some x:=by
   have:(E.drop i)[0]?=some x:=by rw[e0];rfl
   simpa using this
  have hr:r=E.drop (i+1):=by
   have:(E.drop i).drop 1=r:=by rw[e0];rfl
   rw[<-this,Ws]
  rw[hr]at q;have N:i+1+ds.length=E.length:=by simp at M;lia
  have O:ds.length<k:=by simp at J;lia
  have hl:=G.len;have sh:∀{n:Nat}{m':Me}{d:Dat}{w:Wd},m0.length<=n->ai (Rf (Rf R m0.length) n) m' d w->ai (Rf R m0.length) m' d w:=λhn k=>ai.frame (λl o r z=>⟨by rcases r with (r|r)|r;exact .inl r;exact .inr r;exact .inr (by lia),z⟩) _ _ k;unfold yw zu zh;rw[G l _ H];simp only;rw[hx];simp only;have U:=g _ m d x (λl z=>.inl z) G p;cases e1:cd d with
  |no=>trivial
  |ok t=>
   rw[e1]at U;obtain⟨w,m1,U,I,k1⟩:=U;rw[U];simp only[Rz.bind,Rd.bind];cases t with
   |bl t=>
    rw[ag.mp k1];have Y:∀{ds:P9}{xs:R7},ab (Rf R m0.length) m ds xs->ab (Rf R m0.length) m1 ds xs:=λk=>ab.frame (λl o r z=>⟨r,I l o z⟩) _ _ k;cases t with
    |false=>exact vP H g h ds (i+1) k acc A m1 (G.trans I) (Y q) N O (Y b) (f.up I)
    |true=>
     have Q:=h _ m1 d x (λl z=>.inl z) (G.trans I) (ai.frame (λl o r z=>⟨r,I l o z⟩) _ _ p);have hl1:=(G.trans I).len;simp only;cases e2:ed d with
     |no=>trivial
     |ok y=>
      rw[e2]at Q;have j:=Q.sim;obtain⟨w,m2,B,Q,u,k2,nd,hB⟩:=Q;obtain⟨w',m2',j,_,k3⟩:=j;rw[Q]at j ⊢;cases j;simp only[Rz.bind,Rd.bind,b.len];split
      .refine vP H g h ds (i+1) k _ _ m2 ((G.trans I).trans u) (ab.frame (λl o r z=>⟨r,u l o z⟩) _ _ (Y q)) N O ((ab.frame (λl o r z=>⟨r,u l o z⟩) _ _ (Y b)).app (.cons (sh hl1 k3) .nil)) ((f.up I).push (G.trans I) u ?_ nd hB);intro z;rw[z]at k2;exact k2
      .trivial
   |_=>trivial
theorem vQ (O:lO (Rf R m0.length) m0 ps g)(Y:∀(R':P5) m p a b,(∀l,R l->R' l)->Le m0 m->ai R' m p.1 a->ai R' m p.2 b->af R' m (c a b m) (cd p))(j:∀(R':P5) m p a b,(∀l,R l->R' l)->Le m0 m->ai R' m p.1 a->ai R' m p.2 b->aL R' m lv (e a b m) (ed p)):
  ∀(ds:List (Dat×Dat)) (i k:Nat) (acc:P9) (A:R7) (m:Me),Le m0 m->ds=ps.drop i->i+ds.length=ps.length->ds.length<k->ab (Rf R m0.length) m acc A->cn m0 m lv acc A->cX R m0 lv (zI c e g k i A m) (zu cd ed ds acc)
 |[],i,0,acc,A,m,E,a,I,H,b,f=>by simp at H
 |d::ds,i,0,acc,A,m,E,a,I,H,b,f=>by simp at H
 |[],i,k+1,acc,A,m,E,a,I,H,b,f=>by
  unfold zI zu bo;rw[(O m E).2 i (by simp at I;lia)];simp only;by_cases z:acc.length<=aA
  .rw[N0 z];exact⟨acc,m,A,rfl,z,rfl,E,b,f⟩
  .rw[N1 z];trivial
 |d::ds,i,k+1,acc,A,m,E,a,I,H,b,f=>by
  have hx:ps[i]?=some d:=by
   have:(ps.drop i)[0]?=some d:=by rw[<-a];rfl
   simpa using this
  have hr:ds=ps.drop (i+1):=by
   have:(ps.drop i).drop 1=ds:=by rw[<-a];rfl
   rw[<-this,Ws]
  have J:i+1+ds.length=ps.length:=by simp at I;lia
  have M:ds.length<k:=by simp at H;lia
  obtain⟨u,v,e0,p,q⟩:=(O m E).1 i d hx;have hl:=E.len;have sh:∀{n:Nat}{m':Me}{d:Dat}{w:Wd},m0.length<=n->ai (Rf (Rf R m0.length) n) m' d w->ai (Rf R m0.length) m' d w:=λhn k=>ai.frame (λl o r z=>⟨by rcases r with (r|r)|r;exact .inl r;exact .inr r;exact .inr (by lia),z⟩) _ _ k;unfold zI zu;rw[e0];simp only;have Q:=Y _ m d u v (λl z=>.inl z) E p q;cases e1:cd d with
  |no=>trivial
  |ok t=>
   rw[e1]at Q;obtain⟨w,m1,Q,G,k1⟩:=Q;rw[Q];simp only[Rz.bind,Rd.bind];cases t with
   |bl t=>
    rw[ag.mp k1];have fr:∀{ds:P9}{xs:R7},ab (Rf R m0.length) m ds xs->ab (Rf R m0.length) m1 ds xs:=λk=>ab.frame (λl o r z=>⟨r,G l o z⟩) _ _ k;cases t with
    |false=>exact vQ O Y j ds (i+1) k acc A m1 (E.trans G) hr J M (fr b) (f.up G)
    |true=>
     have N:=j _ m1 d u v (λl z=>.inl z) (E.trans G) (ai.frame (λl o r z=>⟨r,G l o z⟩) _ _ p) (ai.frame (λl o r z=>⟨r,G l o z⟩) _ _ q);have h:=(E.trans G).len;simp only;cases e2:ed d with
     |no=>trivial
     |ok y=>
      rw[e2]at N;have U:=N.sim;obtain⟨w,m2,B,N,l2,k2,nd,hB⟩:=N;obtain⟨w',m2',U,_,k3⟩:=U;rw[N]at U ⊢;cases U;simp only[Rz.bind,Rd.bind,b.len];split
      .refine vQ O Y j ds (i+1) k _ _ m2 ((E.trans G).trans l2) hr J M ((ab.frame (λl o r z=>⟨r,l2 l o z⟩) _ _ (fr b)).app (.cons (sh h k3) .nil)) ((f.up G).push (E.trans G) l2 ?_ nd hB);intro z;rw[z]at k2;exact k2
      .trivial
   |_=>trivial
def cX.sim (h:cX R m lv r H)(hl:∀ds,I (.L ds)=if ds.all (λx=>lv x == .F)then .F else .top):aL R m I r H:=by
 cases H with
 |no=>trivial
 |ok d=>
  obtain⟨out,m2,B,rfl,E,rfl,G,J,own⟩:=h;have e:=J.len;cases z:out.all (λx=>lv x == .F)with
  |true=>
   obtain⟨A,a,b,c⟩:=own λy M=>by simpa using Qx.mp z y M
   have:=rl (R:=R) (lv:=I) G a b c (by rw[hl,z];rfl) e;unfold bo at this;rw[N0 E]at this;exact this
  |false=>
   unfold alloc;rw[<-e,N0 E];have N:=G.len;refine⟨_,_,[m2.length],rfl,G.trans (Le.app m2 _),?_,by simp,by simp;exact N⟩;rw[hl,z];refine⟨out,_,B,rfl,rfl,rfl,by simp,ab.frame (λl o r z=>⟨⟨r,?_⟩,Le.app m2 _ l o z⟩) out B J⟩;have:=(Qa.mp z).1;simp;lia
theorem xI(lev:R9):∀(e:Ex) (d:Dat),ay d=true->aU lev e d=.F
 |.T a,d,h=>xI lev a d h
 |.comp _ _ _,d,h=>N0 h
 |.compP _ _ _ _ _,d,h=>N0 h
 |.L _,d,h=>N0 h
 |.P _ _,d,h=>N0 h
 |.call _ _,d,h=>N0 h
 |.blt b _,d,h=>by cases b<;>exact N0 h
 |.bin _ _ _,d,h=>N0 h
 |.V _,d,h=>N0 h
 |.lit _,d,h=>N0 h
 |.neg _,d,h=>N0 h
 |.not _,d,h=>N0 h
 |.and _ _,d,h=>N0 h
 |.or _ _,d,h=>N0 h
 |.cmp _ _ _,d,h=>N0 h
 |.chain _ _ _ _ _,d,h=>N0 h
 |.ife _ _ _,d,h=>N0 h
 |.u,d,h=>N0 h
 |.isi _ _,d,h=>N0 h
 |.dict0,d,h=>N0 h
 |.dget _ _,d,h=>N0 h
 |.dop k _ _ _,d,h=>by cases k<;>exact N0 h
 |.i _ _,d,h=>N0 h
 |.meth _ _ _,d,h=>N0 h
 |.rng _ _ _,d,h=>N0 h
def aL.newTop{R:P5}{m0 m:Me}{ds:P9}{xs:R7}{lv:Dat->Lv}(A:Le m0 m)(h:ab (Rf R m0.length) m ds xs)(hl:lv (.L ds)=.top):aL R m0 lv (alloc m xs) (bo ds):=by
 unfold bo alloc;rw[h.len];by_cases z:xs.length<=aA
 .rw[N0 z,N0 z];refine⟨_,_,[m.length],rfl,A.trans (Le.app m _),?_,by simp,by simp;exact A.len⟩;rw[hl];refine⟨ds,_,xs,rfl,rfl,rfl,by simp,ab.frame (λl o r z=>⟨⟨r,?_⟩,Le.app m _ l o z⟩) ds xs h⟩;have:=(Qa.mp z).1;simp;lia
 .rw[N1 z,N1 z];exact aL.no
set_option tactic.hygienic true in
def F1{R:P5}{m:Me}{d e:Dat}{x y:Wd}{lv:Dat->Lv}(op:Bo)(hl:∀d,lv d=if ay d then .F else match d with |.L ds=>if aZ ds then .F else .top|_=>.no)(a:ai R m d x)(b:ai R m e y):aL R m lv (cB op x y m) (yK op d e):=by
 have H:∀A,lv (.L A)=if aZ A then .F else .top:=λA=>by rw[hl];simp[ay]
 have B:=qe op a b;cases d with
 |L ds=>
  obtain⟨l,M,rfl,_,I,E⟩:=av.mp a;cases e with
  |L A=>
   obtain⟨U,N,rfl,_,O,J⟩:=av.mp b;cases op<;>first|exact aL.no|skip
   simp only[cB,yK,I,O];exact aL.new (E.app J) H
  |int k=>
   rw[aa.mp b];cases op<;>first|exact aL.no|skip
   simp only[cB,yK,I];by_cases z:-(aA:Int)<=k/\k<=(aA:Int)
   .rw[N0 z,N0 z];exact aL.new (E.rep _) H
   .rw[N1 z,N1 z];exact aL.no
  |_=>exact aL.no
 |int i=>
  cases e with
  |int j=>
   have Q:∀r:Rd,af R m (cB op x y m) r->(∀d,r=.ok d->ay d=true)->aL R m lv (cB op x y m) r:=by
    intro r h f;cases r with
    |ok d=>
     obtain⟨w,G,h,l,k⟩:=h;refine⟨w,G,[],h,l,?_,QB,by simp⟩;rw[hl,N0 (f d rfl)];exact k.flat d w (f d rfl)
    |no=>trivial
   refine Q _ B λd h=>?_;cases op<;>simp only[yK]at h
   .cases h;rfl
   .cases h;rfl
   all_goals (split at h<;>(cases h;try rfl))
  |_=>exact aL.no
 |T ds=>
  obtain⟨M,rfl,E⟩:=ah.mp a;cases e with
  |T A=>
   obtain⟨N,rfl,J⟩:=ah.mp b;cases op<;>first|exact aL.no|skip
   simp only[yK]at B ⊢;split at B
   .next z=>
    rw[N0 z];obtain⟨w,G,h,l,k⟩:=B;refine⟨w,G,[],h,l,?_,QB,by simp⟩;rw[hl];split
    .next f=>exact k.flat _ w f
    .exact ⟨ai.frame (λl o r z=>⟨⟨r,by simp⟩,z⟩) _ w k,rfl⟩
   .next z=>rw[N1 z];exact aL.no
  |_=>exact aL.no
 |_=>exact aL.no
set_option tactic.hygienic true in
theorem xn (H:bn lev cl cd):∀(e:Ex) (R:P5) (m:Me) (de:aI) (env:En),bB R m (zl e) de env->aL R m (aU lev e) (ae cl e env m) (au cd e de)
 |.call k a,R,m,de,env,q=>by
  have e:aU lev (.call k a)=we lev k:=by funext d;simp[we]
  rw[e];refine(za H.r a R m de env q).bindO λd w m1 Q O=>?_;exact H k _ _ _ m1 (yz O)
 |.bin op a b,R,m,de,env,q=>by
  refine(za H.r a R m de env q.left).bindO λd w m1 Q O=>?_;refine(za H.r b _ m1 de env (q.right.up (λ_=>.inl) Q)).bindO λd2 w2 m2 U N=>?_;exact F1 op (λd=>by cases d<;>rfl) (O.up _ U) N
 |.blt b a,R,m,de,env,q=>by
  by_cases hb:b=.list
  .subst hb;refine(za H.r a R m de env q).bindO λd w m1 Q O=>?_;have N:=yz O;simp only[wF];split
   .next x hx=>
    rw[hx]at N;obtain⟨x',r,e0,p,q0⟩:=N.cons_inv;rw[e0,q0.nil_inv];split
    .next z=>obtain⟨ys,h,q⟩:=xw p z;simp only[vf,h];exact aL.new q (λes=>by simp[ay])
    .exact aL.no
   .exact aL.no
  .exact (za H.r (.blt b a) R m de env q).own λd=>by cases b<;>first|exact N2 rfl hb|rfl
 |.L a,R,m,de,env,q=>by
  have u:=xn H a R m de env q;show aL R m _ ((ae cl a env m).bind λx m1=>alloc m1 (zj x)) ((au cd a de).bind λx=>bo (zw x));cases ea:au cd a de with
  |no=>trivial
  |ok d=>
   rw[ea]at u;have hs:=u.sim;obtain⟨w,m1,A,h,l,k,nd,hA⟩:=u;obtain⟨w',m1',j,_,ks⟩:=hs;rw[h]at j;cases j;rw[h];simp only[Rz.bind,Rd.bind];have Y:=yz ks;cases z:aU lev a (.T (zw d)) == .F with
   |false=>exact aL.newTop l Y (by simp[ay,z])
   |true=>
    have z':aU lev a (.T (zw d))=.F:=by simpa using z
    have own:∃B,aj m1 (zw d) (zj w) B/\B.Nodup/\∀b∈B,m.length<=b:=by
     cases d with
     |T J=>
      rw[show aU lev a (.T J)=.F from z']at k;obtain⟨xs,rfl,O⟩:=aY.mp k;exact⟨A,O,nd,hA⟩
     |_=>refine⟨[],?_,QB,by simp⟩;exact Y.flat _ _ rfl
    obtain⟨B,o,nb,hB⟩:=own;exact rl l o nb hB (by simp[ay,z]) Y.len
 |.T a,R,m,de,env,q=>by
  have u:=xn H a R m de env q;have el:aU lev (.T a)=aU lev a:=by funext d;simp
  rw[el];show aL R m _ ((ae cl a env m).bind λx m1=>if(zj x).length<=aA then .ok (.T (zj x)) m1 else .no) ((au cd a de).bind λx=>if(zw x).length<=aA then .ok (.T (zw x))else .no);cases ea:au cd a de with
  |no=>trivial
  |ok d=>
   rw[ea]at u;have hs:=u.sim;obtain⟨w,m1,A,h,l,k,nd,hA⟩:=u;obtain⟨w',m1',j,_,ks⟩:=hs;rw[h]at j;cases j;rw[h];have Y:=yz ks;simp only[Rz.bind,Rd.bind,Y.len];split
   .cases d with
    |T J=>
     obtain⟨xs,rfl,_⟩:=ah.mp ks;exact⟨_,m1,A,rfl,l,k,nd,hA⟩
    |_=>
     refine⟨_,m1,[],rfl,l,?_,QB,by simp⟩;rw[xI lev a _ (by rfl)];exact aY.mpr ⟨_,rfl,Y.flat _ _ rfl⟩
   .trivial
 |.P a b,R,m,de,env,q=>by
  have g:=xn H a R m de env q.left;show aL R m _ ((ae cl a env m).bind λx m1=>(ae cl b env m1).bind λy m2=>.ok (.T (x::zj y)) m2) ((au cd a de).bind λx=>(au cd b de).bind λy=>.ok (.T (x::zw y)));cases ea:au cd a de with
  |no=>trivial
  |ok d=>
   rw[ea]at g;have hs:=g.sim;obtain⟨w,m1,A,h,l,k,nd,hA⟩:=g;obtain⟨w',m1',j,_,ks⟩:=hs;rw[h]at j;cases j;rw[h];simp only[Rz.bind,Rd.bind];have n:=xn H b _ m1 de env (q.right.up (R':=Rf R m.length) (λ_=>.inl) l);cases eb:au cd b de with
   |no=>trivial
   |ok d2=>
    rw[eb]at n;have hs2:=n.sim;obtain⟨w2,m2,A2,h2,U,N,nd2,hA2⟩:=n;obtain⟨w2',m2',h2',_,ks2⟩:=hs2;rw[h2]at h2';cases h2';rw[h2];simp only;have Y:=yz ks2;have hl1:=l.len;cases z:(aU lev a d == .F&&aU lev b (.T (zw d2)) == .F)with
    |false=>
     have:af R m (.ok (.T (w::zj w2)) m2) (.ok (.T (d::zw d2))):=
      af.lift l (af.lift U (cY (ah.mpr ⟨_,rfl,.cons (ks.up _ U) Y⟩)))
     obtain⟨w3,m3,h3,l3,k3⟩:=this;refine⟨w3,m3,[],h3,l3,?_,QB,by simp⟩;by_cases f:ay (.T (d::zw d2))=true
     .rw[xI lev _ _ f];exact k3.flat _ w3 f
     .have:aU lev (.P a b) (.T (d::zw d2))=.no:=by
       rw[ug,N1 f];simp only[z];rfl
      rw[this];exact⟨ai.frame (λl o r z=>⟨⟨r,by simp⟩,z⟩) _ w3 k3,rfl⟩
    |true=>
     rw[Qr]at z;have z1:aU lev a d=.F:=by simpa using z.1
     have z2:aU lev b (.T (zw d2))=.F:=by simpa using z.2
     rw[z1]at k;have own:∃B,aj m2 (zw d2) (zj w2) B/\B.Nodup/\∀b∈B,m1.length<=b:=by
      cases d2 with
      |T J=>
       rw[show aU lev b (.T J)=.F from z2]at N;obtain⟨xs,rfl,k3⟩:=aY.mp N;exact⟨A2,k3,nd2,hA2⟩
      |_=>refine⟨[],?_,QB,by simp⟩;exact Y.flat _ _ rfl
     obtain⟨B,o,nb,hB⟩:=own;refine⟨_,m2,A++B,rfl,l.trans U,?_,?_,?_⟩
     .have:aU lev (.P a b) (.T (d::zw d2))=.F:=by
       rw[ug];simp only[z1,z2];simp
      rw[this];exact aY.mpr ⟨_,rfl,.cons (aR.frame d w A (λx _ o q=>U x o q) k) o⟩
     .refine Qw.mpr ⟨nd,nb,λx hx y hy e=>?_⟩;have:=aR.lt d w A k x hx;have:=hB y hy;lia
     .intro x hx;rcases QJ.mp hx with hx|hx
      .exact hA x hx
      .have:=hB x hx;lia
 |.comp E it cond,R,m,de,env,q=>by
  refine(za H.r it R m de env q.left).bindO λd w m1 Q O=>?_;have hc:∀(I:P5) G d x,(∀l,Rf R m.length l->I l)->Le m1 G->ai I G d x->af I G (ae cl cond (env++[some x]) G) (au cd cond (de++[some d])):=
   λI G d x hR l k=>za H.r cond I G _ _ ((q.right.right.up (λl h=>hR l (.inl h)) (Q.trans l)).push k)
  have he:∀(I:P5) G d x,(∀l,Rf R m.length l->I l)->Le m1 G->ai I G d x->aL I G (aU lev E) (ae cl E (env++[some x]) G) (au cd E (de++[some d])):=
   λI G d x hR l k=>xn H E I G _ _ ((q.right.left.up (λl h=>hR l (.inl h)) (Q.trans l)).push k)
  have hl:∀J,aU lev (.comp E it cond) (.L J)=if J.all (λx=>aU lev E x == .F)then .F else .top:=λJ=>by simp[ay]
  have M:cn m1 m1 (aU lev E) [] []:=λ_=>⟨[],.nil,QB,by simp⟩;cases d with
  |T J=>
   obtain⟨xs,rfl,N⟩:=ah.mp O;exact(wB hc he J xs [] [] m1 (Le.refl _) (N.up _ (Le.refl _)) .nil M).sim hl
  |scr ns=>
   rw[aS.mp O];exact(wB hc he (ns.map .int) (ns.map .int) [] [] m1 (Le.refl _) (dQ ns) .nil M).sim hl
  |L J=>
   obtain⟨l,xs,rfl,_,hm,N⟩:=av.mp O;simp only[cy];by_cases z:J.length<=aA
   .rw[N0 z];have hl':=N.len;exact(vP hm hc he J 0 (aA+1) [] [] m1 (Le.refl _) (by simpa using (N.up _ (Le.refl _))) (by lia) (by lia) .nil M).sim hl
   .rw[N1 z];exact aL.no
  |_=>exact aL.no
 |.compP k E a b cond,R,m,de,env,q=>by
  refine(za H.r a R m de env q.left).bindO λd w m1 Q O=>?_;refine(za H.r b _ m1 de env (q.right.left.up (λl h=>.inl h) Q)).bindO λd' w' m2 U N=>?_;have hc:∀(I:P5) G (p:Dat×Dat) x y,(∀l,Rf (Rf R m.length) m1.length l->I l)->Le m2 G->ai I G p.1 x->ai I G p.2 y->af I G (ae cl cond (env++[some x]++[some y]) G) (au cd cond (de++[some p.1]++[some p.2])):=
   λI G d x y hR l k k'=>za H.r cond I G _ _ (((q.right.right.right.up (λl h=>hR l (.inl (.inl h))) ((Q.trans U).trans l)).push k).push k')
  have he:∀(I:P5) G (p:Dat×Dat) x y,(∀l,Rf (Rf R m.length) m1.length l->I l)->Le m2 G->ai I G p.1 x->ai I G p.2 y->aL I G (aU lev E) (ae cl E (env++[some x]++[some y]) G) (au cd E (de++[some p.1]++[some p.2])):=
   λI G d x y hR l k k'=>xn H E I G _ _ (((q.right.right.left.up (λl h=>hR l (.inl (.inl h))) ((Q.trans U).trans l)).push k).push k')
  have hl:∀J,aU lev (.compP k E a b cond) (.L J)=if J.all (λx=>aU lev E x == .F)then .F else .top:=λJ=>by simp[ay]
  have M:cn m2 m2 (aU lev E) [] []:=λ_=>⟨[],.nil,QB,by simp⟩;cases e:xl k d d' with
  |none=>exact aL.no
  |some ps=>
   obtain⟨pr,hln⟩:=j8 e ((O.up _ U).up m2.length (Le.refl _)) (N.up m2.length (Le.refl _));exact(vQ pr hc he ps 0 (aA+1) [] [] m2 (Le.refl _) (by simp) (by simp) (by lia) .nil M).sim hl
 |.V i,R,m,de,env,q=>(za H.r _ R m de env q).own λd=>rfl
 |.lit w,R,m,de,env,q=>(za H.r _ R m de env q).own λd=>rfl
 |.neg a,R,m,de,env,q=>(za H.r _ R m de env q).own λd=>rfl
 |.not a,R,m,de,env,q=>(za H.r _ R m de env q).own λd=>rfl
 |.and a b,R,m,de,env,q=>(za H.r _ R m de env q).own λd=>rfl
 |.or a b,R,m,de,env,q=>(za H.r _ R m de env q).own λd=>rfl
 |.cmp op a b,R,m,de,env,q=>(za H.r _ R m de env q).own λd=>rfl
 |.chain o p a b c,R,m,de,env,q=>(za H.r _ R m de env q).own λd=>rfl
 |.ife c a b,R,m,de,env,q=>(za H.r _ R m de env q).own λd=>rfl
 |.u,R,m,de,env,q=>(za H.r _ R m de env q).own λd=>rfl
 |.isi t a,R,m,de,env,q=>(za H.r _ R m de env q).own λd=>rfl
 |.dict0,R,m,de,env,q=>⟨_,_,[m.length],rfl,Le.app m _,bE.mpr ⟨_,[],[],rfl,rfl,by simp,.nil⟩,by simp,by simp⟩
 |.dget a b,R,m,de,env,q=>(za H.r _ R m de env q).own λd=>rfl
 |.dop .get _ _ _,R,m,de,env,q=>(za H.r _ R m de env q).own λd=>rfl
 |.dop .sum _ _ _,R,m,de,env,q=>(za H.r _ R m de env q).own λd=>rfl
 |.dop .mnv _ _ _,R,m,de,env,q=>(za H.r _ R m de env q).own λd=>rfl
 |.dop .dln _ _ _,R,m,de,env,q=>(za H.r _ R m de env q).own λd=>rfl
 |.dop .sok _ _ _,R,m,de,env,q=>(za H.r _ R m de env q).own λd=>rfl
 |.dop .lle _ _ _,R,m,de,env,q=>(za H.r _ R m de env q).own λd=>rfl
 |.dop .lix _ _ _,R,m,de,env,q=>(za H.r _ R m de env q).own λd=>rfl
 |.i a b,R,m,de,env,q=>(za H.r _ R m de env q).own λd=>rfl
 |.meth _ _ _,R,m,de,env,q=>(za H.r _ R m de env q).own λd=>rfl
 |.rng a b c,R,m,de,env,q=>(za H.r _ R m de env q).own λd=>rfl
set_option genInjectivity false in
inductive bG where
 |next (de:aI) (lv:R8)|ret (d:Dat) (l:Lv)|no
deriving Inhabited
noncomputable def Rd.bindS(r:Rd)(f:Dat->bG):bG:=match r with
 |.ok d=>f d
 |.no=>.no
noncomputable def Rd.okS(r:Rd)(f:Dat->bG):bG:=match r with
 |.ok d=>f d
 |_=>.no
noncomputable def aP:R5->R8->R8
 |[],A=>A
 |i::B,A=>aP B (A.set i .no)
noncomputable def b7(de:aI)(j:Nat)(lv:R8):R8:=match de[j]?,lv[j]? with
 |some (some (.L _)),some .F=>lv.set j .top
 |some (some (.L _)),some .top=>lv.set j .top
 |_,_=>lv.set j .no
noncomputable def xP(e:Ex)(de:aI)(lv:R8):R8:=match e with
 |.i (.V j) b=>b7 de j (aP (zl b) lv)
 |.dget (.V i) (.i (.V _) (.neg (.lit _)))=>aP [i] lv
 |e=>aP (zl e) lv
mutual
noncomputable def dC:Dat->Nat
 |.L A=>cI A+1
 |.D _ A=>cI A+1
 |.T A=>cI A+1
 |.N=>0
 |.bl _=>0
 |.int _=>0
 |.str _=>0
 |.scr _=>0
noncomputable def cI:P9->Nat
 |[]=>0
 |d::A=>max (dC d) (cI A)
end
noncomputable def yA(lv:R8)(j:Nat):Bool:=match lv[j]? with
 |some .top=>true
 |some .F=>true
 |_=>false
noncomputable def j9(lev:R9)(e:Ex)(d:Dat)(j:Nat)(de:aI)(lv:R8):Option (aI×R8):=
 if yA lv j=false then none
 else if aU lev e d=.F then some (de,lv)
 else if j∈zl e then none
 else match e with
  |.V i=>if lv[i]?=some .F/\lv[j]?=some .F then some (de.set i none,lv)else some (de,(aP [i] lv).set j .top)
  |e=>some (de,(xP e de lv).set j .top)
noncomputable def zN{E:Type}(body:E->aI->R8->bG):List E->aI->R8->bG
 |[],A,B=>.next A B
 |x::G,A,B=>match body x A B with
  |.next d1 H=>zN body G d1 H
  |r=>r
noncomputable def wf(c:aI->Rd)(body:aI->R8->bG):Nat->aI->R8->bG
 |0,_,_=>.no
 |k+1,A,B=>match c A with
  |.ok (.bl true)=>match body A B with
   |.next d1 E=>wf c body k d1 E
   |r=>r
  |.ok (.bl false)=>.next A B
  |_=>.no
noncomputable def ir:Dat->Bool
 |.T [_,y]=>ay y
 |_=>false
noncomputable def lH:Dat->Bool
 |.L r=>r.all ir
 |_=>false
noncomputable def bQ(d:Dat):Lv:=if ay d then .F else .no
noncomputable def dr(lev:R9)(e:Ex)(d:Dat)(lv:R8):Lv:=if ay d then .F else match e with
 |.V i=>(lv[i]?).getD .no
 |.T (.P (.V a) (.P (.V b) .u))=>if a≠b/\lv[a]?=some .F/\lv[b]?=some .F then .F else .no
 |.blt .sorted (.P (.i (.V j) (.V _)) .u)=>if lv[j]?=some .F then .F else .no
 |.dget (.V j) _=>if lv[j]?=some .F then .F else .no
 |.comp (.T (.P (.V j) (.P A .u))) (.call f a) (.lit (.bl true))=>if j=lv.length/\lev f=.F/\lH d=true then .F else aU lev (.comp (.T (.P (.V j) (.P A .u))) (.call f a) (.lit (.bl true))) d
 |e=>aU lev e d
noncomputable def vR(de:aI)(j:Nat):Option P9:=match de[j]? with
 |some (some (.L A))=>some A
 |_=>none
noncomputable def kx(lev:R9)(i:Nat)(e:Ex)(d:Dat)(de:aI)(lv:R8):bG:=
 if aU lev e d=.F then .next (de.set i (some d)) (lv.set i .F)else .next (de.set i (some d)) ((xP e de lv).set i (aU lev e d))
noncomputable def rX(lev:R9)(j:Nat)(k:Dat)(e:Ex)(d:Dat)(de:aI)(lv:R8):bG:=match k,vR de j with
 |.int k,some A=>match ix A.length k with
  |some p=>match j9 lev e d j de lv with
   |some (B,E)=>.next (B.set j (some (.L (A.set p d)))) E
   |none=>if yA lv j&&decide (dC d<dC (.L A))&&(ay d==false)then .next (de.set j (some (.L (A.set p d)))) ((aP (zl e) lv).set j .top)else .no
  |none=>.no
 |_,_=>.no
noncomputable def fj:P9->Bool
 |[]=>true
 |.T [.L _,_]::r=>fj r
 |_=>false
noncomputable def yt(_ _:Sm):Option Unit:=none
noncomputable def Cw(lev:R9)(cl:N9)(e:Ex)(de:aI)(lv:R8):bG:=match e with
  |.meth .append (.V j) (.P e .u)=>(au cl e de).okS λd=>match vR de j with
   |some A=>if A.length<aA then match j9 lev e d j de lv with
    |some (B,E)=>.next (B.set j (some (.L (A++[d])))) E
    |none=>.no
    else .no
   |none=>.no
  |.meth .reverse (.V j) .u=>match vR de j with
   |some A=>if yA lv j then .next (de.set j (some (.L A.reverse))) lv else .no
   |none=>.no
  |.meth _ _ _=>.no
  |e=>(au cl e de).bindS λ_=>.next de lv
noncomputable def fL(j:Nat)(de:aI)(lv:R8):Option (Int×aI):=match vR de j with
 |some A=>match A.getLast? with
  |some (.int v)=>if yA lv j=true then some (v,de.set j (some (.L A.dropLast)))else none
  |_=>none
 |none=>none
noncomputable def fi(q:P8):Dat:=.T (q.map Dat.int)
noncomputable def aK(lev:R9)(cl:N9):Sm->aI->R8->bG
 |.skip,A,B=>.next A B
 |.seq a b,A,B=>match aK lev cl a A B with
  |.next d1 N=>aK lev cl b d1 N
  |r=>r
 |.a i e,A,B=>(au cl e A).bindS λd=>kx lev i e d A B
 |.asgS o k e,A,B=>match o with
  |.V j=>(au cl e A).okS λd=>(au cl k A).okS λk=>rX lev j k e d A B
  |_=>.no
 |.aug i O e,A,B=>match A[i]? with
  |some (some (.int a))=>(au cl e A).okS λy=>match y with
   |.int b=>(yK O (.int a) (.int b)).okS λz=>.next (A.set i (some z)) (B.set i .F)
   |_=>.no
  |_=>.no
 |.ite c a b,A,B=>(au cl c A).bindS λx=>match x with
  |.bl true=>aK lev cl a A B
  |.bl false=>aK lev cl b A B
  |_=>.no
 |.forv i I E,A,B=>(au cl I A).bindS λd=>match cy d with
  |some M=>zN (λx A B=>aK lev cl E (A.set i (some x)) (B.set i (bQ x))) M A (if ay d then B else xP I A B)
  |none=>.no
 |.fort i j I E,A,B=>(au cl I A).bindS λd=>match cy d with
  |some M=>zN (λx A B=>match x with
    |.T [a,b]=>aK lev cl E ((A.set i (some a)).set j (some b)) ((B.set i (bQ a)).set j (bQ b))
    |_=>.no) M A (if ay d then B else xP I A B)
  |none=>.no
 |.while c E,A,B=>wf (au cl c) (aK lev cl E) 1000000 A B
 |.ret e,A,B=>(au cl e A).bindS λd=>.ret d (dr lev e d B)
 |.expr e,A,B=>Cw lev cl e A B
 |.bor i e c f,A,B=>(au cl e A).okS λd=>(au cl c (A.set i (some d))).okS λb=>match b with
  |.bl true=>.ret (.bl false) .F
  |.bl false=>(au cl f (A.set i (some d))).okS λb=>match b with
   |.bl true=>.ret (.bl false) .F
   |.bl false=>if i<A.length then .next (A.set i none) (B.set i .F)else .no
   |_=>.no
  |_=>.no
 |.clrT i k x,A,B=>match vR A x with
  |some J=>if fj J=true/\i≠k/\i≠x/\k≠x/\i<A.length/\k<A.length/\B[x]?=some .F/\J.length<=aA then .next (((A.set i none).set k none).set x none) (((B.set i .F).set k .F).set x .F)else .no
  |none=>.no
 |.forE i j a E,A,B=>(au cl a A).okS λx=>match xl .enum x (.int 0)with
  |some Q=>zN (λ(p:Dat×Dat) A B=>aK lev cl E ((A.set i (some p.1)).set j (some p.2)) ((B.set i (bQ p.1)).set j (bQ p.2))) Q A (aP (zl a) B)
  |none=>.no
 |.popI j e a b,A,B=>match fL j A B with
  |some (v,G)=>(au cl e G).okS λd=>match d with
   |.int w=>if v=w then aK lev cl b G B else aK lev cl a G B
   |_=>.no
  |none=>.no
 |.dput j k e,A,B=>(au cl e A).okS λd=>(au cl k A).okS λq=>match A[j]?,xF q with
  |some (some (.D H J)),some q=>if B[j]?=some .F/\aU lev e d=.F/\H.length<aA then .next (A.set j (some (.D (xZ H q) (yf H J q d)))) B else .no
  |_,_=>.no
 |.forD i x E,A,B=>match A[x]? with
  |some (some (.D H _))=>if H.length<=aA then zN (λx A B=>aK lev cl E (A.set i (some x)) (B.set i (bQ x))) (H.map fi) A (B.set x .no)else .no
  |_=>.no
 |.never,_,_=>.no
def uf{lev:R9}{cl:N9}{a b:Sm}{de:aI}{lv:R8}:aK lev cl (.seq a b) de lv=match aK lev cl a de lv with
  |.next d1 A=>aK lev cl b d1 A
  |r=>r:=rfl
noncomputable def xy(A:Fn)(ds:P9):aI:=ds.map some++QH (A.sz-ds.length) none
noncomputable def xz(A:Fn)(ds:P9):R8:=ds.map bQ++QH (A.sz-ds.length) .F
noncomputable def jK:Lv->Lv->Bool
 |_,.no=>true
 |.F,.F=>true
 |.top,.top=>true
 |_,_=>false
noncomputable def yY(l:Lv):bG->Rd
 |.next _ _=>.ok .N
 |.ret d k=>if ay d || jK k l then .ok d else .no
 |_=>.no
noncomputable def yu(lev:R9)(cl:N9)(k:Nat)(A:Fn)(ds:P9):Rd:=
 if ds.length=A.ar then yY (lev k) (aK lev cl A.body (xy A ds) (xz A ds))else .no
noncomputable def jB(lev:R9)(T:List Fn):Nat->Nat->P9->Rd
 |0,_,_=>.no
 |d+1,k,A=>match T[k]? with
  |some B=>yu lev (jB lev T d) k B A
  |none=>.no
noncomputable def zY(RR:P5)(A:O2):Nat->Prop:=λl=>RR l/\∀i,l∉A i
structure Inv(lo:Nat)(RR:P5)(m:Me)(de:aI)(lv:R8)(env:En)(A:O2):Prop where
 len:de.length=env.length
 lvl:lv.length=de.length
 rr:∀l,lo<=l->RR l
 lom:lo<=m.length
 slot:∀i d l,de[i]?=some (some d)->lv[i]?=some l->∃w,env[i]?=some (some w)/\a7 (zY RR A) m l d w (A i)
 nd:∀i,(A i).Nodup
 dj:∀i j a,a∈A i->a∈A j->i=j
 bd:∀i a,a∈A i->lo<=a/\a<m.length
noncomputable def a9(A:O2)(m:Me)(B:O2)(m':Me):Prop:=(∀(l:Nat) o,(∀i,l∉A i)->m[l]?=some o->(∀i,l∉B i)/\m'[l]?=some o)/\m.length<=m'.length
def a9.refl(A:O2)(m:Me):a9 A m A m:=⟨λ_ _ h k=>⟨h,k⟩,Qk _⟩
def a9.trans{A B C:O2}{m m1 m2:Me}(h:a9 A m B m1)(k:a9 B m1 C m2):a9 A m C m2:=
 ⟨λl o a b=>k.1 l o (h.1 l o a b).1 (h.1 l o a b).2,Qp h.2 k.2⟩
def a9.rep (h:a9 A m B m')(q:ai (zY RR A) m d w):ai (zY RR B) m' d w:=
 ai.frame (λl o r z=>⟨⟨r.1,(h.1 l o r.2 z).1⟩,(h.1 l o r.2 z).2⟩) d w q
def a9.repL (h:a9 A m B m')(q:ab (zY RR A) m d w):ab (zY RR B) m' d w:=
 ab.frame (λl o r z=>⟨⟨r.1,(h.1 l o r.2 z).1⟩,(h.1 l o r.2 z).2⟩) d w q
def Inv.getlv (I:Inv lo RR m de lv env A){i:Nat}(h:de[i]?=some o):∃l,lv[i]?=some l:=by
 obtain⟨B,_⟩:=Qa.mp h;exact⟨_,Ql (by rw[I.lvl];exact B)⟩
def Inv.envR (I:Inv lo RR m de lv env A)(vs:R5):bB RR m vs de env:=
 ⟨I.len,λi _ d h=>by
  obtain⟨l,hl⟩:=I.getlv h;obtain⟨w,a,b⟩:=I.slot i d l h hl;exact⟨w,a,b.rep (λ_ z=>z.1) (λa B=>I.rr a (I.bd i a B).1)⟩⟩
def Inv.ext{lo:Nat}{RR:P5}{m m':Me}{de:aI}{lv:R8}{env:En}{A:O2}(I:Inv lo RR m de lv env A)(h:Le m m'):Inv lo RR m' de lv env A:=
 ⟨I.len,I.lvl,I.rr,Qp I.lom h.len,λi d l a b=>by
  obtain⟨w,p,q⟩:=I.slot i d l a b;exact⟨w,p,q.frame (λl o r z=>⟨r,h l o z⟩) (λl _ o z=>h l o z)⟩,I.nd,I.dj,λi a B=>⟨(I.bd i a B).1,Qj (I.bd i a B).2 h.len⟩⟩
def xQ (h:Le m m'):a9 A m A m':=⟨λl o a b=>⟨a,h l o b⟩,h.len⟩
noncomputable def aG(A:O2)(i:Nat)(B:R5):Nat->R5:=λk=>if k=i then B else A k
def zf:aG A i B i=B:=by simp[aG]
def ze (h:k≠i):aG A i B k=A k:=by simp[aG,h]
set_option tactic.hygienic true in
def Inv.store{lo:Nat}{RR:P5}{m m':Me}{de:aI}{lv:R8}{env:En}{A:O2}(I:Inv lo RR m de lv env A)(h:Le m m')(i:Nat){d:Dat}{l:Lv}{w:Wd}{B:R5}
  (q:a7 (λl=>(zY RR A l\/m.length<=l)/\l∉B) m' l d w B) (Y:B.Nodup) (N:∀b∈B,m.length<=b) :
  Inv lo RR m' (de.set i (some d)) (lv.set i l) (env.set i (some w)) (aG A i B)/\a9 A m (aG A i B) m':=by
 have O:=q.lt;have U:∀(x:Nat) (o:Ob),(∀k,x∉A k)->m[x]?=some o->∀k,x∉aG A i B k:=by
  intro x o Q G k;by_cases e:k=i
  .subst e;rw[zf];intro H;have:=N x H;have:=(Qa.mp G).1;lia
  .rw[ze e];exact Q k
 refine⟨⟨by simp[I.len],by simp[I.lvl],I.rr,Qp I.lom h.len,?_,?_,?_,?_⟩,⟨λx o Q G=>⟨U x o Q G,h x o G⟩,h.len⟩⟩
 .intro k e u J M;by_cases z:k=i
  .rw[z]at J M ⊢;rw[QE]at J M;rw[N0 rfl]at J M;split at J
   .split at M
    .next g n=>
     cases J;cases M;refine⟨w,by rw[QE,N0 rfl,N0 (by rw[<-I.len];exact g)],?_⟩;rw[zf];refine q.frame (λx o r G=>⟨⟨?_,λk=>?_⟩,G⟩) (λ_ _ _ z=>z)
     .rcases r.1 with r1|r1
      .exact r1.1
      .exact I.rr x (Qp I.lom r1)
     .by_cases e:k=i
      .subst e;rw[zf];exact r.2
      .rw[ze e];rcases r.1 with r1|r1
       .exact r1.2 k
       .intro E;have:=(I.bd k x E).2;lia
    .cases M
   .cases J
  .rw[Qi (Ne.symm z)]at J M;obtain⟨t,a,b⟩:=I.slot k e u J M;refine⟨t,by rw[Qi (Ne.symm z)];exact a,?_⟩;rw[ze z];exact b.frame (λx o r G=>⟨⟨r.1,U x o r.2 G⟩,h x o G⟩) (λx _ o G=>h x o G)
 .intro k;by_cases e:k=i
  .subst e;rw[zf];exact Y
  .rw[ze e];exact I.nd k
 .intro k j a E H;by_cases e:k=i
  .subst e;rw[zf]at E;by_cases f:j=k
   .exact f.symm
   .rw[ze f]at H;have:=N a E;have:=(I.bd j a H).2;lia
  .rw[ze e]at E;by_cases f:j=i
   .subst f;rw[zf]at H;have:=N a H;have:=(I.bd k a E).2;lia
   .rw[ze f]at H;exact I.dj k j a E H
 .intro k a E;by_cases e:k=i
  .subst e;rw[zf]at E;exact⟨Qp I.lom (N a E),O a E⟩
  .rw[ze e]at E;exact⟨(I.bd k a E).1,Qj (I.bd k a E).2 h.len⟩
def Inv.weak{lo:Nat}{RR:P5}{m:Me}{de:aI}{lv:R8}{env:En}{A:O2}(I:Inv lo RR m de lv env A)(i:Nat){l:Lv}{B:R5}
  (Q:∀b∈B,b∈A i) (Y:B.Nodup) (q:∀d w,de[i]?=some (some d)->env[i]?=some (some w)->a7 (zY RR (aG A i B)) m l d w B) :
  Inv lo RR m de (lv.set i l) env (aG A i B)/\a9 A m (aG A i B) m:=by
 have U:∀x,(∀k,x∉A k)->∀k,x∉aG A i B k:=by
  intro x J k;by_cases e:k=i
  .subst e;rw[zf];intro N;exact J _ (Q x N)
  .rw[ze e];exact J k
 have sub:∀k a,a∈aG A i B k->a∈A k:=by
  intro k a E;by_cases e:k=i
  .subst e;rw[zf]at E;exact Q a E
  .rw[ze e]at E;exact E
 refine⟨⟨I.len,by simp[I.lvl],I.rr,I.lom,?_,?_,λk j a E N=>I.dj k j a (sub k a E) (sub j a N),λk a E=>I.bd k a (sub k a E)⟩,⟨λx o J H=>⟨U x J,H⟩,Qk _⟩⟩
 .intro k e u M G;by_cases z:k=i
  .subst z;rw[QE,N0 rfl]at G;split at G
   .cases G;obtain⟨g,O⟩:=I.getlv M;obtain⟨w,a,_⟩:=I.slot k e g M O;refine⟨w,a,?_⟩;rw[zf];exact q e w M a
   .cases G
  .rw[Qi (Ne.symm z)]at G;obtain⟨f,a,b⟩:=I.slot k e u M G;refine⟨f,a,?_⟩;rw[ze z];exact b.frame (λx o r H=>⟨⟨r.1,U x r.2⟩,H⟩) (λx _ o H=>H)
 .intro k;by_cases e:k=i
  .subst e;rw[zf];exact Y
  .rw[ze e];exact I.nd k
def Inv.down{lo:Nat}{RR:P5}{m:Me}{de:aI}{lv:R8}{env:En}{A:O2}(I:Inv lo RR m de lv env A)(i:Nat):
  Inv lo RR m de (lv.set i .no) env (aG A i [])/\a9 A m (aG A i []) m:=by
 refine I.weak i (by simp) QB λd w B G=>⟨?_,rfl⟩;obtain⟨l,hl⟩:=I.getlv B;obtain⟨J,a,b⟩:=I.slot i d l B hl;rw[G]at a;cases a;refine b.rep (λx r=>⟨r.1,λk=>?_⟩) (λx E=>⟨I.rr x (I.bd i x E).1,λk=>?_⟩)
 .by_cases e:k=i
  .subst e;rw[zf];simp
  .rw[ze e];exact r.2 k
 .by_cases e:k=i
  .subst e;rw[zf];simp
  .rw[ze e];intro H;exact e (I.dj k i x H E)
theorem yg:∀(vs:R5) (lv:R8) (k:Nat),(aP vs lv)[k]?=if k∈vs/\k<lv.length then some .no else lv[k]?
 |[],lv,k=>by simp[aP]
 |i::vs,lv,k=>by
  unfold aP;rw[yg vs (lv.set i .no) k];rw[Wx,QE];by_cases a:k∈vs/\k<lv.length
  .rw[N0 a,N0 ⟨Qg _ a.1,a.2⟩]
  .rw[N1 a];by_cases e:i=k
   .subst e;by_cases b:i<lv.length
    .simp[b]
    .simp[b]
   .rw[N1 e];by_cases c:k∈vs
    .have:¬k<lv.length:=λz=>a ⟨c,z⟩;rw[N1 (λz=>this z.2)]
    .rw[N1 (λz=>by rcases Qn.mp z.1 with z1|z1;exact e z1.symm;exact c z1)]
theorem Inv.downs:∀(vs:R5) {lv:R8}{A:O2},Inv lo RR m de lv env A ->
  ∃B,Inv lo RR m de (aP vs lv) env B/\a9 A m B m/\(∀i∈vs,B i=[])/\(∀i,B i=A i\/B i=[])/\∀i,i∉vs->B i=A i
 |[],lv,A,I=>⟨A,I,a9.refl A m,by simp,λi=>.inl rfl,λ_ _=>rfl⟩
 |j::vs,lv,A,I=>by
  obtain⟨G,H⟩:=I.down j;obtain⟨B,J,M,N,O,E⟩:=Inv.downs vs G;refine⟨B,J,H.trans M,λi hi=>?_,λi=>?_,λi hi=>?_⟩
  .by_cases q:i∈vs
   .exact N i q
   .rw[E i q];rcases Qn.mp hi with rfl|hi
    .exact zf
    .exact N2 hi q
  .rcases O i with z|z
   .rw[z];by_cases e:i=j
    .subst e;right;exact zf
    .left;exact ze e
   .exact .inr z
  .have:i≠j:=λe=>hi (by rw[e];simp);rw[E i (λz=>hi (Qg _ z)),ze this]
theorem Inv.top (I:Inv lo RR m de lv env A)(j:Nat)(M:de[j]?=some (some (.L ds)))(N:yA lv j=true):
  ∃l xs H,Inv lo RR m de (lv.set j .top) env H/\a9 A m H m/\H j=[l]/\(∀i,i≠j->H i=A i)/\env[j]?=some (some (.ref l))/\m[l]?=some (.L xs)/\ab (zY RR H) m ds xs/\l∈A j:=by
 unfold yA at N;obtain⟨Q,hl⟩:=I.getlv M;obtain⟨w,a,b⟩:=I.slot j _ Q M hl;rw[hl]at N;have O:∃l xs,w=.ref l/\l∈A j/\m[l]?=some (.L xs)/\ab (zY RR (aG A j [l])) m ds xs:=by
  cases Q with
  |no=>simp at N
  |top=>
   obtain⟨n,l,xs,e,rfl,E,G,r⟩:=b;cases e;refine⟨l,xs,rfl,by rw[E];simp,G,ab.frame (λx o r z=>⟨⟨r.1,λk=>?_⟩,z⟩) _ _ r⟩;by_cases e:k=j
   .subst e;rw[zf,<-E];exact r.2 k
   .rw[ze e];exact r.2 k
  |F=>
   obtain⟨l,xs,B,rfl,E,G,r⟩:=aM.mp b;refine⟨l,xs,rfl,by rw[E];simp,G,aj.rep ds xs B (λx J=>⟨I.rr x (I.bd j x (by rw[E];exact Qg _ J)).1,λk=>?_⟩) r⟩;have U:=I.nd j;rw[E]at U;by_cases e:k=j
   .subst e;rw[zf];intro z;rw[QK.mp z]at J;exact(QC.mp U).1 J
   .rw[ze e];intro z;exact e (I.dj k j x z (by rw[E];exact Qg _ J))
 obtain⟨l,xs,rfl,E,G,r⟩:=O;obtain⟨g,K⟩:=I.weak j (l:=.top) (B:=[l]) (by intro b f;rw[QK.mp f];exact E) (by simp) λd w Y u=>by
  rw[M]at Y;cases Y;rw[a]at u;cases u;exact⟨ds,l,xs,rfl,rfl,rfl,G,r⟩
 exact⟨l,xs,_,g,K,zf,λi t=>ze t,a,G,r,E⟩
def yD {m:Me}(h:l≠x):(m.set l o)[x]?=m[x]?:=Qi h
def xd {m:Me}(h:m[l]?=some p):(m.set l o)[l]?=some o:=by
 rw[QE,N0 rfl,N0 (Qa.mp h).1]
def Inv.putO{lo:Nat}{RR:P5}{m m1:Me}{de:aI}{lv:R8}{env:En}{A:O2}(I:Inv lo RR m de lv env A)(le:Le m m1){j l:Nat}{ob:Ob}(hl:l∈A j)(B:O2)
  (h3:∀k a,a∈B k->(∃U,a∈A U)\/m.length<=a) (Y:∀k,(B k).Nodup) (u:∀i k a,a∈B i->a∈B k->i=k) (g:∀k a,a∈B k->lo<=a/\a<m1.length)
  {E:aI}{G:R8}(J:E.length=de.length) (O:G.length=lv.length)
  (Q:∀k d M,k≠j->E[k]?=some (some d)->G[k]?=some M->de[k]?=some (some d)/\lv[k]?=some M/\B k=A k)
  (sj:∀d n,E[j]?=some (some d)->G[j]?=some n->∃w,env[j]?=some (some w)/\a7 (zY RR B) (m1.set l ob) n d w (B j)) :
  Inv lo RR (m1.set l ob) E G env B/\a9 A m B (m1.set l ob):=by
 have f:∀(x:Nat) (o:Ob),(∀k,x∉A k)->m[x]?=some o->(∀k,x∉B k)/\(m1.set l ob)[x]?=some o:=by
  intro x o N H;refine⟨λk t=>?_,?_⟩
  .rcases h3 k x t with⟨U,z⟩|z
   .exact N U z
   .have:=(Qa.mp H).1;lia
  .rw[yD (l:=l) (x:=x) (λe=>N j (by rw[<-e];exact hl))];exact le x o H
 refine⟨⟨J.trans I.len,by rw[O,I.lvl,J],I.rr,by rw[Wx];exact Qp I.lom le.len,?_,Y,u,λk a t=>by rw[Wx];exact g k a t⟩,⟨λx o N H=>f x o N H,by rw[Wx];exact le.len⟩⟩;intro k d M h y;by_cases e:k=j
 .subst e;exact sj d M h y
 .obtain ⟨a,b,c⟩:=Q k d M e h y;obtain⟨w,p,q⟩:=I.slot k d M a b;refine⟨w,p,?_⟩;rw[c];refine q.frame (λx o r H=>⟨⟨r.1,(f x o r.2 H).1⟩,(f x o r.2 H).2⟩) (λx N o H=>?_);rw[yD (l:=l) (x:=x) (λz=>e (I.dj k j x N (by rw[<-z];exact hl)))];exact le x o H
def Inv.put{lo:Nat}{RR:P5}{m m1:Me}{de:aI}{lv:R8}{env:En}{A:O2}(I:Inv lo RR m de lv env A)(le:Le m m1){j l:Nat}{xs ys:R7}(hl:l∈A j)(B:O2)
  (u:∀k a,a∈B k->(∃z,a∈A z)\/m.length<=a) (N:∀k,(B k).Nodup) (O:∀i k a,a∈B i->a∈B k->i=k) (Q:∀k a,a∈B k->lo<=a/\a<m1.length)
  {E:aI}{G:R8}(H:E.length=de.length) (J:G.length=lv.length)
  (M:∀k d U,k≠j->E[k]?=some (some d)->G[k]?=some U->de[k]?=some (some d)/\lv[k]?=some U/\B k=A k)
  (o:∀d Y,E[j]?=some (some d)->G[j]?=some Y->∃w,env[j]?=some (some w)/\a7 (zY RR B) (m1.set l (.L ys)) Y d w (B j)) :
  Inv lo RR (m1.set l (.L ys)) E G env B/\a9 A m B (m1.set l (.L ys)):=I.putO le hl B u N O Q H J M o
noncomputable def rW(m m1:Me)(ds:P9)(xs:R7)(A:P9)(ys:R7):Prop:=
 ∀B,B.Nodup->aj m ds xs B->∃E,aj m1 A ys E/\E.Nodup/\∀b∈E,b∈B\/m.length<=b
noncomputable def p8(RR:P5)(A:O2)(m m1:Me)(ds:P9)(xs:R7)(B:P9)(ys:R7):Prop:=
 ab (zY RR A) m ds xs->ab (λx=>zY RR A x\/m.length<=x) m1 B ys
noncomputable def fK(RR:P5)(A:O2)(m m1:Me)(ds:P9)(xs:R7)(E:P9)(ys:R7):Prop:=
 (∀B,B.Nodup->aj m ds xs B->∃G,aj m1 E ys G/\G.Nodup/\∀b∈G,b∈B\/m.length<=b)/\(ab (zY RR A) m ds xs->ab (λx=>zY RR A x\/m.length<=x) m1 E ys)
def Inv.mut (I:Inv lo RR m de lv env A)(n:de[j]?=some (some (.L ds)))(y:yA lv j=true):
  ∃l xs,env[j]?=some (some (.ref l))/\m[l]?=some (.L xs)/\ab RR m ds xs/\∀(m1:Me) (E:P9) (ys:R7),Le m m1->(lv[j]?=some .F->rW m m1 ds xs E ys)->(lv[j]?=some .top->p8 RR A m m1 ds xs E ys) ->
   ∃O,Inv lo RR (m1.set l (.L ys)) (de.set j (some (.L E))) lv env O/\a9 A m O (m1.set l (.L ys)):=by
 unfold yA at y;obtain⟨g,hl⟩:=I.getlv n;obtain⟨w,a,b⟩:=I.slot j _ g n hl;rw[hl]at y;have U:j<de.length:=(Qa.mp n).1;have M:∀(O:O2),(∀k,k≠j->O k=A k)->∀(E:P9) k d lk,k≠j->(de.set j (some (.L E)))[k]?=some (some d)->lv[k]?=some lk->de[k]?=some (some d)/\lv[k]?=some lk/\O k=A k:=by
  intro O h E k d lk e G H;rw[Qi (Ne.symm e)]at G;exact⟨G,H,h k e⟩
 cases g with
 |no=>simp at y
 |top=>
  obtain⟨es,l,xs,e,rfl,J,N,r⟩:=b;cases e;refine⟨l,xs,a,N,ab.frame (λ_ _ r z=>⟨r.1,z⟩) _ _ r,λm1 E ys le _ c=>⟨A,?_⟩⟩;have Y:=(Qa.mp N).1;refine I.put le (j:=j) (l:=l) (xs:=xs) (by rw[J];simp) A (λk a t=>.inl ⟨k,t⟩) I.nd I.dj (λk a t=>⟨(I.bd k a t).1,Qj (I.bd k a t).2 le.len⟩) (by simp) rfl (M A (λ_ _=>rfl) E) ?_;intro d g G H;rw[QE,N0 rfl,N0 U]at G;cases G;rw[hl]at H;cases H;refine⟨_,a,E,l,ys,rfl,rfl,J,xd (le l _ N),ab.frame (λx o r z=>?_) _ _ (c hl r)⟩;rcases r with r|r
  .exact ⟨r,by rw[yD (l:=l) (x:=x) (λe=>r.2 j (by rw[J,e];simp))];exact z⟩
  .exact ⟨⟨I.rr x (Qp I.lom r),λk hk=>by have:=(I.bd k x hk).2;lia⟩,by rw[yD (l:=l) (x:=x) (by lia)];exact z⟩
 |F=>
  obtain⟨l,xs,B,rfl,J,N,r⟩:=aM.mp b;have Y:=(Qa.mp N).1;have nd:=I.nd j;rw[J]at nd;refine⟨l,xs,a,N,aj.rep ds xs B (λx hx=>I.rr x (I.bd j x (by rw[J];exact Qg _ hx)).1) r,λm1 E ys le c _=>?_⟩;obtain⟨Q,o,nb,hB⟩:=c hl B (QC.mp nd).2 r;have u:l∉Q:=λz=>by
   rcases hB l z with z|z
   .exact (QC.mp nd).1 z
   .lia
  have sub:∀x∈l::Q,x∈A j\/m.length<=x:=by
   intro x hx;rcases Qn.mp hx with rfl|hx
   .left;rw[J];simp
   .rcases hB x hx with z|z
    .left;rw[J];exact Qg _ z
    .exact .inr z
  refine⟨aG A j (l::Q),?_⟩;refine I.put le (j:=j) (l:=l) (xs:=xs) (by rw[J];simp) _ ?_ ?_ ?_ ?_ (by simp) rfl (M _ (λk hk=>ze hk) E) ?_
  .intro k x hx;by_cases e:k=j
   .subst e;rw[zf]at hx;rcases sub x hx with z|z
    .exact .inl ⟨k,z⟩
    .exact .inr z
   .rw[ze e]at hx;exact .inl ⟨k,hx⟩
  .intro k;by_cases e:k=j
   .subst e;rw[zf];exact QC.mpr ⟨u,nb⟩
   .rw[ze e];exact I.nd k
  .intro i k x G H;by_cases e:i=j
   .by_cases f:k=j
    .rw[e,f]
    .rw[e,zf]at G;rw[ze f]at H;rcases sub x G with z|z
     .rw[e];exact I.dj j k x z H
     .have:=(I.bd k x H).2;lia
   .rw[ze e]at G;by_cases f:k=j
    .rw[f,zf]at H;rcases sub x H with z|z
     .rw[f];exact I.dj i j x G z
     .have:=(I.bd i x G).2;lia
    .rw[ze f]at H;exact I.dj i k x G H
  .intro k x hx;by_cases e:k=j
   .rw[e,zf]at hx;rcases Qn.mp hx with rfl|hx
    .exact ⟨(I.bd j _ (by rw[J];simp)).1,Qj Y le.len⟩
    .refine ⟨?_,aj.lt E ys Q o x hx⟩;rcases hB x hx with z|z
     .exact (I.bd j x (by rw[J];exact Qg _ z)).1
     .exact Qp I.lom z
   .rw[ze e]at hx;exact⟨(I.bd k x hx).1,Qj (I.bd k x hx).2 le.len⟩
  .intro d g G H;rw[QE,N0 rfl,N0 U]at G;cases G;rw[hl]at H;cases H;refine⟨_,a,?_⟩;rw[zf];exact aM.mpr ⟨l,ys,Q,rfl,rfl,xd (le l _ N),aj.frame E ys Q (λx hx o z=>by rw[yD (l:=l) (x:=x) (λe=>u (by rw[e];exact hx))];exact z) o⟩
theorem aj.item:∀{ds:P9}{xs:R7}{A:R5}{p:Nat}{d:Dat},aj m ds xs A->ds[p]?=some d->∃x B,(xs[p]?=some x/\aR m d x B)/\∀b∈B,b∈A
 |[],xs,A,p,d,h,z=>by simp at z
 |e::ds,xs,A,0,d,h,z=>by
  obtain⟨x,r,B,C,rfl,rfl,a,b⟩:=h.cons_inv;simp at z;subst z;exact⟨x,B,⟨rfl,a⟩,λb E=>QY _ E⟩
 |e::ds,xs,A,p+1,d,h,z=>by
  obtain⟨x,r,B,C,rfl,rfl,a,b⟩:=h.cons_inv;obtain⟨y,D,G,H⟩:=aj.item b (by simpa using z);exact⟨y,D,by simpa using G,λb E=>Qv _ (H b E)⟩
theorem aj.split:∀{ds:P9}{xs:R7}{A:R5}{p:Nat}{d:Dat},aj m ds xs A->ds[p]?=some d ->
  ∃x E N G,xs[p]?=some x/\A=E++(N++G)/\aR m d x N/\(∀(i:Nat) e y,i≠p->ds[i]?=some e->xs[i]?=some y->∃H,aR m e y H/\∀b∈H,b∈E\/b∈G)/\∀(m':Me) (d':Dat) (I:Wd) (J:R5),(∀l,l∈E\/l∈G->∀o,m[l]?=some o->m'[l]?=some o)->aR m' d' I J->aj m' (ds.set p d') (xs.set p I) (E++(J++G))
 |[],xs,A,p,d,h,z=>by simp at z
 |e::ds,xs,A,0,d,h,z=>by
  obtain⟨x,r,B,C,rfl,rfl,a,b⟩:=h.cons_inv;simp at z;subst z;refine⟨x,[],B,C,rfl,rfl,a,λi e y u O g=>?_,λm' d' I J Q o=>?_⟩
  .cases i with
   |zero=>exact N2 rfl u
   |succ i=>
    simp at O g;obtain⟨f,H,o,j⟩:=aj.item b O;rw[g]at o;obtain⟨t,n⟩:=o;cases t;exact⟨H,n,λz M=>.inr (j z M)⟩
  show aj m' (d'::ds) (I::r) (J++C);exact aj.cons o (aj.frame ds r C (λl hl=>Q l (.inr hl)) b)
 |e::ds,xs,A,p+1,d,h,z=>by
  obtain⟨x,r,B,C,rfl,rfl,a,b⟩:=h.cons_inv;obtain⟨y,E,N,G,O,rfl,w,h5,h4⟩:=aj.split b (by simpa using z);refine⟨y,B++E,N,G,by simpa using O,by simp[QZ],w,λi e' f u U Y=>?_,λm' d' I J Q o=>?_⟩
  .cases i with
   |zero=>simp at U Y;subst U;subst Y;exact⟨B,a,λz M=>.inl (QY _ M)⟩
   |succ i=>
    simp at U Y;obtain⟨H,o,j⟩:=h5 i e' f (by lia) U Y;exact⟨H,o,λz M=>by rcases j z M with q|q;exact .inl (Qv _ q);exact .inr q⟩
  rw[QZ];exact aj.cons (aR.frame e x B (λl hl=>Q l (.inl (QY _ hl))) a) (h4 m' d' I J (λl hl=>Q l (by rcases hl with hl|hl;exact .inl (Qv _ hl);exact .inr hl)) o)
def ue (le:Le m m1)(o:aR m1 d w E)(I:E.Nodup)(H:∀b∈E,m.length<=b):fK RR A m m1 ds xs (ds++[d]) (xs++[w]):=by
 refine⟨λB J q=>⟨B++(E++[]),(aj.frame ds xs B (λl _ o z=>le l o z) q).app (.cons o .nil),?_,?_⟩,λq=>?_⟩
 .rw[QX];refine Qw.mpr ⟨J,I,λx M y N e=>?_⟩;have:=aj.lt ds xs B q x M;have:=H y N;lia
 .intro b G;rw[QX]at G;rcases QJ.mp G with z|z
  .exact .inl z
  .exact .inr (H b z)
 .exact (ab.frame (λl o r z=>⟨.inl r,le l o z⟩) _ _ q).app (.cons (aR.rep d w E (λb G=>.inr (H b G)) o) .nil)
def ud (p:Nat)(le:Le m m1)(o:aR m1 d w G)(U:G.Nodup)(I:∀b∈G,m.length<=b):fK RR A m m1 ds xs (ds.set p d) (xs.set p w):=by
 refine⟨λB M q=>?_,λq=>?_⟩
 .cases O:ds[p]? with
  |none=>
   have N:ds.length<=p:=QT.mp O;rw[WH N,WH (by rw[<-q.len];exact N)];exact⟨B,aj.frame ds xs B (λl _ o z=>le l o z) q,M,λb E=>.inl E⟩
  |some e=>
   obtain⟨y,Y,n,j,N,rfl,h,_,u⟩:=aj.split q O;refine⟨Y++(G++j),u m1 d w G (λl _ o z=>le l o z) o,?_,?_⟩
   .have H:=aj.lt ds xs _ q;rw[Qw]at M ⊢;obtain⟨g,Q,f⟩:=M;rw[Qw]at Q ⊢;obtain⟨i,t,a⟩:=Q;refine⟨g,⟨U,t,λx J y hy e=>?_⟩,λx J y hy e=>?_⟩
    .have:=I x J;have:=H y (by simp[hy]);lia
    .rcases QJ.mp hy with hy|hy
     .have:=I y hy;have:=H x (by simp[J]);lia
     .exact f x J y (Qv _ hy) e
   .intro b E;simp only[QJ]at E ⊢;rcases E with z|z|z
    .exact .inl (.inl z)
    .exact .inr (I b z)
    .exact .inl (.inr (.inr z))
 .exact (ab.frame (λl o r z=>⟨.inl r,le l o z⟩) _ _ q).set p (aR.rep d w G (λb E=>.inr (I b E)) o)
theorem aj.rev:∀{ds:P9}{xs:R7}{A:R5},A.Nodup->aj m ds xs A->∃B,aj m ds.reverse xs.reverse B/\B.Nodup/\∀b∈B,b∈A
 |[],xs,A,E,h=>by rw[h.nil_inv.1];exact⟨[],.nil,QB,by simp⟩
 |d::ds,xs,A,E,h=>by
  obtain⟨x,r,B,C,rfl,rfl,a,b⟩:=h.cons_inv;obtain⟨I,J,M⟩:=Qw.mp E;obtain⟨D,o,N,G⟩:=aj.rev J b;rw[Wj,Wj];refine⟨D++(B++[]),o.app (.cons a .nil),?_,?_⟩
  .rw[QX];exact Qw.mpr ⟨N,I,λx O y Q e=>M y Q x (G x O) e.symm⟩
  .intro b H;simp only[QX,QJ]at H ⊢;rcases H with z|z
   .exact .inr (G b z)
   .exact .inl z
def dw:fK RR A m m ds xs ds.reverse xs.reverse:=by
 refine⟨λB E q=>?_,λq=>(ab.frame (λl o r z=>⟨.inl r,z⟩) _ _ q).rev⟩;obtain⟨D,o,G,H⟩:=aj.rev E q;exact⟨D,o,G,λb I=>.inl (H b I)⟩
theorem rg:∀{ds:P9}{xs:R7}{A:R5},A.Nodup->aj m ds xs A->∃B,aj m ds.dropLast xs.dropLast B/\B.Nodup/\∀b∈B,b∈A
 |[],xs,A,E,h=>by rw[h.nil_inv.1];exact⟨[],.nil,QB,by simp⟩
 |[d],xs,A,E,h=>by
  obtain⟨x,r,B,C,rfl,rfl,a,b⟩:=h.cons_inv;rw[b.nil_inv.1];exact⟨[],.nil,QB,by simp⟩
 |d::e::ds,xs,A,E,h=>by
  obtain⟨x,r,B,C,rfl,rfl,a,b⟩:=h.cons_inv;obtain⟨H,I,J⟩:=Qw.mp E;obtain⟨D,o,M,G⟩:=rg I b;obtain⟨y,U,Y,j,rfl,rfl,u,l⟩:=b.cons_inv;refine⟨B++D,.cons a o,Qw.mpr ⟨H,M,λx N y O e=>J x N y (G y O) e⟩,λb Q=>?_⟩;rcases QJ.mp Q with z|z
  .exact QY _ z
  .exact Qv _ (G b z)
def AA:fK RR A m m ds xs ds.dropLast xs.dropLast:=by
 refine⟨λB E q=>?_,λq=>?_⟩
 .obtain ⟨D,o,G,H⟩:=rg E q;exact⟨D,o,G,λb I=>.inl (H b I)⟩
 .rw[WN,WN,<-q.len];exact(ab.frame (λl o r z=>⟨.inl r,z⟩) _ _ q).take _
def Gi (h:ab R m ds xs)(B:m[l]?=some (.L xs))(b:ai R m e y):af R m (wO (.ref l) y m) (zW (.L ds) e):=by
 cases e with
 |int i=>
  rw[aa.mp b];simp only[zW,wO,yH,yE,zh,B];cases z:(ix ds.length i).bind λj=>ds[j]? with
  |none=>exact af.no
  |some v=>
   obtain⟨j,A,E⟩:=Qt.mp z;obtain⟨x,G,p⟩:=h.get E;rw[h.len]at A;simp only[A,QW,G];exact cY p
 |_=>exact af.no
def wC (I:Inv lo RR m de lv env A)(h:∀i∈vs,∀l,lv[i]?=some l->l=.no):bB (zY RR A) m vs de env:=
 ⟨I.len,λi E d B=>by
  obtain⟨l,hl⟩:=I.getlv B;obtain⟨w,a,b⟩:=I.slot i d l B hl;rw[h i E l hl]at b;exact⟨w,a,b.1⟩⟩
theorem vS:∀(vs:R5) (lv:R8),(aP vs lv).length=lv.length
 |[],lv=>rfl
 |i::vs,lv=>by unfold aP;rw[vS vs];simp
def uc (de:aI)(j:Nat)(lv:R8)(h:k≠j):(b7 de j lv)[k]?=lv[k]?:=by
 have q:∃l,b7 de j lv=lv.set j l:=by
  unfold b7;generalize de[j]?=p;generalize lv[j]?=q;cases p with
  |none=>exact⟨_,rfl⟩
  |some o=>
   cases o with
   |none=>exact⟨_,rfl⟩
   |some d=>
    cases d with
    |L A=>
     cases q with
     |none=>exact⟨_,rfl⟩
     |some l=>cases l<;>exact⟨_,rfl⟩
    |_=>exact⟨_,rfl⟩
 obtain⟨l,e⟩:=q;rw[e];exact Qi (Ne.symm h)
def ub (q:¬ ∃j i w,o=.V j/\b=.i (.V i) (.neg (.lit w))):xP (.dget o b) de lv=aP (zl (.dget o b)) lv:=by
 cases o with
 |V j=>
  cases b with
  |i x y=>
   cases x with
   |V i=>
    cases y with
    |neg z=>
     cases z with
     |lit w=>exact N2 ⟨_,_,_,rfl,rfl⟩ q
     |_=>rfl
    |_=>rfl
   |_=>rfl
  |_=>rfl
 |_=>rfl
set_option tactic.hygienic true in
def F0 (e:Ex)(de:aI)(lv:R8)(h:k∉zl e):(xP e de lv)[k]?=lv[k]?:=by
 have A:∀B,k∉B->(aP B lv)[k]?=lv[k]?:=λB h=>by rw[yg,N1 (λz=>h z.1)]
 cases e with
 |i o b=>
  cases o with
  |V j=>
   replace h:k∉j::zl b:=h
   rw[Qn,not_or]at h;show(b7 de j (aP (zl b) lv))[k]?=_;rw[uc _ _ _ h.1,A _ h.2]
  |_=>exact A _ h
 |dget o b=>
  by_cases q:∃j i w,o=.V j/\b=.i (.V i) (.neg (.lit w))
  .obtain ⟨j,i,w,rfl,rfl⟩:=q;exact A [j] (by
    replace h:k∉j::zl (.i (.V i) (.neg (.lit w))):=h
    rw[Qn,not_or]at h;simpa using h.1)
  .rw[ub q];exact A _ h
 |_=>exact A _ h
set_option tactic.hygienic true in
def Inv.topD (I:Inv lo RR m de lv env A)(j:Nat):
  ∃B,Inv lo RR m de (b7 de j lv) env B/\a9 A m B m/\(∀i,i≠j->B i=A i)/\((∃ds l xs,de[j]?=some (some (.L ds))/\B j=[l]/\env[j]?=some (some (.ref l))/\m[l]?=some (.L xs)/\ab (zY RR B) m ds xs)\/((Vl.b7 de j lv)[j]?=some .no\/lv.length<=j)):=by
 by_cases h:(∃ds,de[j]?=some (some (.L ds)))/\yA lv j=true
 .obtain ⟨⟨ds,E⟩,G⟩:=h;obtain⟨l,xs,B,H,K,J,M,N,O,Q,_⟩:=I.top j E G;have:Vl.b7 de j lv=lv.set j .top:=by
   unfold Vl.b7;rw[E];unfold yA at G;cases z:lv[j]? with
   |none=>rw[z]at G;simp at G
   |some l=>rw[z]at G;cases l<;>simp at G ⊢
  rw[this];exact⟨B,H,K,M,.inl ⟨ds,l,xs,E,J,N,O,Q⟩⟩
 .obtain ⟨H,K⟩:=I.down j;have:Vl.b7 de j lv=lv.set j .no:=by
   unfold Vl.b7;split
   .next ds E hl=>exact N2 ⟨⟨ds,E⟩,by unfold yA;rw[hl]⟩ h
   .next ds E hl=>exact N2 ⟨⟨ds,E⟩,by unfold yA;rw[hl]⟩ h
   .rfl
  rw[this];refine⟨_,H,K,λi U=>ze U,.inr ?_⟩;by_cases z:j<lv.length
  .left;rw[QE,N0 rfl,N0 z]
  .right;lia
set_option tactic.hygienic true in
def Inv.relEv (H:bn lev cl cd)(I:Inv lo RR m de lv env A)(e:Ex):
  ∃E,Inv lo RR m de (xP e de lv) env E/\a9 A m E m/\(∀k,k∉zl e->E k=A k)/\aL (zY RR E) m (aU lev e) (ae cl e env m) (au cd e de):=by
 have M:xP e de lv=Vl.aP (zl e) lv->∃E,Inv lo RR m de (xP e de lv) env E/\a9 A m E m/\(∀k,k∉zl e->E k=A k)/\aL (zY RR E) m (aU lev e) (ae cl e env m) (au cd e de):=by
  intro h;rw[h];obtain⟨E,I',K,n,_,Q⟩:=Inv.downs (zl e) I;refine⟨E,I',K,Q,xn H e _ m de env (wC I' λi G l hl=>?_)⟩;rw[yg]at hl;split at hl
  .cases hl;rfl
  .next z=>rw[Qq (by have:¬i<lv.length:=λq=>z ⟨G,q⟩;lia)]at hl;cases hl
 cases e with
 |dget a b=>
  by_cases q:∃j i w,a=.V j/\b=.i (.V i) (.neg (.lit w))
  .obtain ⟨j,U,Y,rfl,rfl⟩:=q;show ∃E,Inv lo RR m de (Vl.aP [j] lv) env E/\_;obtain⟨f,N,K1,n,_,Q⟩:=Inv.downs [j] I;refine⟨f,N,K1,λk B=>Q k (λz=>B (by
    have z:k=j:=by simpa using z
    subst z;show k∈k::zl (.i (.V U) (.neg (.lit Y)))
    simp)),af.own ?_ (λd=>rfl)⟩
   show af _ m ((ae cl (.V j) env m).bind λx m1=>(ae cl (.i (.V U) (.neg (.lit Y))) env m1).bind λy m2=>kU x y m2) ((au cd (.V j) de).bind λx=>(au cd (.i (.V U) (.neg (.lit Y))) de).bind λy=>vu x y);refine(za H.r (.V j) _ m de env (wC N λi G l hl=>?_)).bind λd w m1 l1 r1=>?_
   .have G:i=j:=by simpa using G
    subst G;rw[yg]at hl;split at hl
    .cases hl;rfl
    .next z=>rw[Qq (by have:¬i<lv.length:=λq=>z ⟨by simp,q⟩;lia)]at hl;cases hl
   .have hb:=za H.r (.i (.V U) (.neg (.lit Y))) RR m1 de env ((N.ext l1).envR _);cases z2:au cd (.i (.V U) (.neg (.lit Y))) de with
    |no=>trivial
    |ok d2=>
     rw[z2]at hb;obtain⟨t,m2,e2,u,r2⟩:=hb;rw[e2];cases B:xF d2 with
     |none=>
      have:vu d d2=.no:=by
       cases d with
       |D ks O=>show(match (xF d2).bind (bX ks O)with|some v=>Rd.ok v|none=>.no)=_;rw[B];rfl
       |_=>rfl
      show af _ _ _ (vu d d2);rw[this];trivial
     |some k=>
      have fl:ay d2=true:=by
       cases d2 with
       |T O=>
        have B:zD O=some k:=B;show aZ O=true;clear r2 z2
        induction O generalizing k with
        |nil=>rfl
        |cons x r ih=>
         cases x with
         |int i=>
          obtain⟨k',e,rfl⟩:=Qy.mp (show(zD r).map (i::·)=some k from B);show(ay (.int i)&&aZ r)=true;rw[ih _ e e];rfl
         |_=>cases B
       |_=>cases B
      have r3:ai (λ_=>False) m2 d2 t:=aR.rep d2 t [] (by simp) (ai.flat (m':=m2) d2 t fl r2);exact af.lift u (AH (ai.frame (λl o r z=>⟨.inl r,u l o z⟩) _ _ r1) (ai.frame (λl o r z=>⟨.inl (by cases r),z⟩) _ _ r3))
  .exact M (ub q)
 |i a b=>
  cases a with
  |V j=>
   show ∃E,Inv lo RR m de (Vl.b7 de j (Vl.aP (zl b) lv)) env E/\_;obtain⟨f,N,K1,n,h2,Q⟩:=Inv.downs (zl b) I;obtain⟨A2,g,K2,g1,g2⟩:=N.topD j;have hne:∀k,k∉zl (.i (.V j) b)->A2 k=A k:=by
    intro k B
    replace B:k∉j::zl b:=B
    rw[Qn,not_or]at B;rw[g1 k B.1,Q k B.2]
   refine⟨A2,g,K1.trans K2,hne,?_⟩;have J:∀i,i∈zl b->i≠j->∀l,(Vl.b7 de j (Vl.aP (zl b) lv))[i]?=some l->l=.no:=by
    intro i G hij l hl;rw[uc _ _ _ hij,yg]at hl;split at hl
    .cases hl;rfl
    .next z=>rw[Qq (by have:¬i<lv.length:=λq=>z ⟨G,q⟩;lia)]at hl;cases hl
   rcases g2 with⟨O,l,xs,hd,hA,he,hm,hr⟩|g2
   .have hjb:j∉zl b:=λz=>by
     have h0:=n j z;have hx:l∈f j:=by
      have i1:=N;by_cases q:l∈f j
      .exact q
      .exfalso;have:=(K2.1 l _ (λk B=>?_) hm).1 j
       .rw[hA]at this;exact this (by simp)
       .by_cases ek:k=j
        .rw[ek]at B;exact q B
        .have e1:=g1 k ek;rw[<-e1]at B;exact ek (g.dj k j l B (by rw[hA];simp))
     rw[h0]at hx;cases hx
    refine af.own ?_ (λd=>rfl);show af _ m ((ae cl (.V j) env m).bind λx m1=>(ae cl b env m1).bind λy m2=>wO x y m2) ((au cd (.V j) de).bind λx=>(au cd b de).bind λy=>zW x y);have e1:ae cl (.V j) env m=.ok (.ref l) m:=vA he m;have e2:au cd (.V j) de=.ok (.L O):=xG hd;rw[e1,e2];simp only[Rz.bind,Rd.bind];refine(za H.r b _ m de env (wC g λi G=>J i G (λe=>hjb (by rw[<-e];exact G)))).bind λd2 t m2 u k2=>?_;exact Gi (hr.up _ u) (u l _ hm) k2
   .refine xn H _ _ m de env (wC g λi G l hl=>?_)
    replace G:i∈j::zl b:=G
    rw[Qn]at G;by_cases e:i=j
    .rw[e]at hl;rcases g2 with g2|g2
     .rw[g2]at hl;cases hl;rfl
     .have:(Vl.b7 de j (Vl.aP (zl b) lv)).length=(Vl.aP (zl b) lv).length:=by rw[g.lvl,N.lvl]
      rw[Qq (by lia)]at hl;cases hl
    .rcases G with z|z
     .exact N2 z e
     .exact J i z e l hl
  |_=>exact M rfl
 |_=>exact M rfl
noncomputable def aC(lo:Nat)(RR:P5)(A:O2)(m:Me)(r:Rs)(I:bG):Prop:=match I with
 |.next J M=>∃G E H,r=.next G E/\Inv lo RR E J M G H/\a9 A m H E
 |.ret d l=>∃w E B,r=.ret w E/\((∀(x:Nat) o,(∀i,x∉A i)->m[x]?=some o->E[x]?=some o)/\m.length<=E.length)/\a7 (λx=>RR x/\x∉B) E l d w B/\B.Nodup/\∀b∈B,lo<=b
 |.no=>True
set_option tactic.hygienic true in
def aC.keep{lo:Nat}{RR:P5}{A H:O2}{m m1:Me}{r:Rs}{E:bG}(K:a9 A m H m1)(h:aC lo RR H m1 r E):aC lo RR A m r E:=by
 cases E with
 |next M N=>obtain⟨e,G,J,h,I,k⟩:=h;exact⟨e,G,J,h,I,K.trans k⟩
 |ret d l=>obtain⟨w,G,B,h,k,z⟩:=h;exact⟨w,G,B,h,⟨λx o a b=>k.1 x o (K.1 x o a b).1 (K.1 x o a b).2,Qp K.2 k.2⟩,z⟩
 |no=>trivial
def Inv.rf (I:Inv lo RR m de lv env A)(h:ai (Rf RR m.length) m' d w):ai RR m' d w:=
 ai.frame (λx o r z=>⟨by rcases r with r|r;exact r;exact I.rr x (Qp I.lom r),z⟩) d w h
def Inv.bindE (H:aW cl cd)(I:Inv lo RR m de lv env A)(e:Ex)(k:∀d w m1,au cd e de=.ok d->ae cl e env m=.ok w m1->Le m m1->ai RR m1 d w->aC lo RR A m1 (f w m1) (g d)):aC lo RR A m ((ae cl e env m).bindS env f) ((au cd e de).bindS g):=by
 have h:=za H e RR m de env (I.envR _);cases z:au cd e de with
 |no=>trivial
 |ok d=>
  rw[z]at h;obtain⟨w,B,h,l,r⟩:=h;have:=k d w B z h l (I.rf r);rw[h];exact aC.keep (xQ l) this
def Inv.own (H:bn lev cl cd)(I:Inv lo RR m de lv env A)(G:au cd e de=.ok d)(J:ae cl e env m=.ok w m1):
  ∃B,a7 (λx=>RR x/\x∉B) m1 (aU lev e d) d w B/\B.Nodup/\∀b∈B,m.length<=b:=by
 have h:=xn H e RR m de env (I.envR _);rw[G]at h;obtain⟨O,Q,B,E,l,r,M,N⟩:=h;rw[J]at E;cases E;exact⟨B,r.frame (λx o r z=>⟨⟨by rcases r.1 with r|r;exact r;exact I.rr x (Qp I.lom r),r.2⟩,z⟩) (λ_ _ _ z=>z),M,N⟩
section
variable{lev:R9}{cl:N6}{cd:N9}{lo:Nat}{RR:P5}{m:Me}{de:aI}{lv:R8}{env:En}{A:O2}
set_option tactic.hygienic true in
def wD (h:vR de j=some ds):de[j]?=some (some (.L ds)):=by
 unfold vR at h;split at h
 .next z=>cases h;exact z
 .cases h
def yZ (h:env[j]?=some (some w))(m:Me):ae cl (.V j) env m=.ok w m:=by
 exact vA h m
def FZ(H:bn lev cl cd)(I:Inv lo RR m de lv env A)(i:Nat)(e:Ex):aC lo RR A m (aV cl (.a i e) env m) (aK lev cd (.a i e) de lv):=by
 have h:aC lo RR A m ((ae cl e env m).bindS env λw m1=>.next (env.set i (some w)) m1) ((au cd e de).bindS λd=>kx lev i e d de lv):=by
  cases z:au cd e de with
  |no=>trivial
  |ok d=>
   show aC lo RR A m _ (kx lev i e d de lv);unfold kx;by_cases f:aU lev e d=.F
   .rw[N0 f];have h:=xn H e RR m de env (I.envR _);rw[z]at h;obtain⟨w,m1,B,E,l,r,G,J⟩:=h;rw[E];rw[f]at r;obtain⟨M,K⟩:=I.store l i (l:=.F) (d:=d) (w:=w) (B:=B) r G J;exact⟨_,_,_,rfl,M,K⟩
   .rw[N1 f];obtain⟨Q,N,O,_,h⟩:=I.relEv H e;rw[z]at h;obtain⟨w,m1,B,E,l,r,G,J⟩:=h;rw[E];obtain⟨M,K⟩:=N.store l i (l:=aU lev e d) (d:=d) (w:=w) (B:=B) r G J;exact⟨_,_,_,rfl,M,O.trans K⟩
 exact h
set_option tactic.hygienic true in
def Az (H:bn lev cl cd)(I:Inv lo RR m de lv env A)(hd:de[j]?=some (some (.L ds)))(h1:au cd e de=.ok d)(h2:ae cl e env m=.ok w m1)(l1:Le m m1)(l2:Le m1 m2)(g:j9 lev e d j de lv=some (E,n))(F:P9->Dat->P9)(G:R7->Wd->R7)(cF:∀(m m1:Me) (A:O2) (ds:P9) (xs:R7) (d:Dat) (w:Wd) (B0:R5),Le m m1->aR m1 d w B0->B0.Nodup->(∀b∈B0,m.length<=b)->fK RR A m m1 ds xs (F ds d) (G xs w))(cM:∀(m:Me) (ds:P9) (xs:R7) (d:Dat) (w:Wd) (B B0:R5),(B++B0).Nodup->aj m ds xs B->aR m d w B0->∃N,aj m (F ds d) (G xs w) N/\N.Nodup/\∀b∈N,b∈B\/b∈B0)(cT:∀(R:P5) (m:Me) (ds:P9) (xs:R7) (d:Dat) (w:Wd),ab R m ds xs->ai R m d w->ab R m (F ds d) (G xs w)):
  ∃l xs,env[j]?=some (some (.ref l))/\m2[l]?=some (.L xs)/\ds.length=xs.length/\∃A',Inv lo RR (m2.set l (.L (G xs w))) (E.set j (some (.L (F ds d)))) n env A'/\a9 A m A' (m2.set l (.L (G xs w))):=by
 have J:=l1.trans l2;unfold j9 at g;split at g
 .cases g
 .next ho=>
  have ho:yA lv j=true:=by simpa using ho
  split at g
  .next f=>
   cases g;obtain⟨B,r,nd,hB⟩:=I.own H h1 h2;rw[f]at r;obtain⟨l,xs,he,u,hr,put⟩:=I.mut hd ho;have r':aR m2 d w B:=aR.frame d w B (λx _ o z=>l2 x o z) r;refine⟨l,xs,he,J l _ u,hr.len,put m2 _ _ J (λ_=>(cF m m2 A ds xs d w B J r' nd hB).1) (λ_=>(cF m m2 A ds xs d w B J r' nd hB).2)⟩
  .next f=>
   split at g
   .cases g
   .next hj=>
    have O:n=(xP e de lv).set j .top->E=de->∃l xs,env[j]?=some (some (.ref l))/\m2[l]?=some (.L xs)/\ds.length=xs.length/\∃A',Inv lo RR (m2.set l (.L (G xs w))) (E.set j (some (.L (F ds d)))) n env A'/\a9 A m A' (m2.set l (.L (G xs w))):=by
     rintro rfl rfl;obtain⟨A1,I1,K1,hA1,h⟩:=I.relEv H e;rw[h1]at h;have ho1:yA (xP e E lv) j=true:=by unfold yA;rw[F0 e _ _ hj];exact ho
     obtain⟨l,xs,A2,I2,K2,Q,g2,he,u,hr,hlA⟩:=I1.top j hd ho1;have hs:=h.sim;obtain⟨w',m',h3,_,rw0⟩:=hs;rw[h2]at h3;cases h3;have Y:j<(xP e E lv).length:=by rw[I1.lvl];exact(Qa.mp hd).1
     have ho2:yA ((xP e E lv).set j .top) j=true:=by unfold yA;rw[QE,N0 rfl,N0 Y]
     have hlv:((xP e E lv).set j .top)[j]?=some .top:=by rw[QE,N0 rfl,N0 Y]
     obtain⟨l',xs',he',hm',_,put⟩:=I2.mut hd ho2;rw[he]at he';cases he';rw[u]at hm';cases hm';obtain⟨A3,I3,K3⟩:=put m2 (F ds d) (G xs w) J (λz=>by rw[hlv]at z;cases z) (λ_ q=>by
      refine cT _ m2 ds xs d w (ab.frame (λx o r z=>⟨.inl r,J x o z⟩) _ _ q) (ai.frame (λx o r z=>⟨?_,l2 x o z⟩) _ _ rw0);rcases r with r|r
      .left
       refine⟨r.1,λk U=>?_⟩;by_cases ek:k=j
       .rw[ek,Q]at U;rw[QK.mp U]at r;exact r.2 j hlA
       .rw[g2 k ek]at U;exact r.2 k U
      .exact .inr r)
     exact⟨l,xs,he,J l _ u,hr.len,A3,I3,(K1.trans K2).trans K3⟩
    split at g
    .next i=>
     split at g
     .next M=>
      cases g;have hij:i≠j:=λe=>hj (by rw[e];exact QK.mpr rfl)
      -- the move
      have hdi:de[i]?=some (some d):=by
       exact vB h1
      obtain⟨wi,hei,ri⟩:=I.slot i d .F hdi M.1;have:ae cl (.V i) env m=.ok wi m:=yZ hei m;rw[this]at h2;cases h2;obtain⟨wj,hej,rj⟩:=I.slot j _ .F hd M.2;obtain⟨l,xs,B,rfl,hA,u,r⟩:=aM.mp rj;have hlm:=(Qa.mp u).1;have nd:=I.nd j;rw[hA]at nd;obtain⟨n0,n1⟩:=QC.mp nd;have nBi:(B++A i).Nodup:=Qw.mpr ⟨n1,I.nd i,λx hx y hy e=>by
       subst e;exact hij (I.dj i j x hy (by rw[hA];exact Qg _ hx))⟩
      obtain⟨N,o,nB',hB'⟩:=cM m ds xs d w B (A i) nBi r ri;have lB':l∉N:=λz=>by
       rcases hB' l z with q|q
       .exact n0 q
       .exact hij (I.dj i j l q (by rw[hA];simp))
      have sub:∀x∈l::N,x∈A j\/x∈A i:=by
       intro x hx;rcases Qn.mp hx with rfl|hx
       .left;rw[hA];simp
       .rcases hB' x hx with q|q
        .left;rw[hA];exact Qg _ q
        .exact .inr q
      have Y:j<de.length:=(Qa.mp hd).1;have hil:i<de.length:=(Qa.mp hdi).1;have ui:aG (aG A i []) j (l::N) i=[]:=by rw[ze hij,zf]
      have uo:∀k,k≠i->k≠j->aG (aG A i []) j (l::N) k=A k:=λk a b=>by rw[ze b,ze a]
      have ll2:=l2.len;refine⟨l,xs,hej,l2 l _ u,r.len,aG (aG A i []) j (l::N),?_⟩;refine I.put l2 (j:=j) (l:=l) (xs:=xs) (by rw[hA];simp) _ ?_ ?_ ?_ ?_ (by simp) rfl ?_ ?_
      .intro k x hx
       left
       by_cases e:k=j
       .rw[e,zf]at hx;rcases sub x hx with q|q
        .exact ⟨j,q⟩
        .exact ⟨i,q⟩
       .by_cases f:k=i
        .rw[f,ui]at hx;cases hx
        .rw[uo k f e]at hx;exact⟨k,hx⟩
      .intro k;by_cases e:k=j
       .rw[e,zf];exact QC.mpr ⟨lB',nB'⟩
       .by_cases f:k=i
        .rw[f,ui];simp
        .rw[uo k f e];exact I.nd k
      .have t:∀k x,k≠j->x∈l::N->x∈aG (aG A i []) j (l::N) k->False:=by
        intro k x e hx U;by_cases f:k=i
        .rw[f,ui]at U;cases U
        .rw[uo k f e]at U;rcases sub x hx with q|q
         .exact e (I.dj k j x U q)
         .exact f (I.dj k i x U q)
       intro a b x ha hb;by_cases e:a=j
       .by_cases f:b=j
        .rw[e,f]
        .rw[e,zf]at ha;exact(t b x f ha hb).elim
       .by_cases f:b=j
        .rw[f,zf]at hb;exact(t a x e hb ha).elim
        .by_cases g:a=i
         .rw[g,ui]at ha;cases ha
         .by_cases h:b=i
          .rw[h,ui]at hb;cases hb
          .rw[uo a g e]at ha;rw[uo b h f]at hb;exact I.dj a b x ha hb
      .intro k x hx;by_cases e:k=j
       .rw[e,zf]at hx;rcases sub x hx with q|q
        .exact ⟨(I.bd j x q).1,Qj (I.bd j x q).2 ll2⟩
        .exact ⟨(I.bd i x q).1,Qj (I.bd i x q).2 ll2⟩
       .by_cases f:k=i
        .rw[f,ui]at hx;cases hx
        .rw[uo k f e]at hx;exact⟨(I.bd k x hx).1,Qj (I.bd k x hx).2 ll2⟩
      .intro k d' lk e Q g2;rw[Qi (Ne.symm e)]at Q;by_cases f:k=i
       .rw[f,QE,N0 rfl,N0 hil]at Q;cases Q
       .rw[Qi (Ne.symm f)]at Q;exact⟨Q,g2,uo k f e⟩
      .intro d' lj Q g2;rw[QE,N0 rfl,N0 (by simpa using Y)]at Q;cases Q;rw[M.2]at g2;cases g2;refine⟨_,hej,?_⟩;rw[zf];exact aM.mpr ⟨l,_,N,rfl,rfl,xd (l2 l _ u),aj.frame _ _ N (λx hx o z=>by rw[yD (l:=l) (x:=x) (λe=>lB' (by rw[e];exact hx))];exact l2 x o z) o⟩
     .cases g;exact O rfl rfl
    .cases g;exact O rfl rfl
end
section
variable{lev:R9}{cl:N6}{cd:N9}{lo:Nat}{RR:P5}{m:Me}{de:aI}{lv:R8}{env:En}{A:O2}
def CS (B:ae cl o env m=.ok x m1)(E:ae cl e env m1=.ok w m2)(hl:yB x m1=true:=by simp only[yB,aN];simp_all):ae cl (.meth n o (.P e .u)) env m=cS n x [w] m2:=by
 show(ae cl o env m).bind (λx m1=>match yB x m1 with|true=>((ae cl e env m1).bind λa m2=>.ok (.T [a]) m2).bind λy m2=>cS n x (zj y) m2|false=>.no)=_;rw[B];show(match yB x m1 with|true=>((ae cl e env m1).bind λa m2=>.ok (.T [a]) m2).bind λy m2=>cS n x (zj y) m2|false=>.no)=_;rw[hl,E];rfl
def kJ (B:ae cl o env m=.ok x m1)(hl:yB x m1=true:=by simp only[yB,aN];simp_all):ae cl (.meth n o .u) env m=cS n x [] m1:=by
 show(ae cl o env m).bind (λx m1=>match yB x m1 with|true=>cS n x [] m1|false=>.no)=_;rw[B];show(match yB x m1 with|true=>cS n x [] m1|false=>.no)=_;rw[hl]
def FY (n:(B++E).Nodup)(a:aj m ds xs B)(b:aR m d w E):∃G,aj m (ds++[d]) (xs++[w]) G/\G.Nodup/\∀b∈G,b∈B\/b∈E:=
 ⟨B++(E++[]),a.app (.cons b .nil),by simpa using n,λx H=>by simpa using H⟩
def FX (p:Nat)(n:(B++G).Nodup)(a:aj m ds xs B)(b:aR m d w G):∃H,aj m (ds.set p d) (xs.set p w) H/\H.Nodup/\∀b∈H,b∈B\/b∈G:=by
 cases J:ds[p]? with
 |none=>
  have I:ds.length<=p:=QT.mp J;rw[WH I,WH (by rw[<-a.len];exact I)];exact⟨B,a,(Qw.mp n).1,λb N=>.inl N⟩
 |some e=>
  obtain⟨y,O,h,Q,I,rfl,i,_,U⟩:=aj.split a J;refine⟨O++(G++Q),U m d w G (λl _ o z=>z) b,?_,?_⟩
  .obtain ⟨Y,j,M⟩:=Qw.mp n;obtain⟨u,g,f⟩:=Qw.mp Y;obtain⟨n4,t,n6⟩:=Qw.mp g;refine Qw.mpr ⟨u,Qw.mpr ⟨j,t,λx E y hy e=>M y (by simp[hy]) x E e.symm⟩,λx E y hy e=>?_⟩;rcases QJ.mp hy with hy|hy
   .exact M x (by simp[E]) y hy e
   .exact f x E y (by simp[hy]) e
  .intro x E;simp only[QJ]at E ⊢;rcases E with z|z|z
   .exact .inl (.inl z)
   .exact .inr z
   .exact .inl (.inr (.inr z))
theorem aC.okS{r:Rs}{B:Rd}{g:Dat->bG}(h:∀d,B=.ok d->aC lo RR A m r (g d)):aC lo RR A m r (B.okS g):=by
 cases B with
 |ok d=>exact h d rfl
 |_=>trivial
theorem Inv.ok (H:aW cl cd)(I:Inv lo RR m de lv env A)(h:au cd e de=.ok d)(l:Le m m1):∃w m2,ae cl e env m1=.ok w m2/\Le m1 m2/\ai RR m2 d w:=by
 have q:=za H e RR m1 de env ((I.ext l).envR _);rw[h]at q;obtain⟨w,m2,a,b,c⟩:=q;exact⟨w,m2,a,b,(I.ext l).rf c⟩
def Inv.isRef (I:Inv lo RR m de lv env A){j:Nat}(B:de[j]?=some (some (.L ds)))(E:env[j]?=some (some w)):yB w m=true:=by
 obtain⟨G,hl⟩:=I.getlv B;obtain⟨J,a,b⟩:=I.slot j _ G B hl;rw[E]at a;cases a;obtain⟨l,M,rfl,_,H,_⟩:=av.mp (b.rep (R':=λ_=>True) (λ_ _=>trivial) (λ_ _=>trivial));simp[yB,aN,H]
set_option tactic.hygienic true in
def Gh(H:bn lev cl cd)(I:Inv lo RR m de lv env A)(j:Nat)(e:Ex):aC lo RR A m (aV cl (.expr (.meth .append (.V j) (.P e .u))) env m) (aK lev cd (.expr (.meth .append (.V j) (.P e .u))) de lv):=by
 show aC _ _ _ _ ((ae cl _ env m).bindS env _) _;refine aC.okS λd E=>?_;split
 .next G hl=>
  split
  .next J=>
   split
   .next Q U g=>
    obtain⟨w,m1,M,Y,i⟩:=I.ok H.r E (Le.refl m);obtain⟨l,B,N,u,O,z,f,K⟩:=Az H I (wD hl) E M Y (Le.refl m1) g (λG d=>G++[d]) (λB w=>B++[w])
     (λ_ _ _ _ _ _ _ _ le o t h=>ue le o t h) (λ_ _ _ _ _ _ _ n a b=>FY n a b) (λ_ _ _ _ _ _ a b=>a.app (.cons b .nil))
    rw[CS (yZ N m) M (I.isRef (wD hl) N)];have:cS .append (.ref l) [w] m1=.ok .N (m1.set l (.L (B++[w]))):=by
     simp only[cS,u];rw[N0 (by lia)]
    rw[this];exact⟨_,_,z,rfl,f,K⟩
   .trivial
  .trivial
 .trivial
set_option tactic.hygienic true in
def Gg(I:Inv lo RR m de lv env A)(j:Nat):aC lo RR A m (aV cl (.expr (.meth .reverse (.V j) .u)) env m) (aK lev cd (.expr (.meth .reverse (.V j) .u)) de lv):=by
 show aC _ _ _ _ ((ae cl _ env m).bindS env _) (match vR de j with
   |some B=>if yA lv j then .next (de.set j (some (.L B.reverse))) lv else .no
   |none=>.no)
 split
 .next B hl=>
  split
  .next G=>
   obtain⟨l,E,H,J,O,put⟩:=I.mut (wD hl) G;obtain⟨M,N,K⟩:=put m B.reverse E.reverse (Le.refl m) (λ_=>(dw (RR:=RR) (A:=A)).1) (λ_=>dw.2);rw[kJ (yZ H m)];have:cS .reverse (.ref l) [] m=.ok .N (m.set l (.L E.reverse)):=by simp only[cS,J]
   rw[this];exact⟨_,_,M,rfl,N,K⟩
  .trivial
 .trivial
set_option tactic.hygienic true in
def FW(H:bn lev cl cd)(I:Inv lo RR m de lv env A)(i:Nat)(op:Bo)(e:Ex):aC lo RR A m (aV cl (.aug i op e) env m) (aK lev cd (.aug i op e) de lv):=by
 show aC _ _ _ _ _ (match de[i]? with
  |some (some (.int a))=>(au cd e de).okS λy=>match y with
   |.int b=>(yK op (.int a) (.int b)).okS λz=>.next (de.set i (some z)) (lv.set i .F)
   |_=>.no
  |_=>.no)
 split
 .next a N=>
  refine aC.okS λy Y=>?_;split
  .next b=>
   refine aC.okS λz E=>?_;obtain⟨j,J⟩:=I.getlv N;obtain⟨wa,G,u⟩:=I.slot i _ j N J;have M:=u.rep (R':=RR) (λ_ z=>z.1) (λx o=>I.rr x (I.bd i x o).1);rw[aa.mp M]at G;show aC _ _ _ _ (match env[i]? with
    |some (some x)=>(ae cl e env m).bindS env λy m1=>fW op x y m1 env λz m2=>.next (env.set i (some z)) m2
    |_=>.no) _
   rw[G];obtain⟨w,m1,O,g,f⟩:=I.ok H.r Y (Le.refl m);rw[aa.mp f]at O;simp only[O,Rz.bindS,fW];have Q:=qe (R:=RR) (m:=m1) op (d:=.int a) (e:=.int b) (aa.mpr rfl) (aa.mpr rfl);rw[E]at Q;obtain⟨U,m3,t,n,h⟩:=Q;rw[t];have fz:ay z=true:=by
    cases op<;>simp only[yK]at E
    .cases E;rfl
    .cases E;rfl
    all_goals (split at E<;>(cases E;try rfl))
   obtain⟨I',K⟩:=I.store (g.trans n) i (l:=.F) (d:=z) (w:=U) (B:=[]) (h.flat z U fz) QB (by simp);exact⟨_,_,_,rfl,I',K⟩
  .trivial
 .trivial
end
section
variable{lev:R9}{cl:N6}{cd:N9}{lo:Nat}{RR:P5}{m:Me}{de:aI}{lv:R8}{env:En}{A:O2}
mutual
theorem ai.avoid{R R':P5}{m:Me}{D:Dat}{l:Nat}(G:ai R' m D (.ref l)):∀(d:Dat) (w:Wd),dC d<dC D->ai R m d w->ai (λx=>R x/\x≠l) m d w
 |.N,w,h,q=>ao.mpr (ao.mp q)
 |.bl _,w,h,q=>ag.mpr (ag.mp q)
 |.int _,w,h,q=>aa.mpr (aa.mp q)
 |.str _,w,h,q=>aB.mpr (aB.mp q)
 |.scr _,w,h,q=>aS.mpr (aS.mp q)
 |.T B,w,h,q=>by
  obtain⟨E,rfl,H⟩:=ah.mp q;exact ah.mpr ⟨E,rfl,ab.avoid G B E (by rw[show dC (.T B)=cI B+1 from by simp[dC]]at h;lia) H⟩
 |.L B,w,h,q=>by
  obtain⟨k,E,rfl,r,I,H⟩:=av.mp q;refine av.mpr ⟨k,E,rfl,⟨r,λe=>?_⟩,I,ab.avoid G B E (by rw[show dC (.L B)=cI B+1 from by simp[dC]]at h;lia) H⟩;subst e;have:=ai.det _ _ _ q G;rw[this]at h;lia
 |.D J B,w,h,q=>by
  obtain⟨k,E,rfl,r,I,H⟩:=aH.mp q;refine aH.mpr ⟨k,E,rfl,⟨r,λe=>?_⟩,I,ab.avoid G B E (by rw[show dC (.D J B)=cI B+1 from by simp[dC]]at h;lia) H⟩;subst e;have:=ai.det _ _ _ q G;rw[this]at h;lia
theorem ab.avoid{R R':P5}{m:Me}{D:Dat}{l:Nat}(B:ai R' m D (.ref l)):∀(ds:P9) (xs:R7),cI ds<dC D->ab R m ds xs->ab (λx=>R x/\x≠l) m ds xs
 |[],xs,h,q=>by rw[q.nil_inv];exact .nil
 |d::ds,xs,h,q=>by
  obtain⟨x,r,rfl,a,b⟩:=q.cons_inv;unfold cI at h;exact .cons (ai.avoid B d x (by lia) a) (ab.avoid B ds r (by lia) b)
end
def sZ (A:m[l]?=some (.L xs))(B:ix xs.length k=some p):gE (.ref l) (.int k) w m=.ok .N (m.set l (.L (xs.set p w))):=by
 simp[gE,A,B]
set_option tactic.hygienic true in
def Gf(H:bn lev cl cd)(I:Inv lo RR m de lv env A)(j:Nat)(k e:Ex):aC lo RR A m (aV cl (.asgS (.V j) k e) env m) (aK lev cd (.asgS (.V j) k e) de lv):=by
 show aC _ _ _ _ ((ae cl e env m).bindS env _) _;refine aC.okS λd h1=>aC.okS λkv hk=>?_;unfold rX;split
 .next k' N hl=>
  have O:=wD hl;split
  .next p hp=>
   obtain⟨w,m1,h2,E,r1⟩:=I.ok H.r h1 (Le.refl m);obtain⟨wk,m2,h3,Q,r3⟩:=I.ok H.r hk E;rw[aa.mp r3]at h3;split
   .next de1 lv1 g=>
    obtain⟨l,G,U,J,Y,A',I',K⟩:=Az H I O h1 h2 E Q g (λN d=>N.set p d) (λG w=>G.set p w)
     (λ_ _ _ _ _ _ _ _ le o nd hB=>ud p le o nd hB) (λ_ _ _ _ _ _ _ n a b=>FX p n a b) (λ_ _ _ _ _ _ a b=>a.set p b)
    simp only[h2,Rz.bindS,yZ U m1,h3,sZ J (by rw[<-Y];exact hp)];exact⟨_,_,A',rfl,I',K⟩
   .next g=>
    split
    .next c=>
     simp only[Qr,N5]at c;obtain⟨⟨ho,u⟩,_⟩:=c;obtain⟨l,G,A0,I0,K0,g1,g2,U,J,hr,hlA⟩:=I.top j O ho;obtain⟨A1,f,K1,q1,q2,q3⟩:=Inv.downs ((zl e).filter (·≠j)) I0;have hA1j:A1 j=[l]:=by rw[q3 j (by simp),g1]
     have elv:aP ((zl e).filter (·≠j)) (lv.set j .top)=(aP (zl e) lv).set j .top:=by
      apply Wq;intro i;rw[yg,QE];by_cases M:j=i
      .subst M;rw[N1 (by simp),N0 rfl,QE,N0 rfl,vS]
      .rw[N1 M,Qi M,yg,Wx];have:(i∈(zl e).filter (·≠j))↔i∈zl e:=by simp[Vw];intro _;exact λz=>M z.symm
       simp only[this]
     rw[elv]at f;have lno:∀i∈zl e,i≠j->∀x,((aP (zl e) lv).set j .top)[i]?=some x->x=.no:=by
      intro i hi hij x t;rw[Qi (Ne.symm hij),yg]at t;split at t
      .cases t;rfl
      .next z=>rw[Qq (by have:¬i<lv.length:=λq=>z ⟨hi,q⟩;lia)]at t;cases t
     have h:ab (zY RR A1) m N G:=(K1.repL hr);have y:bB (λx=>zY RR A1 x\/x=l) m (zl e) de env:=by
      refine⟨f.len,λi hi d' B=>?_⟩;by_cases M:i=j
      .subst M;rw[O]at B;cases B;exact⟨_,U,av.mpr ⟨l,G,rfl,.inr rfl,J,ab.frame (λx o r z=>⟨.inl r,z⟩) _ _ h⟩⟩
      .obtain ⟨li,hli⟩:=f.getlv B;obtain⟨w',a,b⟩:=f.slot i d' li B hli;rw[lno i hi M li hli]at b;exact⟨w',a,ai.frame (λx o r z=>⟨.inl r,z⟩) _ _ b.1⟩
     have hs:=za H.r e _ m de env y;rw[h1]at hs;obtain⟨w',m1',h2',_,rw1⟩:=hs;rw[h2]at h2';cases h2';have rwa:=ai.avoid (D:=.L N) (l:=l) (R':=λ_=>True) (m:=m1) (av.mpr ⟨l,G,rfl,trivial,E l _ J,ab.frame (λx o r z=>⟨trivial,E x o z⟩) _ _ h⟩) d w u rw1;have hlm:=(Qa.mp J).1;have hjl:j<lv.length:=by rw[I.lvl];exact(Qa.mp O).1
     have hlv:((aP (zl e) lv).set j .top)[j]?=some .top:=by rw[QE,N0 rfl,N0 (by rw[vS];exact hjl)]
     obtain⟨l',xs',he',hm',hrr,put⟩:=f.mut O (by unfold yA;rw[hlv]);rw[U]at he';cases he';rw[J]at hm';cases hm';obtain⟨A3,I3,K3⟩:=put m2 (N.set p d) (G.set p w) (E.trans Q) (λz=>by rw[hlv]at z;cases z) (λ_ q=>by
      refine ab.set (ab.frame (λx o r z=>⟨.inl r,(E.trans Q) x o z⟩) _ _ q) p (ai.frame (λx o r z=>⟨?_,Q x o z⟩) _ _ rwa);rcases r.1 with (r1|r1)|r1
      .exact .inl r1
      .exact N2 r1 r.2
      .exact .inr r1)
     simp only[h2,Rz.bindS,yZ U m1,h3,sZ (Q l _ (E l _ J)) (by rw[<-hr.len];exact hp)];exact⟨_,_,A3,rfl,I3,(K0.trans K1).trans K3⟩
    .trivial
  .trivial
 .trivial
end
section
variable{lo:Nat}{RR:P5}{m:Me}{de:aI}{lv:R8}{env:En}{A:O2}
def Inv.forget(I:Inv lo RR m de lv env A)(i:Nat)(w:Wd):Inv lo RR m (de.set i none) (lv.set i .F) (env.set i (some w)) A:=by
 refine⟨by simp[I.len],by simp[I.lvl],I.rr,I.lom,λk d l B E=>?_,I.nd,I.dj,I.bd⟩;by_cases e:i=k
 .subst e;rw[QE,N0 rfl]at B;split at B
  .cases B
  .cases B
 .rw[Qi e]at B E;obtain⟨G,a,b⟩:=I.slot k d l B E;exact⟨G,by rw[Qi e];exact a,b⟩
end
theorem km(q:P8):∀(ks:O1) (n:Nat),(∃p,∀(B:Type) (A:List B) (v:B),A.length=n->yf ks A q v=A.set p v)\/∀(B:Type) (A:List B) (v:B),A.length=n->yf ks A q v=A++[v]
 |[],n=>.inr λB A v _=>by cases A<;>rfl
 |k::ks,0=>.inr λB A v h=>by
  cases A with
  |nil=>rfl
  |cons _ _=>cases h
 |k::ks,n+1=>by
  by_cases e:k=q
  .refine .inl ⟨0,λB A v h=>?_⟩;cases A with
   |nil=>cases h
   |cons z A=>show(if k=q then v::A else _)=_;rw[N0 e];rfl
  .rcases km q ks n with⟨p,h⟩|h
   .refine .inl ⟨p+1,λB A v E=>?_⟩;cases A with
    |nil=>cases E
    |cons z A=>show(if k=q then _ else z::yf ks A q v)=_;rw[N1 e,h B A v (by simpa using E)];rfl
   .refine .inr λB A v E=>?_;cases A with
    |nil=>cases E
    |cons z A=>show(if k=q then _ else z::yf ks A q v)=_;rw[N1 e,h B A v (by simpa using E)];rfl
def EM (ks:O1)(q:P8)(B:ds.length=xs.length)(le:Le m m1)(o:aR m1 d w E)(G:E.Nodup)(H:∀b∈E,m.length<=b):fK RR A m m1 ds xs (yf ks ds q d) (yf ks xs q w):=by
 rcases km q ks ds.length with⟨p,h⟩|h
 .rw[h _ ds d rfl,h _ xs w B.symm];exact ud p le o G H
 .rw[h _ ds d rfl,h _ xs w B.symm];exact ue le o G H
def Inv.mutD (I:Inv lo RR m de lv env A)(t:de[j]?=some (some (.D ks ds)))(hl:lv[j]?=some .F):
  ∃l xs,env[j]?=some (some (.ref l))/\m[l]?=some (.D ks xs)/\ds.length=xs.length/\∀(m1:Me) (J:O1) (H:P9) (ys:R7),Le m m1->rW m m1 ds xs H ys ->
   ∃n,Inv lo RR (m1.set l (.D J ys)) (de.set j (some (.D J H))) lv env n/\a9 A m n (m1.set l (.D J ys)):=by
 obtain⟨w,a,b⟩:=I.slot j _ .F t hl;have Q:j<de.length:=(Qa.mp t).1;obtain⟨l,xs,B,rfl,M,U,r⟩:=bE.mp b;have Y:=(Qa.mp U).1;have u:=I.nd j;rw[M]at u;refine⟨l,xs,a,U,r.len,λm1 J H ys le c=>?_⟩;obtain⟨N,o,h,g⟩:=c B (QC.mp u).2 r;have O:l∉N:=λz=>by
  rcases g l z with z|z
  .exact (QC.mp u).1 z
  .lia
 have sub:∀x∈l::N,x∈A j\/m.length<=x:=by
  intro x hx;rcases Qn.mp hx with rfl|hx
  .left;rw[M];simp
  .rcases g x hx with z|z
   .left;rw[M];exact Qg _ z
   .exact .inr z
 refine⟨aG A j (l::N),?_⟩;refine I.putO le (j:=j) (l:=l) (by rw[M];simp) _ ?_ ?_ ?_ ?_ (by simp) rfl ?_ ?_
 .intro k x hx;by_cases e:k=j
  .subst e;rw[zf]at hx;rcases sub x hx with z|z
   .exact .inl ⟨k,z⟩
   .exact .inr z
  .rw[ze e]at hx;exact .inl ⟨k,hx⟩
 .intro k;by_cases e:k=j
  .subst e;rw[zf];exact QC.mpr ⟨O,h⟩
  .rw[ze e];exact I.nd k
 .intro i k x E G;by_cases e:i=j
  .by_cases f:k=j
   .rw[e,f]
   .rw[e,zf]at E;rw[ze f]at G;rcases sub x E with z|z
    .rw[e];exact I.dj j k x z G
    .have:=(I.bd k x G).2;lia
  .rw[ze e]at E;by_cases f:k=j
   .rw[f,zf]at G;rcases sub x G with z|z
    .rw[f];exact I.dj i j x E z
    .have:=(I.bd i x E).2;lia
   .rw[ze f]at G;exact I.dj i k x E G
 .intro k x hx;by_cases e:k=j
  .rw[e,zf]at hx;rcases Qn.mp hx with rfl|hx
   .exact ⟨(I.bd j _ (by rw[M];simp)).1,Qj Y le.len⟩
   .refine ⟨?_,aj.lt H ys N o x hx⟩;rcases g x hx with z|z
    .exact (I.bd j x (by rw[M];exact Qg _ z)).1
    .exact Qp I.lom z
  .rw[ze e]at hx;exact⟨(I.bd k x hx).1,Qj (I.bd k x hx).2 le.len⟩
 .intro k d y e E G;rw[Qi (Ne.symm e)]at E;exact⟨E,G,ze e⟩
 .intro d lj E G;rw[QE,N0 rfl,N0 Q]at E;cases E;rw[hl]at G;cases G;refine⟨_,a,?_⟩;rw[zf];exact bE.mpr ⟨l,ys,N,rfl,rfl,xd (le l _ U),aj.frame H ys N (λx hx o z=>by rw[yD (l:=l) (x:=x) (λe=>O (by rw[e];exact hx))];exact z) o⟩
section
variable{lev:R9}{cl:N6}{cd:N9}{lo:Nat}{RR:P5}{m:Me}{de:aI}{lv:R8}{env:En}{A:O2}
set_option tactic.hygienic true in
def Ge(H:bn lev cl cd)(I:Inv lo RR m de lv env A)(j:Nat)(k e:Ex):aC lo RR A m (aV cl (.dput j k e) env m) (aK lev cd (.dput j k e) de lv):=by
 show aC _ _ _ _ ((ae cl e env m).bindS env _) _;refine aC.okS λd O=>aC.okS λkv Y=>?_;split
 .next E u q g f=>
  split
  .next c=>
   obtain⟨t,b,n⟩:=c;obtain⟨w,m1,Q,J,r1⟩:=I.ok H.r O (Le.refl m);obtain⟨wk,m2,h,M,i⟩:=I.ok H.r Y J;obtain⟨B,N,a,y⟩:=I.own H O Q;rw[b]at N;have N:aR m1 d w B:=N;obtain⟨l,U,he,hm,G,put⟩:=I.mutD g t;obtain⟨A1,I1,K1⟩:=put m2 (xZ E q) (yf E u q d) (yf E U q w) (J.trans M) (EM (RR:=RR) (A:=A) E q G (J.trans M) (aR.frame d w B (λx _ o z=>M x o z) N) a y).1;rw[Q];show aC _ _ _ _ ((ae cl (.V j) env m1).bindS env _) _;rw[yZ he m1];show aC _ _ _ _ ((ae cl k env m1).bindS env _) _;rw[h];have e2:jW (.ref l) wk w m2=.ok .N (m2.set l (.D (xZ E q) (yf E U q w))):=by
    unfold jW;simp only[(J.trans M) l _ hm,vC i f,N0 n]
   show aC _ _ _ _ ((jW (.ref l) wk w m2).bindS env _) _;rw[e2];exact⟨env,_,A1,rfl,I1,K1⟩
  .trivial
 .trivial
end
section
variable{cl:N6}{lo:Nat}{RR:P5}
def cH (q:P8):ai R m (fi q) (.T (q.map Wd.int)):=ah.mpr ⟨_,rfl,dQ q⟩
set_option tactic.hygienic true in
theorem ga (U:∀x w m de lv env A,Inv lo RR m de lv env A->ai (zY RR A) m x w->aC lo RR A m (bw w env m) (bd x de lv)):
  ∀(E:O1) (i k:Nat) (m:Me) (de:aI) (lv:R8) (env:En) (A:O2),Inv lo RR m de lv env A->(∀k,l∉A k)->m[l]?=some (.D ks ws)->E=ks.drop i->i+E.length=ks.length->E.length<k->aC lo RR A m (xt bw l ks.length k i env m) (zN bd (E.map fi) de lv)
 |[],i,0,m,de,lv,env,A,I,hl,G,r,J,H=>by simp at H
 |d::e,i,0,m,de,lv,env,A,I,hl,G,r,J,H=>by simp at H
 |[],i,k+1,m,de,lv,env,A,I,hl,G,r,J,H=>by
  unfold xt zN;rw[G];simp only[if_true];rw[Qq (by simp at J;lia)];exact⟨env,m,A,rfl,I,a9.refl A m⟩
 |q::E,i,k+1,m,de,lv,env,A,I,hl,G,r,J,H=>by
  have Y:ks[i]?=some q:=by
   have:(ks.drop i)[0]?=some q:=by rw[<-r];rfl
   simpa using this
  have j:E=ks.drop (i+1):=by
   have:(ks.drop i).drop 1=E:=by rw[<-r];rfl
   rw[<-this,Ws]
  have M:i+1+E.length=ks.length:=by simp at J;lia
  have N:E.length<k:=by simp at H;lia
  have h:=U (fi q) _ m de lv env A I (cH q);unfold xt;rw[QS];unfold zN;rw[G];simp only[if_true];rw[Y];simp only;cases z:bd (fi q) de lv with
  |next d1 u=>
   rw[z]at h;obtain⟨o,m1,g,O,f,Q⟩:=h;rw[O];exact aC.keep Q (ga U E (i+1) k m1 d1 u o g f (Q.1 l _ hl G).1 (Q.1 l _ hl G).2 j M N)
  |ret d l=>
   rw[z]at h;obtain⟨w,m1,B,O,k⟩:=h;rw[O];exact⟨w,m1,B,rfl,k⟩
  |no=>trivial
set_option tactic.hygienic true in
def Hz (I:Inv lo RR m de lv env A)(J:de[x]?=some (some (.D ks ds))):
  ∃B l ws,Inv lo RR m de (lv.set x .no) env B/\a9 A m B m/\env[x]?=some (some (.ref l))/\(∀k,l∉B k)/\m[l]?=some (.D ks ws)/\ab (zY RR B) m ds ws:=by
 obtain⟨B,H,M,Y,_,_⟩:=Inv.downs [x] I;have G:∀i∈[x],∀l,(aP [x] lv)[i]?=some l->l=.no:=λi N l hl=>by
  rw[yg]at hl;split at hl
  .exact (Option.some.inj hl).symm
  .next q=>
   have:i<lv.length:=(Qa.mp hl).1;exact N2 ⟨N,this⟩ q
 have E:=wC H G;obtain⟨w,O,r⟩:=E.2 x (by simp) _ J;obtain⟨l,ws,rfl,Q,U,q⟩:=aH.mp r;exact⟨B,l,ws,H,M,O,Q.2,U,q⟩
set_option tactic.hygienic true in
def Gd{bw:Wd->En->Me->Rs}{bd:Dat->aI->R8->bG}(E:∀x w m de lv env A,Inv lo RR m de lv env A->ai (zY RR A) m x w->aC lo RR A m (bw w env m) (bd x de lv)){m:Me}{de:aI}{lv:R8}{env:En}{A:O2}(I:Inv lo RR m de lv env A)(x:Nat):
  aC lo RR A m ((ae cl (.V x) env m).bindS env λw m1=>match w with
   |.ref l=>xt bw l (vg m1 l) (aA+1) 0 env m1
   |_=>.no) (match de[x]? with
   |some (some (.D ks _))=>if ks.length<=aA then zN bd (ks.map fi) de (lv.set x .no)else .no
   |_=>.no):=by
 split
 .next ks Q G=>
  split
  .next U=>
   obtain⟨H,l,Y,J,M,N,O,B,q⟩:=Hz I G;rw[vA N m];have e:vg m l=ks.length:=by unfold vg;rw[B]
   show aC _ _ _ _ (xt bw l (vg m l) (aA+1) 0 env m) _;rw[e];exact aC.keep M (ga E ks 0 (aA+1) m de _ env H J O B rfl (by simp) (by lia))
  .trivial
 .trivial
end
section
variable{lev:R9}{cl:N6}{cd:N9}{lo:Nat}{RR:P5}
set_option tactic.hygienic true in
def Inv.bindSlot{m:Me}{de:aI}{lv:R8}{env:En}{A:O2}(I:Inv lo RR m de lv env A)(i:Nat){d:Dat}{w:Wd}(h:ai (zY RR A) m d w):Inv lo RR m (de.set i (some d)) (lv.set i (bQ d)) (env.set i (some w)) (aG A i [])/\a9 A m (aG A i []) m:=by
 refine I.store (Le.refl m) i (B:=[]) ?_ QB (by simp);unfold bQ;split
 .next f=>exact h.flat d w f
 .exact ⟨ai.frame (λx o r z=>⟨⟨.inl r,by simp⟩,z⟩) _ _ h,rfl⟩
set_option tactic.hygienic true in
theorem vU (G:∀x w m de lv env A,Inv lo RR m de lv env A->ai (zY RR A) m x w->aC lo RR A m (bw w env m) (bd x de lv)):
  ∀(ds:P9) (xs:R7) (m:Me) (de:aI) (lv:R8) (env:En) (A:O2),Inv lo RR m de lv env A->ab (zY RR A) m ds xs->aC lo RR A m (x0 bw xs env m) (zN bd ds de lv)
 |[],xs,m,de,lv,env,A,I,r=>by
  rw[r.nil_inv];exact⟨env,m,A,rfl,I,a9.refl A m⟩
 |d::ds,xs,m,de,lv,env,A,I,r=>by
  obtain⟨x,xs,rfl,a,b⟩:=r.cons_inv;have h:=G d x m de lv env A I a;unfold x0 zN;cases z:bd d de lv with
  |next d1 J=>
   rw[z]at h;obtain⟨M,m1,N,E,O,H⟩:=h;rw[E];exact aC.keep H (vU G ds xs m1 d1 J M N O (H.repL b))
  |ret d l=>
   rw[z]at h;obtain⟨w,m1,B,E,k⟩:=h;rw[E];exact⟨w,m1,B,rfl,k⟩
  |no=>trivial
set_option tactic.hygienic true in
theorem gb (U:∀x w m de lv env A,Inv lo RR m de lv env A->ai (zY RR A) m x w->aC lo RR A m (bw w env m) (bd x de lv)):
  ∀(ds:P9) (i k:Nat) (m:Me) (de:aI) (lv:R8) (env:En) (A:O2),Inv lo RR m de lv env A->(∀k,l∉A k)->m[l]?=some (.L E)->ab (zY RR A) m ds (E.drop i)->i+ds.length=E.length->ds.length<k->aC lo RR A m (xq bw l k i env m) (zN bd ds de lv)
 |[],i,0,m,de,lv,env,A,I,hl,G,r,J,H=>by simp at H
 |d::ds,i,0,m,de,lv,env,A,I,hl,G,r,J,H=>by simp at H
 |[],i,k+1,m,de,lv,env,A,I,hl,G,r,J,H=>by
  unfold xq zN zh;rw[G];simp only;rw[Qq (by simp at J;lia)];exact⟨env,m,A,rfl,I,a9.refl A m⟩
 |d::ds,i,k+1,m,de,lv,env,A,I,hl,G,r,J,H=>by
  obtain⟨x,q,Y,a,b⟩:=r.cons_inv;have j:E[i]?=some x:=by
   have:(E.drop i)[0]?=some x:=by rw[Y];rfl
   simpa using this
  have u:q=E.drop (i+1):=by
   have:(E.drop i).drop 1=q:=by rw[Y];rfl
   rw[<-this,Ws]
  rw[u]at b;have N:i+1+ds.length=E.length:=by simp at J;lia
  have O:ds.length<k:=by simp at H;lia
  have h:=U d x m de lv env A I a;unfold xq zN zh;rw[G];simp only;rw[j];simp only;cases z:bd d de lv with
  |next d1 o=>
   rw[z]at h;obtain⟨g,m1,f,Q,e,M⟩:=h;rw[Q];exact aC.keep M (gb U ds (i+1) k m1 d1 o g f e (M.1 l _ hl G).1 (M.1 l _ hl G).2 (M.repL b) N O)
  |ret d l=>
   rw[z]at h;obtain⟨w,m1,B,Q,k⟩:=h;rw[Q];exact⟨w,m1,B,rfl,k⟩
  |no=>trivial
set_option tactic.hygienic true in
def ua{bw:Wd->En->Me->Rs}{bd:Dat->aI->R8->bG}(H:bn lev cl cd)(O:∀x w m de lv env A,Inv lo RR m de lv env A->ai (zY RR A) m x w->aC lo RR A m (bw w env m) (bd x de lv)){m:Me}{de:aI}{lv:R8}{env:En}{A:O2}(I:Inv lo RR m de lv env A)(it:Ex):
  aC lo RR A m ((ae cl it env m).bindS env λw m1=>gH bw w env m1) ((au cd it de).bindS λd=>match cy d with
   |some xs=>zN bd xs de (if ay d then lv else xP it de lv)
   |none=>.no):=by
 have run:∀(d:Dat) (w:Wd) (m1:Me) (xs:P9) (E:R8) (J:O2),cy d=some xs->Inv lo RR m1 de E env J->ai (zY RR J) m1 d w->aC lo RR J m1 (gH bw w env m1) (zN bd xs de E):=by
  intro d w m1 xs E J B M r;cases d with
  |T U=>cases B;obtain⟨Y,rfl,G⟩:=ah.mp r;exact vU O _ _ _ _ _ _ _ M G
  |scr j=>cases B;rw[aS.mp r];exact vU O _ _ _ _ _ _ _ M (dQ j)
  |L U=>
   simp only[cy]at B;split at B
   .next z=>
    cases B;obtain⟨l,Y,rfl,u,g,G⟩:=av.mp r;have:=G.len;exact gb O _ 0 (aA+1) m1 de E env J M u.2 g (by simpa using G) (by lia) (by lia)
   .cases B
  |_=>cases B
 cases z:au cd it de with
 |no=>trivial
 |ok d=>
  show aC lo RR A m _ (match cy d with
   |some xs=>zN bd xs de (if ay d then lv else xP it de lv)
   |none=>.no)
  cases B:cy d with
  |none=>trivial
  |some xs=>
   simp only;split
   .next f=>
    obtain⟨w,m1,Q,N,G⟩:=I.ok H.r z (Le.refl m);rw[Q];exact aC.keep (xQ N) (run d w m1 xs lv A B (I.ext N) (aR.rep d w [] (by simp) (G.flat d w f)))
   .obtain ⟨J,M,e,_,h⟩:=I.relEv H it;rw[z]at h;obtain⟨w,m1,Q,N,G⟩:=h.sim;rw[Q];refine aC.keep (e.trans (xQ N)) (run d w m1 xs _ J B (M.ext N) (ai.frame (λx o r z=>⟨?_,z⟩) _ _ G));rcases r with r|r
    .exact r
    .exact ⟨I.rr x (Qp I.lom r),λk t=>by have:=(M.bd k x t).2;lia⟩
set_option tactic.hygienic true in
theorem gc{J:En->Me->Rz}{bw:En->Me->Rs}{c:aI->Rd}{bd:aI->R8->bG}(M:∀m de lv env A,Inv lo RR m de lv env A->match c de with |.ok d=>∃w m1,J env m=.ok w m1/\Le m m1/\ai RR m1 d w |.no=>True)
  (N:∀m de lv env A,Inv lo RR m de lv env A->aC lo RR A m (bw env m) (bd de lv)):∀(k:Nat) (m:Me) (de:aI) (lv:R8) (env:En) (A:O2),Inv lo RR m de lv env A->aC lo RR A m (kW J bw k env m) (wf c bd k de lv)
 |0,m,de,lv,env,A,I=>trivial
 |k+1,m,de,lv,env,A,I=>by
  have h:=M m de lv env A I;unfold kW wf;cases z:c de with
  |no=>trivial
  |ok d=>
   rw[z]at h;obtain⟨w,m1,Q,E,U⟩:=h;rw[Q];cases d with
   |bl b=>
    rw[ag.mp U];cases b with
    |false=>exact⟨env,m1,A,rfl,I.ext E,xQ E⟩
    |true=>
     have G:=N m1 de lv env A (I.ext E);refine aC.keep (xQ E) ?_;simp only;cases O:bd de lv with
     |next d1 Y=>
      rw[O]at G;obtain⟨j,m2,u,H,o,g⟩:=G;rw[H];exact aC.keep g (gc M N k m2 d1 Y j u o)
     |ret d l=>
      rw[O]at G;obtain⟨w,m2,B,H,k⟩:=G;rw[H];exact⟨w,m2,B,rfl,k⟩
     |no=>trivial
   |_=>trivial
set_option tactic.hygienic true in
def Hy (y:∀(p:Dat×Dat) t J m de lv env A,Inv lo RR m de lv env A->ai (zY RR A) m p.1 t->ai (zY RR A) m p.2 J->aC lo RR A m (bw (.T [t,J]) env m) (bd p de lv))(ps:List (Dat×Dat)):
  ∀(i k:Nat) (m:Me) (de:aI) (lv:R8) (env:En) (A:O2),Inv lo RR m de lv env A->(∀k,H∉A k)->m[H]?=some (.L xs)->ab (zY RR A) m E xs ->
   ps=((yr 0 1 E.length).zip E).drop i->i+ps.length=E.length->ps.length<k->aC lo RR A m (xB bw (zn .enum (.ref H) (.int 0)) k i env m) (zN bd ps de lv):=by
 induction ps with
 |nil=>
  intro i k m de lv env A I Q G M U Y N;obtain⟨k,rfl⟩:∃q,k=q+1:=⟨k-1,by simp at N;lia⟩;have b:=M.len;have e:zn .enum (.ref H) (.int 0) i m=some none:=by
   simp only[zn,zh,G];simp only[List.length_nil]at Y;rw[Qq (by lia)];rfl
  unfold xB zN;rw[e];exact⟨env,m,A,rfl,I,a9.refl A m⟩
 |cons p ps ih=>
  intro i k m de lv env A I Q G M U Y N;obtain⟨k,rfl⟩:∃q,k=q+1:=⟨k-1,by simp at N;lia⟩;have hx:((yr 0 1 E.length).zip E)[i]?=some p:=by
   have:(((yr 0 1 E.length).zip E).drop i)[0]?=some p:=by rw[<-U];rfl
   simpa using this
  have hr:ps=((yr 0 1 E.length).zip E).drop (i+1):=by
   have:(((yr 0 1 E.length).zip E).drop i).drop 1=ps:=by rw[<-U];rfl
   rw[<-this,Ws]
  obtain⟨n,a⟩:=kI hx;obtain⟨J,b1,b2⟩:=M.get a;have j:i<E.length:=(Qa.mp a).1;have u:p.1=.int (0+(i:Int)):=by
   have:(yr 0 1 E.length)[i]?=some (.int (0+1*(i:Int))):=by simp[yr,j]
   rw[this]at n;rw[<-Option.some.inj n,Int.one_mul]
  have e:zn .enum (.ref H) (.int 0) i m=some (some (.int (0+(i:Int)),J)):=by simp only[zn,zh,G,b1,QR]
  have o:i+1+ps.length=E.length:=by simp only[WB]at Y;lia
  have g:ps.length<k:=by simp only[WB]at N;lia
  have h:=y p (.int (0+(i:Int))) J m de lv env A I (by rw[u];exact aa.mpr rfl) b2;unfold xB zN;rw[e];simp only;cases z:bd p de lv with
  |next d1 b=>
   rw[z]at h;obtain⟨e1,m1,A1,f,I1,O⟩:=h;rw[f];exact aC.keep O (ih (i+1) k m1 d1 b e1 A1 I1 (O.1 H _ Q G).1 (O.1 H _ Q G).2 (O.repL M) hr o g)
  |ret d l=>
   rw[z]at h;obtain⟨w,m1,B,f,k⟩:=h;rw[f];exact⟨w,m1,B,rfl,k⟩
  |no=>trivial
set_option tactic.hygienic true in
def Gc(H:bn lev cl cd){bw:Wd->En->Me->Rs}{bd:Dat×Dat->aI->R8->bG}(u:∀(p:Dat×Dat) M U m de lv env A,Inv lo RR m de lv env A->ai (zY RR A) m p.1 M->ai (zY RR A) m p.2 U->aC lo RR A m (bw (.T [M,U]) env m) (bd p de lv)){m:Me}{de:aI}{lv:R8}{env:En}{A:O2}(I:Inv lo RR m de lv env A)(a:Ex):
  aC lo RR A m ((ae cl a env m).bindS env λx m1=>xB bw (zn .enum x (.int 0)) (aA+1) 0 env m1) ((au cd a de).okS λx=>match xl .enum x (.int 0)with
   |some ps=>zN bd ps de (aP (zl a) lv)
   |none=>.no):=by
 obtain⟨G,J,d,hA,_,_⟩:=Inv.downs (zl a) I;have N:∀i∈zl a,∀l,(aP (zl a) lv)[i]?=some l->l=.no:=λi g l hl=>by
  rw[yg]at hl;split at hl
  .exact (Option.some.inj hl).symm
  .next q=>
   have:i<lv.length:=(Qa.mp hl).1;exact N2 ⟨g,this⟩ q
 have E:=wC J N;have f:∀{n:Nat}{x:Nat},m.length<=n->Rf (zY RR G) n x->zY RR G x:=λ{n x} e r=>by
  rcases r with r|r
  .exact r
  .exact ⟨J.rr x (Qp J.lom (Qp e r)),λk t=>by have:=(J.bd k x t).2;lia⟩
 refine aC.okS λx b=>?_;cases B:xl .enum x (.int 0)with
 |none=>trivial
 |some ps=>
  have Y:=za H.r a (zY RR G) m de env E;rw[b]at Y;obtain⟨M,m1,w,j,y⟩:=Y;have O:ai (zY RR G) m1 x M:=ai.frame (λl o r z=>⟨f (Qk _) r,z⟩) _ _ y;rw[w];simp only[Rz.bindS];unfold xl at B;split at B
  .next h=>cases h
  .obtain ⟨la,xs,rfl,fa,Q,ra⟩:=av.mp O
   next z0=>
   cases z0;split at B
   .next z=>
    cases B;refine aC.keep (d.trans (xQ j)) (Hy u _ 0 (aA+1) m1 de _ env G (J.ext j) fa.2 Q ra (by simp) (by simp[yr]) ?_);simp only[Vd];lia
   .cases B
  .contradiction
  .contradiction
  .cases B
def Inv.drop{m:Me}{de:aI}{lv:R8}{env:En}{A:O2}(I:Inv lo RR m de lv env A)(i:Nat)(G:i<de.length):Inv lo RR m (de.set i none) (lv.set i .F) env A:=by
 refine⟨by simp[I.len],by simp[I.lvl],I.rr,I.lom,λk d l B E=>?_,I.nd,I.dj,I.bd⟩;by_cases e:i=k
 .subst e;rw[QE,N0 rfl]at B;split at B
  .cases B
  .cases B
 .rw[Qi e]at B E;exact I.slot k d l B E
set_option tactic.hygienic true in
def aj.leng (h:aj m ds xs B):ds.length=xs.length:=(aj.rep (R:=λ_=>True) ds xs B (λ_ _=>trivial) h).len
noncomputable def iQ(cl:N6)(i k:Nat):Wd->En->Me->Rs:=zB (bR i k) λe m=>(ae cl (.meth .clear (.V i) .u) e m).bindS e λ_ m1=>.next e m1
set_option tactic.hygienic true in
theorem sY:∀{ds:P9}{xs:R7}{B:R5},aj m ds xs B->fj ds=true->∀q,q<xs.length->∃a v ys,xs[q]?=some (.T [.ref a,v])/\a∈B/\m[a]?=some (.L ys)
 |[],xs,B,h,_=>by
  obtain⟨rfl,rfl⟩:=h.nil_inv;exact λq E=>by simp at E
 |d::ds,xs,B,h,A=>by
  obtain⟨x,r,u,C,rfl,rfl,a,b⟩:=h.cons_inv;unfold fj at A;split at A
  .next e=>cases e
  .next z f o e=>
   cases e;obtain⟨g,rfl,G⟩:=aY.mp a;obtain⟨t,n,i,w,rfl,rfl,H,I⟩:=G.cons_inv;obtain⟨J,y,D3,D4,rfl,rfl,o3,M⟩:=I.cons_inv;obtain⟨rfl,rfl⟩:=M.nil_inv;obtain⟨l,ys,E1,rfl,rfl,N,_⟩:=aM.mp H;intro q E;cases q with
   |zero=>exact⟨l,J,ys,rfl,by simp,N⟩
   |succ q=>
    obtain⟨O,v,Q,U,Y,j⟩:=sY b A q (by simpa using E);exact⟨O,v,Q,by simpa using U,by simp[Y],j⟩
  .cases A
def Hx (J:i≠k){B:R5}(hl:l∉B)(n:Nat):∀(p f:Nat) (m:Me) (env:En),m[l]?=some (.L xs)->p+n=xs.length->n<f->i<env.length->k<env.length->(∀q,q<xs.length->∃a v ys,xs[q]?=some (.T [.ref a,v])/\a∈B/\m[a]?=some (.L ys)) ->
  ∃A m',xq (iQ cl i k) l f p env m=.next A m'/\m'.length=m.length/\A.length=env.length/\(∀q,q≠i->q≠k->A[q]?=env[q]?)/\m'[l]?=some (.L xs)/\∀x,x∉B->m'[x]?=m[x]?:=by
 induction n with
 |zero=>
  intro p f m env E g e M U N;obtain⟨f,rfl⟩:∃q,f=q+1:=⟨f-1,by lia⟩;refine⟨env,m,?_,rfl,rfl,λ_ _ _=>rfl,E,λ_ _=>rfl⟩;unfold xq zh;rw[E];simp only;rw[Qq (by lia)]
 |succ n t=>
  intro p f m env E g e M U N;obtain⟨f,rfl⟩:∃q,f=q+1:=⟨f-1,by lia⟩;obtain⟨a,v,ys,h,Y,j⟩:=N p (by lia);have O:a≠l:=λz=>hl (z▸Y);have G:a<m.length:=(Qa.mp j).1;obtain⟨A,m',w,y,r3,r4,r5,r6⟩:=t (p+1) f (m.set a (.L [])) ((env.set i (some (.ref a))).set k (some v)) (by rw[Qi O];exact E) (by lia) (by lia) (by simpa using M) (by simpa using U) λq hq=>by
   obtain⟨b,u,zs,o,d,g3⟩:=N q hq;by_cases H:a=b
   .subst H;exact⟨a,u,[],o,d,by rw[QU G]⟩
   .exact ⟨b,u,zs,o,d,by rw[Qi H];exact g3⟩
  refine⟨A,m',?_,by rw[y];simp,by rw[r3];simp,λq a b=>by rw[r4 q a b,Qi (Ne.symm b),Qi (Ne.symm a)],r5,λx I=>by rw[r6 x I,Qi (show a≠x from λz=>I (z▸Y))]⟩;have Q:iQ cl i k (.T [.ref a,v]) env m=.next ((env.set i (some (.ref a))).set k (some v)) (m.set a (.L [])):=by
   unfold iQ zB bR;simp only;rw[kJ (x:=.ref a) (m1:=m) (yZ (by rw[Qi (Ne.symm J)];exact QU M) m)];simp only[cS,j];rfl
  unfold xq zh;rw[E];simp only;rw[h];simp only;rw[Q];exact w
def Gb (I:Inv lo RR m de lv env A)(i k x:Nat):aC lo RR A m (aV cl (.clrT i k x) env m) (aK lev cd (.clrT i k x) de lv):=by
 have hS:aV cl (.clrT i k x) env m=match (ae cl (.V x) env m).bindS env λw m1=>gH (iQ cl i k) w env m1 with
  |.next H m1=>(ae cl (.meth .clear (.V x) .u) H m1).bindS H λ_ m2=>.next H m2
  |r=>r:=rfl
 rw[hS];show aC _ _ _ _ _ (match vR de x with
  |some J=>if fj J=true/\i≠k/\i≠x/\k≠x/\i<de.length/\k<de.length/\lv[x]?=some .F/\J.length<=aA then .next (((de.set i none).set k none).set x none) (((lv.set i .F).set k .F).set x .F)else .no
  |none=>.no)
 cases H:vR de x with
 |none=>trivial
 |some J=>
  simp only;by_cases h:fj J=true/\i≠k/\i≠x/\k≠x/\i<de.length/\k<de.length/\lv[x]?=some .F/\J.length<=aA
  .rw[N0 h];obtain⟨U,Y,j,u,hi,hk,g,hl⟩:=h;have hd:=wD H;obtain⟨w,a,b⟩:=I.slot x _ .F hd g;obtain⟨l,xs,B,rfl,t,M,r⟩:=aM.mp b;have n:=r.leng;have nd:=I.nd x;rw[t]at nd;obtain⟨nl,nB⟩:=QC.mp nd;rw[yZ a m];simp only[Rz.bindS,gH];obtain⟨G,m1,r1,r2,r3,r4,r5,r6⟩:=Hx (cl:=cl) Y nl xs.length 0 (aA+1) m env M (by lia) (by lia) (by rw[<-I.len];exact hi) (by rw[<-I.len];exact hk) (sY r U);rw[r1];simp only;have f:G[x]?=some (some (.ref l)):=by rw[r4 x (Ne.symm j) (Ne.symm u)];exact a
   rw[kJ (x:=.ref l) (m1:=m1) (yZ f m1)];simp only[cS,r5];show aC _ _ _ _ (.next G (m1.set l (.L []))) _;have h5:∀y,y∉A x->(m1.set l (.L []))[y]?=m[y]?:=λy e=>by
    rw[t]at e;rw[Qi (λz=>e (by simp[z])),r6 y (λz=>e (by simp[z]))]
   have same:∀y o,y∉A x->m[y]?=some o->(m1.set l (.L []))[y]?=some o:=λy o a b=>by rw[h5 y a];exact b
   have h2:m.length<=(m1.set l (Ob.L [])).length:=by simp[r2]
   have E:∀q a,a∈(if q=i\/q=k\/q=x then[]else A q)->a∈A q:=λq a h=>by
    split at h
    .cases h
    .exact h
   refine⟨G,m1.set l (.L []),λq=>if q=i\/q=k\/q=x then[]else A q,rfl,⟨by simp[r3,I.len],by simp[I.lvl],I.rr,Qp I.lom h2,?_,?_,?_,?_⟩,⟨λl o a b=>⟨λq z=>a q (E q l z),same l o (a x) b⟩,h2⟩⟩
   .intro p d lx a b;have N:p≠x:=λz=>by
     subst z;rw[QE]at a;rw[N0 rfl]at a;split at a<;>cases a
    rw[Qi (Ne.symm N)]at a b;have O:p≠k:=λz=>by
     subst z;rw[QE]at a;rw[N0 rfl]at a;split at a<;>cases a
    rw[Qi (Ne.symm O)]at a b;have Q:p≠i:=λz=>by
     subst z;rw[QE]at a;rw[N0 rfl]at a;split at a<;>cases a
    rw[Qi (Ne.symm Q)]at a b;obtain⟨v,g1,g2⟩:=I.slot p d lx a b;refine⟨v,by rw[r4 p Q O];exact g1,?_⟩;rw[N1 (by intro z;rcases z with z|z|z<;>contradiction)];exact g2.frame (λy o r M=>⟨⟨r.1,λq z=>r.2 q (E q y z)⟩,same y o (r.2 x) M⟩) (λy g o M=>same y o (λz=>N (I.dj p x y g z)) M)
   .intro p;split
    .exact QB
    .exact I.nd p
   .intro p q a h h';exact I.dj p q a (E p a h) (E q a h')
   .intro p a h;have:=I.bd p a (E p a h);exact⟨this.1,by lia⟩
  .rw[N1 h];trivial
def EL (H:bn lev cl cd)(I:Inv lo RR m de lv env A)(i:Nat)(e c f:Ex):aC lo RR A m (aV cl (.bor i e c f) env m) (aK lev cd (.bor i e c f) de lv):=by
 show aC _ _ _ _ ((ae cl e env m).bindS env λw m1=>(ae cl c (env.set i (some w)) m1).bindS (env.set i (some w)) λb m2=>match b with
  |.bl true=>.ret (.bl false) m2
  |.bl false=>(ae cl f (env.set i (some w)) m2).bindS (env.set i (some w)) λb m3=>match b with
   |.bl true=>.ret (.bl false) m3
   |.bl false=>.next (env.set i (some w)) m3
   |_=>.no
  |_=>.no) ((au cd e de).okS λd=>(au cd c (de.set i (some d))).okS λb=>match b with
  |.bl true=>.ret (.bl false) .F
  |.bl false=>(au cd f (de.set i (some d))).okS λb=>match b with
   |.bl true=>.ret (.bl false) .F
   |.bl false=>if i<de.length then .next (de.set i none) (lv.set i .F)else .no
   |_=>.no
  |_=>.no)
 refine aC.okS λd t=>aC.okS λb n=>?_;obtain⟨w,m1,h,E,y⟩:=I.ok H.r t (Le.refl m);have Y:∀{B:Me}(O:R5),Le m1 B->bB RR B O (de.set i (some d)) (env.set i (some w)):=λ{B} O l=>by
  have q:=(I.ext (E.trans l)).envR O;refine⟨by simp[q.1],λk hk x J=>?_⟩;by_cases e:i=k
  .subst e;have M:i<de.length:=by have:=(Qa.mp J).1;simpa using this
   rw[QU M]at J;cases J;exact⟨w,QU (by rw[<-I.len];exact M),ai.frame (λx o r z=>⟨r,l x o z⟩) _ _ y⟩
  .rw[Qi e]at J;obtain⟨v,a,b⟩:=q.2 k hk x J;exact⟨v,by rw[Qi e];exact a,b⟩
 have j:=za H.r c RR m1 _ _ (Y (zl c) (Le.refl m1));rw[n]at j;obtain⟨v,m2,h2,G,r2⟩:=j;rw[h];simp only[Rz.bindS];rw[h2];simp only;have kp:∀{B:Me},Le m B->(∀(x:Nat) o,(∀i,x∉A i)->m[x]?=some o->B[x]?=some o)/\m.length<=B.length:=λl=>⟨λx o _ b=>l x o b,l.len⟩;have u:∀{B:Me},Le m B->aC lo RR A m (.ret (.bl false) B) (.ret (.bl false) .F):=λ{B} l=>
  ⟨.bl false,B,[],rfl,kp l,(ag.mpr rfl:ai (λ_=>True) B (.bl false) (.bl false)).flat _ _ rfl,QB,by simp⟩
 cases b with
 |bl b=>
  obtain rfl:=ag.mp r2;cases b with
  |true=>exact u (E.trans G)
  |false=>
   simp only;refine aC.okS λQ U=>?_;have g:=za H.r f RR m2 _ _ (Y (zl f) G);rw[U]at g;obtain⟨v3,m3,h3,N,r3⟩:=g;rw[h3];simp only;cases Q with
   |bl Q=>
    obtain rfl:=ag.mp r3;cases Q with
    |true=>exact u ((E.trans G).trans N)
    |false=>
     simp only;by_cases M:i<de.length
     .rw[N0 M];exact⟨_,_,A,rfl,(I.ext ((E.trans G).trans N)).forget i w,⟨λl o a b=>⟨a,((E.trans G).trans N) l o b⟩,((E.trans G).trans N).len⟩⟩
     .rw[N1 M];trivial
   |_=>trivial
 |_=>trivial
set_option tactic.hygienic true in
def EK (I:Inv lo RR m de lv env A)(h:fL j de lv=some (v,E)):
  ∃m1 B,ae cl (.meth .pop (.V j) .u) env m=.ok (.int v) m1/\Inv lo RR m1 E lv env B/\a9 A m B m1:=by
 unfold fL at h;split at h
 .next H O=>
  split at h
  .next o J=>
   split at h
   .next Q=>
    cases h;obtain⟨l,G,U,m1,M,put⟩:=I.mut (wD O) Q;obtain⟨B,Y,u⟩:=put m H.dropLast G.dropLast (Le.refl m) (λ_=>(AA (RR:=RR) (A:=A)).1) (λ_=>(AA (RR:=RR) (A:=A)).2);rw[List.getLast?_eq_getElem?]at J;obtain⟨y,N,z⟩:=M.get J;rw[aa.mp z]at N;refine⟨_,B,?_,Y,u⟩;rw[kJ (x:=.ref l) (m1:=m) (yZ U m)];simp only[cS,m1];rw[<-M.len];show(match G[H.length-1]? with
     |some y=>Rz.ok y (m.set l (.L G.dropLast))
     |none=>.no)=_
    rw[N]
   .cases h
  .cases h
 .cases h
def EJ {ds:P9}(o:aR m d w A)(O:A.Nodup)(e:zW d (.int i)=.ok v)(u:ay v=false):
  ∃x B,wO w (.int i) m=.ok x m/\aR m v x B/\B.Nodup/\∀b∈B,b∈A:=by
 have go:∀(ds:P9) (E:R7) (C:R5),yH d=some ds->yE m w=some E->aj m ds E C->C.Nodup->(∀b∈C,b∈A)->∃x B,wO w (.int i) m=.ok x m/\aR m v x B/\B.Nodup/\∀b∈B,b∈A:=by
  intro ds E C z g r Q f;simp only[zW,z]at e;have I:=aj.len r;cases G:(ix ds.length i).bind λj=>ds[j]? with
  |none=>rw[G]at e;cases e
  |some t=>
   rw[G]at e;cases e;obtain⟨p,M,H⟩:=Qt.mp G;obtain⟨x,B1,h,B2,a,U,y,g4,g5⟩:=r.split H;rw[I]at M;refine⟨x,h,?_,y,?_,λb J=>f b ?_⟩
   .simp only[wO,g,M,QW,a]
   .rw[U]at Q;exact(Qw.mp (Qw.mp Q).2.1).1
   .rw[U];simp[J]
 cases d with
 |L ds=>
  obtain⟨l,E,B,rfl,rfl,hm,r⟩:=aM.mp o;exact go ds E B rfl (by show zh m l=some E;unfold zh;rw[hm]) r (QC.mp O).2 (λb J=>Qg _ J)
 |T ds=>
  obtain⟨E,rfl,r⟩:=aY.mp o;exact go ds E A rfl rfl r O (λb J=>J)
 |scr N=>
  simp only[zW,yH]at e;cases G:(ix (N.map Dat.int).length i).bind λj=>(N.map Dat.int)[j]? with
  |none=>rw[G]at e;cases e
  |some t=>
   rw[G]at e;cases e;obtain⟨p,M,H⟩:=Qt.mp G;rw[Qm]at H;cases Y:N[p]? with
   |none=>rw[Y]at H;cases H
   |some n=>rw[Y]at H;cases H;cases u
 |_=>cases e
theorem t9 (a:aR m d x B):∀{ps:List (P8×Dat)}{A:List (P8×Wd)}{C:R5},ps.map Prod.fst=A.map Prod.fst->aj m (ps.map Prod.snd) (A.map Prod.snd) C ->
  (zZ (k,d) ps).map Prod.fst=(zZ (k,x) A).map Prod.fst/\∃D,aj m ((zZ (k,d) ps).map Prod.snd) ((zZ (k,x) A).map Prod.snd) D/\D.Perm (B++C)
 |[],[],C,_,r=>⟨rfl,_,.cons a r,.refl _⟩
 |[],_::_,_,h,_=>by cases h
 |_::_,[],_,h,_=>by cases h
 |p::ps,q::A,C,h,r=>by
  obtain⟨E,G⟩:=List.cons.inj (show p.1::ps.map Prod.fst=q.1::A.map Prod.fst from h);show(if cg k p.1 then(k,d)::p::ps else p::zZ (k,d) ps).map Prod.fst=(if cg k q.1 then(k,x)::q::A else q::zZ (k,x) A).map Prod.fst/\∃D,aj m ((if cg k p.1 then(k,d)::p::ps else p::zZ (k,d) ps).map Prod.snd) ((if cg k q.1 then(k,x)::q::A else q::zZ (k,x) A).map Prod.snd) D/\D.Perm (B++C);rw[E];cases cg k q.1 with
  |true=>exact⟨NY (k::·) h,_,.cons a r,.refl _⟩
  |false=>
   obtain⟨_,_,H,I,e,rfl,J,M⟩:=aj.cons_inv (show aj m (p.2::ps.map Prod.snd) (q.2::A.map Prod.snd) C from r);cases e;obtain⟨N,D,O,Q⟩:=t9 a G M;refine⟨by show p.1::(zZ (k,d) ps).map Prod.fst=q.1::(zZ (k,x) A).map Prod.fst;rw[E,N],_,.cons J O,?_⟩;refine(Q.append_left H).trans ?_;rw[<-QZ,<-QZ];exact List.perm_append_comm.append_right I
theorem Ay:∀{ks:O1}{ds:P9}{xs:R7}{C:R5},ks.length=ds.length->aj m ds xs C ->
  (zt (ks.zip ds)).map Prod.fst=(zt (ks.zip xs)).map Prod.fst/\∃D,aj m ((zt (ks.zip ds)).map Prod.snd) ((zt (ks.zip xs)).map Prod.snd) D/\D.Perm C
 |[],[],_,_,_,r=>by obtain⟨rfl,rfl⟩:=r.nil_inv;exact⟨rfl,[],.nil,.refl _⟩
 |[],_::_,_,_,h,_=>by cases h
 |_::_,[],_,_,h,_=>by cases h
 |k::ks,d::ds,xs,C,h,r=>by
  obtain⟨x,Q,A,U,rfl,rfl,B,E⟩:=r.cons_inv;obtain⟨G,D,H,I⟩:=Ay (ks:=ks) (Nat.succ.inj h) E;obtain⟨J,M,N,O⟩:=t9 (k:=k) B G H;rw[Wu,Wu,zU,zU];exact⟨J,M,N,O.trans (I.append_left A)⟩
theorem gf:∀{ds:P9}{ks:O1},xU ds=some ks->ks.length=ds.length
 |[],_,h=>by cases h;rfl
 |d::ds,ks,h=>by
  cases d with
  |L G=>
   have A:(match eR G,xU ds with
    |some k,some ks=>some (k::ks)
    |_,_=>none)=some ks:=h
   cases B:eR G with
   |none=>simp only[B]at A;cases A
   |some k=>
    cases E:xU ds with
    |none=>simp only[B,E]at A;cases A
    |some H=>
     simp only[B,E]at A;cases A;exact NY (·+1) (gf E)
  |_=>cases h
def IV (I:Inv lo RR m de lv env A)(hj:lv[j]?=some .F)(z:au cd (.blt .sorted (.P (.i (.V j) (.V k)) .u)) de=.ok d)(h2:ae cl (.blt .sorted (.P (.i (.V j) (.V k)) .u)) env m=.ok w m1):∃B,a7 (λx=>RR x/\x∉B) m1 .F d w B/\B.Nodup/\∀b∈B,lo<=b:=by
 have G:((((au cd (.V j) de).bind λx=>(au cd (.V k) de).bind λy=>zW x y).bind λx=>(Rd.ok (.T [])).bind λy=>.ok (.T (x::zw y))).bind λx=>wF .sorted (zw x))=.ok d:=z;have M:((((ae cl (.V j) env m).bind λx m1=>(ae cl (.V k) env m1).bind λy m2=>wO x y m2).bind λx m1=>(Rz.ok (.T []) m1).bind λy m2=>.ok (.T (x::zj y)) m2).bind λx m1=>vf .sorted (zj x) m1)=.ok w m1:=h2;cases g:au cd (.V j) de with
 |no=>rw[g]at G;cases G
 |ok dj=>
  cases n:au cd (.V k) de with
  |no=>rw[g,n]at G;cases G
  |ok dk=>
   rw[g,n]at G;simp only[Rd.bind]at G;have g1:=vB g;have g2:=vB n;cases dk with
   |int i=>
    cases h:zW dj (.int i)with
    |no=>rw[h]at G;cases G
    |ok v=>
     rw[h]at G;simp only[zw]at G;cases v with
     |L N=>
      have f:(match (dt (xU N)).bind λH=>yF Dat H N with|some i=>bo i|none=>.no)=.ok d:=G;cases a:(dt (xU N)).bind λH=>yF Dat H N with
      |none=>rw[a]at f;cases f
      |some E=>
       rw[a]at f;obtain⟨H,k1,k2⟩:=Qt.mp a;obtain⟨lk,hlk⟩:=I.getlv g2;obtain⟨wj,ej,oj⟩:=I.slot j dj .F g1 hj;obtain⟨wk,ek,ok⟩:=I.slot k _ lk g2 hlk;have rk:ai (λ_=>True) m (.int i) wk:=a7.rep (λ_ _=>trivial) (λ_ _=>trivial) ok;obtain rfl:=aa.mp rk;obtain⟨x,B,hx,ox,nB,hB⟩:=EJ (ds:=[]) oj (I.nd j) h rfl;obtain⟨l2,O,B2,rfl,rfl,hm2,r2⟩:=aM.mp ox;rw[yZ ej m]at M;simp only[Rz.bind]at M;rw[yZ ek m]at M;simp only[Rz.bind,hx,zj]at M;have rr:ab (λ_=>True) m N O:=aj.rep N O B2 (λ_ _=>trivial) r2;obtain⟨U,h3,_⟩:=AE rr k2;have e3:zh m l2=some O:=by unfold zh;rw[hm2]
       have e4:((dt (xX m O)).bind λH=>yF Wd H O)=some U:=by rw[jA rr (qj k1).1,uj k1];exact h3
       simp only[vf,e3,e4]at M;have nB2:=(QC.mp nB).2;obtain⟨Q,Y,e,s3⟩:∃Q,aj m E U Q/\Q.Nodup/\∀b∈Q,b∈B2:=by
        obtain⟨e1,D,Y,e⟩:=Ay (gf (qj k1).1) r2;rw[xY]at k2 h3;have J:(if yk ((zt (H.zip N)).map Prod.fst)then some ((zt (H.zip N)).map Prod.snd)else none)=some E:=k2;have u:(if yk ((zt (H.zip O)).map Prod.fst)then some ((zt (H.zip O)).map Prod.snd)else none)=some U:=h3;rw[e1]at J;cases c:yk ((zt (H.zip O)).map Prod.fst)with
        |false=>rw[c]at J;cases J
        |true=>rw[c]at J u;cases J;cases u;exact⟨D,Y,e.nodup_iff.mpr nB2,λb hb=>e.mem_iff.mp hb⟩
       have hlen:=aj.len Y;have t:(if E.length<=aA then Rd.ok (.L E)else .no)=.ok d:=f;unfold alloc at M;by_cases c:E.length<=aA
       .rw[N0 c]at t;rw[N0 (by lia)]at M;cases t;cases M;have hlt:=aj.lt E U Q Y;refine⟨m.length::Q,aM.mpr ⟨_,U,Q,rfl,rfl,by simp,aj.frame E U Q (λl hl o q=>Le.app m _ l o q) Y⟩,QC.mpr ⟨λq=>by have:=hlt _ q;lia,e⟩,λb hb=>?_⟩;rcases Qn.mp hb with rfl|hb
        .exact I.lom
        .exact (I.bd j b (hB b (Qg _ (s3 b hb)))).1
       .rw[N1 c]at t;cases t
     |_=>cases G
   |_=>cases G
theorem t8:∀{ks:O1}{ds:P9}{xs:R7}{A:R5},aj m ds xs A->A.Nodup->bX ks ds q=some d->∃x B,bX ks xs q=some x/\aR m d x B/\B.Nodup/\∀b∈B,b∈A
 |[],_,_,_,_,_,h=>by cases h
 |k::ks,[],_,_,_,_,h=>by cases h
 |k::ks,e::ds,xs,A,o,H,h=>by
  obtain⟨x,r,B,C,rfl,rfl,I,J⟩:=o.cons_inv;have E:(if k=q then some e else bX ks ds q)=some d:=h;obtain⟨M,N,_⟩:=Qw.mp H;by_cases c:k=q
  .rw[N0 c]at E;cases E;exact⟨x,B,N0 c,I,M,λb G=>QY _ G⟩
  .rw[N1 c]at E;obtain⟨y,O,Q,U,Y,j⟩:=t8 J N E;exact⟨y,O,(N1 c).trans Q,U,Y,λb G=>Qv _ (j b G)⟩
def Ga (H:bn lev cl cd)(I:Inv lo RR m de lv env A)(i:lv[j]?=some .F)(z:au cd (.dget (.V j) k) de=.ok d)(a:ae cl (.dget (.V j) k) env m=.ok w m1):∃B,a7 (λx=>RR x/\x∉B) m1 .F d w B/\B.Nodup/\∀b∈B,lo<=b:=by
 have E:((au cd (.V j) de).bind λx=>(au cd k de).bind λy=>vu x y)=.ok d:=z;have N:((ae cl (.V j) env m).bind λx m1=>(ae cl k env m1).bind λy m2=>kU x y m2)=.ok w m1:=a;cases J:au cd (.V j) de with
 |no=>rw[J]at E;cases E
 |ok u=>
  cases O:au cd k de with
  |no=>rw[J,O]at E;cases E
  |ok dk=>
   rw[J,O]at E;simp only[Rd.bind]at E;obtain⟨wj,ej,oj⟩:=I.slot j u .F (vB J) i;obtain⟨wk,mk,e2,g,r2⟩:=I.ok H.r O (Le.refl m);cases u with
   |D M f=>
    have G:(match (xF dk).bind (bX M f)with|some v=>Rd.ok v|none=>.no)=.ok d:=E;cases Q:xF dk with
    |none=>rw[Q]at G;cases G
    |some q=>
     rw[Q]at G;simp only[QW]at G;cases U:bX M f q with
     |none=>rw[U]at G;cases G
     |some v=>
      rw[U]at G;cases G;obtain⟨l,xs,B,rfl,e,hm,o2⟩:=bE.mp oj;have t:=I.nd j;rw[e,QC]at t;obtain⟨x,n,a1,a2,a3,a4⟩:=t8 o2 t.2 U;rw[yZ ej m]at N;simp only[Rz.bind,e2]at N;have Y:(match mk[l]? with
       |some (.D M ws)=>match (gF wk).bind (bX M ws)with
        |some v=>Rz.ok v mk
        |none=>.no
       |_=>.no)=.ok w m1:=N
      rw[g l _ hm]at Y;simp only[vC r2 Q,QW,a1]at Y;cases Y;refine⟨n,aR.frame _ _ n (λb h o ho=>g b o ho) a2,a3,λb h=>(I.bd j b ?_).1⟩;rw[e];exact Qg _ (a4 b h)
   |_=>cases E
theorem vV:∀(ds acc r:P9),zu (λ_=>.ok (.bl true)) e ds acc=.ok (.L r)->∃t,r=acc++t
 |[],acc,r,h=>by
  have A:(if acc.length<=aA then Rd.ok (.L acc)else .no)=.ok (.L r):=h;split at A
  .cases A;exact⟨[],(QX _).symm⟩
  .cases A
 |x::B,acc,r,h=>by
  have A:((e x).bind λy=>if acc.length<aA then zu (λ_=>.ok (.bl true)) e B (acc++[y])else .no)=.ok (.L r):=h;obtain⟨y,A⟩:∃y,(if acc.length<aA then zu (λ_=>.ok (.bl true)) e B (acc++[y])else .no)=.ok (.L r):=by
   cases z:e x with
   |ok y=>rw[z]at A;exact⟨y,A⟩
   |_=>rw[z]at A;cases A
  split at A
  .obtain ⟨t,rfl⟩:=vV B _ r A;exact⟨y::t,by simp⟩
  .cases A
set_option tactic.hygienic true in
theorem gh {e:Wd->Me->Rz}{ed:Dat->Rd}(I:m0[l]?=some (.L G))(he:∀m d x,Le m0 m->ai R m d x->af R m (e x m) (ed d))(hR:∀a,m0.length<=a->R a):
  ∀(ds:P9) (i k:Nat) (acc:P9) (A:R7) (m:Me) (B C:R5) (r:P9),Le m0 m->aj m ds (G.drop i) B->(∀b∈B,R b)->i+ds.length=G.length->ds.length<k->aj m acc A C ->
  zu (λ_=>.ok (.bl true)) (λd=>(ed d).bind λy=>.ok (.T [d,y])) ds acc=.ok (.L r)->r.all ir=true ->
  ∃E m',yw (λ_ m=>.ok (.bl true) m) (λx m=>(e x m).bind λy m2=>.ok (.T [x,y]) m2) l k i A m=.ok (.ref m'.length) (m'++[.L E])/\Le m m'/\aj m' r E (C++B)
 |ds,i,0,acc,A,m,B,C,r,J,a,Q,U,j,b,h,Y=>by lia
 |[],i,k+1,acc,A,m,B,C,r,J,a,Q,U,j,b,h,Y=>by
  have H:(if acc.length<=aA then Rd.ok (.L acc)else .no)=.ok (.L r):=h;split at H
  .next c=>
   cases H;obtain⟨_,rfl⟩:=a.nil_inv;have hl:=aj.len b;refine⟨A,m,?_,Le.refl m,by rw[QX];exact b⟩;unfold yw zh alloc;rw[J l _ I];simp only;rw[Qq (by simp at U;lia)];simp only;rw[N0 (by lia)]
  .cases H
 |d::ds,i,k+1,acc,A,m,B,C,r,J,a,Q,U,j,b,h,Y=>by
  have H:(((ed d).bind λy=>Rd.ok (.T [d,y])).bind λy=>if acc.length<aA then zu (λ_=>.ok (.bl true)) (λd=>(ed d).bind λy=>.ok (.T [d,y])) ds (acc++[y])else .no)=.ok (.L r):=h;obtain⟨x,u,M,B2,hx,rfl,o1,o2⟩:=a.cons_inv;have rx:ai R m d x:=aR.rep d x M (λq g=>Q q (by simp[g])) o1;have hs:=he m d x J rx;obtain⟨y,hy,H⟩:∃y,ed d=.ok y/\(if acc.length<aA then zu (λ_=>.ok (.bl true)) (λd=>(ed d).bind λy=>.ok (.T [d,y])) ds (acc++[.T [d,y]])else .no)=.ok (.L r):=by
   cases z:ed d with
   |ok y=>rw[z]at H;exact⟨y,rfl,H⟩
   |_=>rw[z]at H;cases H
  rw[hy]at hs;obtain⟨w,m2,hw,N,f⟩:=hs;split at H
  .next c=>
   obtain⟨t,rfl⟩:=vV _ _ r H;have hf:ay y=true:=by
    have:=Qx.mp Y (.T [d,y]) (by simp);simpa [ir]using this
   have hl:=aj.len b;have hla:=aj.len a;have ow:aR m2 y w []:=f.flat y w hf;have n:aR m2 d x M:=aR.frame d x M (λq _ o O=>N q o O) o1;have ot:aR m2 (.T [d,y]) (.T [x,w]) M:=aY.mpr ⟨_,rfl,by have:=aj.cons n (aj.cons ow (aj.nil (m:=m2)));simpa using this⟩;have hxi:G[i]?=some x:=by
    have:(G.drop i)[0]?=some x:=by rw[hx];rfl
    simpa using this
   have hdr:G.drop (i+1)=u:=by
    have:(G.drop i).drop 1=u:=by rw[hx];rfl
    simpa using this
   obtain⟨E,m',r1,r2,r3⟩:=gh I he hR ds (i+1) k (acc++[.T [d,y]]) (A++[.T [x,w]]) m2 B2 (C++M) _ (J.trans N) (by rw[hdr];exact aj.frame ds u B2 (λq _ o O=>N q o O) o2) (λq g=>Q q (by simp[g])) (by simp at U;lia) (by simp at j;lia)
    (by have:=aj.app (aj.frame acc A C (λq _ o O=>N q o O) b) (aj.cons ot (aj.nil (m:=m2)));simpa using this) H Y
   refine⟨E,m',?_,N.trans r2,by rw[<-QZ];exact r3⟩;unfold yw zh;rw[J l _ I];simp only;rw[hxi];simp only[Rz.bind];rw[hw];simp only;rw[N0 (by lia)];exact r1
  .cases H
set_option tactic.hygienic true in
theorem jC {e:Wd->Me->Rz}{ed:Dat->Rd}(Y:∀m d x,Le m0 m->ai R m d x->af R m (e x m) (ed d)):
  ∀(ds:P9) (xs:R7) (acc:P9) (A:R7) (m:Me) (B C:R5) (r:P9),Le m0 m->aj m ds xs B->(∀b∈B,R b)->aj m acc A C ->
  zu (λ_=>.ok (.bl true)) (λd=>(ed d).bind λy=>.ok (.T [d,y])) ds acc=.ok (.L r)->r.all ir=true ->
  ∃E m',yo (λ_ m=>.ok (.bl true) m) (λx m=>(e x m).bind λy m2=>.ok (.T [x,y]) m2) xs A m=.ok (.ref m'.length) (m'++[.L E])/\Le m m'/\aj m' r E (C++B)
 |[],xs,acc,A,m,B,C,r,M,a,N,b,h,O=>by
  have G:(if acc.length<=aA then Rd.ok (.L acc)else .no)=.ok (.L r):=h;split at G
  .next c=>
   cases G;obtain⟨rfl,rfl⟩:=a.nil_inv;have hl:=aj.len b;refine⟨A,m,?_,Le.refl m,by rw[QX];exact b⟩;unfold yo alloc;rw[N0 (by lia)]
  .cases G
 |d::ds,xs,acc,A,m,B,C,r,M,a,N,b,h,O=>by
  have G:(((ed d).bind λy=>Rd.ok (.T [d,y])).bind λy=>if acc.length<aA then zu (λ_=>.ok (.bl true)) (λd=>(ed d).bind λy=>.ok (.T [d,y])) ds (acc++[y])else .no)=.ok (.L r):=h;obtain⟨x,j,J,u,rfl,rfl,l,f⟩:=a.cons_inv;have g:=Y m d x M (aR.rep d x J (λq Q=>N q (by simp[Q])) l);obtain⟨y,n,G⟩:∃y,ed d=.ok y/\(if acc.length<aA then zu (λ_=>.ok (.bl true)) (λd=>(ed d).bind λy=>.ok (.T [d,y])) ds (acc++[.T [d,y]])else .no)=.ok (.L r):=by
   cases z:ed d with
   |ok y=>rw[z]at G;exact⟨y,rfl,G⟩
   |_=>rw[z]at G;cases G
  rw[n]at g;obtain⟨w,m2,i,H,U⟩:=g;split at G
  .next c=>
   obtain⟨t,rfl⟩:=vV _ _ r G;have hf:ay y=true:=by
    have:=Qx.mp O (.T [d,y]) (by simp);simpa [ir]using this
   have hl:=aj.len b;have ot:aR m2 (.T [d,y]) (.T [x,w]) J:=aY.mpr ⟨_,rfl,by have:=aj.cons (aR.frame d x J (λq _ o I=>H q o I) l) (aj.cons (U.flat y w hf) (aj.nil (m:=m2)));simpa using this⟩;obtain⟨E,m',r1,r2,r3⟩:=jC Y ds j (acc++[.T [d,y]]) (A++[.T [x,w]]) m2 u (C++J) _ (M.trans H) (aj.frame ds j u (λq _ o I=>H q o I) f) (λq Q=>N q (by simp[Q]))
    (by have:=aj.app (aj.frame acc A C (λq _ o I=>H q o I) b) (aj.cons ot (aj.nil (m:=m2)));simpa using this) G O
   refine⟨E,m',?_,H.trans r2,by rw[<-QZ];exact r3⟩;unfold yo;simp only[Rz.bind];rw[i];simp only;rw[N0 (by lia)];exact r1
  .cases G
theorem gk:∀A:P8,aZ (A.map Dat.int)=true
 |[]=>rfl
 |_::r=>by show(true&&aZ (r.map Dat.int))=true;rw[gk r];rfl
def Hw (H:bn lev cl cd)(I:Inv lo RR m de lv env A)(hf:lev f=.F)(Y:lH d=true)(z:au cd (.comp (.T (.P (.V lv.length) (.P e2 .u))) (.call f a) (.lit (.bl true))) de=.ok d)(h2:ae cl (.comp (.T (.P (.V lv.length) (.P e2 .u))) (.call f a) (.lit (.bl true))) env m=.ok w m1):∃B,a7 (λx=>RR x/\x∉B) m1 .F d w B/\B.Nodup/\∀b∈B,lo<=b:=by
 have h:lv.length=de.length:=I.lvl;have hen:de.length=env.length:=I.len;have ed:∀x,au cd (.T (.P (.V lv.length) (.P e2 .u))) (de++[some x])=(au cd e2 (de++[some x])).bind λy=>.ok (.T [x,y]):=λx=>by
  have hz:au cd (.T (.P (.V lv.length) (.P e2 .u))) (de++[some x])=((au cd (.V lv.length) (de++[some x])).bind λx1=>((au cd e2 (de++[some x])).bind λy=>.ok (.T [y])).bind λy=>.ok (.T (x1::zw y))).bind λx=>if(zw x).length<=aA then .ok (.T (zw x))else .no:=rfl;rw[hz,xG (show(de++[some x])[lv.length]?=some (some x) by rw[h];simp)];cases au cd e2 (de++[some x])<;>simp[Rd.bind,zw,aA]
 have ee:∀x m,ae cl (.T (.P (.V lv.length) (.P e2 .u))) (env++[some x]) m=(ae cl e2 (env++[some x]) m).bind λy m2=>.ok (.T [x,y]) m2:=λx m=>by
  have hz:ae cl (.T (.P (.V lv.length) (.P e2 .u))) (env++[some x]) m=((ae cl (.V lv.length) (env++[some x]) m).bind λx1 m1=>((ae cl e2 (env++[some x]) m1).bind λy m2=>.ok (.T [y]) m2).bind λy m2=>.ok (.T (x1::zj y)) m2).bind λx m1=>if(zj x).length<=aA then .ok (.T (zj x)) m1 else .no:=rfl;rw[hz,yZ (show(env++[some x])[lv.length]?=some (some x) by rw[h,hen];simp) m];simp only[Rz.bind];generalize ae cl e2 (env++[some x]) m=q;cases q<;>simp[zj,aA]
 have Q:((au cd (.call f a) de).bind λx=>match cy x with
  |some E=>zu (λx=>au cd (.lit (.bl true)) (de++[some x])) (λx=>au cd (.T (.P (.V lv.length) (.P e2 .u))) (de++[some x])) E []
  |none=>.no)=.ok d:=z
 have g:((ae cl (.call f a) env m).bind λx m1=>match x with
  |.T E=>yo (λx m=>ae cl (.lit (.bl true)) (env++[some x]) m) (λx m=>ae cl (.T (.P (.V lv.length) (.P e2 .u))) (env++[some x]) m) E [] m1
  |.rol E=>yo (λx m=>ae cl (.lit (.bl true)) (env++[some x]) m) (λx m=>ae cl (.T (.P (.V lv.length) (.P e2 .u))) (env++[some x]) m) E [] m1
  |.ref l=>yw (λx m=>ae cl (.lit (.bl true)) (env++[some x]) m) (λx m=>ae cl (.T (.P (.V lv.length) (.P e2 .u))) (env++[some x]) m) l (aA+1) 0 [] m1
  |_=>.no)=.ok w m1:=h2
 simp only[ed]at Q;simp only[ee]at g;have hs:=xn H (.call f a) RR m de env (I.envR _);obtain⟨t,hc,Q⟩:∃t,au cd (.call f a) de=.ok t/\(match cy t with
  |some E=>zu (λx=>au cd (.lit (.bl true)) (de++[some x])) (λx=>(au cd e2 (de++[some x])).bind λy=>.ok (.T [x,y])) E []
  |none=>.no)=.ok d:=by
  cases q:au cd (.call f a) de with
  |ok t=>rw[q]at Q;exact⟨t,rfl,Q⟩
  |_=>rw[q]at Q;cases Q
 rw[hc]at hs;obtain⟨wc,M,A0,hev,le,n,nd,hA⟩:=hs;rw[hev]at g;simp only[Rz.bind]at g;cases d with
 |L r=>
  have i:∀(G:P9) (E:R7) (B:R5),aj M G E B->B.Nodup->(∀b∈B,m.length<=b)->zu (λ_=>.ok (.bl true)) (λx=>(au cd e2 (de++[some x])).bind λy=>.ok (.T [x,y])) G []=.ok (.L r) ->
    yo (λ_ m=>.ok (.bl true) m) (λx m=>(ae cl e2 (env++[some x]) m).bind λy m2=>.ok (.T [x,y]) m2) E [] M=.ok w m1->∃B,a7 (λx=>RR x/\x∉B) m1 .F (.L r) w B/\B.Nodup/\∀b∈B,lo<=b:=λG E B o nB hB z3 h3=>by
   obtain⟨J,N,r1,r2,r3⟩:=jC (R:=RR) (m0:=M) (e:=λx m=>ae cl e2 (env++[some x]) m) (ed:=λx=>au cd e2 (de++[some x]))
    (λN d x j k=>za H.r e2 RR N (de++[some d]) (env++[some x]) ((((I.ext (le.trans j)).envR (zl e2)):bB RR N (zl e2) de env).push k))
    G E [] [] M B [] r (Le.refl M) o (λb hb=>I.rr b (Qp I.lom (hB b hb))) (aj.nil (m:=M)) z3 Y
   rw[r1]at h3;cases h3;have u:=aj.lt r J _ r3;refine⟨N.length::B,aM.mpr ⟨_,J,B,rfl,rfl,by simp,aj.frame r J B (λq _ o Y=>Le.app N _ q o Y) (by simpa using r3)⟩,QC.mpr ⟨λq=>by have:=u _ (by simpa using q);lia,nB⟩,λb hb=>?_⟩;rcases Qn.mp hb with rfl|hb
   .exact Qp I.lom (Qp le.len r2.len)
   .exact Qp I.lom (hB b hb)
  cases t with
  |L G=>
   have O:aU lev (.call f a) (.L G)=.F:=by
    show(if ay (.L G)then Lv.F else lev f)=.F;rw[hf];split<;>rfl
   rw[O]at n;obtain⟨l,E,B,rfl,rfl,hm,o⟩:=aM.mp n;have hlim:G.length<=aA/\zu (λ_=>.ok (.bl true)) (λx=>(au cd e2 (de++[some x])).bind λy=>.ok (.T [x,y])) G []=.ok (.L r):=by
    have z2:(match (if G.length<=aA then some G else none)with
     |some E=>zu (λx=>au cd (.lit (.bl true)) (de++[some x])) (λx=>(au cd e2 (de++[some x])).bind λy=>.ok (.T [x,y])) E []
     |none=>.no)=Rd.ok (.L r):=Q
    by_cases c:G.length<=aA
    .rw[N0 c]at z2;exact⟨c,z2⟩
    .rw[N1 c]at z2;cases z2
   have hlen:=aj.len o;have hlo:∀b∈l::B,lo<=b:=λb hb=>Qp I.lom (hA b hb);obtain⟨nl,nB⟩:=QC.mp nd;obtain⟨J,N,r1,r2,r3⟩:=gh (R:=RR) (e:=λx m=>ae cl e2 (env++[some x]) m) (ed:=λx=>au cd e2 (de++[some x])) hm
    (λN d x j k=>by
     have q:=za H.r e2 RR N (de++[some d]) (env++[some x]) ((((I.ext (le.trans j)).envR (zl e2)):bB RR N (zl e2) de env).push k);exact q)
    (λa ha=>I.rr a (Qp I.lom (Qp le.len ha))) G 0 (aA+1) [] [] M B [] r (Le.refl M) (by simpa using o) (λb hb=>I.rr b (hlo b (by simp[hb]))) (by lia) (by lia) (aj.nil (m:=M)) hlim.2 Y
   have h3:yw (λ_ m=>.ok (.bl true) m) (λx m=>(ae cl e2 (env++[some x]) m).bind λy m2=>.ok (.T [x,y]) m2) l (aA+1) 0 [] M=.ok w m1:=g;rw[r1]at h3;cases h3;have u:=aj.lt r J _ r3;refine⟨N.length::B,aM.mpr ⟨_,J,B,rfl,rfl,by simp,aj.frame r J B (λq _ o Y=>Le.app N _ q o Y) (by simpa using r3)⟩,QC.mpr ⟨λq=>by have:=u _ (by simpa using q);lia,nB⟩,λb hb=>?_⟩;rcases Qn.mp hb with rfl|hb
   .exact Qp I.lom (Qp le.len r2.len)
   .exact hlo b (by simp[hb])
  |T G=>
   have O:aU lev (.call f a) (.T G)=.F:=by
    show(if ay (.T G)then Lv.F else lev f)=.F;rw[hf];split<;>rfl
   rw[O]at n;obtain⟨E,rfl,o⟩:=aY.mp n;exact i G E A0 o nd hA Q g
  |scr U=>
   have O:aU lev (.call f a) (.scr U)=.F:=by
    show(if ay (.scr U)then Lv.F else lev f)=.F;rw[hf];split<;>rfl
   rw[O]at n;have rr:ai (λ_=>True) M (.scr U) wc:=a7.rep (λ_ _=>trivial) (λ_ _=>trivial) (show a7 (λ_=>True) M .F (.scr U) wc A0 from n);obtain rfl:=aS.mp rr;exact i (U.map .int) (U.map .int) [] (ab.flat (R:=λ_=>True) (m:=M) _ _ (gk U) (dQ U)) QB (by simp) Q g
  |_=>cases Q
 |_=>simp[lH]at Y
set_option tactic.hygienic true in
def EI (H:bn lev cl cd)(I:Inv lo RR m de lv env A)(e:Ex):aC lo RR A m (aV cl (.ret e) env m) (aK lev cd (.ret e) de lv):=by
 show aC _ _ _ _ ((ae cl e env m).bindS env _) ((au cd e de).bindS _);cases z:au cd e de with
 |no=>trivial
 |ok d=>
  obtain⟨w,m1,G,h,r1⟩:=I.ok H.r z (Le.refl m);rw[G];show aC lo RR A m (.ret w m1) (.ret d (dr lev e d lv));have kp:(∀(x:Nat) o,(∀i,x∉A i)->m[x]?=some o->m1[x]?=some o)/\m.length<=m1.length:=⟨λx o _ b=>h x o b,h.len⟩;have no:a7 (λx=>RR x/\x∉([]:R5)) m1 .no d w []:=⟨ai.frame (λx o r z=>⟨⟨r,by simp⟩,z⟩) _ _ r1,rfl⟩;by_cases f:ay d=true
  .refine ⟨w,m1,[],rfl,kp,?_,QB,by simp⟩;unfold dr;rw[N0 f];exact r1.flat d w f
  .unfold dr;rw[N1 f];split
   .next i=>
    have U:de[i]?=some (some d):=by
     exact vB z
    obtain⟨l,hl⟩:=I.getlv U;obtain⟨w',he,E⟩:=I.slot i d l U hl;rw[yZ he m]at G;cases G;rw[hl];refine⟨_,_,A i,rfl,kp,?_,I.nd i,λb N=>(I.bd i b N).1⟩;exact E.frame (λx o r z=>⟨⟨r.1,r.2 i⟩,z⟩) (λ_ _ _ z=>z)
   .next a b=>
    split
    .next c=>
     obtain⟨g,ha,N⟩:=c;have:∃O Q,de[a]?=some (some O)/\de[b]?=some (some Q)/\d=.T [O,Q]:=by
      have hz:au cd (.T (.P (.V a) (.P (.V b) .u))) de=((au cd (.V a) de).bind λx=>((au cd (.V b) de).bind λy=>.ok (.T [y])).bind λy=>.ok (.T (x::zw y))).bind λx=>if(zw x).length<=aA then .ok (.T (zw x))else .no:=rfl;rw[hz]at z;cases t:de[a]? with
      |none=>rw[yX (.inl t)]at z;cases z
      |some o=>cases o with
       |none=>rw[yX (.inr t)]at z;cases z
       |some O=>
        rw[xG t]at z;cases n:de[b]? with
        |none=>rw[yX (.inl n)]at z;cases z
        |some o=>cases o with
         |none=>rw[yX (.inr n)]at z;cases z
         |some Q=>
          rw[xG n]at z;simp[Rd.bind,zw,aA]at z;exact⟨O,Q,rfl,rfl,z.symm⟩
     obtain⟨O,Q,h3,h4,rfl⟩:=this;obtain⟨wa,ea,oa⟩:=I.slot a O .F h3 ha;obtain⟨wb,eb,ob⟩:=I.slot b Q .F h4 N;have hw:ae cl (.T (.P (.V a) (.P (.V b) .u))) env m=.ok (.T [wa,wb]) m:=by
      show(((ae cl (.V a) env m).bind λx m1=>((ae cl (.V b) env m1).bind λy m2=>.ok (.T [y]) m2).bind λy m2=>.ok (.T (x::zj y)) m2).bind λx m1=>if(zj x).length<=aA then .ok (.T (zj x)) m1 else .no)=_;rw[yZ ea m];simp only[Rz.bind];rw[yZ eb m];simp[zj,aA]
     rw[hw]at G;cases G;refine⟨_,_,A a++(A b++[]),rfl,kp,aY.mpr ⟨_,rfl,.cons oa (.cons ob .nil)⟩,?_,?_⟩
     .rw[QX];exact Qw.mpr ⟨I.nd a,I.nd b,λx u y hy e=>g (I.dj a b x u (by rw[e];exact hy))⟩
     .intro x u;rw[QX]at u;rcases QJ.mp u with q|q
      .exact (I.bd a x q).1
      .exact (I.bd b x q).1
    .exact ⟨w,m1,[],rfl,kp,no,QB,by simp⟩
   .next j k=>
    split
    .next Y=>
     obtain⟨B,E,J,M⟩:=IV I Y z G;exact⟨w,m1,B,rfl,kp,E,J,M⟩
    .exact ⟨w,m1,[],rfl,kp,no,QB,by simp⟩
   .next j k=>
    split
    .next Y=>
     obtain⟨B,E,J,M⟩:=Ga H I Y z G;exact⟨w,m1,B,rfl,kp,E,J,M⟩
    .exact ⟨w,m1,[],rfl,kp,no,QB,by simp⟩
   .next j e2 f a=>
    split
    .next Y=>
     obtain⟨rfl,hf,ho⟩:=Y;obtain⟨B,E,J,M⟩:=Hw H I hf ho z G;exact⟨w,m1,B,rfl,kp,E,J,M⟩
    .obtain ⟨B,E,J,M⟩:=I.own H z G;exact⟨w,m1,B,rfl,kp,E,J,λb N=>Qp I.lom (M b N)⟩
   .obtain ⟨B,E,J,M⟩:=I.own H z G;exact⟨w,m1,B,rfl,kp,E,J,λb N=>Qp I.lom (M b N)⟩
set_option tactic.hygienic true in
theorem y9(H:bn lev cl cd):∀(s:Sm) (m:Me) (de:aI) (lv:R8) (env:En) (A:O2),Inv lo RR m de lv env A->aC lo RR A m (aV cl s env m) (aK lev cd s de lv)
 |.skip,m,de,lv,env,A,I=>by show aC _ _ _ _ (.next env m) (.next de lv);exact⟨env,m,A,rfl,I,a9.refl A m⟩
 |.seq a b,m,de,lv,env,A,I=>by
  have h:=y9 H a m de lv env A I;rw[uf];show aC _ _ _ _ (match aV cl a env m with
   |.next O m1=>aV cl b O m1
   |r=>r) _
  cases z:aK lev cd a de lv with
  |next d1 N=>
   rw[z]at h;obtain⟨O,m1,g,Q,G,J⟩:=h;rw[Q];exact aC.keep J (y9 H b m1 d1 N O g G)
  |ret d l=>
   rw[z]at h;obtain⟨w,m1,B,Q,k⟩:=h;rw[Q];exact⟨w,m1,B,rfl,k⟩
  |no=>trivial
 |.a i e,m,de,lv,env,A,I=>FZ H I i e
 |.dput j k e,m,de,lv,env,A,I=>Ge H I j k e
 |.forD i x E,m,de,lv,env,A,I=>Gd (cl:=cl) (bw:=λx e m=>aV cl E (e.set i (some x)) m) (bd:=λx de lv=>aK lev cd E (de.set i (some x)) (lv.set i (bQ x))) (λx w m de lv env A I r=>by
   obtain⟨G,J⟩:=I.bindSlot i r;exact aC.keep J (y9 H E m _ _ _ _ G)) I x
 |.asgS o k e,m,de,lv,env,A,I=>by
  cases o with
  |V j=>exact Gf H I j k e
  |_=>exact trivial
 |.aug i op e,m,de,lv,env,A,I=>FW H I i op e
 |.ite c a b,m,de,lv,env,A,I=>by
  refine I.bindE H.r c λd w m1 _ _ N U=>?_;cases d with
  |bl t=>
   rw[ag.mp U];cases t with
   |true=>exact y9 H a m1 de lv env A (I.ext N)
   |false=>exact y9 H b m1 de lv env A (I.ext N)
  |_=>trivial
 |.forv i it E,m,de,lv,env,A,I=>by
  refine ua H (λx w m de lv env A I r=>?_) I it;obtain⟨G,J⟩:=I.bindSlot i r;exact aC.keep J (y9 H E _ _ _ _ _ G)
 |.fort i j it E,m,de,lv,env,A,I=>by
  refine ua H (λx w m de lv env A I r=>?_) I it;split
  .next a b=>
   obtain⟨xs,rfl,U⟩:=ah.mp r;obtain⟨x,r2,rfl,ra,Y⟩:=U.cons_inv;obtain⟨y,r3,rfl,Y,rn⟩:=Y.cons_inv;rw[rn.nil_inv];obtain⟨G,J⟩:=I.bindSlot i ra;obtain⟨I2,K2⟩:=G.bindSlot j (J.rep Y);exact aC.keep (J.trans K2) (y9 H E _ _ _ _ _ I2)
  .trivial
 |.clrT i k x,m,de,lv,env,A,I=>Gb I i k x
 |.bor i e c f,m,de,lv,env,A,I=>EL H I i e c f
 |.forE i j a E,m,de,lv,env,A,I=>by
  refine Gc H (λp w1 w2 m de lv env A I ra Y=>?_) I a;obtain⟨G,J⟩:=I.bindSlot i ra;obtain⟨I2,K2⟩:=G.bindSlot j (J.rep Y);exact aC.keep (J.trans K2) (y9 H E _ _ _ _ _ I2)
 |.popI j e a b,m,de,lv,env,A,I=>by
  show aC _ _ _ _ ((ae cl (.cmp .ne (.meth .pop (.V j) .u) e) env m).bindS env _) (match fL j de lv with
   |some (v,M)=>(au cd e M).okS λd=>match d with
    |.int w=>if v=w then aK lev cd b M lv else aK lev cd a M lv
    |_=>.no
   |none=>.no)
  cases hp:fL j de lv with
  |none=>trivial
  |some q=>
   obtain⟨v,M⟩:=q;refine aC.okS λd he=>?_;cases d with
   |int w=>
    obtain⟨m1,g,O,G,J⟩:=EK (cl:=cl) I hp;obtain⟨w',m2,h2,l2,r2⟩:=G.ok H.r he (Le.refl _);rw[aa.mp r2]at h2;have ec:ae cl (.cmp .ne (.meth .pop (.V j) .u) e) env m=.ok (.bl (! decide (v=w))) m2:=by
     show(ae cl (.meth .pop (.V j) .u) env m).bind (λx m1=>(ae cl e env m1).bind λy m2=>cA .ne x y m2)=_;rw[O];show(ae cl e env m1).bind _=_;rw[h2];rfl
    rw[ec];refine aC.keep (J.trans (xQ l2)) ?_;by_cases q:v=w
    .simp only[q,decide_true,VD,Rz.bindS,if_true];exact y9 H b m2 M lv env g (G.ext l2)
    .simp only[q,decide_false,Bool.not_false,Rz.bindS,if_false];exact y9 H a m2 M lv env g (G.ext l2)
   |_=>trivial
 |.while c E,m,de,lv,env,A,I=>by
  refine gc (λm de lv env A I=>?_) (λm de lv env A I=>y9 H E m de lv env A I) _ m de lv env A I;have h:=za H.r c RR m de env (I.envR _);cases z:au cd c de with
  |no=>trivial
  |ok d=>rw[z]at h;obtain⟨w,m1,Q,N,U⟩:=h;exact⟨w,m1,Q,N,I.rf U⟩
 |.ret e,m,de,lv,env,A,I=>EI H I e
 |.expr e,m,de,lv,env,A,I=>by
  have dflt:aC lo RR A m (aV cl (.expr e) env m) ((au cd e de).bindS λ_=>.next de lv):=by
   exact I.bindE H.r e λd w m1 _ _ N _=>⟨env,m1,A,rfl,I.ext N,a9.refl A m1⟩
  cases e with
  |meth n o a=>
   cases n with
   |append=>
    cases o with
    |V j=>
     cases a with
     |P e u=>cases u with
      |u=>exact Gh H I j e
      |_=>exact trivial
     |_=>exact trivial
    |_=>exact trivial
   |reverse=>
    cases o with
    |V j=>
     cases a with
     |u=>exact Gg (cl:=cl) (cd:=cd) (lev:=lev) I j
     |_=>exact trivial
    |_=>exact trivial
   |_=>exact trivial
  |_=>exact dflt
 |.never,m,de,lv,env,A,I=>by exact trivial
end
def gl{A B:Type}(f:A->B)(z:B)(xs:List A)(n i:Nat):(xs.map f++QH n z)[i]?=if i<xs.length then(xs[i]?).map f else if i<xs.length+n then some z else none:=by
 rw[List.getElem?_append,Qs];split
 .rw[Qm]
 .rw[W7];by_cases h:i-xs.length<n
  .rw[N0 h,N0 (by lia)]
  .rw[N1 h,N1 (by lia)]
set_option tactic.hygienic true in
def Hv (E:Fn)(h:ab R m ds ws):Inv m.length (Rf R m.length) m (xy E ds) (xz E ds) (xM E ws) (λ_=>[]):=by
 have hl:=h.len;refine⟨?_,?_,λl hl=>.inr hl,Qk _,?_,λ_=>QB,(λ_ _ _ h=>by cases h),(λ_ _ h=>by cases h)⟩
 .simp[xy,xM,hl]
 .simp[xy,xz]
 .intro i d l A B;unfold xy at A;unfold xz at B;rw[gl]at A B;by_cases G:i<ds.length
  .rw[N0 G]at A B;obtain⟨M,H,I⟩:=Qy.mp A;cases I;rw[H]at B;cases B;obtain⟨w,J,r⟩:=h.get H;refine⟨w,?_,?_⟩
   .unfold xM;rw[gl,N0 (by lia),J];rfl
   .unfold bQ;split
    .next f=>exact r.flat d w f
    .exact ⟨ai.frame (λx o r z=>⟨⟨.inl r,λ_ h=>by cases h⟩,z⟩) _ _ r,rfl⟩
  .rw[N1 G]at A;split at A<;>cases A
set_option tactic.hygienic true in
def EH (H:bn lev cl cd)(k:Nat)(A:Fn)(ds:P9)(ws:R7)(R:P5)(m:Me)(h:ab R m ds ws):aL R m (we lev k) (gI cl A ws m) (yu lev cd k A ds):=by
 unfold gI yu;rw[h.len];split
 .have s:=y9 H A.body m _ _ _ _ (Hv A h);cases z:aK lev cd A.body (xy A ds) (xz A ds)with
  |next d1 O=>
   rw[z]at s;obtain⟨Q,m1,U,G,Y,M⟩:=s;rw[G];refine⟨.N,m1,[],rfl,λl o q=>(M.1 l o (λ_ h=>by cases h) q).2,?_,QB,by simp⟩;unfold we a7 aR;simp[ay]
  |ret d l=>
   rw[z]at s;obtain⟨w,m1,B,G,⟨kp,_⟩,E,J,I⟩:=s;rw[G];have le:Le m m1:=λl o q=>kp l o (λ_ h=>by cases h) q;show aL R m (we lev k) (.ok w m1) (if ay d || jK l (lev k)then .ok d else .no);split
   .next c=>
    by_cases f:ay d=true
    .refine ⟨w,m1,[],rfl,le,?_,QB,by simp⟩;unfold we;rw[N0 f];exact(E.rep (R':=λ_=>True) (λ_ _=>trivial) (λ_ _=>trivial)).flat d w f
    .have g:jK l (lev k)=true:=by simpa [f]using c
     unfold aL we;simp only[N1 f];cases e:lev k with
     |no=>
      refine⟨w,m1,[],rfl,le,⟨?_,rfl⟩,QB,by simp⟩;exact E.rep (λx r=>⟨r.1,by simp⟩) (λb N=>⟨.inr (I b N),by simp⟩)
     |top=>
      rw[e]at g;cases l with
      |top=>exact⟨w,m1,B,rfl,le,E,J,I⟩
      |no=>cases g
      |F=>cases g
     |F=>
      rw[e]at g;cases l with
      |F=>exact⟨w,m1,B,rfl,le,E,J,I⟩
      |no=>cases g
      |top=>cases g
   .trivial
  |no=>trivial
 .trivial
theorem Ax(lev:R9)(T:List Fn):∀d:Nat,bn lev (xc T d) (jB lev T d)
 |0=>λk A B R m h=>trivial
 |d+1=>λk A B R m h=>by
  unfold xc jB;cases T[k]? with
  |none=>trivial
  |some E=>exact EH (Ax lev T d) k E A B R m h
def EG(lev:R9)(T:List Fn)(d i:Nat)(A:P8)(h:jB lev T d i [.scr A]=.ok (.bl true)):∃m,xc T d i [.rol (A.map Wd.int)] []=.ok (.bl true) m:=by
 have s:=Ax lev T d i [.scr A] [.rol (A.map Wd.int)] (λ_=>True) [] (.cons (aS.mpr rfl) .nil);rw[h]at s;obtain⟨w,E,B,_,r⟩:=s.sim;rw[ag.mp r]at B;exact⟨E,B⟩
section
variable(lev:R9)(cl:N9)(de:aI)(lv:R8)
@[simp]theorem bU(d:Dat)(f:Dat->Rd):(Rd.ok d).bind f=f d:=rfl
@[simp]theorem c9(d:Dat)(f:Dat->bG):(Rd.ok d).bindS f=f d:=rfl
@[simp]theorem Rd.okS_ok(d:Dat)(f:Dat->bG):(Rd.ok d).okS f=f d:=rfl
@[simp]theorem zp(i:Int):au cl (.lit (.int i)) de=.ok (.int i):=rfl
@[simp]theorem LK(i:Bool):au cl (.lit (.bl i)) de=.ok (.bl i):=rfl
@[simp]theorem LH:au cl (.lit .N) de=.ok .N:=rfl
@[simp]theorem LG(s:R5):au cl (.lit (.str s)) de=.ok (.str s):=rfl
@[simp]theorem wg(op:Bo)(a b:Ex):au cl (.bin op a b) de=(au cl a de).bind λx=>(au cl b de).bind λy=>yK op x y:=rfl
@[simp]theorem wX(op:Co)(a b:Ex):au cl (.cmp op a b) de=(au cl a de).bind λx=>(au cl b de).bind λy=>yV op x y:=rfl
@[simp]theorem yi:au cl .u de=.ok (.T []):=rfl
@[simp]theorem zH(a b:Ex):au cl (.P a b) de=(au cl a de).bind λx=>(au cl b de).bind λy=>.ok (.T (x::zw y)):=rfl
@[simp]theorem xf(k:Nat)(a:Ex):au cl (.call k a) de=(au cl a de).bind λx=>cl k (zw x):=rfl
@[simp]theorem qm(b:dL)(a:Ex):au cl (.blt b a) de=(au cl a de).bind λx=>wF b (zw x):=rfl
@[simp]theorem K6(t:Tg)(a:Ex):au cl (.isi t a) de=(au cl a de).bind λx=>.ok (.bl (lr t x)):=rfl
@[simp]theorem xa(a b:Ex):au cl (.i a b) de=(au cl a de).bind λx=>(au cl b de).bind λy=>zW x y:=rfl
@[simp]theorem CQ(a:Ex):au cl (.L a) de=(au cl a de).bind λx=>bo (zw x):=rfl
@[simp]theorem sX(a:Ex):au cl (.T a) de=(au cl a de).bind λx=>if(zw x).length<=aA then .ok (.T (zw x))else .no:=rfl
@[simp]theorem mo(a b c:Ex):au cl (.rng a b c) de=(au cl a de).bind λx=>(au cl b de).bind λy=>(au cl c de).bind λz=>g9 x y z:=rfl
@[simp]theorem zq(d:Dat)(r:aI):au cl (.V 0) (some d::r)=.ok d:=rfl
@[simp]theorem zr(i:Nat)(d:O8)(r:aI):au cl (.V (i+1)) (d::r)=au cl (.V i) r:=rfl
@[simp]theorem vW(a:Ex):au cl (.neg a) de=(au cl a de).bind λx=>match x with
  |.int i=>.ok (.int (-i))
  |_=>.no:=rfl
@[simp]theorem K5(a:Ex):au cl (.not a) de=(au cl a de).bind λx=>match x with
  |.bl b=>.ok (.bl (! b))
  |_=>.no:=rfl
@[simp]theorem sW(a b:Ex):au cl (.and a b) de=(au cl a de).bind λx=>match x with
  |.bl true=>au cl b de
  |.bl false=>.ok (.bl false)
  |_=>.no:=rfl
@[simp]theorem BH(a b:Ex):au cl (.or a b) de=(au cl a de).bind λx=>match x with
  |.bl false=>au cl b de
  |.bl true=>.ok (.bl true)
  |_=>.no:=rfl
@[simp]theorem Lm(p q:Co)(a b c:Ex):au cl (.chain p q a b c) de=(au cl a de).bind λx=>(au cl b de).bind λy=>(yV p x y).bind λz=>match z with
  |.bl true=>(au cl c de).bind λu=>yV q y u
  |.bl false=>.ok (.bl false)
  |_=>.no:=rfl
@[simp]theorem qo(c a b:Ex):au cl (.ife c a b) de=(au cl c de).bind λx=>match x with
  |.bl true=>au cl a de
  |.bl false=>au cl b de
  |_=>.no:=rfl
def t7(elt it cond:Ex):au cl (.comp elt it cond) de=(au cl it de).bind λx=>match cy x with
  |some A=>zu (λx=>au cl cond (de++[some x])) (λx=>au cl elt (de++[some x])) A []
  |none=>.no:=rfl
def F9(k:Kd)(elt a b cond:Ex):au cl (.compP k elt a b cond) de=(au cl a de).bind λx=>(au cl b de).bind λy=>match xl k x y with
  |some A=>zu (λp=>au cl cond (de++[some p.1]++[some p.2])) (λp=>au cl elt (de++[some p.1]++[some p.2])) A []
  |none=>.no:=rfl
@[simp]theorem KZ(a b:Int):c8 (.int a) (.int b)=decide (a=b):=rfl
@[simp]theorem KY(a b:Bool):c8 (.bl a) (.bl b)=(a==b):=rfl
@[simp]theorem KW(a b:R5):c8 (.str a) (.str b)=decide (a=b):=rfl
@[simp]theorem KU(a b:P9):c8 (.T a) (.T b)=cc a b:=rfl
@[simp]theorem KT(a b:P9):c8 (.L a) (.L b)=cc a b:=rfl
@[simp]theorem Ll(k:Nat)(a:Int):xo (k+1) (.int a)=true:=rfl
@[simp]theorem KP(k:Nat)(a:Bool):xo (k+1) (.bl a)=true:=rfl
@[simp]theorem Lk(k:Nat)(a:R5):xo (k+1) (.str a)=true:=rfl
@[simp]theorem Lj(k:Nat):xo (k+1) .N=true:=rfl
@[simp]theorem Li(k:Nat)(a:P9):xo (k+1) (.T a)=br k a:=rfl
@[simp]theorem Lh(k:Nat)(a:P9):xo (k+1) (.L a)=br k a:=rfl
@[simp]theorem LJ(k:Nat):br k []=true:=rfl
@[simp]theorem LF(k:Nat)(d:Dat)(a:P9):br k (d::a)=(xo k d&&br k a):=rfl
@[simp]theorem KO:ym=11+1:=rfl
@[simp]theorem BJ(i j:Int):yV .lt (.int i) (.int j)=.ok (.bl (decide (i<j))):=rfl
@[simp]theorem BK(i j:Int):yV .le (.int i) (.int j)=.ok (.bl (decide (i<=j))):=rfl
@[simp]theorem BL(i j:Int):yV .gt (.int i) (.int j)=.ok (.bl (decide (j<i))):=rfl
@[simp]theorem BM(i j:Int):yV .ge (.int i) (.int j)=.ok (.bl (decide (j<=i))):=rfl
@[simp]theorem ie(i j:Int):yV .eq (.int i) (.int j)=.ok (.bl (decide (i=j))):=rfl
@[simp]theorem BI(i j:Int):yV .ne (.int i) (.int j)=.ok (.bl (! decide (i=j))):=rfl
@[simp]theorem KS(i j:Bool):yV .eq (.bl i) (.bl j)=.ok (.bl (i==j)):=rfl
@[simp]theorem Kh(i j:Bool):yV .ne (.bl i) (.bl j)=.ok (.bl (!(i==j))):=rfl
@[simp]theorem mn(i j:Int):yK .add (.int i) (.int j)=.ok (.int (i+j)):=rfl
@[simp]theorem Kg(i j:Int):yK .sub (.int i) (.int j)=.ok (.int (i-j)):=rfl
def qp(i j:Int)(h:w9 i=true):yK .mul (.int i) (.int j)=.ok (.int (i*j)):=by simp[yK,h]
def uK(i j:Int)(h:0<j)(k:j<1073741824):yK .fdiv (.int i) (.int j)=.ok (.int (i/j)):=by simp[yK,h,k]
def sV(i j:Int)(h:0<j):yK .mod (.int i) (.int j)=.ok (.int (i%j)):=by simp[yK,h]
@[simp]theorem zX(xs:P9):zw (.T xs)=xs:=rfl
@[simp]theorem KN(xs:P9):wF .len [.L xs]=.ok (.int xs.length):=rfl
@[simp]theorem KM(xs:P9):wF .len [.T xs]=.ok (.int xs.length):=rfl
@[simp]theorem KJ(A:P8):wF .len [.scr A]=.ok (.int A.length):=by simp[wF,yH]
@[simp]theorem Kf(b:Bool):wF .int [.bl b]=.ok (.int (b2i b)):=rfl
def mm (h:xs.length<=aA):bo xs=.ok (.L xs):=by unfold bo;rw[N0 h]
def sU (h:i<n):ix n (i:Int)=some i:=by unfold ix;rw[N0 (by lia),N0 (by lia)];simp
def EF (h:0<n):ix n (-1)=some (n-1):=by unfold ix;rw[N1 (by lia),N0 (by lia)];congr 1;lia
def uJ {i:Nat}(h:xs[i]?=some d):zW (.L xs) (.int (i:Int))=.ok d:=by
 have:=(Qa.mp h).1;simp[zW,yH,sU this,h]
def gm (h:xs[xs.length-1]?=some d):zW (.L xs) (.int (-1))=.ok d:=by
 have:=(Qa.mp h).1;simp[zW,yH,EF (show 0<xs.length by lia),h]
def CP {a b:Int}(h:-aA<=a/\a<=aA/\-aA<=b/\b<=aA/\(c=1\/c=-1\/c=-2\/c=2)):g9 (.int a) (.int b) (.int c)=.ok (.T (yr a c (ft a b c))):=by
 simp only[g9];rw[N0 h]
@[simp]theorem Lg(a c:Int)(n:Nat):(yr a c n).length=n:=by simp[yr]
def Aw(a c:Int)(n i:Nat)(h:i<n):(yr a c n)[i]?=some (.int (a+c*(i:Int))):=by
 simp[yr,h]
@[simp]theorem gn(a c:Int):∀(n:Nat),aZ (yr a c n)=true:=by
 intro n;unfold yr;generalize QF n=l
 induction l with
 |nil=>rfl
 |cons x l A=>simp[aZ,ay,A]
@[simp]theorem Av(xs:P9):ay (.T xs)=aZ xs:=by rw[ay]
@[simp]theorem Lf(xs:P9):ay (.L xs)=false:=by rw[ay]
@[simp]theorem Ld(i:Int):ay (.int i)=true:=by rw[ay]
@[simp]theorem KI(i:Bool):ay (.bl i)=true:=by rw[ay]
@[simp]theorem Lc:ay .N=true:=by rw[ay]
@[simp]theorem Lb(s:R5):ay (.str s)=true:=by rw[ay]
@[simp]theorem La(s:P8):ay (.scr s)=true:=by rw[ay]
@[simp]theorem LI:aZ []=true:=by rw[aZ]
@[simp]theorem IU(d:Dat)(ds:P9):aZ (d::ds)=(ay d&&aZ ds):=by rw[aZ]
@[simp]theorem LC(l:P8):aZ (l.map Dat.int)=true:=by
 induction l with
 |nil=>rfl
 |cons x l A=>simp[A]
@[simp]theorem ml(xs:P9):cy (.T xs)=some xs:=rfl
@[simp]theorem Ke(xs:P8):cy (.scr xs)=some (xs.map .int):=rfl
def sS (h:xs.length<=aA):cy (.L xs)=some xs:=by simp[cy,h]
@[simp]theorem KH:aK lev cl .skip de lv=.next de lv:=rfl
@[simp]theorem wY(e:Ex):aK lev cl (.ret e) de lv=(au cl e de).bindS λd=>.ret d (dr lev e d lv):=rfl
@[simp]theorem vX(i:Nat)(e:Ex):aK lev cl (.a i e) de lv=(au cl e de).bindS λd=>kx lev i e d de lv:=rfl
@[simp]theorem Kc(c:Ex)(a b:Sm):aK lev cl (.ite c a b) de lv=(au cl c de).bindS λx=>match x with
  |.bl true=>aK lev cl a de lv
  |.bl false=>aK lev cl b de lv
  |_=>.no:=rfl
def Au {lev:R9}{de:aI}{lv:R8}(h:ay d=true):kx lev i e d de lv=.next (de.set i (some d)) (lv.set i .F):=by
 unfold kx;rw[N0 (xI lev e d h)]
def F8 {lev:R9}{de:aI}{lv:R8}(h:aU lev e d=.F):kx lev i e d de lv=.next (de.set i (some d)) (lv.set i .F):=by
 unfold kx;rw[N0 h]
def gp {body:H->aI->R8->bG}(P:Nat->aI->R8->Prop)(xs:List H){de:aI}{lv:R8}(E:P 0 de lv)(G:∀(i:Nat) x de lv,xs[i]?=some x->P i de lv->∃A B,body x de lv=.next A B/\P (i+1) A B):∃A B,zN body xs de lv=.next A B/\P xs.length A B:=by
 induction xs generalizing P de lv with
 |nil=>exact⟨de,lv,rfl,E⟩
 |cons x xs I=>
  obtain⟨d1,Q,J,M⟩:=G 0 x de lv rfl E;unfold zN;rw[J];exact I (λi=>P (i+1)) M (λi y de lv N O=>G (i+1) y de lv (by simpa using N) O)
end
namespace Lib
end Lib
section
variable(lev:R9)(cl:N9)(de:aI)(lv:R8)
@[simp]theorem Kb(i:Nat)(op:Bo)(e:Ex):aK lev cl (.aug i op e) de lv=match de[i]? with
  |some (some (.int a))=>(au cl e de).okS λy=>match y with
   |.int b=>(yK op (.int a) (.int b)).okS λz=>.next (de.set i (some z)) (lv.set i .F)
   |_=>.no
  |_=>.no:=rfl
@[simp]theorem EE(j:Nat)(e:Ex):aK lev cl (.expr (.meth .append (.V j) (.P e .u))) de lv=(au cl e de).okS λd=>match vR de j with
   |some E=>if E.length<aA then match j9 lev e d j de lv with
    |some (A,B)=>.next (A.set j (some (.L (E++[d])))) B
    |none=>.no
    else .no
   |none=>.no:=rfl
@[simp]theorem KG(j:Nat):aK lev cl (.expr (.meth .reverse (.V j) .u)) de lv=match vR de j with
   |some A=>if yA lv j then .next (de.set j (some (.L A.reverse))) lv else .no
   |none=>.no:=rfl
def mj(i:Nat)(it:Ex)(body:Sm):aK lev cl (.forv i it body) de lv=(au cl it de).bindS λd=>match cy d with
  |some A=>zN (λx de lv=>aK lev cl body (de.set i (some x)) (lv.set i (bQ x))) A de (if ay d then lv else xP it de lv)
  |none=>.no:=rfl
noncomputable def bG.then(r:bG)(f:aI->R8->bG):bG:=match r with
 |.next d l=>f d l
 |r=>r
@[simp]theorem yh(d:aI)(l:R8)(f:aI->R8->bG):(bG.next d l).then f=f d l:=rfl
@[simp]theorem K9(d:Dat)(l:Lv)(f:aI->R8->bG):(bG.ret d l).then f=.ret d l:=rfl
def zz (h:yt a b=none):aK lev cl (.seq a b) de lv=(aK lev cl a de lv).then (aK lev cl b):=by
 rw[uf];cases aK lev cl a de lv<;>rfl
def F7(a:Sm)(c d:Sm):yt a (.seq c d)=none:=rfl
@[simp]theorem CO(a:Sm)(c d:Sm):aK lev cl (.seq a (.seq c d)) de lv=(aK lev cl a de lv).then (aK lev cl (.seq c d)):=zz lev cl de lv (F7 a c d)
def F6(a:Sm)(e:Ex):yt a (.ret e)=none:=rfl
@[simp]theorem sR(a:Sm)(e:Ex):aK lev cl (.seq a (.ret e)) de lv=(aK lev cl a de lv).then (aK lev cl (.ret e)):=zz lev cl de lv (F6 a e)
def GA(a:Sm)(c:Ex)(x y:Sm):yt a (.ite c x y)=none:=rfl
@[simp]theorem Ka(a:Sm)(c:Ex)(x y:Sm):aK lev cl (.seq a (.ite c x y)) de lv=(aK lev cl a de lv).then (aK lev cl (.ite c x y)):=zz lev cl de lv (GA a c x y)
def Hu(a:Sm)(i:Nat)(e:Ex)(x:Sm):yt a (.forv i e x)=none:=rfl
@[simp]theorem KF(a:Sm)(i:Nat)(e:Ex)(x:Sm):aK lev cl (.seq a (.forv i e x)) de lv=(aK lev cl a de lv).then (aK lev cl (.forv i e x)):=zz lev cl de lv (Hu a i e x)
def Ht(a:Sm)(i j:Nat)(e:Ex)(x:Sm):yt a (.fort i j e x)=none:=rfl
@[simp]theorem KD(a:Sm)(i j:Nat)(e:Ex)(x:Sm):aK lev cl (.seq a (.fort i j e x)) de lv=(aK lev cl a de lv).then (aK lev cl (.fort i j e x)):=zz lev cl de lv (Ht a i j e x)
def IT(a:Sm)(e:Ex)(x:Sm):yt a (.while e x)=none:=rfl
@[simp]theorem LB(a:Sm)(e:Ex)(x:Sm):aK lev cl (.seq a (.while e x)) de lv=(aK lev cl a de lv).then (aK lev cl (.while e x)):=zz lev cl de lv (IT a e x)
def Gz(a:Sm)(i:Nat)(e:Ex):yt a (.a i e)=none:=rfl
@[simp]theorem J9(a:Sm)(i:Nat)(e:Ex):aK lev cl (.seq a (.a i e)) de lv=(aK lev cl a de lv).then (aK lev cl (.a i e)):=zz lev cl de lv (Gz a i e)
def Hs(a:Sm)(o i e:Ex):yt a (.asgS o i e)=none:=rfl
@[simp]theorem KC(a:Sm)(o i e:Ex):aK lev cl (.seq a (.asgS o i e)) de lv=(aK lev cl a de lv).then (aK lev cl (.asgS o i e)):=zz lev cl de lv (Hs a o i e)
def Gy(a:Sm)(i:Nat)(op:Bo)(e:Ex):yt a (.aug i op e)=none:=rfl
@[simp]theorem J8(a:Sm)(i:Nat)(op:Bo)(e:Ex):aK lev cl (.seq a (.aug i op e)) de lv=(aK lev cl a de lv).then (aK lev cl (.aug i op e)):=zz lev cl de lv (Gy a i op e)
def Hr(a:Sm)(e:Ex):yt a (.expr e)=none:=rfl
@[simp]theorem KB(a:Sm)(e:Ex):aK lev cl (.seq a (.expr e)) de lv=(aK lev cl a de lv).then (aK lev cl (.expr e)):=zz lev cl de lv (Hr a e)
def Hq(a:Sm): yt a .skip=none:=rfl
@[simp]theorem KA(a:Sm): aK lev cl (.seq a .skip) de lv=(aK lev cl a de lv).then (aK lev cl .skip):=zz lev cl de lv (Hq a)
def IS(a:Sm): yt a .never=none:=rfl
@[simp]theorem LA(a:Sm): aK lev cl (.seq a .never) de lv=(aK lev cl a de lv).then (aK lev cl .never):=zz lev cl de lv (IS a)
end
namespace Lib
section
noncomputable def bM(r:P8):Dat:=.L (r.map .int)
noncomputable def aX(R:O1):Dat:=.L (R.map bM)
end
end Lib
namespace Lib
section
noncomputable def S(R:O1)(r c:Nat):Int:=((R.take r).map (λx=>x.getD c 0)).sum
def ac(R:O1)(r c:Nat):Int:=((R.getD r []).take c).sum
def qr {r:Nat}(h:R[r]?=some x):zW (aX R) (.int (r:Int))=.ok (bM x):=uJ (by simp[h])
def vD {c:Nat}(h:x[c]?=some v):zW (bM x) (.int (c:Int))=.ok (.int v):=uJ (by simp[h])
end
end Lib
namespace Lib
section
variable{lev:R9}{cl:N9}{k:Nat}
noncomputable def h9:Fn:=⟨2,2,(.seq (.ite (.cmp .lt (.V 1) (.blt .len (.P (.V 0) .u))) (.ret (.i (.V 0) (.V 1))) .skip) (.ret (.bin .add (.bin .mul (.lit (.int 2)) (.V 1)) (.lit (.int 1)))))⟩
def Gx(A:P8)(i:Nat):∃c:Int,yu lev cl k h9 [.scr A,.int i]=.ok (.int c):=by
 by_cases h:i<A.length
 .refine ⟨A[i],?_⟩;have B:zW (.scr A) (.int (i:Int))=.ok (.int A[i]):=by simp[zW,yH,sU h,h]
  simp[yu,h9,xy,xz,yY,dr,h,B]
 .refine ⟨2*i+1,?_⟩;simp[yu,h9,xy,xz,yY,dr,h,qp 2 i (by decide)]
def jD {x:P8}(h:i<x.length):x[i]?=some (x.getD i 0):=by
 rw[Qz,Ql h];rfl
end
end Lib
namespace Lib
section
end
end Lib
namespace Lib
section
theorem vY {c e:H->Rd}{A:Type}(f:A->H)(g:A->Dat):∀(xs:List A) (acc:P9),(∀x∈xs,c (f x)=.ok (.bl true))->(∀x∈xs,e (f x)=.ok (g x))->acc.length+xs.length<=aA->zu c e (xs.map f) acc=.ok (.L (acc++xs.map g))
 |[],acc,_,_,h=>by unfold zu;rw[VG];simp only;rw[mm (by simpa using h)];simp
 |x::xs,acc,E,G,h=>by
  rw[QS];unfold zu;simp only[WB]at h;rw[E x (by simp)];simp only[bU];rw[G x (by simp)];simp only[bU];rw[N0 (by lia),vY f g xs (acc++[g x]) (λy B=>E y (by simp[B])) (λy B=>G y (by simp[B])) (by simp;lia)];simp
def Gw (a s:Int)(n:Nat)(g:Nat->Dat)(B:∀i,i<n->c (.int (a+s*(i:Int)))=.ok (.bl true))(E:∀i,i<n->e (.int (a+s*(i:Int)))=.ok (g i))(h:n<=aA):zu c e (yr a s n) []=.ok (.L ((QF n).map g)):=by
 unfold yr;rw[vY (λ(i:Nat)=>Dat.int (a+s*(i:Int))) g (QF n) [] (λi A=>B i (by simpa using A)) (λi A=>E i (by simpa using A)) (by simpa using h)];simp
noncomputable def mem(x:P8)(c:Int):Bool:=x.any (λv=>decide (v=c))
end
end Lib
namespace Lib
def getD_mem {x:P8}(h:i<x.length):x.getD i 0∈x:=by
 rw[Qz,Ql h];exact Vr h
end Lib
namespace Lib
section
noncomputable def CB(R:O1)(i:Nat):P8:=(QF R.length).map λc=>S R i c
noncomputable def Jm(R:O1):O1:=(QF (R.length+1)).map (CB R)
end
end Lib
namespace Lib
section
theorem bI:∀(x:P8),cc (x.map Dat.int) (x.map Dat.int)=true
 |[]=>rfl
 |v::x=>by simp[cc,bI x]
end
end Lib
namespace Lib
end Lib
namespace Lib
end Lib
namespace Lib
section
end
end Lib
namespace Lib
noncomputable def fl(p:Pl):Pl:=(p.2,p.1)
noncomputable def neg(t:Tr):Tr:=λp d=>! t p d
noncomputable def bW(n:Nat)(ρ:Nat):cu:=match ρ/n with
 |0=>((0,((ρ%n:Nat):Int)),.u)
 |1=>((((ρ%n:Nat):Int),(n:Int)-1),.r)
 |2=>(((n:Int)-1,(n:Int)-1-((ρ%n:Nat):Int)),.d)
 |_=>(((n:Int)-1-((ρ%n:Nat):Int),0),.l)
def CN (B:0<n)(h:ρ<4*n):ca n (bW n ρ).1=true/\BQ n (bW n ρ)/\ku n (bW n ρ).1 (bW n ρ).2=ρ:=by
 have G:=Nat.div_add_mod ρ n;have H:=Nat.mod_lt ρ B;have E:ρ/n<4:=Nat.div_lt_of_lt_mul (by rw[Nat.mul_comm];exact h);unfold bW BQ;generalize ρ%n=m at *
 generalize I:ρ/n=q at *
 have A:∀x:Pl,ca n x=false↔¬((0<=x.1/\x.1<n)/\(0<=x.2/\x.2<n)):=λx=>by rw[<-bO];simp
 match q,E with
 |0,_=>exact⟨bO.mpr ⟨⟨by simp,by simp;lia⟩,by simp,by simp;lia⟩,(A _).mpr (by simp[bv]),by simp[ku];lia⟩
 |1,_=>exact⟨bO.mpr ⟨⟨by simp,by simp;lia⟩,by simp;lia,by simp;lia⟩,(A _).mpr (by simp[bv]),by simp[ku];lia⟩
 |2,_=>exact⟨bO.mpr ⟨⟨by simp;lia,by simp;lia⟩,by simp;lia,by simp;lia⟩,(A _).mpr (by simp[bv]),by simp[ku];lia⟩
 |3,_=>exact⟨bO.mpr ⟨⟨by simp;lia,by simp;lia⟩,by simp,by simp;lia⟩,(A _).mpr (by simp[bv]),by simp[ku];lia⟩
end Lib
namespace Lib
section
variable{lev:R9}{cl:N9}
def Gv(c:Ex)(body:Sm)(de:aI)(lv:R8):aK lev cl (.while c body) de lv=wf (au cl c) (aK lev cl body) 1000000 de lv:=rfl
end
end Lib
namespace Lib
end Lib
namespace Lib
section
noncomputable def bt:Int->P8->Bool
 |due,[]=>decide (due=-1)
 |due,s::r=>if s=0 then bt due r else if s=due then bt (0-due) r else false
end
end Lib
namespace Lib
end Lib
namespace Lib
end Lib
namespace Lib
end Lib
namespace Lib
end Lib
namespace Lib
section
noncomputable def mx(a b:Int):Int:=if b > a then b else a
end
end Lib
namespace Lib
section
noncomputable def oG(q:Nat)(F:Nat->Nat->Int)(i:Nat):P8:=(QF q).map (F i)
noncomputable def rZ(p q:Nat)(F:Nat->Nat->Int):O1:=(QF p).map (oG q F)
def uI{n:Nat}(h:n<=100):g9 (.int 0) (.int n) (.int 1)=.ok (.T (yr 0 1 n)):=by
 rw[CP (by unfold aA;lia)];simp[ft]
noncomputable def arr(n:Nat)(F G:Nat->Nat->Int):Dat:=.T [aX (rZ n (n+1) F),aX (rZ (n+1) n G)]
end
end Lib
namespace Lib
section
variable{cl:N9}
noncomputable def rY:Di->R5
 |.u=>[85] |.r=>[82] |.d=>[68] |.l=>[76]
noncomputable def bA(p:Pl):Dat:=.T [.int p.1,.int p.2]
noncomputable def vZ(d:Di):Dat:=.str (rY d)
@[simp]theorem Lz(de:aI):au cl .dict0 de=.ok (.D [] []):=rfl
@[simp]theorem EC(a b:Ex)(de:aI):au cl (.dget a b) de=(au cl a de).bind λx=>(au cl b de).bind λy=>vu x y:=rfl
def sC(a b:Ex)(de:aI):au cl (.T (.P a (.P b .u))) de=(au cl a de).bind λx=>(au cl b de).bind λy=>.ok (.T [x,y]):=by
 rw[sX,zH,zH,yi];cases au cl a de with
 |ok x=>
  cases au cl b de with
  |ok y=>exact N0 (e:=Rd.no) (show 2<=aA by decide)
  |_=>rfl
 |_=>rfl
end
end Lib
namespace Lib
section
noncomputable def zF(n:Nat)(p:Pl)(e:Di):Dat:=if ca n (bv e p)=true then bA (bv e p)else .int (ku n p e)
end
end Lib
namespace Lib
section
theorem v6 {B:Type}{c e:I->Rd}(f:B->I)(q:B->Bool)(g:B->Dat):∀(xs:List B) (acc:P9),(∀x∈xs,c (f x)=.ok (.bl (q x)))->(∀x∈xs,q x=true->e (f x)=.ok (g x))->acc.length+xs.length<=aA->zu c e (xs.map f) acc=.ok (.L (acc++(xs.filter q).map g))
 |[],acc,_,_,h=>by
  show bo acc=_;rw[mm (by simpa using h)];simp
 |x::xs,acc,E,G,h=>by
  show(c (f x)).bind _=_;rw[E x (by simp)];simp only[bU];cases H:q x with
  |true=>
   simp only[];rw[G x (by simp) H];simp only[bU];rw[N0 (by simp at h;lia),v6 f q g xs _ (λy A=>E y (by simp[A])) (λy A=>G y (by simp[A])) (by simp at h ⊢;lia)];simp[List.filter_cons,H]
  |false=>
   simp only[];rw[v6 f q g xs _ (λy A=>E y (by simp[A])) (λy A=>G y (by simp[A])) (by simp at h ⊢;lia)];simp[List.filter_cons,H]
end
end Lib
namespace Lib
section
variable{lev:R9}{cl:N9}{k:Nat}
noncomputable def vE(kb:Nat):Ex:=fm 7 [85] [82] [68] [76] (.i (.i (.V 5) (.V 1)) (.V 2)) (.i (.i (.V 4) (.V 1)) (.bin .add (.V 2) (.lit (.int 1)))) (.i (.i (.V 5) (.bin .add (.V 1) (.lit (.int 1)))) (.V 2)) (.i (.i (.V 4) (.V 1)) (.V 2)) (.V 3) (.call kb (.P (.blt .len (.P (.V 4) .u)) (.P (.V 1) (.P (.V 2) (.P (.V 7) .u)))))
noncomputable def lT(kb:Nat):Fn:=⟨4,7,(.seq (.a 4 (.i (.V 0) (.lit (.int 0)))) (.seq (.a 5 (.i (.V 0) (.lit (.int 1)))) (.ret (vE kb))))⟩
def kK (q:R5)(a:Ex)(de:aI)(h:au cl a de=.ok d):au cl (cE q a) de=.ok (.T [.str q,d]):=by
 show(((Rd.ok (.str q)).bind λx=>((au cl a de).bind λy=>(Rd.ok (.T [])).bind λz=>Rd.ok (.T (y::zw z))).bind λy=>Rd.ok (.T (x::zw y))).bind λx=>_)=_;rw[h];rfl
def Gu {r c:Nat}{U:Di->Int}{W:O1}(E:W.length=n)(G:zW (aX V) (.int r)=.ok (bM (V.getD r [])))(B:zW (aX W) (.int r)=.ok (bM (W.getD r [])))(H:zW (aX V) (.int ((r:Int)+1))=.ok (bM (V.getD (r+1) [])))(u:zW (bM (V.getD r [])) (.int c)=.ok (.int (U .u)))(v:zW (bM (W.getD r [])) (.int ((c:Int)+1))=.ok (.int (U .r)))(w:zW (bM (V.getD (r+1) [])) (.int c)=.ok (.int (U .d)))(l:zW (bM (W.getD r [])) (.int c)=.ok (.int (U .l)))(I:∀e,cl kb [.int n,.int r,.int c,vZ e]=.ok (zF n ((r:Int),(c:Int)) e)):
  au cl (vE kb) [o0,some (.int r),some (.int c),some (.int mk),some (aX W),some (aX V),none]=.ok (.L ((bD.filter λe=>decide (U e=mk)).map (zF n ((r:Int),(c:Int))))):=by
 unfold vE fm;rw[F9];have A:wF .len [aX W]=.ok (.int n):=by simp[wF,yH,aX,E]
 rw[show au cl (kq (cE [85] (.i (.i (.V 5) (.V 1)) (.V 2))) (cE [82] (.i (.i (.V 4) (.V 1)) (.bin .add (.V 2) (.lit (.int 1))))) (cE [68] (.i (.i (.V 5) (.bin .add (.V 1) (.lit (.int 1)))) (.V 2))) (cE [76] (.i (.i (.V 4) (.V 1)) (.V 2)))) [o0,some (.int r),some (.int c),some (.int mk),some (aX W),some (aX V),none]=.ok (.T (bD.map λd=>.T [vZ d,.int (U d)]))from by
  unfold kq;rw[sX,zH,kK _ _ _ (d:=.int (U .u)) (by simp only[xa,wg,zq,zr,zp,bU,G,u]),zH,kK _ _ _ (d:=.int (U .r)) (by simp only[xa,wg,zq,zr,zp,bU,mn,B,v]),zH,kK _ _ _ (d:=.int (U .d)) (by simp only[xa,wg,zq,zr,zp,bU,mn,H,w]),zH,kK _ _ _ (d:=.int (U .l)) (by simp only[xa,wg,zq,zr,zp,bU,B,l])]
  rfl]
 simp only[zp,bU];rw[show xl .ptp (.T (bD.map λd=>.T [vZ d,.int (U d)])) (.int 0)=some (bD.map λd=>(vZ d,.int (U d)))from rfl];simp only[];rw[v6 (λd=>(vZ d,Dat.int (U d))) (λd=>decide (U d=mk)) (zF n ((r:Int),(c:Int))) bD [] (λd _=>?_) (λd _ _=>?_) (by simp[bD,aA])]
 .rfl
 .simp only[Wn,Wp,wX,zq,zr,bU,ie]
 .simp only[Wn,Wp,xf,qm,zH,yi,zq,zr,bU,zX,A,I]
def uH (h:au cl e de=.ok d)(B:yt (.a i e) X=none):∃A,aK lev cl (.seq (.a i e) X) de lv=aK lev cl X (de.set i (some d)) A:=by
 rw[zz lev cl de lv B,vX,h];simp only[c9];unfold kx;split
 .simp only[yh];exact⟨_,rfl⟩
 .simp only[yh];exact⟨_,rfl⟩
def At(n:Nat)(p:Pl)(e:Di):ay (zF n p e)=true:=by
 unfold zF;split<;>rfl
def Gs {r c:Nat}{U:Di->Int}{W:O1}(H:W.length=n)(I:zW (aX V) (.int r)=.ok (bM (V.getD r [])))(J:zW (aX W) (.int r)=.ok (bM (W.getD r [])))(M:zW (aX V) (.int ((r:Int)+1))=.ok (bM (V.getD (r+1) [])))(u:zW (bM (V.getD r [])) (.int c)=.ok (.int (U .u)))(v:zW (bM (W.getD r [])) (.int ((c:Int)+1))=.ok (.int (U .r)))(w:zW (bM (V.getD (r+1) [])) (.int c)=.ok (.int (U .d)))(l:zW (bM (W.getD r [])) (.int c)=.ok (.int (U .l)))(N:∀e,cl kb [.int n,.int r,.int c,vZ e]=.ok (zF n ((r:Int),(c:Int)) e))(O:lev k=.F):
  yu lev cl k (lT kb) [.T [aX W,aX V],.int r,.int c,.int mk]=.ok (.L ((bD.filter λe=>decide (U e=mk)).map (zF n ((r:Int),(c:Int))))):=by
 unfold yu;rw[N0 (by rfl)];show yY (lev k) (aK lev cl (.seq (.a 4 _) (.seq (.a 5 _) (.ret (vE kb)))) [some (.T [aX W,aX V]),some (.int r),some (.int c),some (.int mk),none,none,none] _)=_;generalize xz (lT kb) [.T [aX W,aX V],.int r,.int c,.int mk]=A;obtain⟨B,Q⟩:=uH (lev:=lev) (cl:=cl) (i:=4) (e:=.i (.V 0) (.lit (.int 0))) (d:=aX W) (X:=.seq (.a 5 (.i (.V 0) (.lit (.int 1)))) (.ret (vE kb))) (de:=[some (.T [aX W,aX V]),some (.int r),some (.int c),some (.int mk),none,none,none]) (lv:=A) rfl rfl;rw[Q];obtain⟨Y,j⟩:=uH (lev:=lev) (cl:=cl) (i:=5) (e:=.i (.V 0) (.lit (.int 1))) (d:=aX V) (X:=.ret (vE kb)) (de:=[some (.T [aX W,aX V]),some (.int r),some (.int c),some (.int mk),some (aX W),none,none]) (lv:=B) rfl rfl;simp only[QO,QN];rw[j];simp only[QO,QN,wY];rw[Gu (o0:=some (.T [aX W,aX V])) H I J M u v w l N];simp only[c9];have hl:aU lev (vE kb) (.L ((bD.filter λe=>decide (U e=mk)).map (zF n ((r:Int),(c:Int)))))=.F:=by
  unfold vE fm;rw[Gj];simp[xI,At]
 have E:∀G,dr lev (vE kb) (.L ((bD.filter λe=>decide (U e=mk)).map (zF n ((r:Int),(c:Int))))) G=.F:=λG=>by
  unfold dr;rw[N1 (by simp)];exact hl
 rw[E];simp[yY,O,jK]
end
end Lib
namespace Lib
section
variable{lev:R9}{cl:N9}
noncomputable def yM(p:Pl):P8:=[p.1,p.2]
noncomputable def dB(r:Nat)(c:Nat):List Pl:=(QF c).map λ(j:Nat)=>((r:Int),(j:Int))
noncomputable def b9(n r c:Nat):List Pl:=(QF r).flatMap (λi=>dB i n)++dB r c
def jE (h:yM p=yM q):p=q:=by
 unfold yM at h;simp only[List.cons.injEq,and_true]at h;exact Prod.ext h.1 h.2
theorem uG {f:Pl->Dat}:∀{ps:List Pl},p∈ps->bX (ps.map yM) (ps.map f) (yM p)=some (f p)
 |[],h=>by simp at h
 |q::ps,h=>by
  show(if yM q=yM p then some (f q)else bX (ps.map yM) (ps.map f) (yM p))=_;by_cases e:yM q=yM p
  .rw[N0 e,jE e]
  .rw[N1 e];refine uG ?_;rcases Qn.mp h with rfl|h
   .exact N2 rfl e
   .exact h
def Gr(r c:Nat):dB r (c+1)=dB r c++[((r:Int),(c:Int))]:=by
 unfold dB;rw[Vu,Ww];rfl
def Gq(n r c:Nat):b9 n r (c+1)=b9 n r c++[((r:Int),(c:Int))]:=by
 unfold b9;rw[Gr,QZ]
def EB(n r:Nat):b9 n r n=b9 n (r+1) 0:=by
 unfold b9;rw[Vu,List.flatMap_append];simp[dB]
def cG:p∈dB r c↔p.1=r/\∃j:Nat,j<c/\p.2=j:=by
 unfold dB;simp only[Wc,Q9];constructor
 .rintro ⟨j,A,rfl⟩;exact⟨rfl,j,A,rfl⟩
 .rintro ⟨B,j,A,E⟩;exact⟨j,A,Prod.ext B.symm E.symm⟩
def uE:p∈b9 n r c↔(∃i:Nat,i<r/\p∈dB i n)\/p∈dB r c:=by
 unfold b9;simp only[QJ,List.mem_flatMap,Q9]
def uD:((r:Int),(c:Int))∉b9 n r c:=by
 rw[uE];rintro(⟨i,A,h⟩|h)
 .have:=(cG.mp h).1;simp only[]at this;lia
 .obtain ⟨_,j,B,e⟩:=cG.mp h;simp only[]at e;lia
def EA(n:Nat):∀r c,(b9 n r c).length=r*n+c:=by
 intro r c;have A:∀i m,(dB i m).length=m:=λi m=>by simp[dB]
 unfold b9;rw[QP,A];congr 1
 induction r with
 |zero=>simp
 |succ r B=>rw[Vu,List.flatMap_append,QP,B];simp[A,Nat.succ_mul]
def qt (h:ca n p=true):p∈b9 n n 0:=by
 obtain⟨⟨A,B⟩,E,G⟩:=bO.mp h;rw[uE];refine .inl ⟨p.1.toNat,by lia,cG.mpr ⟨by lia,p.2.toNat,by lia,by lia⟩⟩
def CA (h:p∉ps):xZ (ps.map yM) (yM p)=(ps++[p]).map yM:=by
 unfold xZ;rw[N1,Ww];· rfl
 intro z;obtain⟨q,A,e⟩:=Wc.mp z;rw[jE e]at A;exact h A
theorem sB {f:Pl->Dat}:∀{ps:List Pl},p∉ps->yf (ps.map yM) (ps.map f) (yM p) (f p)=(ps++[p]).map f
 |[],_=>rfl
 |q::ps,h=>by
  show(if yM q=yM p then f p::ps.map f else f q::yf (ps.map yM) (ps.map f) (yM p) (f p))=_;rw[N1 (λe=>h (by rw[jE e];simp)),sB (λz=>h (by simp[z]))];rfl
def lS (h:au cl e de=.ok d)(A:ay d=true)(B:yt (.a i e) X=none):aK lev cl (.seq (.a i e) X) de lv=aK lev cl X (de.set i (some d)) (lv.set i .F):=by
 rw[zz lev cl de lv B,vX,h];simp only[c9];rw[Au A];rfl
def lR (h:au cl e de=.ok d)(A:aU lev e d=.F)(B:yt (.a i e) X=none):aK lev cl (.seq (.a i e) X) de lv=aK lev cl X (de.set i (some d)) (lv.set i .F):=by
 rw[zz lev cl de lv B,vX,h];simp only[c9];rw[F8 A];rfl
end
end Lib
namespace Lib
section
variable{lev:R9}{cl:N9}{k:Nat}
noncomputable def em(A:Nat):Sm:=.dput 3 (.T (.P (.V 4) (.P (.V 5) .u))) (.call A (.P (.V 2) (.P (.V 4) (.P (.V 5) (.P (.V 1) .u)))))
noncomputable def tt(ks A:Nat):Fn:=⟨2,6,(.seq (.a 2 (.call ks (.P (.V 0) .u))) (.seq (.a 3 .dict0) (.seq (.forv 4 (.rng (.lit (.int 0)) (.blt .len (.P (.V 0) .u)) (.lit (.int 1))) (.forv 5 (.rng (.lit (.int 0)) (.blt .len (.P (.V 0) .u)) (.lit (.int 1))) (em A))) (.ret (.V 3)))))⟩
noncomputable def dx(val:Pl->Dat)(ps:List Pl):Dat:=.D (ps.map yM) (ps.map val)
def Ez {c:Nat}(N:r<n)(O:c<n)(I:n<=12)(J:cl B [P,.int r,.int c,.int mk]=.ok (val ((r:Int),(c:Int))))(G:lev B=.F)(o0:O8)(H l1 l2:Lv):
  aK lev cl (em B) [o0,some (.int mk),some P,some (dx val (b9 n r c)),some (.int r),some (.int c)] [H,l1,l2,.F,.F,.F]=.next [o0,some (.int mk),some P,some (dx val (b9 n r (c+1))),some (.int r),some (.int c)] [H,l1,l2,.F,.F,.F]:=by
 unfold em;have M:au cl (.call B (.P (.V 2) (.P (.V 4) (.P (.V 5) (.P (.V 1) .u))))) [o0,some (.int mk),some P,some (dx val (b9 n r c)),some (.int r),some (.int c)]=.ok (val ((r:Int),(c:Int))):=by
  simp only[xf,zH,yi,zq,zr,bU,zX,J]
 show(au cl (.call B _) _).okS _=_;rw[M];simp only[Rd.okS_ok,sC,zq,zr,bU];rw[show xF (.T [.int (r:Int),.int (c:Int)])=some (yM ((r:Int),(c:Int)))from rfl];simp only[List.getElem?_cons_succ,List.getElem?_cons_zero];unfold dx;simp only[];have A:aU lev (.call B (.P (.V 2) (.P (.V 4) (.P (.V 5) (.P (.V 1) .u))))) (val ((r:Int),(c:Int)))=.F:=by
  rw[ql,G];split<;>rfl
 have E:((b9 n r c).map yM).length<aA:=by
  rw[Qs,EA];have:r*n<=12*12:=Nat.mul_le_mul (by lia) I;unfold aA;lia
 rw[N0 ⟨trivial,A,E⟩];simp only[QO,QN];rw[CA uD,sB uD,<-Gq]
def Ho (g:R.length<=12)(f:cl ks [aX R]=.ok P)(t:∀r c,r<R.length->c<R.length->cl J [P,.int (r:Nat),.int (c:Nat),.int mk]=.ok (val ((r:Int),(c:Int))))(Y:lev J=.F)(m:lev k=.F):
  yu lev cl k (tt ks J) [aX R,.int mk]=.ok (dx val (b9 R.length R.length 0)):=by
 have M:wF .len [aX R]=.ok (.int R.length):=by simp[wF,yH,aX]
 have Q:g9 (.int 0) (.int R.length) (.int 1)=.ok (.T (yr 0 1 R.length)):=uI (by lia);have U:∀A B E,∃N G,aK lev cl (.forv 4 (.rng (.lit (.int 0)) (.blt .len (.P (.V 0) .u)) (.lit (.int 1))) (.forv 5 (.rng (.lit (.int 0)) (.blt .len (.P (.V 0) .u)) (.lit (.int 1))) (em J))) [some (aX R),some (.int mk),some P,some (.D [] []),none,none] [A,B,E,.F,.F,.F]=.next [some (aX R),some (.int mk),some P,some (dx val (b9 R.length R.length 0)),N,G] [A,B,E,.F,.F,.F]:=λA B E=>by
  obtain⟨j,u,e,rfl,N,G,rfl⟩:=gp (body:=λx H I=>aK lev cl (.forv 5 (.rng (.lit (.int 0)) (.blt .len (.P (.V 0) .u)) (.lit (.int 1))) (em J)) (H.set 4 (some x)) (I.set 4 (bQ x)))
   (λr H I=>I=[A,B,E,.F,.F,.F]/\∃N G,H=[some (aX R),some (.int mk),some P,some (dx val (b9 R.length r 0)),N,G])
   (yr 0 1 R.length) (de:=[some (aX R),some (.int mk),some P,some (dx val (b9 R.length 0 0)),none,none]) (lv:=[A,B,E,.F,.F,.F]) ⟨rfl,none,none,rfl⟩ (by
    rintro r x H I O ⟨rfl,N,G,rfl⟩;have z:r<R.length:=by
     have:=(Qa.mp O).1;simpa using this
    rw[Aw _ _ _ _ z]at O;cases O;rw[show(0:Int)+1*(r:Int)=(r:Int) by lia];simp only[QO,QN];rw[show bQ (.int (r:Int))=.F from by simp[bQ],mj];simp only[mo,zp,qm,zH,yi,zq,bU,zX,M,Q,c9,ml,Av,gn,if_true];obtain⟨j,u,e,rfl,b,rfl⟩:=gp (body:=λx H I=>aK lev cl (em J) (H.set 5 (some x)) (I.set 5 (bQ x)))
     (λc H I=>I=[A,B,E,.F,.F,.F]/\∃G,H=[some (aX R),some (.int mk),some P,some (dx val (b9 R.length r c)),some (.int r),G])
     (yr 0 1 R.length) (de:=[some (aX R),some (.int mk),some P,some (dx val (b9 R.length r 0)),some (.int r),G]) (lv:=[A,B,E,.F,.F,.F]) ⟨rfl,G,rfl⟩ (by
      rintro c x H I O ⟨rfl,G,rfl⟩;have o:c<R.length:=by
       have:=(Qa.mp O).1;simpa using this
      rw[Aw _ _ _ _ o]at O;cases O;rw[show(0:Int)+1*(c:Int)=(c:Int) by lia];simp only[QO,QN];rw[show bQ (.int (c:Int))=.F from by simp[bQ]];exact⟨_,_,Ez z o g (t r c z o) Y _ A B E,rfl,_,rfl⟩)
    refine⟨_,_,e,rfl,some (.int r),b,?_⟩;rw[show(yr 0 1 R.length).length=R.length from by simp,EB])
  rw[show(yr 0 1 R.length).length=R.length from by simp]at e;refine⟨N,G,?_⟩;rw[mj];simp only[mo,zp,qm,zH,yi,zq,bU,zX,M,Q,c9,ml,Av,gn,if_true];exact e
 unfold yu;rw[N0 (by rfl)];show yY (lev k) (aK lev cl (.seq (.a 2 _) (.seq (.a 3 .dict0) (.seq (.forv 4 _ (.forv 5 _ (em J))) (.ret _)))) [some (aX R),some (.int mk),none,none,none,none] [bQ (aX R),bQ (.int mk),.F,.F,.F,.F])=_;have l:∃A B E,aK lev cl (.seq (.a 2 (.call ks (.P (.V 0) .u))) (.seq (.a 3 .dict0) (.seq (.forv 4 (.rng (.lit (.int 0)) (.blt .len (.P (.V 0) .u)) (.lit (.int 1))) (.forv 5 (.rng (.lit (.int 0)) (.blt .len (.P (.V 0) .u)) (.lit (.int 1))) (em J))) (.ret (.V 3))))) [some (aX R),some (.int mk),none,none,none,none] [bQ (aX R),bQ (.int mk),.F,.F,.F,.F]
   = aK lev cl (.seq (.a 3 .dict0) (.seq (.forv 4 (.rng (.lit (.int 0)) (.blt .len (.P (.V 0) .u)) (.lit (.int 1))) (.forv 5 (.rng (.lit (.int 0)) (.blt .len (.P (.V 0) .u)) (.lit (.int 1))) (em J))) (.ret (.V 3)))) [some (aX R),some (.int mk),some P,none,none,none] [A,B,E,.F,.F,.F]:=by
  rw[CO,vX];simp only[xf,zH,yi,zq,bU,zX,f,c9];unfold kx;split
  .simp only[yh,QO,QN];exact⟨_,_,_,rfl⟩
  .simp only[yh,QO,QN];exact⟨_,_,_,rfl⟩
 obtain⟨A,B,E,l⟩:=l;refine(NY (yY (lev k)) l).trans ?_;rw[lR (d:=.D [] []) rfl (by simp) rfl];simp only[QO,QN];obtain⟨N,G,e⟩:=U A B E;rw[sR,e,yh];simp only[wY,zq,zr,c9];simp[yY,dr,m,jK,dx]
end
end Lib
namespace Lib
section
noncomputable def pm:Dat:=.T [.int 1,.int (-1)]
end
end Lib
namespace Lib
end Lib
namespace Lib
section
noncomputable def ar(W:Nat->Nat->Int)(i j:Nat):Int:=if(decide (W i j=1)==decide (((i:Int)+j)%2=1))=true then 1 else -1
noncomputable def wd:Dat:=.T [.int 1,.int 0]
end
end Lib
namespace Lib
end Lib
namespace Lib
section
noncomputable def wk(F:Nat->Nat->Int)(i j:Nat):Int:=if(decide (F i j=1)==decide (((i:Int)+j)%2=1))=true then 1 else 0
end
end Lib
namespace Lib
end Lib
namespace Lib
section
def Ey (E:ca n p=true)(h:zF n p e=zF n p f):e=f:=by
 obtain⟨⟨G,H⟩,I,J⟩:=bO.mp E;obtain⟨a,b⟩:=p;simp only[]at G H I J;unfold zF at h;by_cases B:ca n (bv e (a,b))=true
 .rw[N0 B]at h;by_cases A:ca n (bv f (a,b))=true
  .rw[N0 A]at h;have h:Dat.T [.int (bv e (a,b)).1,.int (bv e (a,b)).2]=Dat.T [.int (bv f (a,b)).1,.int (bv f (a,b)).2]:=h;simp only[Dat.T.injEq,List.cons.injEq,Dat.int.injEq,and_true]at h;cases e<;>cases f<;>simp only[bv]at h<;>first|rfl|lia
  .rw[N1 A]at h;cases h
 .rw[N1 B]at h;by_cases A:ca n (bv f (a,b))=true
  .rw[N0 A]at h;cases h
  .rw[N1 A]at h;simp only[Dat.int.injEq]at h;cases e<;>cases f<;>simp only[ku]at h<;>first|rfl|lia
end
end Lib
namespace Lib
section
variable{lev:R9}{cl:N9}{k:Nat}
def mi(A:P9)(x y:Dat):zW (.L (A++[x,y])) (.int (-1))=.ok y:=gm (by simp)
def CM(A:P9)(x y:Dat):zW (.L (A++[x,y])) (.int (-2))=.ok x:=by
 have B:ix (A++[x,y]).length (-2)=some A.length:=by
  unfold ix;rw[N1 (by lia),N0 (by simp;lia)];congr 1;simp;lia
 show(match (ix (A++[x,y]).length (-2)).bind λj=>(A++[x,y])[j]? with|some v=>Rd.ok v|none=>.no)=_;rw[B];simp
def CL (h:(bD.filter f).length=2)(H:f d=true):bD.filter f=[d,bS f d]\/bD.filter f=[bS f d,d]:=by
 unfold bS bD at *
 cases A:f .u<;>cases B:f .r<;>cases E:f .d<;>cases G:f .l<;>simp[A,B,E,G]at h ⊢<;>cases d<;>simp_all
def sy(a b c d:Int):yV .eq (.T [.int a,.int b]) (.T [.int c,.int d])=.ok (.bl (decide (a=c)&&(decide (b=d)&&true))):=rfl
def Cz(a b c:Int):yV .eq (.T [.int a,.int b]) (.int c)=.ok (.bl false):=rfl
def Cy(a b c:Int):yV .eq (.int c) (.T [.int a,.int b])=.ok (.bl false):=rfl
def tq (I:ca n p=true)(e f:Di):yV .eq (zF n p e) (zF n p f)=.ok (.bl (decide (e=f))):=by
 by_cases q:e=f
 .subst q;rw[N3 rfl];unfold zF;split
  .show yV .eq (.T [.int _,.int _]) (.T [.int _,.int _])=_;rw[sy];simp
  .rw[ie];simp
 .rw[NZ q];have A:zF n p e≠zF n p f:=λz=>q (Ey I z);unfold zF at A ⊢;by_cases G:ca n (bv e p)=true
  .rw[N0 G]at A ⊢;by_cases B:ca n (bv f p)=true
   .rw[N0 B]at A ⊢;show yV .eq (.T [.int _,.int _]) (.T [.int _,.int _])=_;rw[sy];have:¬((bv e p).1=(bv f p).1/\(bv e p).2=(bv f p).2):=λz=>A (by unfold bA;rw[z.1,z.2]);by_cases H:(bv e p).1=(bv f p).1
    .have E:¬(bv e p).2=(bv f p).2:=λE=>this ⟨H,E⟩;simp[E]
    .simp[H]
   .rw[N1 B];exact Cz _ _ _
  .rw[N1 G]at A ⊢;by_cases B:ca n (bv f p)=true
   .rw[N0 B];exact Cy _ _ _
   .rw[N1 B]at A ⊢;rw[ie,NZ (λz=>A (by rw[z]))]
noncomputable def v7(n:Nat)(t:Tr)(p:Pl):Dat:=.L ((bD.filter (t p)).map (zF n p))
structure ED(n:Nat)(t:Tr)(D:Dat):Prop where
 get:∀p,ca n p=true->vu D (bA p)=.ok (v7 n t p)
 isin:∀p,ca n p=true->yV .isin (bA p) D=.ok (.bl true)
 out:∀i:Int,yV .isin (.int i) D=.ok (.bl false)
def CK (h:∀p,ca n p=true->val p=v7 n t p):ED n t (dx val (b9 n n 0)) where
 get:=λp A=>by
  show(match (xF (bA p)).bind (bX _ _)with|some v=>Rd.ok v|none=>.no)=_;rw[show xF (bA p)=some (yM p)from rfl];simp only[Vo];rw[uG (qt A)];simp only[h p A]
 isin:=λp A=>by
  show eM ((zD [.int p.1,.int p.2]).map λk=>decide (k∈(b9 n n 0).map yM))=_;rw[show zD [.int p.1,.int p.2]=some (yM p)from rfl];show Rd.ok (.bl (decide (yM p∈(b9 n n 0).map yM)))=_;rw[N3 (List.mem_map_of_mem (qt A))]
 out:=λ_=>rfl
noncomputable def eS:Ex:=(.and (.cmp .isin (.i (.V 3) (.neg (.lit (.int 1)))) (.V 0)) (.cmp .ne (.i (.V 3) (.neg (.lit (.int 1)))) (.V 1)))
noncomputable def lc:Ex:=(.ife (.cmp .eq (.i (.V 4) (.lit (.int 0))) (.i (.V 3) (.neg (.lit (.int 2))))) (.i (.V 4) (.lit (.int 1))) (.i (.V 4) (.lit (.int 0))))
noncomputable def i9:Ex:=(.dget (.V 0) (.i (.V 3) (.neg (.lit (.int 1)))))
noncomputable def ip:Sm:=(.seq (.a 4 i9) (.expr (.meth .append (.V 3) (.P lc .u))))
noncomputable def tm:Fn:=⟨3,5,(.seq (.a 3 (.L (.P (.V 1) (.P (.V 2) .u)))) (.seq (.while eS ip) (.ret (.V 3))))⟩
def CJ (F:fJ n t)(g:Good n t s)(A:P9):
  au cl lc [d0,d1,d2,some (.L (A++[zF n s.1 s.2,bA s.1])),some (v7 n t s.1)]=.ok (zF n s.1 (bS (t s.1) s.2)):=by
 have E:=CM A (zF n s.1 s.2) (bA s.1);obtain⟨_,G,_⟩:=AL (F.two s.1 g.1) g.2;unfold lc v7;rcases CL (F.two s.1 g.1) g.2 with e|e
 .rw[e];have B:zW (.L ([s.2,bS (t s.1) s.2].map (zF n s.1))) (.int 0)=.ok (zF n s.1 s.2):=rfl;have H:zW (.L ([s.2,bS (t s.1) s.2].map (zF n s.1))) (.int 1)=.ok (zF n s.1 (bS (t s.1) s.2)):=rfl;simp only[qo,wX,xa,vW,zp,zq,zr,bU,B,H,E,tq g.1,decide_true]
 .rw[e];have B:zW (.L ([bS (t s.1) s.2,s.2].map (zF n s.1))) (.int 0)=.ok (zF n s.1 (bS (t s.1) s.2)):=rfl;simp only[qo,wX,xa,vW,zp,zq,zr,bU,B,E,tq g.1,NZ G]
def Ew (F:fJ n t)(H:ED n t D)(g:Good n t s)(A:P9)(hl:A.length+2<aA)(G l1 l2 l4:Lv):
  ∃m0 m4,aK lev cl ip [some D,d1,d2,some (.L (A++[zF n s.1 s.2,bA s.1])),d4] [G,l1,l2,.F,l4] =
   .next [some D,d1,d2,some (.L ((A++[zF n s.1 s.2,bA s.1])++[zF n s.1 (bS (t s.1) s.2)])),some (v7 n t s.1)] [m0,l1,l2,.F,m4]:=by
 have I:=mi A (zF n s.1 s.2) (bA s.1);have J:au cl i9 [some D,d1,d2,some (.L (A++[zF n s.1 s.2,bA s.1])),d4]=.ok (v7 n t s.1):=by
  unfold i9;simp only[EC,xa,vW,zp,zq,zr,bU,I,H.get s.1 g.1]
 unfold ip;rw[zz lev cl _ _ rfl,vX,J];simp only[c9];have go:∀m0 m4,∃B E,aK lev cl (.expr (.meth .append (.V 3) (.P lc .u))) [some D,d1,d2,some (.L (A++[zF n s.1 s.2,bA s.1])),some (v7 n t s.1)] [m0,l1,l2,.F,m4] =
   .next [some D,d1,d2,some (.L ((A++[zF n s.1 s.2,bA s.1])++[zF n s.1 (bS (t s.1) s.2)])),some (v7 n t s.1)] [B,l1,l2,.F,E]:=λm0 m4=>by
  refine⟨m0,m4,?_⟩;rw[EE,CJ F g];simp only[Rd.okS_ok];rw[show vR [some D,d1,d2,some (.L (A++[zF n s.1 s.2,bA s.1])),some (v7 n t s.1)] 3=some (A++[zF n s.1 s.2,bA s.1])from rfl];simp only[];rw[N0 (by simp;lia)];unfold j9;rw[N1 (by simp[yA]),N0 (xI lev _ _ (At _ _ _))];simp only[QO,QN]
 unfold kx;split
 .simp only[yh,QO,QN];exact go _ _
 .rw[show xP i9 [some D,d1,d2,some (.L (A++[zF n s.1 s.2,bA s.1])),d4] [G,l1,l2,.F,l4]=[.no,l1,l2,.F,l4]from rfl];simp only[yh,QO,QN];exact go _ _
def CI (B:ED n t D)(E:ca n p=true)(A:P9)(x:Dat):au cl eS [some D,some (.int ρ),d2,some (.L (A++[x,bA p])),d4]=.ok (.bl true):=by
 have G:=mi A x (bA p);unfold eS;simp only[sW,wX,xa,vW,zp,zq,zr,bU,G,B.isin p E];rfl
def Ev (B:ED n t D)(A:P9)(x:Dat):au cl eS [some D,d1,d2,some (.L (A++[x,.int i])),d4]=.ok (.bl false):=by
 have E:=mi A x (.int i);unfold eS;simp only[sW,wX,xa,vW,zp,zq,zr,bU,E,B.out i]
theorem uC (F:fJ n t)(N:ED n t D)(ρ:Int)(d2:O8):∀(f:Nat) (s:cu) (acc G:List Pl) (σ:Int),Good n t s->eO n t f s acc=some (G,σ)->acc.length+f+2<=aA->(∃B,.int ρ::acc.map bA=B++[zF n s.1 s.2,bA s.1])->∀(A:Nat),f+1<=A->∀(d4:O8) (O l1 l2 l4:Lv),
  ∃d m0 m4,wf (au cl eS) (aK lev cl ip) A [some D,some (.int ρ),d2,some (.L (.int ρ::acc.map bA)),d4] [O,l1,l2,.F,l4]=.next [some D,some (.int ρ),d2,some (.L (.int ρ::G.map bA++[.int σ])),d] [m0,l1,l2,.F,m4]
 |0,s,acc,G,σ,g,h,l,H,A,m,d4,O,l1,l2,l4=>by cases h
 |f+1,s,acc,G,σ,g,h,l,⟨B,H⟩,A,m,d4,O,l1,l2,l4=>by
  obtain⟨q,rfl⟩:∃q,A=q+1:=⟨A-1,by lia⟩;have u:B.length+2=acc.length+1:=by
   have:=NY List.length H;simpa using this.symm
  obtain⟨m0,m4,b⟩:=Ew (lev:=lev) (cl:=cl) F N g (d1:=some (.int ρ)) (d2:=d2) (d4:=d4) B (by lia) O l1 l2 l4;have I:(match dq n t s with|some z=>eO n t f z (acc++[z.1])|none=>some (acc,iM n t s))=some (G,σ):=h;have J:∀(c:aI->Rd) (E:aI->R8->bG) (k:Nat) (Q:aI) (U:R8),wf c E (k+1) Q U=match c Q with
   |.ok (.bl true)=>match E Q U with
    |.next d1 l1=>wf c E k d1 l1
    |r=>r
   |.ok (.bl false)=>.next Q U
   |_=>.no:=λ_ _ _ _ _=>rfl
  rw[J,H,CI N g.1];simp only[];rw[b];simp only[];rw[<-H];unfold dq iM at I;by_cases M:ca n (bv (bS (t s.1) s.2) s.1)=true
  .rw[N0 M]at I;have Y:zF n s.1 (bS (t s.1) s.2)=bA (bv (bS (t s.1) s.2) s.1):=by unfold zF;rw[N0 M]
   have i:dq n t s=some (bv (bS (t s.1) s.2) s.1,dg (bS (t s.1) s.2)):=by unfold dq;rw[N0 M]
   rw[Y];have e:(.int ρ::acc.map bA)++[bA (bv (bS (t s.1) s.2) s.1)]=.int ρ::(acc++[bv (bS (t s.1) s.2) s.1]).map bA:=by simp
   rw[e];refine uC F N ρ d2 f _ _ G σ (Hi F g i).1 I (by simp;lia) ⟨B++[zF n s.1 s.2],?_⟩ q (by lia) _ _ _ _ _;rw[<-e,H,QZ,QZ];have j:zF n (bv (bS (t s.1) s.2) s.1) (dg (bS (t s.1) s.2))=bA s.1:=by
    unfold zF;rw[jz,N0 g.1]
   simp[j]
  .rw[N1 M]at I;cases I;have Y:zF n s.1 (bS (t s.1) s.2)=.int (ku n s.1 (bS (t s.1) s.2)):=by unfold zF;rw[N1 M]
   rw[Y];obtain⟨o,rfl⟩:∃o,q=o+1:=⟨q-1,by lia⟩;refine⟨some (v7 n t s.1),m0,m4,?_⟩;rw[J,show(Dat.int ρ::acc.map bA)++[.int (ku n s.1 (bS (t s.1) s.2))]=(B++[zF n s.1 s.2])++[bA s.1,.int (ku n s.1 (bS (t s.1) s.2))]from by rw[H];simp,Ev N]
def Hn (j:0<n)(B:n<=12)(G:ρ<4*n)(F:fJ n t)(H:ED n t D)(g:Good n t (bW n ρ))(I:ca n (bv (bW n ρ).2 (bW n ρ).1)=false)(J:ku n (bW n ρ).1 (bW n ρ).2=ρ)(M:eO n t (n*n*4) (bW n ρ) [(bW n ρ).1]=some (A,σ))(N:lev k=.F):yu lev cl k tm [D,.int ρ,bA (bW n ρ).1]=.ok (.L (.int ρ::A.map bA++[.int σ])):=by
 have O:n*n*4<=576:=by
  have:n*n<=12*12:=Nat.mul_le_mul B B;lia
 have Q:zF n (bW n ρ).1 (bW n ρ).2=.int ρ:=by
  unfold zF;rw[N1 (by rw[I];decide),J]
 obtain⟨u,m0,m4,U⟩:=uC (lev:=lev) (cl:=cl) F H ρ (some (bA (bW n ρ).1)) (n*n*4) (bW n ρ) [(bW n ρ).1] A σ g M (by simp;unfold aA;lia) ⟨[],by rw[Q];rfl⟩ 1000000 (by lia) none (bQ D) .F .F .F;have fl:∀A:List Pl,aZ (A.map bA)=true:=λA=>by
  induction A with
  |nil=>rfl
  |cons a l Y=>rw[QS,IU,Y];simp[bA]
 unfold yu;rw[N0 (by rfl)];show yY (lev k) (aK lev cl (.seq (.a 3 _) (.seq (.while eS ip) (.ret _))) [some D,some (.int ρ),some (bA (bW n ρ).1),none,none] [bQ D,bQ (.int ρ),bQ (bA (bW n ρ).1),.F,.F])=_;rw[show bQ (.int (ρ:Int))=.F from by simp[bQ],show bQ (bA (bW n ρ).1)=.F from by simp[bQ,bA]];rw[lR (d:=.L [.int ρ,bA (bW n ρ).1]) (by
  simp only[CQ,zH,yi,zq,zr,bU,zX];exact mm (show 2<=aA by decide)) (by simp[bA]) rfl]
 simp only[QO,QN];rw[sR,Gv];have E:=U;rw[show(List.map bA [(bW n ρ).1])=[bA (bW n ρ).1]from rfl]at E;rw[E,yh];simp only[wY,zq,zr,c9];simp[yY,dr,N,jK]
end
end Lib
namespace Lib
end Lib
namespace Lib
section
variable{t:Tr}
noncomputable def LP(t:Tr)(s:cu):cu:=(s.1,bS (t s.1) s.2)
end
noncomputable def bN(b:Bool):Nat:=if b then 1 else 0
end Lib
namespace Lib
section
variable{lev:R9}{cl:N9}{k:Nat}
noncomputable def dU(b:Bool):Int:=if b then 0 else 1
def As (h:lev A=.F):dr lev (.call A a) X lv=.F:=by
 unfold dr;split
 .rfl
 .show aU lev (.call A a) X=.F;rw[ql,h];split<;>rfl
noncomputable def rH(kp A:Nat):Fn:=⟨4,6,(.seq (.a 4 (.ife (.cmp .eq (.V 3) (.lit (.int 1))) (.bin .mul (.lit (.int 2)) (.V 2)) (.bin .add (.bin .mul (.lit (.int 2)) (.V 2)) (.lit (.int 1))))) (.seq (.a 5 (.call kp (.P (.V 1) (.P (.V 4) .u)))) (.ret (.call A (.P (.V 0) (.P (.V 4) (.P (.T (.P (.i (.V 5) (.lit (.int 0))) (.P (.i (.V 5) (.lit (.int 1))) .u))) .u)))))))⟩
def Eu {n:Nat}(b:Bool)(G:cl kp [.int n,.int ((2*j+bN b:Nat):Int)]=.ok (.T [.int (bW n (2*j+bN b)).1.1,.int (bW n (2*j+bN b)).1.2,vZ (bW n (2*j+bN b)).2]))(H:cl E [D,.int ((2*j+bN b:Nat):Int),bA (bW n (2*j+bN b)).1]=.ok X)(B:lev E=.F)(I:lev k=.F):
  yu lev cl k (rH kp E) [D,.int n,.int j,.int (dU b)]=.ok X:=by
 have m2:yK .mul (.int 2) (.int (j:Int))=.ok (.int (2*(j:Int))):=qp _ _ (by decide);have A:∀d4 d5:O8,au cl (.ife (.cmp .eq (.V 3) (.lit (.int 1))) (.bin .mul (.lit (.int 2)) (.V 2)) (.bin .add (.bin .mul (.lit (.int 2)) (.V 2)) (.lit (.int 1)))) [some D,some (.int n),some (.int j),some (.int (dU b)),d4,d5]=.ok (.int ((2*j+bN b:Nat):Int)):=λd4 d5=>by
  cases b with
  |false=>
   simp only[qo,wX,wg,zp,zq,zr,bU,ie,m2];rfl
  |true=>
   simp only[qo,wX,wg,zp,zq,zr,bU,ie,m2,mn];rfl
 unfold yu;rw[N0 (by rfl)];show yY (lev k) (aK lev cl (.seq (.a 4 _) (.seq (.a 5 _) (.ret _))) [some D,some (.int n),some (.int j),some (.int (dU b)),none,none] _)=_;rw[lS (A _ _) (by simp) rfl];simp only[QO,QN];generalize ((2*j+bN b:Nat):Int)=N at *
 generalize bW n (2*j+bN b)=s at *
 rw[lS (d:=.T [.int s.1.1,.int s.1.2,vZ s.2]) (by simp only[xf,zH,yi,zq,zr,bU,zX,G]) (by simp[vZ]) rfl];simp only[QO,QN,wY];have J:zW (.T [.int s.1.1,.int s.1.2,vZ s.2]) (.int 0)=.ok (.int s.1.1):=rfl;have M:zW (.T [.int s.1.1,.int s.1.2,vZ s.2]) (.int 1)=.ok (.int s.1.2):=rfl;simp only[xf,zH,yi,sC,xa,zp,zq,zr,bU,zX,J,M];rw[show(Dat.T [.int s.1.1,.int s.1.2])=bA s.1 from rfl,H];simp only[c9];rw[As B];simp[yY,I,jK]
noncomputable def rF(A B:Nat):Fn:=⟨2,4,(.seq (.a 2 (.blt .len (.P (.V 0) .u))) (.seq (.a 3 (.call A (.P (.V 0) (.P (.V 1) .u)))) (.ret (.comp (.bin .fdiv (.i (.call B (.P (.V 3) (.P (.V 2) (.P (.V 4) (.P (.V 1) .u))))) (.neg (.lit (.int 1)))) (.lit (.int 2))) (.rng (.lit (.int 0)) (.bin .mul (.lit (.int 2)) (.V 2)) (.lit (.int 1))) (.lit (.bl true))))))⟩
def Et (Q:R.length<=12)(b:Bool)(H:cl G [aX R,.int (dU b)]=.ok D)(B:lev G=.F){L:Nat->Nat}{P:Nat->P9}(I:∀j,j<2*R.length->cl J [D,.int R.length,.int j,.int (dU b)]=.ok (.L (P j++[.int ((2*L j+bN b:Nat):Int)])))(M:lev k=.F):
  yu lev cl k (rF G J) [aX R,.int (dU b)]=.ok (bM ((QF (2*R.length)).map λj=>(L j:Int))):=by
 have A:wF .len [aX R]=.ok (.int R.length):=by simp[wF,yH,aX]
 have m2:yK .mul (.int 2) (.int R.length)=.ok (.int ((2*R.length:Nat):Int)):=by rw[qp _ _ (by decide)];simp
 have E:g9 (.int 0) (.int ((2*R.length:Nat):Int)) (.int 1)=.ok (.T (yr 0 1 (2*R.length))):=uI (by lia);have U:bN b=0\/bN b=1:=by cases b<;>simp[bN]
 unfold yu;rw[N0 (by rfl)];show yY (lev k) (aK lev cl (.seq (.a 2 _) (.seq (.a 3 _) (.ret _))) [some (aX R),some (.int (dU b)),none,none] [bQ (aX R),bQ (.int (dU b)),.F,.F])=_;rw[lS (d:=.int R.length) (by simp only[qm,zH,yi,zq,bU,zX,A]) (by simp) rfl];simp only[QO,QN];rw[lR (d:=D) (by simp only[xf,zH,yi,zq,zr,bU,zX,H]) (by rw[ql,B];split<;>rfl) rfl];simp only[QO,QN,wY];rw[t7];simp only[mo,zp,wg,zq,zr,bU,m2,E,ml];rw[Gw 0 1 (2*R.length) (λj=>.int (L j)) (λj _=>rfl) (λj N=>?_) (by unfold aA;lia)]
 .simp only[c9];have O:(Dat.L ((QF (2*R.length)).map λj=>Dat.int (L j)))=bM ((QF (2*R.length)).map λj=>(L j:Int)):=by simp only[bM,Wv];rfl
  rw[O];simp[yY,dr,bM,M,jK]
 .rw[show(0+1*(j:Int))=(j:Int) by lia];simp only[Wn,Wp,wg,xa,xf,vW,zH,yi,zp,zq,zr,bU,zX,I j N];rw[gm (d:=.int ((2*L j+bN b:Nat):Int)) (by simp)];simp only[bU];rw[uK _ _ (by decide) (by decide),show(((2*L j+bN b:Nat):Int))/2=(L j:Int) by lia]
noncomputable def rE(k:Nat)(m:Int):Fn:=⟨1,1,(.ret (.call k (.P (.V 0) (.P (.lit (.int m)) .u))))⟩
def Es (h:cl A [d,.int m]=.ok X)(hl:lev A=.F)(B:lev k=.F):yu lev cl k (rE A m) [d]=.ok X:=by
 unfold yu;rw[N0 (by rfl)];show yY (lev k) (aK lev cl (.ret _) [some d] [bQ d])=_;rw[wY];simp only[xf,zH,yi,zp,zq,bU,zX,h,c9];rw[As hl];simp[yY,B,jK]
end
end Lib
namespace Lib
end Lib
end Vl
end Mini
namespace Mini
open PySem
def aw.p{C:Ctx}{A:LR}{N:R0}{a b:Ex}{x:Expr}{xs:P6}(B:aw C A N a (.e x))(E:aw C A N b (.a xs))(G:zi x=true:=by rfl)(H:zg a=false:=by rfl): aw C A N (.P a b) (.a (x :: xs)):=.P G H B E
theorem aw.c{C:Ctx}{A:LR}{N:R0}{k:Nat}{a:Ex}{f:Str}{y:Expr}{ys:P6}{p B:Pos}(E:aw C A N a (.a (y :: ys)))(G:C.fns[k]? = some f:=by rfl)(H:cq A f=true:=by kernel_rfl)(I:yq f=true:=by kernel_rfl)(J:(y :: ys).all zi=true:=by rfl): aw C A N (.call k a) (.e (.Call (.Name f p) (y :: ys) [] B)):=.call G H I J E
theorem aw.q{C:Ctx}{B:LR}{N:R0}{b:dL}{a:Ex}{A:Str}{f:Value}{y:Expr}{ys:P6}{p E:Pos}(G:aw C B N a (.a (y :: ys)))(H:iK b=some (A,f):=by rfl)(I:cq B A=true:=by kernel_rfl)(J:yq A=true:=by kernel_rfl)(M:(y :: ys).all zi=true:=by rfl): aw C B N (.blt b a) (.e (.Call (.Name A p) (y :: ys) [] E)):=.blt H I J M G
theorem aw.x{C:Ctx}{A:LR}{N:R0}{a b:Ex}{x y:Expr}{p:Pos}(B:aw C A N a (.e x))(E:zg b=false)(G:aw C A N b (.e y))(H:yy y=true:=by rfl)(I:zg a=false:=by rfl): aw C A N (.i a b) (.e (.Subscript x y p)):=.i H I B E G
def aw.k{C:Ctx}{A:LR}{N:R0}{op:Co}{a b:Ex}{x y:Expr}{p:Pos}(B:aw C A N a (.e x))(E:zg b=false)(G:aw C A N b (.e y))(H:zV y=true:=by rfl)(I:zg a=false:=by rfl): aw C A N (.cmp op a b) (.e (.Compare x [cK op] [y] p)):=.cmp H I B E G
theorem bh.s{C:Ctx}{A:LR}{N:R0}{i:Nat}{e:Ex}{x:Str}{v:Expr}{p B:Pos}(E:aw C A N e (.e v))(G:ju v=false:=by rfl)(H:N[i]? = some x:=by rfl)(I:x9 A x=true:=by kernel_rfl)(J:zg e=false:=by rfl): bh C A N (.a i e) (.s (.Assign [.Name x p] v B)):=.a G H I J E
end Mini
namespace R67
open PySem L2 Mini
noncomputable def f0:Fn:=⟨1,1,(.ret (.and (.isi .int (.V 0)) (.not (.isi .bool (.V 0)))))⟩
abbrev qdd(a:Str)(i:Nat)(N:R0)(k:Nat)(f:Fn):bm:=⟨a,top i,N,N.take k,f,a⟩
abbrev d0:=qdd "is_whole" 4 ["thing"] 1 f0
noncomputable def f1:Fn:=⟨2,2,(.ret (.and (.call 0 (.P (.V 0) .u)) (.chain .le .le (.lit (.int 1)) (.V 0) (.V 1))))⟩
abbrev d1:=qdd "is_size_to" 5 ["thing","most"] 2 f1
noncomputable def f2:Fn:=⟨2,2,(.ite (.not (.call 1 (.P (.V 0) (.P (.V 1) .u)))) .never .skip)⟩
abbrev d2:=qdd "need_size_to" 6 ["n","most"] 2 f2
noncomputable def f3:Fn:=⟨3,3,(.ret (.and (.chain .le .lt (.lit (.int 0)) (.V 1) (.V 0)) (.chain .le .lt (.lit (.int 0)) (.V 2) (.V 0))))⟩
abbrev d3:=qdd "is_place" 8 ["n","r","c"] 3 f3
noncomputable def f4:Fn:=⟨4,4,(.seq (.ite (.not (.call 3 (.P (.V 0) (.P (.V 1) (.P (.V 2) .u))))) (.ret (.lit .N)) .skip) (.seq (.ite (.and (.cmp .eq (.V 3) (.lit (.str [85]))) (.cmp .eq (.V 1) (.lit (.int 0)))) (.ret (.V 2)) .skip) (.seq (.ite (.and (.cmp .eq (.V 3) (.lit (.str [82]))) (.cmp .eq (.V 2) (.bin .sub (.V 0) (.lit (.int 1))))) (.ret (.bin .add (.V 0) (.V 1))) .skip) (.seq (.ite (.and (.cmp .eq (.V 3) (.lit (.str [68]))) (.cmp .eq (.V 1) (.bin .sub (.V 0) (.lit (.int 1))))) (.ret (.bin .add (.bin .mul (.lit (.int 2)) (.V 0)) (.bin .sub (.bin .sub (.V 0) (.lit (.int 1))) (.V 2)))) .skip) (.seq (.ite (.and (.cmp .eq (.V 3) (.lit (.str [76]))) (.cmp .eq (.V 2) (.lit (.int 0)))) (.ret (.bin .add (.bin .mul (.lit (.int 3)) (.V 0)) (.bin .sub (.bin .sub (.V 0) (.lit (.int 1))) (.V 1)))) .skip) (.ret (.lit .N)))))))⟩
abbrev d4:=qdd "road_over" 9 ["n","r","c","side"] 4 f4
noncomputable def f5:Fn:=⟨2,4,(.seq (.a 2 (.bin .fdiv (.V 1) (.V 0))) (.seq (.a 3 (.bin .mod (.V 1) (.V 0))) (.seq (.ite (.cmp .eq (.V 2) (.lit (.int 0))) (.ret (.T (.P (.lit (.int 0)) (.P (.V 3) (.P (.lit (.str [85])) .u))))) .skip) (.seq (.ite (.cmp .eq (.V 2) (.lit (.int 1))) (.ret (.T (.P (.V 3) (.P (.bin .sub (.V 0) (.lit (.int 1))) (.P (.lit (.str [82])) .u))))) .skip) (.seq (.ite (.cmp .eq (.V 2) (.lit (.int 2))) (.ret (.T (.P (.bin .sub (.V 0) (.lit (.int 1))) (.P (.bin .sub (.bin .sub (.V 0) (.lit (.int 1))) (.V 3)) (.P (.lit (.str [68])) .u))))) .skip) (.ret (.T (.P (.bin .sub (.bin .sub (.V 0) (.lit (.int 1))) (.V 3)) (.P (.lit (.int 0)) (.P (.lit (.str [76])) .u))))))))))⟩
abbrev d5:=qdd "place_at" 10 ["n","road","stretch","t"] 2 f5
noncomputable def f6:Fn:=⟨1,4,(.seq (.a 1 (.bin .mul (.L (.P (.lit (.int 0)) .u)) (.blt .len (.P (.V 0) .u)))) (.seq (.a 2 (.L (.P (.V 1) .u))) (.seq (.forv 3 (.V 0) (.seq (.a 1 (.compP .zip (.bin .add (.V 4) (.V 5)) (.V 1) (.V 3) (.lit (.bl true)))) (.expr (.meth .append (.V 2) (.P (.V 1) .u))))) (.ret (.V 2)))))⟩
abbrev d6:=qdd "column_sums" 12 ["state","sums","told","row"] 1 f6
noncomputable def f7:Fn:=⟨2,2,(.ret (.comp (.i (.V 2) (.V 1)) (.V 0) (.lit (.bl true))))⟩
abbrev d7:=qdd "column_of" 13 ["state","c"] 2 f7
noncomputable def f8:Fn:=⟨1,4,(.seq (.a 1 (.lit (.int 0))) (.seq (.a 2 (.L (.P (.lit (.int 1)) .u))) (.seq (.forv 3 (.V 0) (.seq (.aug 1 .add (.V 3)) (.expr (.meth .append (.V 2) (.P (.bin .sub (.lit (.int 1)) (.bin .mul (.lit (.int 2)) (.V 1))) .u))))) (.ret (.V 2)))))⟩
abbrev d8:=qdd "across_row" 15 ["row","total","told","sign"] 1 f8
noncomputable def f9:Fn:=⟨1,1,(.ret (.comp (.bin .sub (.bin .mul (.lit (.int 2)) (.V 1)) (.lit (.int 1))) (.V 0) (.lit (.bl true))))⟩
abbrev d9:=qdd "down_row" 16 ["sums"] 1 f9
noncomputable def oM:Fn:=⟨1,3,(.seq (.a 1 (.comp (.call 8 (.P (.V 3) .u)) (.V 0) (.lit (.bl true)))) (.seq (.a 2 (.comp (.call 9 (.P (.V 3) .u)) (.call 6 (.P (.V 0) .u)) (.lit (.bl true)))) (.ret (.T (.P (.V 1) (.P (.V 2) .u))))))⟩
abbrev pO:=qdd "arrows_of" 17 ["state","across","down"] 1 oM
noncomputable def BG:Fn:=⟨1,1,(.ret (.cmp .eq (.bin .mod (.V 0) (.lit (.int 2))) (.lit (.int 1))))⟩
abbrev pN:=qdd "is_odd" 19 ["number"] 1 BG
noncomputable def BF:Fn:=⟨2,2,(.ret (.compP .enum (.ife (.cmp .eq (.cmp .eq (.V 3) (.lit (.int 1))) (.call 11 (.P (.bin .add (.V 0) (.V 2)) .u))) (.lit (.int 1)) (.lit (.int 0))) (.V 1) (.lit (.int 0)) (.lit (.bl true))))⟩
abbrev pM:=qdd "walked_row" 20 ["i","row"] 2 BF
noncomputable def oK:Fn:=⟨1,1,(.ret (.compP .enum (.call 12 (.P (.V 1) (.P (.V 2) .u))) (.V 0) (.lit (.int 0)) (.lit (.bl true))))⟩
abbrev pL:=qdd "walked_grid" 21 ["grid"] 1 oK
noncomputable def lz:Fn:=⟨1,2,(.seq (.a 1 (.call 10 (.P (.V 0) .u))) (.ret (.T (.P (.call 13 (.P (.i (.V 1) (.lit (.int 0))) .u)) (.P (.call 13 (.P (.i (.V 1) (.lit (.int 1))) .u)) .u)))))⟩
abbrev pK:=qdd "sides_of" 22 ["state","pair"] 1 lz
noncomputable def BE:Fn:=⟨4,6,(.seq (.a 4 (.call 4 (.P (.V 0) (.P (.V 1) (.P (.V 2) (.P (.V 3) .u)))))) (.seq (.ite (.cmp .notN (.V 4) (.lit .N)) (.ret (.V 4)) .skip) (.seq (.a 5 (.i (kq (cP (-1) 0) (cP 0 1) (cP 1 0) (cP 0 (-1))) (qN 3 [85] [82] [68] [76]))) (.ret (.T (.P (.bin .add (.V 1) (.i (.V 5) (.lit (.int 0)))) (.P (.bin .add (.V 2) (.i (.V 5) (.lit (.int 1)))) .u)))))))⟩
abbrev pJ:=qdd "beyond" 26 ["n","r","c","side","road","step"] 4 BE
noncomputable def BD:Fn:=⟨4,7,(.seq (.a 4 (.i (.V 0) (.lit (.int 0)))) (.seq (.a 5 (.i (.V 0) (.lit (.int 1)))) (.ret (fm 7 [85] [82] [68] [76] (.i (.i (.V 5) (.V 1)) (.V 2)) (.i (.i (.V 4) (.V 1)) (.bin .add (.V 2) (.lit (.int 1)))) (.i (.i (.V 5) (.bin .add (.V 1) (.lit (.int 1)))) (.V 2)) (.i (.i (.V 4) (.V 1)) (.V 2)) (.V 3) (.call 15 (.P (.blt .len (.P (.V 4) .u)) (.P (.V 1) (.P (.V 2) (.P (.V 7) .u)))))))))⟩
abbrev pI:=qdd "ends_at" 27 ["pair","r","c","mark","across","down","marks"] 4 BD
noncomputable def BC:Fn:=⟨2,6,(.seq (.a 2 (.call 14 (.P (.V 0) .u))) (.seq (.a 3 .dict0) (.seq (.forv 4 (.rng (.lit (.int 0)) (.blt .len (.P (.V 0) .u)) (.lit (.int 1))) (.forv 5 (.rng (.lit (.int 0)) (.blt .len (.P (.V 0) .u)) (.lit (.int 1))) (.dput 3 (.T (.P (.V 4) (.P (.V 5) .u))) (.call 16 (.P (.V 2) (.P (.V 4) (.P (.V 5) (.P (.V 1) .u)))))))) (.ret (.V 3)))))⟩
abbrev pH:=qdd "all_ends" 28 ["state","mark","pair","ends","r","c"] 2 BC
noncomputable def BB:Fn:=⟨3,5,(.seq (.a 3 (.L (.P (.V 1) (.P (.V 2) .u)))) (.seq (.while (.and (.cmp .isin (.i (.V 3) (.neg (.lit (.int 1)))) (.V 0)) (.cmp .ne (.i (.V 3) (.neg (.lit (.int 1)))) (.V 1))) (.seq (.a 4 (.dget (.V 0) (.i (.V 3) (.neg (.lit (.int 1)))))) (.expr (.meth .append (.V 3) (.P (.ife (.cmp .eq (.i (.V 4) (.lit (.int 0))) (.i (.V 3) (.neg (.lit (.int 2))))) (.i (.V 4) (.lit (.int 1))) (.i (.V 4) (.lit (.int 0)))) .u))))) (.ret (.V 3))))⟩
abbrev pG:=qdd "trail" 29 ["ends","behind","start","told","both"] 3 BB
noncomputable def BA:Fn:=⟨4,6,(.seq (.a 4 (.ife (.cmp .eq (.V 3) (.lit (.int 1))) (.bin .mul (.lit (.int 2)) (.V 2)) (.bin .add (.bin .mul (.lit (.int 2)) (.V 2)) (.lit (.int 1))))) (.seq (.a 5 (.call 5 (.P (.V 1) (.P (.V 4) .u)))) (.ret (.call 18 (.P (.V 0) (.P (.V 4) (.P (.T (.P (.i (.V 5) (.lit (.int 0))) (.P (.i (.V 5) (.lit (.int 1))) .u))) .u)))))))⟩
abbrev pF:=qdd "road_trail" 30 ["ends","n","k","mark","road","place"] 4 BA
noncomputable def Bz:Fn:=⟨2,4,(.seq (.a 2 (.blt .len (.P (.V 0) .u))) (.seq (.a 3 (.call 17 (.P (.V 0) (.P (.V 1) .u)))) (.ret (.comp (.bin .fdiv (.i (.call 19 (.P (.V 3) (.P (.V 2) (.P (.V 4) (.P (.V 1) .u))))) (.neg (.lit (.int 1)))) (.lit (.int 2))) (.rng (.lit (.int 0)) (.bin .mul (.lit (.int 2)) (.V 2)) (.lit (.int 1))) (.lit (.bl true))))))⟩
abbrev pE:=qdd "links_over" 31 ["state","mark","n","ends"] 2 Bz
noncomputable def By:Fn:=⟨1,1,(.ret (.call 20 (.P (.V 0) (.P (.lit (.int 1)) .u))))⟩
abbrev pD:=qdd "links" 32 ["state"] 1 By
noncomputable def Bx:Fn:=⟨2,2,(.ret (.comp (.bin .add (.V 2) (.V 1)) (.V 0) (.lit (.bl true))))⟩
abbrev pC:=qdd "shifted" 35 ["web","step"] 2 Bx
noncomputable def Bw:Fn:=⟨2,7,(.seq (.a 2 (.L .u)) (.seq (.forv 3 (.rng (.lit (.int 0)) (.V 1) (.lit (.int 1))) (.seq (.a 4 (.bin .add (.bin .mul (.lit (.int 2)) (.V 3)) (.lit (.int 1)))) (.forv 5 (.i (.V 0) (.V 3)) (.forv 6 (.i (.V 0) (.bin .sub (.bin .sub (.V 1) (.lit (.int 1))) (.V 3))) (.expr (.meth .append (.V 2) (.P (.bin .add (.bin .add (.bin .add (.L (.P (.V 4) .u)) (.call 22 (.P (.V 5) (.P (.lit (.int 1)) .u)))) (.L (.P (.lit (.int 0)) .u))) (.call 22 (.P (.V 6) (.P (.bin .add (.V 4) (.lit (.int 1))) .u)))) .u))))))) (.ret (.V 2))))⟩
abbrev pB:=qdd "webs_made_of" 36 ["told","size","made","within","end","inner","outer"] 2 Bw
noncomputable def Bv:Fn:=⟨1,3,(.seq (.expr (.call 2 (.P (.V 0) (.P (.lit (.int 6)) .u)))) (.seq (.a 1 (.L (.P (.L (.P (.L .u) .u)) .u))) (.seq (.forv 2 (.rng (.lit (.int 1)) (.bin .add (.V 0) (.lit (.int 1))) (.lit (.int 1))) (.expr (.meth .append (.V 1) (.P (.call 23 (.P (.V 1) (.P (.V 2) .u))) .u)))) (.ret (.blt .sorted (.P (.i (.V 1) (.V 0)) .u))))))⟩
abbrev pA:=qdd "webs" 37 ["n","told","size"] 1 Bv
noncomputable def Bu:Fn:=⟨2,5,(.seq (.a 2 (.L .u)) (.seq (.forv 3 (.V 0) (.forv 4 (.T (.P (.neg (.lit (.int 1))) (.P (.lit (.int 0)) (.P (.lit (.int 1)) .u)))) (.ite (.and (.cmp .isin (.bin .add (.blt .sum (.P (.V 3) .u)) (.V 4)) (.T (.P (.lit (.int 0)) (.P (.lit (.int 1)) .u)))) (.cmp .isin (.bin .add (.V 1) (.V 4)) (.T (.P (.lit (.int 0)) (.P (.lit (.int 1)) .u))))) (.expr (.meth .append (.V 2) (.P (.bin .add (.V 3) (.L (.P (.V 4) .u))) .u))) .skip))) (.ret (.V 2))))⟩
abbrev pz:=qdd "longer_rows" 40 ["rows","total","told","row","sign"] 2 Bu
noncomputable def Bt:Fn:=⟨1,3,(.seq (.a 1 (.L (.P (.L .u) .u))) (.seq (.forv 2 (.V 0) (.a 1 (.call 25 (.P (.V 1) (.P (.V 2) .u))))) (.ret (.comp (.V 3) (.V 1) (.cmp .eq (.blt .sum (.P (.V 3) .u)) (.lit (.int 1)))))))⟩
abbrev pp:=qdd "rows_below" 41 ["sums","rows","total"] 1 Bt
noncomputable def ly:Fn:=⟨2,5,(.seq (.a 2 (.L .u)) (.seq (.forv 3 (.V 0) (.forv 4 (.call 26 (.P (.comp (.blt .sum (.P (.call 7 (.P (.V 3) (.P (.V 5) .u))) .u)) (.rng (.lit (.int 0)) (.V 1) (.lit (.int 1))) (.lit (.bl true))) .u)) (.expr (.meth .append (.V 2) (.P (.bin .add (.comp (.blt .list (.P (.V 5) .u)) (.V 3) (.lit (.bl true))) (.L (.P (.V 4) .u))) .u))))) (.ret (.V 2))))⟩
abbrev po:=qdd "longer_tables" 42 ["tables","n","told","table","row"] 2 ly
noncomputable def lu:Fn:=⟨1,3,(.seq (.expr (.call 2 (.P (.V 0) (.P (.lit (.int 5)) .u)))) (.seq (.a 1 (.L (.P (.L .u) .u))) (.seq (.forv 2 (.rng (.lit (.int 0)) (.V 0) (.lit (.int 1))) (.a 1 (.call 27 (.P (.V 1) (.P (.V 0) .u))))) (.ret (.blt .sorted (.P (.V 1) .u))))))⟩
abbrev pk:=qdd "states" 43 ["n","tables","r"] 1 lu
noncomputable def iz:Fn:=⟨1,4,(.seq (.a 1 .dict0) (.seq (.forv 2 (.call 28 (.P (.V 0) .u)) (.seq (.a 3 (.blt .tuple (.P (.call 21 (.P (.V 2) .u)) .u))) (.dput 1 (.V 3) (.bin .add (.dop .get (.V 1) (.V 3) (.lit (.int 0))) (.lit (.int 1)))))) (.ret (.comp (.T (.P (.V 4) (.P (.dop .get (.V 1) (.blt .tuple (.P (.V 4) .u)) (.lit (.int 0))) .u))) (.call 24 (.P (.V 0) .u)) (.lit (.bl true))))))⟩
abbrev pj:=qdd "book" 44 ["n","numbers","state","web"] 1 iz
noncomputable def Bs:Fn:=Mini.Vl.Lib.h9
abbrev ph:=qdd "_law_cell_at" 46 ["_law_script","_law_k"] 2 Bs
noncomputable def Br:Fn:=⟨1,1,(.ret (.and (.isi .int (.V 0)) (.not (.isi .bool (.V 0)))))⟩
abbrev pf:=qdd "_law_whole" 47 ["_law_thing"] 1 Br
noncomputable def iw:Fn:=⟨1,1,(.seq (.ite (.cmp .eq (.bin .mod (.V 0) (.lit (.int 16))) (.lit (.int 5))) (.ret (.lit (.int 5))) .skip) (.ret (.bin .add (.lit (.int 1)) (.bin .mod (.bin .fdiv (.V 0) (.lit (.int 16))) (.lit (.int 4))))))⟩
abbrev o9:=qdd "_law_small_by" 48 ["_law_cell"] 1 iw
noncomputable def Bq:Fn:=⟨1,6,(.seq (.a 1 (.L .u)) (.seq (.forv 2 (.rng (.lit (.int 0)) (.call 34 (.P (.V 0) .u)) (.lit (.int 1))) (.seq (.a 3 (.L .u)) (.seq (.a 4 (.lit (.int 1))) (.seq (.forv 5 (.rng (.lit (.int 0)) (.V 0) (.lit (.int 1))) (.ite (.cmp .eq (.bin .band (.bin .shr (.V 2) (.V 5)) (.lit (.int 1))) (.lit (.int 1))) (.seq (.expr (.meth .append (.V 3) (.P (.V 4) .u))) (.a 4 (.bin .sub (.lit (.int 0)) (.V 4)))) (.expr (.meth .append (.V 3) (.P (.lit (.int 0)) .u))))) (.ite (.cmp .eq (.blt .sum (.P (.V 3) .u)) (.lit (.int 1))) (.expr (.meth .append (.V 1) (.P (.V 3) .u))) .skip))))) (.ret (.V 1))))⟩
abbrev o8:=qdd "_law_alternating" 49 ["_law_n","_law_found","_law_many","_law_line","_law_sign","_law_c"] 1 Bq
noncomputable def Bn:Fn:=⟨1,3,(.seq (.a 1 (.lit (.int 1))) (.seq (.forv 2 (.rng (.lit (.int 0)) (.V 0) (.lit (.int 1))) (.a 1 (.bin .mul (.V 1) (.lit (.int 2))))) (.ret (.V 1))))⟩
abbrev o7:=qdd "_law_power" 50 ["_law_n","_law_made","_law_k"] 1 Bn
noncomputable def Bm:Fn:=⟨1,9,(.seq (.a 1 (.L (.P (.T (.P (.L .u) (.P (.comp (.lit (.int 0)) (.rng (.lit (.int 0)) (.V 0) (.lit (.int 1))) (.lit (.bl true))) .u))) .u))) (.seq (.a 2 (.call 33 (.P (.V 0) .u))) (.seq (.forv 3 (.rng (.lit (.int 0)) (.V 0) (.lit (.int 1))) (.seq (.a 4 (.L .u)) (.seq (.fort 5 6 (.V 1) (.forv 7 (.V 2) (.seq (.a 8 (.compP .zip (.bin .add (.V 9) (.V 10)) (.V 6) (.V 7) (.lit (.bl true)))) (.ite (.and (.cmp .ge (.blt .minS (.P (.V 8) .u)) (.lit (.int 0))) (.cmp .le (.blt .maxS (.P (.V 8) .u)) (.lit (.int 1)))) (.expr (.meth .append (.V 4) (.P (.T (.P (.bin .add (.V 5) (.L (.P (.V 7) .u))) (.P (.V 8) .u))) .u))) .skip)))) (.a 1 (.V 4))))) (.ret (.blt .sorted (.P (.compP .prs (.V 9) (.V 1) (.lit (.int 0)) (.lit (.bl true))) .u))))))⟩
abbrev o6:=qdd "_law_walked" 51 ["_law_n","_law_piles","_law_choices","_law_r","_law_longer","_law_lines","_law_sums","_law_line","_law_below"] 1 Bm
noncomputable def Bl:Fn:=⟨1,7,(.seq (.a 1 (.comp (.lit (.int 0)) (.V 0) (.lit (.bl true)))) (.seq (.a 2 (.L (.P (.comp (.neg (.lit (.int 1))) (.V 0) (.lit (.bl true))) .u))) (.seq (.a 3 (.L .u)) (.seq (.forv 4 (.V 0) (.seq (.a 5 (.L (.P (.lit (.int 1)) .u))) (.seq (.forv 6 (.V 4) (.expr (.meth .append (.V 5) (.P (.bin .sub (.i (.V 5) (.neg (.lit (.int 1)))) (.bin .mul (.lit (.int 2)) (.V 6))) .u)))) (.seq (.expr (.meth .append (.V 3) (.P (.V 5) .u))) (.seq (.a 1 (.compP .zip (.bin .add (.V 7) (.V 8)) (.V 1) (.V 4) (.lit (.bl true)))) (.expr (.meth .append (.V 2) (.P (.comp (.bin .sub (.bin .mul (.lit (.int 2)) (.V 7)) (.lit (.int 1))) (.V 1) (.lit (.bl true))) .u)))))))) (.ret (.T (.P (.V 3) (.P (.V 2) .u))))))))⟩
abbrev oZ:=qdd "_law_arrows_by" 52 ["_law_state","_law_totals","_law_down","_law_across","_law_line","_law_row","_law_sign"] 1 Bl
noncomputable def Bk:Fn:=⟨1,8,(.seq (.fort 1 2 (.T (.P (.call 36 (.P (.V 0) .u)) .u)) .skip) (.seq (.a 3 (.L .u)) (.seq (.forv 4 (.T (.P (.V 1) (.P (.V 2) .u))) (.seq (.a 5 (.L .u)) (.seq (.forv 6 (.rng (.lit (.int 0)) (.blt .len (.P (.V 4) .u)) (.lit (.int 1))) (.seq (.a 7 (.i (.V 4) (.V 6))) (.expr (.meth .append (.V 5) (.P (.comp (.blt .int (.P (.cmp .eq (.bin .mul (.i (.V 7) (.V 8)) (.bin .sub (.lit (.int 1)) (.bin .mul (.lit (.int 2)) (.bin .mod (.bin .add (.V 6) (.V 8)) (.lit (.int 2)))))) (.neg (.lit (.int 1)))) .u)) (.rng (.lit (.int 0)) (.blt .len (.P (.V 7) .u)) (.lit (.int 1))) (.lit (.bl true))) .u))))) (.expr (.meth .append (.V 3) (.P (.V 5) .u)))))) (.ret (.T (.P (.i (.V 3) (.lit (.int 0))) (.P (.i (.V 3) (.lit (.int 1))) .u)))))))⟩
abbrev oY:=qdd "_law_sides_by" 53 ["_law_state","_law_across","_law_down","_law_found","_law_lines","_law_made","_law_i","_law_line"] 1 Bk
noncomputable def Bj:Fn:=⟨3,7,(.seq (.fort 3 4 (.T (.P (.V 0) .u)) .skip) (.seq (.fort 5 6 (.T (.P (.V 1) .u)) .skip) (.seq (.ite (.and (.cmp .eq (.i (.i (.V 4) (.V 5)) (.V 6)) (.lit (.int 1))) (.cmp .ne (.V 2) (.T (.P (.bin .sub (.V 5) (.lit (.int 1))) (.P (.V 6) .u))))) (.ret (.T (.P (.bin .sub (.V 5) (.lit (.int 1))) (.P (.V 6) .u)))) .skip) (.seq (.ite (.and (.cmp .eq (.i (.i (.V 3) (.V 5)) (.bin .add (.V 6) (.lit (.int 1)))) (.lit (.int 1))) (.cmp .ne (.V 2) (.T (.P (.V 5) (.P (.bin .add (.V 6) (.lit (.int 1))) .u))))) (.ret (.T (.P (.V 5) (.P (.bin .add (.V 6) (.lit (.int 1))) .u)))) .skip) (.seq (.ite (.and (.cmp .eq (.i (.i (.V 4) (.bin .add (.V 5) (.lit (.int 1)))) (.V 6)) (.lit (.int 1))) (.cmp .ne (.V 2) (.T (.P (.bin .add (.V 5) (.lit (.int 1))) (.P (.V 6) .u))))) (.ret (.T (.P (.bin .add (.V 5) (.lit (.int 1))) (.P (.V 6) .u)))) .skip) (.ret (.T (.P (.V 5) (.P (.bin .sub (.V 6) (.lit (.int 1))) .u)))))))))⟩
abbrev oX:=qdd "_law_step" 54 ["_law_sides","_law_here","_law_behind","_law_across","_law_down","_law_r","_law_c"] 3 Bj
noncomputable def Bh:Fn:=⟨1,2,(.seq (.a 1 (.bin .add (.comp (.T (.P (.neg (.lit (.int 1))) (.P (.V 2) .u))) (.rng (.lit (.int 0)) (.V 0) (.lit (.int 1))) (.lit (.bl true))) (.comp (.T (.P (.V 2) (.P (.V 0) .u))) (.rng (.lit (.int 0)) (.V 0) (.lit (.int 1))) (.lit (.bl true))))) (.ret (.bin .add (.bin .add (.V 1) (.comp (.T (.P (.V 0) (.P (.bin .sub (.bin .sub (.V 0) (.lit (.int 1))) (.V 2)) .u))) (.rng (.lit (.int 0)) (.V 0) (.lit (.int 1))) (.lit (.bl true)))) (.comp (.T (.P (.bin .sub (.bin .sub (.V 0) (.lit (.int 1))) (.V 2)) (.P (.neg (.lit (.int 1))) .u))) (.rng (.lit (.int 0)) (.V 0) (.lit (.int 1))) (.lit (.bl true))))))⟩
abbrev oW:=qdd "_law_roads" 55 ["_law_n","_law_found"] 1 Bh
noncomputable def Bg:Fn:=⟨2,2,(.ret (.T (.P (.blt .min2 (.P (.blt .max2 (.P (.i (.V 1) (.lit (.int 0))) (.P (.lit (.int 0)) .u))) (.P (.bin .sub (.V 0) (.lit (.int 1))) .u))) (.P (.blt .min2 (.P (.blt .max2 (.P (.i (.V 1) (.lit (.int 1))) (.P (.lit (.int 0)) .u))) (.P (.bin .sub (.V 0) (.lit (.int 1))) .u))) .u))))⟩
abbrev oV:=qdd "_law_inner" 56 ["_law_n","_law_place"] 2 Bg
noncomputable def Bf:Fn:=⟨1,10,(.seq (.a 1 (.blt .len (.P (.V 0) .u))) (.seq (.a 2 (.call 37 (.P (.V 0) .u))) (.seq (.a 3 (.compP .enum (.V 11) (.call 39 (.P (.V 1) .u)) (.lit (.int 0)) (.cmp .eq (.bin .mod (.V 10) (.lit (.int 2))) (.lit (.int 0))))) (.seq (.a 4 (.comp (.lit .N) (.V 3) (.lit (.bl true)))) (.seq (.forE 5 6 (.V 3) (.ite (.cmp .isN (.i (.V 4) (.V 5)) (.lit .N)) (.seq (.a 7 (.V 6)) (.seq (.a 8 (.call 40 (.P (.V 1) (.P (.V 6) .u)))) (.seq (.while (.and (.chain .le .lt (.lit (.int 0)) (.i (.V 8) (.lit (.int 0))) (.V 1)) (.chain .le .lt (.lit (.int 0)) (.i (.V 8) (.lit (.int 1))) (.V 1))) (.seq (.a 9 (.call 38 (.P (.V 2) (.P (.V 8) (.P (.V 7) .u))))) (.seq (.a 7 (.V 8)) (.a 8 (.V 9))))) (.seq (.asgS (.V 4) (.V 5) (.dop .lix (.V 3) (.V 8) .u)) (.asgS (.V 4) (.i (.V 4) (.V 5)) (.V 5)))))) .skip)) (.ret (.V 4)))))))⟩
abbrev oU:=qdd "_law_links_by" 57 ["_law_state","_law_n","_law_sides","_law_open_roads","_law_found","_law_k","_law_place","_law_behind","_law_here","_law_ahead"] 1 Bf
noncomputable def Be:Fn:=⟨1,3,(.seq (.a 1 (.L (.P (.lit (.int 1)) .u))) (.seq (.forv 2 (.rng (.lit (.int 0)) (.V 0) (.lit (.int 1))) (.expr (.meth .append (.V 1) (.P (.blt .sum (.P (.comp (.bin .mul (.i (.V 1) (.V 3)) (.i (.V 1) (.bin .sub (.V 2) (.V 3)))) (.rng (.lit (.int 0)) (.bin .add (.V 2) (.lit (.int 1))) (.lit (.int 1))) (.lit (.bl true))) .u)) .u)))) (.ret (.i (.V 1) (.V 0)))))⟩
abbrev oT:=qdd "_law_webs_many" 58 ["_law_n","_law_many","_law_size"] 1 Be
noncomputable def oJ:Fn:=⟨1,4,(.seq (.a 1 .dict0) (.seq (.forv 2 (.call 35 (.P (.V 0) .u)) (.seq (.a 3 (.blt .tuple (.P (.call 41 (.P (.V 2) .u)) .u))) (.dput 1 (.V 3) (.bin .add (.dop .get (.V 1) (.V 3) (.lit (.int 0))) (.lit (.int 1)))))) (.ret (.comp (.T (.P (.blt .list (.P (.V 4) .u)) (.P (.dget (.V 1) (.V 4)) .u))) (.dop .sok (.V 1) .u .u) (.lit (.bl true))))))⟩
abbrev oS:=qdd "_law_counted" 59 ["_law_n","_law_many","_law_state","_law_web"] 1 oJ
noncomputable def Bd:Fn:=⟨2,4,(.seq (.ite (.or (.not (.isi .list (.V 0))) (.or (.cmp .ne (.blt .len (.P (.V 0) .u)) (.V 1)) (.not (.blt .all (.P (.comp (.call 31 (.P (.V 4) .u)) (.V 0) (.lit (.bl true))) .u))))) (.ret (.lit (.bl false))) .skip) (.seq (.a 2 (.L .u)) (.seq (.forv 3 (.rng (.lit (.int 0)) (.V 1) (.lit (.int 1))) (.seq (.ite (.or (.not (.chain .le .lt (.lit (.int 0)) (.i (.V 0) (.V 3)) (.V 1))) (.or (.cmp .eq (.i (.V 0) (.V 3)) (.V 3)) (.cmp .ne (.i (.V 0) (.i (.V 0) (.V 3))) (.V 3)))) (.ret (.lit (.bl false))) .skip) (.ite (.cmp .gt (.i (.V 0) (.V 3)) (.V 3)) (.expr (.meth .append (.V 2) (.P (.V 3) .u))) (.popI 2 (.i (.V 0) (.V 3)) (.ret (.lit (.bl false))) .skip)))) (.ret (.lit (.bl true))))))⟩
abbrev oR:=qdd "_law_is_web" 60 ["_law_web","_law_many","_law_begun","_law_k"] 2 Bd
noncomputable def Bc:Fn:=⟨1,8,(.seq (.a 1 .dict0) (.seq (.a 2 (.L .u)) (.seq (.forv 3 (.V 0) (.seq (.ite (.or (.not (.isi .tuple (.V 3))) (.or (.cmp .ne (.blt .len (.P (.V 3) .u)) (.lit (.int 2))) (.or (.not (.call 31 (.P (.i (.V 3) (.lit (.int 1))) .u))) (.not (.call 44 (.P (.i (.V 3) (.lit (.int 0))) (.P (.lit (.int 10)) .u))))))) (.ret (.lit (.bl false))) .skip) (.seq (.ite (.dop .lle (.i (.V 3) (.lit (.int 0))) (.V 2) .u) (.ret (.lit (.bl false))) .skip) (.seq (.a 2 (.i (.V 3) (.lit (.int 0)))) (.dput 1 (.blt .tuple (.P (.V 2) .u)) (.i (.V 3) (.lit (.int 1)))))))) (.seq (.forD 4 1 (.seq (.a 5 (.comp (.lit (.int 0)) (.V 4) (.lit (.bl true)))) (.seq (.a 6 (.comp (.lit (.int 0)) (.V 4) (.lit (.bl true)))) (.seq (.forv 7 (.rng (.lit (.int 0)) (.lit (.int 10)) (.lit (.int 1))) (.seq (.asgS (.V 5) (.bin .mod (.bin .add (.V 7) (.lit (.int 1))) (.lit (.int 10))) (.bin .mod (.bin .add (.i (.V 4) (.V 7)) (.lit (.int 1))) (.lit (.int 10)))) (.asgS (.V 6) (.bin .mod (.neg (.V 7)) (.lit (.int 10))) (.bin .mod (.neg (.i (.V 4) (.V 7))) (.lit (.int 10)))))) (.ite (.or (.cmp .ne (.dop .get (.V 1) (.blt .tuple (.P (.V 5) .u)) (.lit .N)) (.dget (.V 1) (.V 4))) (.cmp .ne (.dop .get (.V 1) (.blt .tuple (.P (.V 6) .u)) (.lit .N)) (.dget (.V 1) (.V 4)))) (.ret (.lit (.bl false))) .skip))))) (.ret (.and (.cmp .eq (.dop .dln (.V 1) .u .u) (.lit (.int 42))) (.and (.cmp .eq (.dop .sum (.V 1) .u .u) (.lit (.int 429))) (.cmp .gt (.dop .mnv (.V 1) .u .u) (.lit (.int 0))))))))))⟩
abbrev oQ:=qdd "_law_fifth" 61 ["_law_found","_law_many","_law_last","_law_row","_law_web","_law_one","_law_other","_law_k"] 1 Bc
noncomputable def fG:Fn:=⟨1,8,(.seq (.a 1 (.call 32 (.P (.call 30 (.P (.V 0) (.P (.lit (.int 0)) .u))) .u))) (.seq (.ite (.cmp .eq (.V 1) (.lit (.int 5))) (.ret (.call 45 (.P (.call 29 (.P (.lit (.int 5)) .u)) .u))) .skip) (.seq (.a 2 (.call 43 (.P (.V 1) .u))) (.seq (.a 3 (.call 29 (.P (.V 1) .u))) (.seq (.ite (.or (.not (.isi .list (.V 3))) (.or (.cmp .ne (.blt .len (.P (.V 3) .u)) (.blt .len (.P (.V 2) .u))) (.cmp .ne (.blt .len (.P (.V 2) .u)) (.call 42 (.P (.V 1) .u))))) (.ret (.lit (.bl false))) .skip) (.seq (.forv 4 (.rng (.lit (.int 0)) (.blt .len (.P (.V 2) .u)) (.lit (.int 1))) (.bor 5 (.i (.V 3) (.V 4)) (.or (.not (.isi .tuple (.V 5))) (.or (.cmp .ne (.blt .len (.P (.V 5) .u)) (.lit (.int 2))) (.or (.not (.isi .list (.i (.V 5) (.lit (.int 0))))) (.not (.call 31 (.P (.i (.V 5) (.lit (.int 1))) .u)))))) (.or (.cmp .ne (.V 5) (.i (.V 2) (.V 4))) (.not (.blt .all (.P (.comp (.call 31 (.P (.V 8) .u)) (.i (.V 5) (.lit (.int 0))) (.lit (.bl true))) .u)))))) (.seq (.clrT 6 7 3) (.ret (.cmp .eq (.call 29 (.P (.V 1) .u)) (.V 2))))))))))⟩
abbrev lB:=qdd "law" 62 ["_law_script","_law_n","_law_due","_law_found","_law_k","_law_row","_law_web","_law_number"] 1 fG
noncomputable def D:List bm:=[d0,d1,d2,d3,d4,d5,d6,d7,d8,d9,pO,pN,pM,pL,pK,pJ,pI,pH,pG,pF,pE,pD,pC,pB,pA,pz,pp,po,pk,pj,ph,pf,o9,o8,o7,o6,oZ,oY,oX,oW,oV,oU,oT,oS,oR,oQ,lB]
noncomputable def C:Mini.Ctx:=⟨(("is_whole":Str)::("is_size_to":Str)::("need_size_to":Str)::("is_place":Str)::("road_over":Str)::("place_at":Str)::("column_sums":Str)::("column_of":Str)::("across_row":Str)::("down_row":Str)::("arrows_of":Str)::("is_odd":Str)::("walked_row":Str)::("walked_grid":Str)::("sides_of":Str)::("beyond":Str)::("ends_at":Str)::("all_ends":Str)::("trail":Str)::("road_trail":Str)::("links_over":Str)::("links":Str)::("shifted":Str)::("webs_made_of":Str)::("webs":Str)::("longer_rows":Str)::("rows_below":Str)::("longer_tables":Str)::("states":Str)::("book":Str)::("_law_cell_at":Str)::("_law_whole":Str)::("_law_small_by":Str)::("_law_alternating":Str)::("_law_power":Str)::("_law_walked":Str)::("_law_arrows_by":Str)::("_law_sides_by":Str)::("_law_step":Str)::("_law_roads":Str)::("_law_inner":Str)::("_law_links_by":Str)::("_law_webs_many":Str)::("_law_counted":Str)::("_law_is_web":Str)::("_law_fifth":Str)::("law":Str)::[]),[("WALKED",1),("GREATEST_LISTED",6),("GREATEST_WALKED",5)],[("STEPS",[([85],-1,0),([82],0,1),([68],1,0),([76],0,-1)])]⟩
def JD:bu C d0:=⟨by decide +kernel,rfl,rfl,(.one (.ret rfl (.and2 rfl rfl (.isi (by kernel_rfl) (by kernel_rfl) rfl rfl .v) rfl rfl (.not rfl rfl (.isi (by kernel_rfl) (by kernel_rfl) rfl rfl .v)))))⟩
def iu:bu C d1:=⟨by decide +kernel,rfl,rfl,(.one (.ret rfl (.and2 rfl rfl (.c (.p .v .u)) rfl rfl (.chain rfl rfl .int rfl .v rfl .v))))⟩
def JC:bu C d2:=⟨by decide +kernel,rfl,rfl,(.one (.ite rfl rfl (.not rfl rfl (.c (.p .v (.p .v .u)))) (.one .never) .skip0))⟩
def JB:bu C d3:=⟨by decide +kernel,rfl,rfl,(.one (.ret rfl (.and2 rfl rfl (.chain rfl rfl .int rfl .v rfl .v) rfl rfl (.chain rfl rfl .int rfl .v rfl .v))))⟩
def JA:bu C d4:=⟨by decide +kernel,rfl,rfl,(.seq (.ite rfl rfl (.not rfl rfl (.c (.p .v (.p .v (.p .v .u))))) (.one (.ret rfl .N)) .skip0) (.seq (.ite rfl rfl (.and2 rfl rfl (.k .v rfl (.str (by kernel_rfl))) rfl rfl (.k .v rfl .int)) (.one (.ret rfl .v)) .skip0) (.seq (.ite rfl rfl (.and2 rfl rfl (.k .v rfl (.str (by kernel_rfl))) rfl rfl (.k .v rfl (.bin rfl .v rfl .int))) (.one (.ret rfl (.bin rfl .v rfl .v))) .skip0) (.seq (.ite rfl rfl (.and2 rfl rfl (.k .v rfl (.str (by kernel_rfl))) rfl rfl (.k .v rfl (.bin rfl .v rfl .int))) (.one (.ret rfl (.bin rfl (.bin rfl .int rfl .v) rfl (.bin rfl (.bin rfl .v rfl .int) rfl .v)))) .skip0) (.seq (.ite rfl rfl (.and2 rfl rfl (.k .v rfl (.str (by kernel_rfl))) rfl rfl (.k .v rfl .int)) (.one (.ret rfl (.bin rfl (.bin rfl .int rfl .v) rfl (.bin rfl (.bin rfl .v rfl .int) rfl .v)))) .skip0) (.one (.ret rfl .N)))))))⟩
def Jz:bu C d5:=⟨by decide +kernel,rfl,rfl,(.seq (.s (.bin rfl .v rfl .v)) (.seq (.s (.bin rfl .v rfl .v)) (.seq (.ite rfl rfl (.k .v rfl .int) (.one (.ret rfl (.T (.p .int (.p .v (.p (.str (by kernel_rfl)) .u)))))) .skip0) (.seq (.ite rfl rfl (.k .v rfl .int) (.one (.ret rfl (.T (.p .v (.p (.bin rfl .v rfl .int) (.p (.str (by kernel_rfl)) .u)))))) .skip0) (.seq (.ite rfl rfl (.k .v rfl .int) (.one (.ret rfl (.T (.p (.bin rfl .v rfl .int) (.p (.bin rfl (.bin rfl .v rfl .int) rfl .v) (.p (.str (by kernel_rfl)) .u)))))) .skip0) (.one (.ret rfl (.T (.p (.bin rfl (.bin rfl .v rfl .int) rfl .v) (.p .int (.p (.str (by kernel_rfl)) .u)))))))))))⟩
def Jy:bu C d6:=⟨by decide +kernel,rfl,rfl,(.seq (.s (.bin rfl (.L (.p .int .u)) rfl (.q (.p .v .u)))) (.seq (.s (.L (.p .v .u))) (.seq (.forv rfl (by kernel_rfl) rfl .v (.seq (.asgCZ0 rfl (by kernel_rfl) (by kernel_rfl) (by kernel_rfl) rfl rfl rfl .v rfl .v rfl (.bin rfl .v rfl .v)) (.one (.expr rfl rfl (.meth rfl rfl (by decide) rfl rfl .v (.p .v .u)))))) (.one (.ret rfl .v)))))⟩
def Jx:bu C d7:=⟨by decide +kernel,rfl,rfl,(.one (.ret rfl (.comp0 rfl (by kernel_rfl) .v rfl (.x .v rfl .v))))⟩
def Jw:bu C d8:=⟨by decide +kernel,rfl,rfl,(.seq (.s .int) (.seq (.s (.L (.p .int .u))) (.seq (.forv rfl (by kernel_rfl) rfl .v (.seq (.aug rfl (by kernel_rfl) rfl rfl .v) (.one (.expr rfl rfl (.meth rfl rfl (by decide) rfl rfl .v (.p (.bin rfl .int rfl (.bin rfl .int rfl .v)) .u)))))) (.one (.ret rfl .v)))))⟩
def Jv:bu C d9:=⟨by decide +kernel,rfl,rfl,(.one (.ret rfl (.comp0 rfl (by kernel_rfl) .v rfl (.bin rfl (.bin rfl .int rfl .v) rfl .int))))⟩
def oi:bu C pO:=⟨by decide +kernel,rfl,rfl,(.seq (.asgC0 rfl (by kernel_rfl) rfl (by kernel_rfl) .v rfl (.c (.p .v .u))) (.seq (.asgC0 rfl (by kernel_rfl) rfl (by kernel_rfl) (.c (.p .v .u)) rfl (.c (.p .v .u))) (.one (.ret rfl (.T (.p .v (.p .v .u)))))))⟩
def oh:bu C pN:=⟨by decide +kernel,rfl,rfl,(.one (.ret rfl (.k (.bin rfl .v rfl .int) rfl .int)))⟩
def og:bu C pM:=⟨by decide +kernel,rfl,rfl,(.one (.ret rfl (.compE0 (by kernel_rfl) (by kernel_rfl) rfl rfl .v rfl (.ife rfl rfl (.k (.k .v rfl .int) rfl (.c (.p (.bin rfl .v rfl .v) .u))) rfl .int rfl .int))))⟩
def oe:bu C pL:=⟨by decide +kernel,rfl,rfl,(.one (.ret rfl (.compE0 (by kernel_rfl) (by kernel_rfl) rfl rfl .v rfl (.c (.p .v (.p .v .u))))))⟩
def n9:bu C pK:=⟨by decide +kernel,rfl,rfl,(.seq (.s (.c (.p .v .u))) (.one (.ret rfl (.T (.p (.c (.p (.x .v rfl .int) .u)) (.p (.c (.p (.x .v rfl .int) .u)) .u))))))⟩
def n8:bu C pJ:=⟨by decide +kernel,rfl,rfl,(.seq (.s (.c (.p .v (.p .v (.p .v (.p .v .u)))))) (.seq (.ite rfl rfl (.k .v rfl .N) (.one (.ret rfl .v)) .skip0) (.seq (.s (.dcon (by decide) (by kernel_rfl) (by kernel_rfl) (by kernel_rfl) rfl (by kernel_rfl) (by kernel_rfl))) (.one (.ret rfl (.T (.p (.bin rfl .v rfl (.x .v rfl .int)) (.p (.bin rfl .v rfl (.x .v rfl .int)) .u))))))))⟩
def nZ:bu C pI:=⟨by decide +kernel,rfl,rfl,(.seq (.s (.x .v rfl .int)) (.seq (.s (.x .v rfl .int)) (.sel (j:=6) (by kernel_rfl) (by kernel_rfl) (by kernel_rfl) (by kernel_rfl) (by decide) rfl (by kernel_rfl) (by kernel_rfl) (by kernel_rfl) rfl (by kernel_rfl) rfl (by kernel_rfl) (by kernel_rfl) (by kernel_rfl) rfl (.x (.x .v rfl .v) rfl .v) rfl (.x (.x .v rfl .v) rfl (.bin rfl .v rfl .int)) rfl (.x (.x .v rfl (.bin rfl .v rfl .int)) rfl .v) rfl (.x (.x .v rfl .v) rfl .v) rfl .v rfl (.c (.p (.q (.p .v .u)) (.p .v (.p .v (.p .v .u))))) rfl rfl rfl)))⟩
def nY:bu C pH:=⟨by decide +kernel,rfl,rfl,(.seq (.s (.c (.p .v .u))) (.seq (.s .dict0) (.seq (.forv rfl (by kernel_rfl) rfl (.rng1 (by kernel_rfl) rfl rfl (.q (.p .v .u))) (.one (.forv rfl (by kernel_rfl) rfl (.rng1 (by kernel_rfl) rfl rfl (.q (.p .v .u))) (.one (.dput rfl .v rfl (.T (.p .v (.p .v .u))) rfl (.c (.p .v (.p .v (.p .v (.p .v .u)))))))))) (.one (.ret rfl .v)))))⟩
def nX:bu C pG:=⟨by decide +kernel,rfl,rfl,(.seq (.s (.L (.p .v (.p .v .u)))) (.seq (bh.«while» rfl rfl (.and2 rfl rfl (.k (.x .v rfl (.neg rfl .int)) rfl .v) rfl rfl (.k (.x .v rfl (.neg rfl .int)) rfl .v)) (.seq (.s (.dget rfl rfl .v rfl (.x .v rfl (.neg rfl .int)))) (.one (.expr rfl rfl (.meth rfl rfl (by decide) rfl rfl .v (.p (.ife rfl rfl (.k (.x .v rfl .int) rfl (.x .v rfl (.neg rfl .int))) rfl (.x .v rfl .int) rfl (.x .v rfl .int)) .u)))))) (.one (.ret rfl .v))))⟩
def nW:bu C pF:=⟨by decide +kernel,rfl,rfl,(.seq (.s (.ife rfl rfl (.k .v rfl (.con (by kernel_rfl) (by kernel_rfl) (by kernel_rfl))) rfl (.bin rfl .int rfl .v) rfl (.bin rfl (.bin rfl .int rfl .v) rfl .int))) (.seq (.s (.c (.p .v (.p .v .u)))) (.one (.ret rfl (.c (.p .v (.p .v (.p (.T (.p (.x .v rfl .int) (.p (.x .v rfl .int) .u))) .u))))))))⟩
def nV:bu C pE:=⟨by decide +kernel,rfl,rfl,(.seq (.s (.q (.p .v .u))) (.seq (.s (.c (.p .v (.p .v .u)))) (.one (.ret rfl (.comp0 rfl (by kernel_rfl) (.rng1 (by kernel_rfl) rfl rfl (.bin rfl .int rfl .v)) rfl (.bin rfl (.x (.c (.p .v (.p .v (.p .v (.p .v .u))))) rfl (.neg rfl .int)) rfl .int))))))⟩
def nU:bu C pD:=⟨by decide +kernel,rfl,rfl,(.one (.ret rfl (.c (.p .v (.p (.con (by kernel_rfl) (by kernel_rfl) (by kernel_rfl)) .u)))))⟩
def nT:bu C pC:=⟨by decide +kernel,rfl,rfl,(.one (.ret rfl (.comp0 rfl (by kernel_rfl) .v rfl (.bin rfl .v rfl .v))))⟩
def nS:bu C pB:=⟨by decide +kernel,rfl,rfl,(.seq (.s (.L .u)) (.seq (.forv rfl (by kernel_rfl) rfl (.rng1 (by kernel_rfl) rfl rfl .v) (.seq (.s (.bin rfl (.bin rfl .int rfl .v) rfl .int)) (.one (.forv rfl (by kernel_rfl) rfl (.x .v rfl .v) (.one (.forv rfl (by kernel_rfl) rfl (.x .v rfl (.bin rfl (.bin rfl .v rfl .int) rfl .v)) (.one (.expr rfl rfl (.meth rfl rfl (by decide) rfl rfl .v (.p (.bin rfl (.bin rfl (.bin rfl (.L (.p .v .u)) rfl (.c (.p .v (.p .int .u)))) rfl (.L (.p .int .u))) rfl (.c (.p .v (.p (.bin rfl .v rfl .int) .u)))) .u)))))))))) (.one (.ret rfl .v))))⟩
def nR:bu C pA:=⟨by decide +kernel,rfl,rfl,(.seq (.expr rfl rfl (.c (.p .v (.p (.con (by kernel_rfl) (by kernel_rfl) (by kernel_rfl)) .u)))) (.seq (.s (.L (.p (.L (.p (.L .u) .u)) .u))) (.seq (.forv rfl (by kernel_rfl) rfl (.rng2 (by kernel_rfl) rfl rfl rfl .int rfl (.bin rfl .v rfl .int)) (.one (.expr rfl rfl (.meth rfl rfl (by decide) rfl rfl .v (.p (.c (.p .v (.p .v .u))) .u))))) (.one (.ret rfl (.q (.p (.x .v rfl .v) .u)))))))⟩
def nQ:bu C pz:=⟨by decide +kernel,rfl,rfl,(.seq (.s (.L .u)) (.seq (.forv rfl (by kernel_rfl) rfl .v (.one (.forv rfl (by kernel_rfl) rfl (.T (.p (.neg rfl .int) (.p .int (.p .int .u)))) (.one (.ite rfl rfl (.and2 rfl rfl (.k (.bin rfl (.q (.p .v .u)) rfl .v) rfl (.T (.p .int (.p .int .u)))) rfl rfl (.k (.bin rfl .v rfl .v) rfl (.T (.p .int (.p .int .u))))) (.one (.expr rfl rfl (.meth rfl rfl (by decide) rfl rfl .v (.p (.bin rfl .v rfl (.L (.p .v .u))) .u)))) .skip0))))) (.one (.ret rfl .v))))⟩
def nP:bu C pp:=⟨by decide +kernel,rfl,rfl,(.seq (.s (.L (.p (.L .u) .u))) (.seq (.forv rfl (by kernel_rfl) rfl .v (.one (.s (.c (.p .v (.p .v .u)))))) (.one (.ret rfl (.comp1 rfl (by kernel_rfl) .v rfl rfl (.k (.q (.p .v .u)) rfl .int) rfl .v)))))⟩
def nO:bu C po:=⟨by decide +kernel,rfl,rfl,(.seq (.s (.L .u)) (.seq (.forv rfl (by kernel_rfl) rfl .v (.one (.forv rfl (by kernel_rfl) rfl (.c (.p (.comp0 rfl (by kernel_rfl) (.rng1 (by kernel_rfl) rfl rfl .v) rfl (.q (.p (.c (.p .v (.p .v .u))) .u))) .u)) (.one (.expr rfl rfl (.meth rfl rfl (by decide) rfl rfl .v (.p (.bin rfl (.comp0 rfl (by kernel_rfl) .v rfl (.q (.p .v .u))) rfl (.L (.p .v .u))) .u))))))) (.one (.ret rfl .v))))⟩
def nN:bu C pk:=⟨by decide +kernel,rfl,rfl,(.seq (.expr rfl rfl (.c (.p .v (.p (.con (by kernel_rfl) (by kernel_rfl) (by kernel_rfl)) .u)))) (.seq (.s (.L (.p (.L .u) .u))) (.seq (.forv rfl (by kernel_rfl) rfl (.rng1 (by kernel_rfl) rfl rfl .v) (.one (.s (.c (.p .v (.p .v .u)))))) (.one (.ret rfl (.q (.p .v .u)))))))⟩
def nM:bu C pj:=⟨by decide +kernel,rfl,rfl,(.seq (.s .dict0) (.seq (.forv rfl (by kernel_rfl) rfl (.c (.p .v .u)) (.seq (.s (.q (.p (.c (.p .v .u)) .u))) (.one (.dput rfl .v rfl .v rfl (.bin rfl (.dgetM rfl rfl rfl rfl rfl .v rfl .v rfl .int) rfl .int))))) (.one (.ret rfl (.comp0 rfl (by kernel_rfl) (.c (.p .v .u)) rfl (.T (.p .v (.p (.dgetM rfl rfl rfl rfl rfl .v rfl (.q (.p .v .u)) rfl .int) .u))))))))⟩
def nL:bu C ph:=⟨by decide +kernel,rfl,rfl,(.seq (.ite rfl rfl (.k .v rfl (.q (.p .v .u))) (.one (.ret rfl (.x .v rfl .v))) .skip0) (.one (.ret rfl (.bin rfl (.bin rfl .int rfl .v) rfl .int))))⟩
def nK:bu C pf:=⟨by decide +kernel,rfl,rfl,(.one (.ret rfl (.and2 rfl rfl (.isi (by kernel_rfl) (by kernel_rfl) rfl rfl .v) rfl rfl (.not rfl rfl (.isi (by kernel_rfl) (by kernel_rfl) rfl rfl .v)))))⟩
def nJ:bu C o9:=⟨by decide +kernel,rfl,rfl,(.seq (.ite rfl rfl (.k (.bin rfl .v rfl .int) rfl .int) (.one (.ret rfl .int)) .skip0) (.one (.ret rfl (.bin rfl .int rfl (.bin rfl (.bin rfl .v rfl .int) rfl .int)))))⟩
def nI:bu C o8:=⟨by decide +kernel,rfl,rfl,(.seq (.s (.L .u)) (.seq (.forv rfl (by kernel_rfl) rfl (.rng1 (by kernel_rfl) rfl rfl (.c (.p .v .u))) (.seq (.s (.L .u)) (.seq (.s .int) (.seq (.forv rfl (by kernel_rfl) rfl (.rng1 (by kernel_rfl) rfl rfl .v) (.one (.ite rfl rfl (.k (.bin rfl (.bin rfl .v rfl .v) rfl .int) rfl .int) (.seq (.expr rfl rfl (.meth rfl rfl (by decide) rfl rfl .v (.p .v .u))) (.one (.s (.bin rfl .int rfl .v)))) (.one (.expr rfl rfl (.meth rfl rfl (by decide) rfl rfl .v (.p .int .u))))))) (.one (.ite rfl rfl (.k (.q (.p .v .u)) rfl .int) (.one (.expr rfl rfl (.meth rfl rfl (by decide) rfl rfl .v (.p .v .u)))) .skip0)))))) (.one (.ret rfl .v))))⟩
def nH:bu C o7:=⟨by decide +kernel,rfl,rfl,(.seq (.s .int) (.seq (.forv rfl (by kernel_rfl) rfl (.rng1 (by kernel_rfl) rfl rfl .v) (.one (.s (.bin rfl .v rfl .int)))) (.one (.ret rfl .v))))⟩
def nG:bu C o6:=⟨by decide +kernel,rfl,rfl,(.seq (.s (.L (.p (.T (.p (.L .u) (.p (.comp0 rfl (by kernel_rfl) (.rng1 (by kernel_rfl) rfl rfl .v) rfl .int) .u))) .u))) (.seq (.s (.c (.p .v .u))) (.seq (.forv rfl (by kernel_rfl) rfl (.rng1 (by kernel_rfl) rfl rfl .v) (.seq (.s (.L .u)) (.seq (.fort rfl (by kernel_rfl) rfl (by kernel_rfl) rfl .v (.one (.forv rfl (by kernel_rfl) rfl .v (.seq (.asgCZ0 rfl (by kernel_rfl) (by kernel_rfl) (by kernel_rfl) rfl rfl rfl .v rfl .v rfl (.bin rfl .v rfl .v)) (.one (.ite rfl rfl (.and2 rfl rfl (.k (.q (.p .v .u)) rfl .int) rfl rfl (.k (.q (.p .v .u)) rfl .int)) (.one (.expr rfl rfl (.meth rfl rfl (by decide) rfl rfl .v (.p (.T (.p (.bin rfl .v rfl (.L (.p .v .u))) (.p .v .u))) .u)))) .skip0)))))) (.one (.s .v))))) (.one (.ret rfl (.q (.p (.compT0 rfl (by kernel_rfl) .v rfl .v) .u)))))))⟩
def nF:bu C oZ:=⟨by decide +kernel,rfl,rfl,(.seq (.asgC0 rfl (by kernel_rfl) rfl (by kernel_rfl) .v rfl .int) (.seq (.s (.L (.p (.comp0 rfl (by kernel_rfl) .v rfl (.neg rfl .int)) .u))) (.seq (.s (.L .u)) (.seq (.forv rfl (by kernel_rfl) rfl .v (.seq (.s (.L (.p .int .u))) (.seq (.forv rfl (by kernel_rfl) rfl .v (.one (.expr rfl rfl (.meth rfl rfl (by decide) rfl rfl .v (.p (.bin rfl (.x .v rfl (.neg rfl .int)) rfl (.bin rfl .int rfl .v)) .u))))) (.seq (.expr rfl rfl (.meth rfl rfl (by decide) rfl rfl .v (.p .v .u))) (.seq (.asgCZ0 rfl (by kernel_rfl) (by kernel_rfl) (by kernel_rfl) rfl rfl rfl .v rfl .v rfl (.bin rfl .v rfl .v)) (.one (.expr rfl rfl (.meth rfl rfl (by decide) rfl rfl .v (.p (.comp0 rfl (by kernel_rfl) .v rfl (.bin rfl (.bin rfl .int rfl .v) rfl .int)) .u))))))))) (.one (.ret rfl (.T (.p .v (.p .v .u)))))))))⟩
def nE:bu C oY:=⟨by decide +kernel,rfl,rfl,(.seq (.unp rfl (by kernel_rfl) rfl (by kernel_rfl) rfl rfl (.c (.p .v .u))) (.seq (.s (.L .u)) (.seq (.forv rfl (by kernel_rfl) rfl (.T (.p .v (.p .v .u))) (.seq (.s (.L .u)) (.seq (.forv rfl (by kernel_rfl) rfl (.rng1 (by kernel_rfl) rfl rfl (.q (.p .v .u))) (.seq (.s (.x .v rfl .v)) (.one (.expr rfl rfl (.meth rfl rfl (by decide) rfl rfl .v (.p (.comp0 rfl (by kernel_rfl) (.rng1 (by kernel_rfl) rfl rfl (.q (.p .v .u))) rfl (.q (.p (.k (.bin rfl (.x .v rfl .v) rfl (.bin rfl .int rfl (.bin rfl .int rfl (.bin rfl (.bin rfl .v rfl .v) rfl .int)))) rfl (.neg rfl .int)) .u))) .u)))))) (.one (.expr rfl rfl (.meth rfl rfl (by decide) rfl rfl .v (.p .v .u))))))) (.one (.ret rfl (.T (.p (.x .v rfl .int) (.p (.x .v rfl .int) .u))))))))⟩
def nA:bu C oX:=⟨by decide +kernel,rfl,rfl,(.seq (.unp rfl (by kernel_rfl) rfl (by kernel_rfl) rfl rfl .v) (.seq (.unp rfl (by kernel_rfl) rfl (by kernel_rfl) rfl rfl .v) (.seq (.ite rfl rfl (.and2 rfl rfl (.k (.x (.x .v rfl .v) rfl .v) rfl .int) rfl rfl (.k .v rfl (.T (.p (.bin rfl .v rfl .int) (.p .v .u))))) (.one (.ret rfl (.T (.p (.bin rfl .v rfl .int) (.p .v .u))))) .skip0) (.seq (.ite rfl rfl (.and2 rfl rfl (.k (.x (.x .v rfl .v) rfl (.bin rfl .v rfl .int)) rfl .int) rfl rfl (.k .v rfl (.T (.p .v (.p (.bin rfl .v rfl .int) .u))))) (.one (.ret rfl (.T (.p .v (.p (.bin rfl .v rfl .int) .u))))) .skip0) (.seq (.ite rfl rfl (.and2 rfl rfl (.k (.x (.x .v rfl (.bin rfl .v rfl .int)) rfl .v) rfl .int) rfl rfl (.k .v rfl (.T (.p (.bin rfl .v rfl .int) (.p .v .u))))) (.one (.ret rfl (.T (.p (.bin rfl .v rfl .int) (.p .v .u))))) .skip0) (.one (.ret rfl (.T (.p .v (.p (.bin rfl .v rfl .int) .u))))))))))⟩
def nz:bu C oW:=⟨by decide +kernel,rfl,rfl,(.seq (.s (.bin rfl (.comp0 rfl (by kernel_rfl) (.rng1 (by kernel_rfl) rfl rfl .v) rfl (.T (.p (.neg rfl .int) (.p .v .u)))) rfl (.comp0 rfl (by kernel_rfl) (.rng1 (by kernel_rfl) rfl rfl .v) rfl (.T (.p .v (.p .v .u)))))) (.one (.ret rfl (.bin rfl (.bin rfl .v rfl (.comp0 rfl (by kernel_rfl) (.rng1 (by kernel_rfl) rfl rfl .v) rfl (.T (.p .v (.p (.bin rfl (.bin rfl .v rfl .int) rfl .v) .u))))) rfl (.comp0 rfl (by kernel_rfl) (.rng1 (by kernel_rfl) rfl rfl .v) rfl (.T (.p (.bin rfl (.bin rfl .v rfl .int) rfl .v) (.p (.neg rfl .int) .u))))))))⟩
def ny:bu C oV:=⟨by decide +kernel,rfl,rfl,(.one (.ret rfl (.T (.p (.q (.p (.q (.p (.x .v rfl .int) (.p .int .u))) (.p (.bin rfl .v rfl .int) .u))) (.p (.q (.p (.q (.p (.x .v rfl .int) (.p .int .u))) (.p (.bin rfl .v rfl .int) .u))) .u)))))⟩
def nw:bu C oU:=⟨by decide +kernel,rfl,rfl,(.seq (.s (.q (.p .v .u))) (.seq (.s (.c (.p .v .u))) (.seq (.asgCE1 rfl (by kernel_rfl) (by kernel_rfl) (by kernel_rfl) rfl rfl (.c (.p .v .u)) rfl rfl (.k (.bin rfl .v rfl .int) rfl .int) rfl .v) (.seq (.asgC0 rfl (by kernel_rfl) rfl (by kernel_rfl) .v rfl .N) (.seq (.forE rfl (by kernel_rfl) rfl (by kernel_rfl) (by kernel_rfl) rfl rfl .v (.one (.ite rfl rfl (.k (.x .v rfl .v) rfl .N) (.seq (.s .v) (.seq (.s (.c (.p .v (.p .v .u)))) (.seq (bh.«while» rfl rfl (.and2 rfl rfl (.chain rfl rfl .int rfl (.x .v rfl .int) rfl .v) rfl rfl (.chain rfl rfl .int rfl (.x .v rfl .int) rfl .v)) (.seq (.s (.c (.p .v (.p .v (.p .v .u))))) (.seq (.s .v) (.one (.s .v))))) (.seq (.asgS rfl rfl .v rfl .v rfl (.dlix rfl rfl rfl rfl .v rfl .v)) (.one (.asgS rfl rfl .v rfl (.x .v rfl .v) rfl .v)))))) .skip0))) (.one (.ret rfl .v)))))))⟩
def nv:bu C oT:=⟨by decide +kernel,rfl,rfl,(.seq (.s (.L (.p .int .u))) (.seq (.forv rfl (by kernel_rfl) rfl (.rng1 (by kernel_rfl) rfl rfl .v) (.one (.expr rfl rfl (.meth rfl rfl (by decide) rfl rfl .v (.p (.q (.p (.comp0 rfl (by kernel_rfl) (.rng1 (by kernel_rfl) rfl rfl (.bin rfl .v rfl .int)) rfl (.bin rfl (.x .v rfl .v) rfl (.x .v rfl (.bin rfl .v rfl .v)))) .u)) .u))))) (.one (.ret rfl (.x .v rfl .v)))))⟩
def nu:bu C oS:=⟨by decide +kernel,rfl,rfl,(.seq (.s .dict0) (.seq (.forv rfl (by kernel_rfl) rfl (.c (.p .v .u)) (.seq (.s (.q (.p (.c (.p .v .u)) .u))) (.one (.dput rfl .v rfl .v rfl (.bin rfl (.dgetM rfl rfl rfl rfl rfl .v rfl .v rfl .int) rfl .int))))) (.one (.ret rfl (.comp0 rfl (by kernel_rfl) (.dsok (by kernel_rfl) rfl rfl .v) rfl (.T (.p (.q (.p .v .u)) (.p (.dget rfl rfl .v rfl .v) .u))))))))⟩
def nr:bu C oR:=⟨by decide +kernel,rfl,rfl,(.seq (.ite rfl rfl (.orN rfl rfl (.not rfl rfl (.isi (by kernel_rfl) (by kernel_rfl) rfl rfl .v)) rfl (.or2 rfl rfl (.k (.q (.p .v .u)) rfl .v) rfl rfl (.not rfl rfl (.q (.p (.comp0 rfl (by kernel_rfl) .v rfl (.c (.p .v .u))) .u))))) (.one (.ret rfl .bl)) .skip0) (.seq (.s (.L .u)) (.seq (.forv rfl (by kernel_rfl) rfl (.rng1 (by kernel_rfl) rfl rfl .v) (.seq (.ite rfl rfl (.orN rfl rfl (.not rfl rfl (.chain rfl rfl .int rfl (.x .v rfl .v) rfl .v)) rfl (.or2 rfl rfl (.k (.x .v rfl .v) rfl .v) rfl rfl (.k (.x .v rfl (.x .v rfl .v)) rfl .v))) (.one (.ret rfl .bl)) .skip0) (.one (.ite rfl rfl (.k (.x .v rfl .v) rfl .v) (.one (.expr rfl rfl (.meth rfl rfl (by decide) rfl rfl .v (.p .v .u)))) (.one (.popI (.ite rfl rfl (.k (.meth0 rfl rfl rfl .v) rfl (.x .v rfl .v)) (.one (.ret rfl .bl)) .skip0))))))) (.one (.ret rfl .bl)))))⟩
def nq:bu C oQ:=⟨by decide +kernel,rfl,rfl,(.seq (.s .dict0) (.seq (.s (.L .u)) (.seq (.forv rfl (by kernel_rfl) rfl .v (.seq (.ite rfl rfl (.orN rfl rfl (.not rfl rfl (.isi (by kernel_rfl) (by kernel_rfl) rfl rfl .v)) rfl (.orN rfl rfl (.k (.q (.p .v .u)) rfl .int) rfl (.or2 rfl rfl (.not rfl rfl (.c (.p (.x .v rfl .int) .u))) rfl rfl (.not rfl rfl (.c (.p (.x .v rfl .int) (.p .int .u))))))) (.one (.ret rfl .bl)) .skip0) (.seq (.ite rfl rfl (.dlle rfl rfl (.x .v rfl .int) rfl .v) (.one (.ret rfl .bl)) .skip0) (.seq (.s (.x .v rfl .int)) (.one (.dput rfl .v rfl (.q (.p .v .u)) rfl (.x .v rfl .int))))))) (.seq (.forD rfl (by kernel_rfl) .v (.seq (.asgC0 rfl (by kernel_rfl) rfl (by kernel_rfl) .v rfl .int) (.seq (.asgC0 rfl (by kernel_rfl) rfl (by kernel_rfl) .v rfl .int) (.seq (.forv rfl (by kernel_rfl) rfl (.rng1 (by kernel_rfl) rfl rfl .int) (.seq (.asgS rfl rfl .v rfl (.bin rfl (.bin rfl .v rfl .int) rfl .int) rfl (.bin rfl (.bin rfl (.x .v rfl .v) rfl .int) rfl .int)) (.one (.asgS rfl rfl .v rfl (.bin rfl (.neg rfl .v) rfl .int) rfl (.bin rfl (.neg rfl (.x .v rfl .v)) rfl .int))))) (.one (.ite rfl rfl (.or2 rfl rfl (.k (.dgetN rfl rfl rfl rfl .v rfl (.q (.p .v .u))) rfl (.dget rfl rfl .v rfl .v)) rfl rfl (.k (.dgetN rfl rfl rfl rfl .v rfl (.q (.p .v .u))) rfl (.dget rfl rfl .v rfl .v))) (.one (.ret rfl .bl)) .skip0)))))) (.one (.ret rfl (.andN rfl rfl (.k (.ddln (by kernel_rfl) rfl rfl .v) rfl .int) rfl (.and2 rfl rfl (.k (.dsum (by kernel_rfl) rfl rfl rfl .v) rfl .int) rfl rfl (.k (.dmnv (by kernel_rfl) rfl rfl rfl .v) rfl .int)))))))))⟩
def nk:bu C lB:=⟨by decide +kernel,rfl,rfl,(.seq (.s (.c (.p (.c (.p .v (.p .int .u))) .u))) (.seq (.ite rfl rfl (.k .v rfl .int) (.one (.ret rfl (.c (.p (.c (.p .int .u)) .u)))) .skip0) (.seq (.s (.c (.p .v .u))) (.seq (.s (.c (.p .v .u))) (.seq (.ite rfl rfl (.orN rfl rfl (.not rfl rfl (.isi (by kernel_rfl) (by kernel_rfl) rfl rfl .v)) rfl (.or2 rfl rfl (.k (.q (.p .v .u)) rfl (.q (.p .v .u))) rfl rfl (.k (.q (.p .v .u)) rfl (.c (.p .v .u))))) (.one (.ret rfl .bl)) .skip0) (.seq (.forv rfl (by kernel_rfl) rfl (.rng1 (by kernel_rfl) rfl rfl (.q (.p .v .u))) (.bor (.seq (.s (.x .v rfl .v)) (.seq (.ite rfl rfl (.orN rfl rfl (.not rfl rfl (.isi (by kernel_rfl) (by kernel_rfl) rfl rfl .v)) rfl (.orN rfl rfl (.k (.q (.p .v .u)) rfl .int) rfl (.or2 rfl rfl (.not rfl rfl (.isi (by kernel_rfl) (by kernel_rfl) rfl rfl (.x .v rfl .int))) rfl rfl (.not rfl rfl (.c (.p (.x .v rfl .int) .u)))))) (.one (.ret rfl .bl)) .skip0) (.one (.ite rfl rfl (.or2 rfl rfl (.k .v rfl (.x .v rfl .v)) rfl rfl (.not rfl rfl (.q (.p (.comp0 rfl (by kernel_rfl) (.x .v rfl .int) rfl (.c (.p .v .u))) .u)))) (.one (.ret rfl .bl)) .skip0)))))) (.clrT (.seq (.fort rfl (by kernel_rfl) rfl (by kernel_rfl) rfl .v (.one (.expr rfl rfl (.meth0 rfl rfl rfl .v)))) (.seq (.expr rfl rfl (.meth0 rfl rfl rfl .v)) (.one (.ret rfl (.k (.c (.p .v .u)) rfl .v))))))))))))⟩
def ac {P:bm->Prop}(h:P a)(t:∀d∈l,P d):∀d∈a::l,P d:=List.forall_mem_cons.mpr ⟨h,t⟩
def Ce:∀d∈D,bu C d:=ac JD (ac iu (ac JC (ac JB (ac JA (ac Jz (ac Jy (ac Jx (ac Jw (ac Jv (ac oi (ac oh (ac og (ac oe (ac n9 (ac n8 (ac nZ (ac nY (ac nX (ac nW (ac nV (ac nU (ac nT (ac nS (ac nR (ac nQ (ac nP (ac nO (ac nN (ac nM (ac nL (ac nK (ac nJ (ac nI (ac nH (ac nG (ac nF (ac nE (ac nA (ac nz (ac ny (ac nw (ac nv (ac nu (ac nr (ac nq (ac nk (λ_ h=>nomatch h)))))))))))))))))))))))))))))))))))))))))))))))
def JV:∀d∈D,p9 d:=ac (λ_ _ _ _ _ _=>cb (λ_=>rfl)) (ac (λ_ _ _ _ _ _=>df (λ_ _=>rfl)) (ac (λ_ _ _ _ _ _=>df (λ_ _=>rfl)) (ac (λ_ _ _ _ _ _=>i5 (λ_ _ _=>rfl)) (ac (λ_ _ _ _ _ _=>i4 (λ_ _ _ _=>rfl)) (ac (λ_ _ _ _ _ _=>df (λ_ _=>rfl)) (ac (λ_ _ _ _ _ _=>cb (λ_=>rfl)) (ac (λ_ _ _ _ _ _=>df (λ_ _=>rfl)) (ac (λ_ _ _ _ _ _=>cb (λ_=>rfl)) (ac (λ_ _ _ _ _ _=>cb (λ_=>rfl)) (ac (λ_ _ _ _ _ _=>cb (λ_=>rfl)) (ac (λ_ _ _ _ _ _=>cb (λ_=>rfl)) (ac (λ_ _ _ _ _ _=>df (λ_ _=>rfl)) (ac (λ_ _ _ _ _ _=>cb (λ_=>rfl)) (ac (λ_ _ _ _ _ _=>cb (λ_=>rfl)) (ac (λ_ _ _ _ _ _=>i4 (λ_ _ _ _=>rfl)) (ac (λ_ _ _ _ _ _=>i4 (λ_ _ _ _=>rfl)) (ac (λ_ _ _ _ _ _=>df (λ_ _=>rfl)) (ac (λ_ _ _ _ _ _=>i5 (λ_ _ _=>rfl)) (ac (λ_ _ _ _ _ _=>i4 (λ_ _ _ _=>rfl)) (ac (λ_ _ _ _ _ _=>df (λ_ _=>rfl)) (ac (λ_ _ _ _ _ _=>cb (λ_=>rfl)) (ac (λ_ _ _ _ _ _=>df (λ_ _=>rfl)) (ac (λ_ _ _ _ _ _=>df (λ_ _=>rfl)) (ac (λ_ _ _ _ _ _=>cb (λ_=>rfl)) (ac (λ_ _ _ _ _ _=>df (λ_ _=>rfl)) (ac (λ_ _ _ _ _ _=>cb (λ_=>rfl)) (ac (λ_ _ _ _ _ _=>df (λ_ _=>rfl)) (ac (λ_ _ _ _ _ _=>cb (λ_=>rfl)) (ac (λ_ _ _ _ _ _=>cb (λ_=>rfl)) (ac (λ_ _ _ _ _ _=>df (λ_ _=>rfl)) (ac (λ_ _ _ _ _ _=>cb (λ_=>rfl)) (ac (λ_ _ _ _ _ _=>cb (λ_=>rfl)) (ac (λ_ _ _ _ _ _=>cb (λ_=>rfl)) (ac (λ_ _ _ _ _ _=>cb (λ_=>rfl)) (ac (λ_ _ _ _ _ _=>cb (λ_=>rfl)) (ac (λ_ _ _ _ _ _=>cb (λ_=>rfl)) (ac (λ_ _ _ _ _ _=>cb (λ_=>rfl)) (ac (λ_ _ _ _ _ _=>i5 (λ_ _ _=>rfl)) (ac (λ_ _ _ _ _ _=>cb (λ_=>rfl)) (ac (λ_ _ _ _ _ _=>df (λ_ _=>rfl)) (ac (λ_ _ _ _ _ _=>cb (λ_=>rfl)) (ac (λ_ _ _ _ _ _=>cb (λ_=>rfl)) (ac (λ_ _ _ _ _ _=>cb (λ_=>rfl)) (ac (λ_ _ _ _ _ _=>df (λ_ _=>rfl)) (ac (λ_ _ _ _ _ _=>cb (λ_=>rfl)) (ac (λ_ _ _ _ _ _=>cb (λ_=>rfl)) (λ_ h=>nomatch h)))))))))))))))))))))))))))))))))))))))))))))))
def zk{K:Qb}(N:QM K L0 "len"=some none)(z1:QM K L0 "int"=some none)(z2:QM K L0 "bool"=some none)(z3:QM K L0 "list"=some none)(z4:QM K L0 "tuple"=some none)(O:QM K L0 "abs"=some none)(Q:QM K L0 "max"=some none)(U:QM K L0 "min"=some none)(Y:QM K L0 "isinstance"=some none)(j:QM K L0 "range"=some none)(A:QM K L0 "str"=some none)(B:QM K L0 "dict"=some none)(E:QM K L0 "sum"=some none)(G:QM K L0 "all"=some none)(H:QM K L0 "zip"=some none)(I:QM K L0 "enumerate"=some none)(J:QM K L0 "sorted"=some none)(M:QM K L0 "reversed"=some none):∀u∈zm,QM K L0 u=some none:=by
 unfold zm;simp only[List.forall_mem_cons];exact⟨N,z1,z2,z3,z4,O,Q,U,Y,j,A,B,E,G,H,I,J,M,λ_ q=>(Wi q).elim⟩
def dk {K:Qb}(X:K.In h)(G:h.Ns L0 A){kV:Value}(g:QM K L0 d.nm=some (some (.ref a)))(l:K.lookup a=some ⟨B,E,.func (Wz d.on d.on (xp d.st) (yR d.st) (zK d.st) .none kV H pm I cd J),M⟩)(c:Vc K cd d.on=true)(k:WL K (.ref a)=true):jy K A d:=⟨a,_,Ed l c k,WV X G g⟩
def mk {K:Qb}(X:K.In h)(G:h.Ns L0 H)(M:∀e∈D,jy K H e)(N:QM K L0 "WALKED"=some (some (.int 1 t0)))(e1:QM K L0 "GREATEST_LISTED"=some (some (.int 6 t1)))(e2:QM K L0 "GREATEST_WALKED"=some (some (.int 5 t2)))(O:QM K L0 "STEPS"=some (some (.ref sa0)))(Q:fP K w sa0 [([85],-1,0),([82],0,1),([68],1,0),([76],0,-1)])(z:∀B∈zm,QM K L0 B=some none): (∀e∈D,jy K H e)/\hZ K w H C/\∀B∈zm,H B=none:=by
 refine⟨λd U=>?_,⟨λB i A=>?_,λB j A=>?_⟩,λB Y=>?_⟩
 .exact M d U
 .unfold C at A;rw[QV]at A;cases E:B==("WALKED":Str)with
  |true=>
   rw[E]at A;cases A;rw[beq_iff_eq.mp E];exact⟨t0,WV X G N⟩
  |false=>
  rw[E]at A;rw[QV]at A;cases I:B==("GREATEST_LISTED":Str)with
  |true=>
   rw[I]at A;cases A;rw[beq_iff_eq.mp I];exact⟨t1,WV X G e1⟩
  |false=>
  rw[I]at A;rw[QV]at A;cases J:B==("GREATEST_WALKED":Str)with
  |true=>
   rw[J]at A;cases A;rw[beq_iff_eq.mp J];exact⟨t2,WV X G e2⟩
  |false=>
  rw[J]at A;cases A
 .unfold C at A;rw[QV]at A;cases E:B==("STEPS":Str)with
  |true=>
   rw[E]at A;cases A;rw[beq_iff_eq.mp E];exact⟨sa0,WV X G O,Q⟩
  |false=>
  rw[E]at A;cases A
 .exact PySem.W.mg_none_of X G (z B Y)
end R67
namespace R67
open Mini
noncomputable def T:List Fn:=[f0,f1,f2,f3,f4,f5,f6,f7,f8,f9,oM,BG,BF,oK,lz,BE,BD,BC,BB,BA,Bz,By,Bx,Bw,Bv,Bu,Bt,ly,lu,iz,Bs,Br,iw,Bq,Bn,Bm,Bl,Bk,Bj,Bh,Bg,Bf,Be,oJ,Bd,Bc,fG]
open Vl Vl.Lib
noncomputable def yL:Nat->Lv:=λk=>if k=26\/k=27 then .top else if k=6\/k=7\/k=28\/k=35\/k=37\/k=43 then .no else .F
abbrev CD(d:Nat):=jB yL T d
def yO (h:T[k]?=some f)(ds:P9):CD (d+1) k ds=yu yL (CD d) k f ds:=by
 show jB yL T (d+1) k ds=_;unfold jB;rw[h]
theorem wE:∀{ds:P9}{l:P8},zD ds=some l->ds=l.map Dat.int
 |[],l,h=>by cases h;rfl
 |d::ds,l,h=>by
  cases d with
  |int i=>
   obtain⟨r,A,rfl⟩:=Qy.mp (show(zD ds).map (i::·)=some l from h);rw[wE A];rfl
  |_=>cases h
theorem xx:∀{ds:P9}{l:O1},yW ds=some l->ds=l.map bM
 |[],l,h=>by cases h;rfl
 |d::ds,l,h=>by
  cases d with
  |L E=>
   replace h:(match zD E,yW ds with|some k,some G=>some (k::G)|_,_=>none)=some l:=h
   cases A:zD E with
   |none=>rw[A]at h;cases h
   |some k=>
    cases B:yW ds with
    |none=>rw[A,B]at h;cases h
    |some G=>
     rw[A,B]at h;cases h;rw[xx B,wE A];rfl
  |_=>cases h
noncomputable def lq(r:Rd)(w:P8):Bool:=match r with
 |.ok (.L A)=>decide (zD A=some w)
 |_=>false
def tj (h:lq r w=true):r=.ok (bM w):=by
 unfold lq at h;split at h
 .rw[wE (N4 h)];rfl
 .cases h
noncomputable def iI(A:P8):Nat->O1
 |0=>[[]]
 |n+1=>(iI A n).flatMap λv=>A.map (·::v)
theorem jF:∀(s:P8),(∀x∈s,x∈A)->s∈iI A s.length
 |[],_=>QK.mpr rfl
 |x::s,B=>List.mem_flatMap.mpr ⟨s,jF s λy E=>B y (by simp[E]),Wc.mpr ⟨x,B x (by simp),rfl⟩⟩
noncomputable def ky(q:Nat)(f:P9->O8)(c:N9):Nat->P9->Rd:=λk A=>if k=q then(match f A with
 |some r=>.ok r
 |none=>c k A)else c k A
set_option tactic.hygienic true in
def xR (h:∀{ds r},f ds=some r->c q ds=.ok r):ky q f c=c:=by
 funext k ds;unfold ky;split
 .next e=>
  subst e;split
  .next r z=>exact(h z).symm
  .rfl
 .rfl
noncomputable def oP(r:Rd)(d:Dat):Bool:=match r,d with
 |.ok (.int a),.int b=>decide (a=b)
 |.ok (.T [.int a,.int b]),.T [.int c,.int d]=>decide (a=c)&&decide (b=d)
 |_,_=>false
def CH (h:oP r d=true):r=.ok d:=by
 unfold oP at h;split at h
 .rw[N4 h]
 .rw[Qr]at h;rw[N4 h.1,N4 h.2]
 .cases h
noncomputable def oO(r:Rd)(s:cu):Bool:=match r with
 |.ok (.T [.int a,.int b,.str q])=>decide (a=s.1.1)&&decide (b=s.1.2)&&decide (q=rY s.2)
 |_=>false
def CG (h:oO r s=true):r=.ok (.T [.int s.1.1,.int s.1.2,vZ s.2]):=by
 unfold oO at h;split at h
 .rw[Qr,Qr]at h;rw[N4 h.1.1,N4 h.1.2,N4 h.2];rfl
 .cases h
def JL:((QF 6).all λn=>(QF n).all λr=>(QF n).all λc=>bD.all λe=>oP (CD 6 15 [.int n,.int r,.int c,vZ e]) (zF n ((r:Int),(c:Int)) e))=true:=by kernel_rfl
def JP:((QF 6).all λn=>(QF (4*n)).all λj=>oO (CD 7 5 [.int n,.int j]) (bW n j))=true:=by kernel_rfl
noncomputable def nh(i:Nat):P8->P8
 |[]=>[]
 |a::r=>(if decide (a=1)==decide (i%2=1)then 1 else 0)::nh (i+1) r
noncomputable def ni(a:Int):P8->P8
 |[]=>[1-2*a]
 |x::r=>(1-2*a)::ni (a+x) r
noncomputable def im(A:P8)(N:Nat)(f:P9->Rd)(g:P8->P8):Bool:=(QF N).all λm=>(iI A m).all λv=>lq (f [bM v]) (g v)
noncomputable def rG(A:P8)(N:Nat)(g:P8->P8)(xs:P9):O8:=match zD xs with
 |some x=>if x.length<N/\x.all (λa=>decide (a∈A))=true then some (bM (g x))else none
 |none=>none
set_option tactic.hygienic true in
def sw (h:im A N f g=true)(B:rG A N g xs=some r):f [.L xs]=.ok r:=by
 unfold rG at B;split at B
 .next x e=>
  split at B
  .next z=>
   cases B;rw[show(Dat.L xs)=bM x by rw[wE e];rfl];exact tj (Qx.mp (Qx.mp h x.length (Q9.mpr z.1)) x (jF x λa E=>N4 (Qx.mp z.2 a E)))
  .cases B
 .cases B
def JM:((QF 6).all λi=>im [-1,1] 7 (λds=>CD 5 12 (.int i::ds)) (nh i))=true:=by kernel_rfl
def JO:im [-1,0,1] 6 (CD 5 8) (ni 0)=true:=by kernel_rfl
def JN:im [0,1] 6 (CD 5 9) (λx=>x.map λy=>2*y-1)=true:=by kernel_rfl
noncomputable def ng(ds:P9):O8:=match ds with
 |[.int i,.L A]=>if 0<=i/\i<6 then rG [-1,1] 7 (nh i.toNat) A else none
 |_=>none
set_option tactic.hygienic true in
def CF (h:ng ds=some r):CD 5 12 ds=.ok r:=by
 unfold ng at h;split at h
 .next i A=>
  split at h
  .next z=>
   have q:=sw (Qx.mp JM i.toNat (Q9.mpr (by lia))) h
   rwa[Int.toNat_of_nonneg z.1]at q
  .cases h
 .cases h
noncomputable def rV(A:P8)(g:P8->P8)(ds:P9):O8:=match ds with
 |[.L B]=>rG A 6 g B
 |_=>none
def sv (h:im A 6 f g=true)(B:rV A g ds=some r):f ds=.ok r:=by
 unfold rV at B;split at B
 .exact sw h B
 .cases B
noncomputable def u5:Nat->P9->Rd:=ky 12 ng (ky 8 (rV [-1,0,1] (ni 0)) (ky 9 (rV [0,1] λx=>x.map λy=>2*y-1) (CD 5)))
def su:u5=CD 5:=by
 unfold u5;rw[xR (q:=9) (c:=CD 5) (sv JN),xR (q:=8) (c:=CD 5) (sv JO),xR (q:=12) (c:=CD 5) CF]
noncomputable def u6(k:Nat)(ds:P9):Rd:=if k=13 then yu yL u5 13 oK ds else if k=10 then yu yL u5 10 oM ds else CD 6 k ds
set_option tactic.hygienic true in
def Cd:u6=CD 6:=by
 funext k A;unfold u6;split
 .next h=>subst h;rw[su];exact(yO (d:=5) rfl A).symm
 .split
  .next h=>subst h;rw[su];exact(yO (d:=5) rfl A).symm
  .rfl
noncomputable def mV(ds:P9):Option (O1×O1):=match yu yL u6 14 lz ds with
 |.ok (.T [.L w,.L v])=>match yW w,yW v with
  |some W,some V=>some (W,V)
  |_,_=>none
 |_=>none
set_option tactic.hygienic true in
def CC (h:mV ds=some (W,V)):CD 7 14 ds=.ok (.T [aX W,aX V]):=by
 unfold mV at h;split at h
 .next w v e=>
  split at h
  .next E G A B=>
   cases h;rw[yO (d:=6) (f:=lz) rfl,<-Cd,e,xx A,xx B];rfl
  .cases h
 .cases h
noncomputable def uF(W V:O1)(p:Pl):Di->Int
 |.u=>(V.getD p.1.toNat []).getD p.2.toNat 0
 |.r=>(W.getD p.1.toNat []).getD (p.2+1).toNat 0
 |.d=>(V.getD (p.1+1).toNat []).getD p.2.toNat 0
 |.l=>(W.getD p.1.toNat []).getD p.2.toNat 0
noncomputable def tF(W V:O1):Tr:=λp e=>decide (uF W V p e=1)
noncomputable def oI(n:Nat)(W V:O1):Bool:=decide (0<n/\n<6/\W.length=n/\V.length=n+1)&&W.all (λr=>decide (r.length=n+1))&&V.all (λr=>decide (r.length=n))&&(b9 n n 0).all (λp=>decide ((bD.filter (tF W V p)).length=2))&&(QF (2*n)).all λj=>tF W V (bW n (2*j)).1 (bW n (2*j)).2
noncomputable def il(n:Nat)(t:Tr)(j:Nat):Option (List Pl×Int):=eO n t (n*n*4) (bW n (2*j+bN false)) [(bW n (2*j+bN false)).1]
noncomputable def dR(n:Nat)(t:Tr)(j:Nat):Option Nat:=match il n t j with
 |some (_,s)=>if 0<=s/\s%2=0 then some (s/2).toNat else none
 |none=>none
noncomputable def fC(n:Nat)(t:Tr):R5->Option P8
 |[]=>some []
 |j::r=>match dR n t j with
  |none=>none
  |some x=>match fC n t r with
   |none=>none
   |some l=>some ((x:Int)::l)
set_option tactic.hygienic true in
def Dl (h:dR n t j=some x):il n t j=some (((il n t j).getD ([],0)).1,((2*x+bN false:Nat):Int)):=by
 unfold dR at h;split at h
 .next p s e=>
  split at h
  .next q=>
   cases h;rw[e];simp only[WZ,Option.some.injEq,Prod.mk.injEq,true_and];show s=((2*(s/2).toNat+0:Nat):Int);lia
  .cases h
 .cases h
theorem th:∀{A:R5}{l:P8},fC n t A=some l->l=A.map (λj=>(((dR n t j).getD 0:Nat):Int))/\∀j∈A,dR n t j=some ((dR n t j).getD 0)
 |[],l,h=>by cases h;exact⟨rfl,λ_ h=>by cases h⟩
 |j::A,l,h=>by
  unfold fC at h;cases e:dR n t j with
  |none=>rw[e]at h;cases h
  |some x=>
   cases B:fC n t A with
   |none=>rw[e,B]at h;cases h
   |some r=>
    rw[e,B]at h;cases h;obtain⟨E,G⟩:=th B;refine⟨by rw[E];simp[e],λi hi=>?_⟩;rcases Qn.mp hi with rfl|hi
    .rw[e];rfl
    .exact G i hi
def Cc (Y:CD 7 14 [aX R]=.ok (.T [aX W,aX V]))(A:oI R.length W V=true)(B:fC R.length (tF W V) (QF (2*R.length))=some l):CD 10 21 [aX R]=.ok (bM l):=by
 unfold oI at A;simp only[Qr,N5,Qx]at A;obtain⟨⟨⟨⟨⟨J,M,u,vl⟩,z⟩,o⟩,E⟩,g⟩:=A;obtain⟨e,f⟩:=th B;have F:fJ R.length (tF W V):=⟨λp d _ _=>by
  cases d
  .show decide ((V.getD (p.1-1+1).toNat []).getD p.2.toNat 0=1)=_;rw[Int.sub_add_cancel];rfl
  .rfl
  .rfl
  .show decide ((W.getD p.1.toNat []).getD (p.2-1+1).toNat 0=1)=_;rw[Int.sub_add_cancel];rfl,λp t=>E p (qt t)⟩
 have m:∀{i:Nat},i<R.length->W[i]?=some (W.getD i [])/\(W.getD i []).length=R.length+1:=λ{i} h=>by
  have q:W[i]?=some W[i]:=Ql (by lia);rw[Qz,q];exact⟨rfl,z _ (Qo q)⟩
 have N:∀{i:Nat},i<R.length+1->V[i]?=some (V.getD i [])/\(V.getD i []).length=R.length:=λ{i} h=>by
  have q:V[i]?=some V[i]:=Ql (by lia);rw[Qz,q];exact⟨rfl,o _ (Qo q)⟩
 have G:∀r c,r<R.length->c<R.length->CD 7 16 [.T [aX W,aX V],.int r,.int c,.int 1]=.ok (v7 R.length (tF W V) ((r:Int),(c:Int))):=λr c O b=>by
  rw[yO (d:=6) (f:=lT 15) rfl];have a:=N (i:=r) (by lia);have w:=N (i:=r+1) (by lia);have y:=m O;exact Gs (lev:=yL) (k:=16) (cl:=CD 6) (kb:=15) (n:=R.length) (r:=r) (c:=c) (mk:=1) (U:=uF W V ((r:Int),(c:Int))) (W:=W) (V:=V) u (qr a.1) (qr y.1) (qr (r:=r+1) w.1)
   (vD (jD (by lia))) (vD (c:=c+1) (jD (by lia))) (vD (jD (by lia))) (vD (jD (by lia))) (λd=>CH (Qx.mp (Qx.mp (Qx.mp (Qx.mp JL R.length (Q9.mpr M)) r (Q9.mpr O)) c (Q9.mpr b)) d (by cases d<;>simp[bD]))) rfl
 have H:CD 8 17 [aX R,.int 1]=.ok (dx (v7 R.length (tF W V)) (b9 R.length R.length 0)):=by
  rw[yO (d:=7) (f:=tt 14 16) rfl];exact Ho (by lia) Y G rfl rfl
 have I:∀j,j<2*R.length->CD 8 19 [dx (v7 R.length (tF W V)) (b9 R.length R.length 0),.int R.length,.int j,.int (dU false)]=.ok (.L (.int ((2*j+bN false:Nat):Int)::(((il R.length (tF W V) j).getD ([],0)).1).map bA++[.int ((2*((dR R.length (tF W V) j).getD 0)+bN false:Nat):Int)])):=λj Q=>by
  have hb:bN false=0:=rfl;obtain⟨A,B,h3⟩:=CN (n:=R.length) (ρ:=2*j+bN false) J (by lia);rw[yO (d:=7) (f:=rH 5 18) rfl];refine Eu false (CG (Qx.mp (Qx.mp JP R.length (Q9.mpr M)) (2*j+bN false) (Q9.mpr (by lia)))) ?_ rfl rfl;rw[yO (d:=6) (f:=tm) rfl];exact Hn J (by lia) (by lia) F (CK λ_ _=>rfl) ⟨A,g j (Q9.mpr Q)⟩ B h3 (Dl (f j (Q9.mpr Q))) rfl
 rw[e,yO (d:=9) (f:=rE 20 1) rfl];refine Es ?_ rfl rfl;rw[yO (d:=8) (f:=rF 17 19) rfl];exact Et (by lia) false H rfl (L:=λj=>(dR R.length (tF W V) j).getD 0) (P:=λj=>.int ((2*j+bN false:Nat):Int)::(((il R.length (tF W V) j).getD ([],0)).1).map bA) I rfl
noncomputable def oo(ds:P9):O8:=match ds with
 |[.L A]=>match yW A,mV ds with
  |some R,some (W,V)=>match oI R.length W V with
   |true=>(fC R.length (tF W V) (QF (2*R.length))).map bM
   |false=>none
  |_,_=>none
 |_=>none
set_option tactic.hygienic true in
def Cb (h:oo ds=some r):CD 10 21 ds=.ok r:=by
 unfold oo at h;split at h
 .next B=>
  split at h
  .next R W V E A=>
   split at h
   .next G=>
    obtain⟨l,H,rfl⟩:=Qy.mp h;rw[show(Dat.L B)=aX R by rw[xx E];rfl]at A ⊢;exact Cc (CC A) G H
   .cases h
  .cases h
 .cases h
noncomputable def BO:List (Nat×Nat):=[(22075240,45670123),(23125000,67450123),(22114120,5634127),(23163880,67034125),(26313160,67450123),(23176840,5634127),(26326120,3456127),(22076680,45672301),(23126440,67452301),(22115560,5612347),(23165320,67012345),(26314600,67452301),(22232200,5634127),(23281960,67034125),(26431240,67450123),(35879080,67034125),(23178280,5612347),(26327560,1452367),(23294920,5634127),(26444200,3456127),(35892040,5634127)]
noncomputable def BN:List (Nat×Nat):=[(22116040,45672301),(23165800,67452301),(26315080,67452301),(22232680,25634701),(23282440,67234501),(26431720,67452301),(35879560,67234501),(23178760,45672301),(26328040,67452301),(23295400,25634701),(26444680,23456701),(35892520,25634701),(26483560,67452301),(35931400,67234501),(23178920,5612347),(26328200,1452367),(23295560,5634127),(26444840,3456127),(35892680,5634127),(26483720,1452367),(35931560,1234567)]
noncomputable def iA:List (Nat×Nat):=BO++BN
noncomputable def dS(c:Nat):O1:=(QF 4).map λr=>(QF 4).map λk=>((c/3 ^ (4*r+k)%3:Nat):Int)-1
noncomputable def dW(n c:Nat):P8:=(QF n).map λk=>((c/10^k%10:Nat):Int)
noncomputable def JU(t:O1):Nat:=t.flatten.foldr (λx n=>3*n+(x+1).toNat) 0
noncomputable def nj(e:Nat×Nat):Bool:=lq (CD 10 41 [aX (dS e.1)]) (dW 8 e.2)
def JF:BO.all nj=true:=by kernel_rfl
def JE:BN.all nj=true:=by kernel_rfl
def kA:iA.all nj=true:=by
 unfold iA;rw[List.all_append,JF,JE];rfl
noncomputable def om(ds:P9):O8:=match ds with
 |[.L A]=>(yW A).bind λt=>(iA.find? λe=>e.1==JU t).bind λe=>if dS e.1=t then some (bM (dW 8 e.2))else none
 |_=>none
set_option tactic.hygienic true in
def Ca (h:om ds=some r):CD 10 41 ds=.ok r:=by
 unfold om at h;split at h
 .next B=>
  obtain⟨t,E,G⟩:=Qt.mp h;obtain⟨e,H,A⟩:=Qt.mp G;have I:=Qx.mp kA e (List.mem_of_find?_eq_some H);split at A
  .next z=>
   cases A;rw[show(Dat.L B)=aX t by rw[xx E];rfl,<-z];exact tj I
  .cases A
 .cases h
noncomputable def fN(t:O1)(c:Nat):P8:=t.map λr=>r.getD c 0
noncomputable def B9(n:Nat)(t:O1):P8:=(QF n).map λc=>(fN t c).sum
noncomputable def lg:P8->Int->O1
 |[],a=>if a=1 then[[]]else[]
 |s::A,a=>[-1,0,1].flatMap λx=>if(a+x=0\/a+x=1)/\(s+x=0\/s+x=1)then(lg A (a+x)).map (x::·)else[]
noncomputable def oN(n:Nat)(A:List O1):List O1:=A.flatMap λt=>(lg (B9 n t) 0).map λr=>t++[r]
noncomputable def cQ:Nat->List O1
 |0=>[[]]
 |j+1=>oN 5 (cQ j)
noncomputable def jL(A:List O1):Dat:=.L (A.map aX)
noncomputable def fx:P9->Option (List O1)
 |[]=>some []
 |.L A::r=>match yW A,fx r with
  |some k,some B=>some (k::B)
  |_,_=>none
 |_=>none
theorem lQ:∀{ds:P9}{l:List O1},fx ds=some l->ds=l.map aX
 |[],l,h=>by cases h;rfl
 |d::ds,l,h=>by
  cases d with
  |L E=>
   replace h:(match yW E,fx ds with|some k,some G=>some (k::G)|_,_=>none)=some l:=h
   cases A:yW E with
   |none=>rw[A]at h;cases h
   |some k=>
    cases B:fx ds with
    |none=>rw[A,B]at h;cases h
    |some G=>
     rw[A,B]at h;cases h;rw[lQ B,xx A];rfl
  |_=>cases h
noncomputable def iH(r:Rd)(A:List O1):Bool:=match r with
 |.ok (.L B)=>decide (fx B=some A)
 |_=>false
def uB (h:iH r A=true):r=.ok (jL A):=by
 unfold iH at h;split at h
 .rw[lQ (N4 h)];rfl
 .cases h
noncomputable def isB(r:Rd)(t:O1):Bool:=match r with
 |.ok (.L A)=>decide (yW A=some t)
 |_=>false
def Dj (h:isB r t=true):r=.ok (aX t):=by
 unfold isB at h;split at h
 .rw[xx (N4 h)];rfl
 .cases h
noncomputable def vT(s:P8):Bool:=decide (s=[1,1,1,1,1]) || isB (CD 8 26 [bM s]) (lg s 0)
def v5:(iI [0,1] 5).all vT=true:=by kernel_rfl
noncomputable def nc(ds:P9):O8:=match ds with
 |[.L A]=>match zD A with
  |some s=>if s≠[1,1,1,1,1]/\s.length=5/\s.all (λx=>decide (x=0) || decide (x=1))=true then some (aX (lg s 0))else none
  |none=>none
 |_=>none
set_option tactic.hygienic true in
def B8 (h:nc ds=some r):CD 8 26 ds=.ok r:=by
 unfold nc at h;split at h
 .next A=>
  split at h
  .next s e=>
   split at h
   .next z=>
    cases h;rw[show(Dat.L A)=bM s by rw[wE e];rfl];have q:=Qx.mp v5 s (z.2.1▸jF s λx B=>by
     have:=Qx.mp z.2.2 x B;simpa using this)
    unfold vT at q;rw[NZ z.1,Bool.false_or]at q;exact Dj q
   .cases h
  .cases h
 .cases h
noncomputable def rD:Fn:=⟨2,2,(.ret (.comp (.i (.V 2) (.V 1)) (.V 0) (.lit (.bl true))))⟩
def Er {clZ:N9}{c:Nat}(H:t.length<=100)(B:∀r∈t,c<r.length)(A:lev k=.no):yu lev clZ k rD [aX t,.int c]=.ok (bM (fN t c)):=by
 have E:au clZ (.comp (.i (.V 2) (.V 1)) (.V 0) (.lit (.bl true))) [some (aX t),some (.int c)]=.ok (bM (fN t c)):=by
  rw[t7];simp only[zq,bU,aX,sS (show(t.map bM).length<=aA from by simp;unfold aA;lia)];rw[vY bM (λx=>.int (x.getD c 0)) t [] (λ_ _=>by simp) (λx G=>?_) (by simp;unfold aA;lia)]
  .simp only[bM,fN,Wv,Wp];rfl
  .simp only[Wn,Wp,xa,zq,zr,bU];exact vD (jD (B x G))
 unfold yu;rw[N0 (by rfl),A];show yY .no (aK lev clZ (.ret _) [some (aX t),some (.int c)] _)=_;rw[wY,E];simp[yY,jK]
noncomputable def r7(ds:P9):O8:=match ds with
 |[.L A,.int i]=>match yW A with
  |some t=>if t.length<=100/\0<=i/\t.all (λr=>decide (i.toNat<r.length))=true then some (bM (fN t i.toNat))else none
  |none=>none
 |_=>none
set_option tactic.hygienic true in
def B7 (h:r7 ds=some r):CD 8 7 ds=.ok r:=by
 unfold r7 at h;split at h
 .next A i=>
  split at h
  .next t e=>
   split at h
   .next z=>
    cases h;rw[show(Dat.L A)=aX t by rw[xx e];rfl,yO (d:=7) (f:=rD) rfl];have:=Er (lev:=yL) (clZ:=CD 7) (k:=7) (t:=t) (c:=i.toNat) z.1 (λr B=>N4 (Qx.mp z.2.2 r B)) rfl
    rwa[show((i.toNat:Nat):Int)=i by lia]at this
   .cases h
  .cases h
 .cases h
noncomputable def ol:Nat->P9->Rd:=ky 7 r7 (ky 26 nc (CD 8))
def B6:ol=CD 8:=by
 unfold ol;rw[xR (q:=26) (c:=CD 8) B8,xR (q:=7) (c:=CD 8) B7]
noncomputable def fy(j:Nat):Bool:=iH (yu yL ol 27 ly [jL (cQ j),.int 5]) (cQ (j+1))
def Jt:fy 0=true:=by kernel_rfl
def Js:fy 1=true:=by kernel_rfl
def Jr:fy 2=true:=by kernel_rfl
def Jq:fy 3=true:=by kernel_rfl
def Jp:fy 4=true:=by kernel_rfl
def sA (h:j<5):CD 9 27 [jL (cQ j),.int 5]=.ok (jL (cQ (j+1))):=by
 rw[yO (d:=8) (f:=ly) rfl,<-B6];refine uB (show fy j=true from ?_);rcases(by lia:j=0\/j=1\/j=2\/j=3\/j=4)with rfl|rfl|rfl|rfl|rfl
 .exact Jt
 .exact Js
 .exact Jr
 .exact Jq
 .exact Jp
noncomputable def r9(ds:P9):O8:=match ds with
 |[.L B,.int k]=>match fx B with
  |some A=>if k=5/\(A.headD []).length<5/\A=cQ (A.headD []).length then some (jL (cQ ((A.headD []).length+1)))else none
  |none=>none
 |_=>none
set_option tactic.hygienic true in
def B4 (h:r9 ds=some r):CD 9 27 ds=.ok r:=by
 unfold r9 at h;split at h
 .next A k=>
  split at h
  .next B e=>
   split at h
   .next z=>
    cases h;obtain⟨rfl,E,G⟩:=z;rw[show(Dat.L A)=jL B by rw[lQ e];rfl];have:=sA E;rw[<-G]at this;exact this
   .cases h
  .cases h
 .cases h
noncomputable def A7:Nat->P9->Rd:=ky 27 r9 (CD 9)
def BZ:A7=CD 9:=xR B4
def Jo:iH (yu yL A7 28 lu [.int 5]) (cQ 5)=true:=by kernel_rfl
def J4:CD 10 28 [.int 5]=.ok (jL (cQ 5)):=by
 rw[yO (d:=9) (f:=lu) rfl,<-BZ];exact uB Jo
noncomputable def lh(ds:P9):O8:=match ds with
 |[.int k]=>if k=5 then some (jL (cQ 5))else none
 |_=>none
set_option tactic.hygienic true in
def Dh (h:lh ds=some r):CD 10 28 ds=.ok r:=by
 unfold lh at h;split at h
 .split at h
  .next z=>cases h;subst z;exact J4
  .cases h
 .cases h
noncomputable def dX:Nat->P9->Rd:=ky 28 lh (ky 41 om (ky 21 oo (CD 10)))
def lP:dX=CD 10:=by
 unfold dX;rw[xR (q:=21) (c:=CD 10) Cb,xR (q:=41) (c:=CD 10) Ca,xR (q:=28) (c:=CD 10) Dh]
noncomputable def pP:List (Nat×Nat):=[(8967452301,42),(6789452301,17),(8945672301,17),(4785692301,14),(4567892301,4),(8967234501,17),(6789234501,6),(8925634701,14),(8923456701,4),(2785634901,17),(2567834901,6),(2783456901,6),(2367458901,4),(2345678901,1),(8967450123,17),(6789450123,6),(8945670123,6),(4785690123,4),(4567890123,1),(8967034125,14),(6789034125,4),(8967012345,4),(6789012345,1),(8905634127,17),(8903456127,6),(8905612347,6),(8901452367,4),(8901234567,1),(785634129,42),(567834129,17),(783456129,17),(367458129,14),(345678129,4),(785612349,17),(567812349,6),(781452369,14),(781234569,4),(167452389,17),(145672389,6),(167234589,6),(125634789,4),(123456789,1)]
noncomputable def BP:Dat:=.L (pP.map λp=>.T [bM (dW 10 p.1),.int (p.2:Int)])
noncomputable def fM:P9->List (Nat×Nat)->Bool
 |[],[]=>true
 |.T [.L w,.int c]::r,p::q=>decide (zD w=some (dW 10 p.1))&&decide (c=(p.2:Int))&&fM r q
 |_,_=>false
set_option tactic.hygienic true in
theorem sr:∀{ds:P9}{l:List (Nat×Nat)},fM ds l=true->ds=l.map λp=>.T [bM (dW 10 p.1),.int (p.2:Int)]
 |[],[],_=>rfl
 |d::r,p::q,h=>by
  unfold fM at h;split at h
  .next e=>cases e
  .next w c E G H A B=>
   cases A;cases B;rw[Qr,Qr]at h;obtain⟨⟨a,b⟩,g⟩:=h;rw[sr g,wE (N4 a),N4 b];rfl
  .cases h
 |[],_::_,h=>by cases h
 |d::r,[],h=>by simp[fM]at h
noncomputable def rA(r:Rd):Bool:=match r with
 |.ok (.L A)=>fM A pP
 |_=>false
noncomputable def lf:Ex:=.call 28 (.P (.V 0) .u)
noncomputable def pR:Sm:=(.seq (.a 3 (.blt .tuple (.P (.call 21 (.P (.V 2) .u)) .u))) (.dput 1 (.V 3) (.bin .add (.dop .get (.V 1) (.V 3) (.lit (.int 0))) (.lit (.int 1)))))
noncomputable def mW:Sm:=(.ret (.comp (.T (.P (.V 4) (.P (.dop .get (.V 1) (.blt .tuple (.P (.V 4) .u)) (.lit (.int 0))) .u))) (.call 24 (.P (.V 0) .u)) (.lit (.bl true))))
noncomputable def dh(b:Dat->aI->R8->bG):P9->aI->R8->Option (aI×R8)
 |[],A,B=>some (A,B)
 |x::E,A,B=>match b x A B with
  |.next d l=>dh b E d l
  |_=>none
set_option tactic.hygienic true in
theorem wZ:∀{xs:P9}{de:aI}{lv:R8},dh b xs de lv=some (d,l)->zN b (xs++ys) de lv=zN b ys d l
 |[],de,lv,h=>by cases h;rfl
 |x::xs,de,lv,h=>by
  unfold dh at h;cases e:b x de lv with
  |next d1 A=>
   rw[e]at h;rw[Wn]
   conv=>lhs;unfold zN;rw[e]
   exact wZ h
  |_=>rw[e]at h;cases h
noncomputable def y0:R8:=[.no,.F,.no,.F]
noncomputable def dY(clZ:N9):Dat->aI->R8->bG:=λx A B=>aK yL clZ pR (A.set 2 (some x)) (B.set 2 (bQ x))
def Dg {c:Nat->P9}{d1 d2 d3 d4 d5 d6:aI}{S:Dat}(A:au cl lf [some (.int 5),some (.D [] []),none,none]=.ok S)(B:ay S=false)(E:cy S=some (c 0++(c 1++(c 2++(c 3++(c 4++(c 5++[])))))))(G:dh (dY cl) (c 0) [some (.int 5),some (.D [] []),none,none] [.no,.F,.F,.F]=some (d1,y0))(H:dh (dY cl) (c 1) d1 y0=some (d2,y0))(I:dh (dY cl) (c 2) d2 y0=some (d3,y0))(J:dh (dY cl) (c 3) d3 y0=some (d4,y0))(M:dh (dY cl) (c 4) d4 y0=some (d5,y0))(N:dh (dY cl) (c 5) d5 y0=some (d6,y0)):yu yL cl 29 iz [.int 5]=yY .F (aK yL cl mW d6 y0):=by
 unfold yu;rw[N0 (by rfl)];show yY (yL 29) (aK yL cl (.seq (.a 1 .dict0) (.seq (.forv 2 lf pR) mW)) [some (.int 5),none,none,none] [.F,.F,.F,.F])=_;rw[show yL 29=Lv.F from rfl,zz yL cl _ _ rfl];rw[show aK yL cl (.a 1 .dict0) [some (.int 5),none,none,none] [.F,.F,.F,.F]=.next [some (.int 5),some (.D [] []),none,none] [.F,.F,.F,.F]from rfl,yh,zz yL cl _ _ rfl,mj,A];simp only[c9,E];rw[B,N1 QQ];rw[show xP lf [some (.int 5),some (.D [] []),none,none] [.F,.F,.F,.F]=[.no,.F,.F,.F]from rfl];rw[show(λx O Q=>aK yL cl pR (List.set O 2 (some x)) (List.set Q 2 (bQ x)))=dY cl from rfl,wZ G,wZ H,wZ I,wZ J,wZ M,wZ N];rw[show zN (dY cl) [] d6 y0=.next d6 y0 from rfl,yh]
noncomputable def fE:Dat->aI->R8->bG:=dY dX
noncomputable def A6:List (Nat×Nat):=[(22,1),(21,3),(33,7),(34,3),(25,3),(1,3),(0,7),(3,3),(4,1),(2,3),(35,3),(37,3),(26,1),(38,1),(20,4),(19,4),(28,5),(29,2),(23,1),(15,3),(14,5),(17,3),(18,1),(16,2)]
noncomputable def A5:List (Nat×Nat):=[(22,1),(21,3),(33,7),(34,3),(25,3),(1,3),(0,7),(3,3),(4,1),(2,3),(35,3),(37,3),(26,1),(38,1),(20,4),(19,11),(28,21),(29,9),(23,10),(15,6),(14,14),(17,4),(18,1),(16,5),(30,8),(31,5),(24,3),(32,1)]
noncomputable def A4:List (Nat×Nat):=[(22,1),(21,4),(33,11),(34,4),(25,5),(1,9),(0,19),(3,7),(4,2),(2,7),(35,8),(37,5),(26,2),(38,1),(20,4),(19,12),(28,24),(29,10),(23,12),(15,6),(14,14),(17,4),(18,1),(16,5),(30,8),(31,7),(24,3),(32,2),(6,3),(5,6),(9,3),(10,1),(7,2),(36,2),(39,1),(27,1)]
noncomputable def AZ:List (Nat×Nat):=[(22,1),(21,4),(33,14),(34,5),(25,6),(1,11),(0,22),(3,9),(4,3),(2,8),(35,11),(37,10),(26,4),(38,3),(20,4),(19,14),(28,35),(29,14),(23,17),(15,6),(14,17),(17,4),(18,1),(16,6),(30,14),(31,11),(24,6),(32,3),(6,3),(5,7),(9,3),(10,1),(7,3),(36,3),(39,3),(27,1),(40,1)]
noncomputable def AY:List (Nat×Nat):=[(22,1),(21,4),(33,14),(34,5),(25,6),(1,16),(0,38),(3,14),(4,4),(2,15),(35,11),(37,10),(26,4),(38,3),(20,4),(19,14),(28,35),(29,14),(23,17),(15,6),(14,17),(17,4),(18,1),(16,6),(30,14),(31,11),(24,6),(32,3),(6,6),(5,15),(9,12),(10,4),(7,11),(36,3),(39,3),(27,1),(40,1),(11,3),(12,1),(8,3)]
noncomputable def AX:List (Nat×Nat):=[(22,1),(21,4),(33,17),(34,6),(25,6),(1,17),(0,42),(3,14),(4,4),(2,17),(35,14),(37,17),(26,4),(38,6),(20,4),(19,14),(28,42),(29,17),(23,17),(15,6),(14,17),(17,4),(18,1),(16,6),(30,17),(31,14),(24,6),(32,4),(6,6),(5,17),(9,17),(10,6),(7,14),(36,4),(39,6),(27,1),(40,4),(11,6),(12,4),(8,4),(13,1),(41,1)]
noncomputable def AS(j:Nat):P8:=dW 10 (pP.getD j (0,0)).1
noncomputable def dD(q:List (Nat×Nat))(i j:Nat):aI:=[some (.int 5),some (.D (q.map λp=>AS p.1) (q.map λp=>.int (p.2:Int))),some (aX ((cQ 5).getD i [])),some (.T ((AS j).map .int))]
noncomputable def cJ(i:Nat):P9:=(((cQ 5).drop (72*i)).take 72).map aX
def J1:dh fE (cJ 0) [some (.int 5),some (.D [] []),none,none] [.no,.F,.F,.F]=some (dD A6 71 28,y0):=by kernel_rfl
def J0:dh fE (cJ 1) (dD A6 71 28) y0=some (dD A5 143 28,y0):=by kernel_rfl
def JZ:dh fE (cJ 2) (dD A5 143 28) y0=some (dD A4 215 0,y0):=by kernel_rfl
def JY:dh fE (cJ 3) (dD A4 215 0) y0=some (dD AZ 287 1,y0):=by kernel_rfl
def JX:dh fE (cJ 4) (dD AZ 287 1) y0=some (dD AY 359 3,y0):=by kernel_rfl
def JW:dh fE (cJ 5) (dD AY 359 3) y0=some (dD AX 428 41,y0):=by kernel_rfl
def J3:decide ((cQ 5).length=429)=true:=by kernel_rfl
def J2:rA (yY .F (aK yL dX mW (dD AX 428 41) y0))=true:=by kernel_rfl
set_option tactic.hygienic true in
def B5:CD 11 29 [.int 5]=.ok BP:=by
 rw[yO (d:=10) (f:=iz) rfl,<-lP];have A:au dX lf [some (.int 5),some (.D [] []),none,none]=.ok (jL (cQ 5)):=by
  show dX 28 [.int 5]=_;simp[dX,ky,lh]
 have hl:=N4 J3;have B:(cQ 5).map aX=cJ 0++(cJ 1++(cJ 2++(cJ 3++(cJ 4++(cJ 5++[]))))):=by
  unfold cJ;generalize cQ 5=s at hl;have st:∀i,(s.drop (72*i)).map aX=(((s.drop (72*i)).take 72).map aX)++(s.drop (72*(i+1))).map aX:=λi=>by
   rw[<-Ww,show s.drop (72*(i+1))=(s.drop (72*i)).drop 72 by rw[Ws];rfl,Wo]
  have z:(s.drop (72*6)).map aX=[]:=by rw[Vb (by lia)];rfl
  exact(st 0).trans (NY _ ((st 1).trans (NY _ ((st 2).trans (NY _ ((st 3).trans (NY _ ((st 4).trans (NY _ ((st 5).trans (NY _ z)))))))))))
 have E:cy (jL (cQ 5))=some (cJ 0++(cJ 1++(cJ 2++(cJ 3++(cJ 4++(cJ 5++[])))))):=by
  rw[<-B];exact sS (by rw[Qs,hl];decide)
 have e:=Dg A rfl E J1 J0 JZ JY JX JW;rw[e];have h:=J2;unfold rA at h;split at h
 .next G e=>rw[e,sr h];rfl
 .cases h
noncomputable def mZ(ds:P9):O8:=match ds with
 |[.int k]=>if k=5 then some BP else none
 |_=>none
set_option tactic.hygienic true in
def BY (h:mZ ds=some r):CD 11 29 ds=.ok r:=by
 unfold mZ at h;split at h
 .split at h
  .next z=>cases h;subst z;exact B5
  .cases h
 .cases h
noncomputable def clZ(k:Nat)(ds:P9):Rd:=if k=29 then(match mZ ds with
 |some r=>.ok r
 |none=>yu yL dX 29 iz ds)else if k=43 then yu yL dX 43 oJ ds else CD 11 k ds
set_option tactic.hygienic true in
def BX:clZ=CD 11:=by
 funext k A;unfold clZ;split
 .next h=>
  subst h;split
  .next r z=>exact(BY z).symm
  .rw[lP];exact(yO (d:=10) rfl A).symm
 .split
  .next h=>subst h;rw[lP];exact(yO (d:=10) rfl A).symm
  .rfl
def J6(d:Nat)(A:P8)(i:Nat):∃c:Int,CD (d+1) 30 [.scr A,.int i]=.ok (.int c):=by rw[yO (f:=h9) rfl];exact Gx A i
def J5(d:Nat)(c:Int):∃n:Nat,1<=n/\n<=5/\CD (d+1) 32 [.int c]=.ok (.int n):=by
 rw[yO (f:=iw) rfl];have A:yK .mod (.int c) (.int 16)=.ok (.int (c%16)):=sV _ _ (by decide);have B:yK .fdiv (.int c) (.int 16)=.ok (.int (c/16)):=uK _ _ (by decide) (by decide);have E:yK .mod (.int (c/16)) (.int 4)=.ok (.int (c/16%4)):=sV _ _ (by decide);by_cases q:c%16=5
 .exact ⟨5,by lia,by lia,by simp[yu,iw,xy,xz,yY,A,q]⟩
 .refine ⟨(1+c/16%4).toNat,by lia,by lia,?_⟩;have:(((1+c/16%4).toNat:Nat):Int)=1+c/16%4:=by lia
  rw[this];simp[yu,iw,xy,xz,yY,A,B,E,q]
noncomputable def rq:Sm:=match fG.body with
 |.seq _ b=>b
 |s=>s
noncomputable def mS:Ex:=.call 32 (.P (.call 30 (.P (.V 0) (.P (.lit (.int 0)) .u))) .u)
noncomputable def eQ:bG->Bool
 |.ret (.bl true) _=>true
 |_=>false
def Ep (h:eQ r=true):yY k r=.ok (.bl true):=by
 unfold eQ at h;split at h
 .simp[yY]
 .cases h
noncomputable def e7(A:P8)(n:Int):bG:=aK yL clZ rq [some (.scr A),some (.int n),none,none,none,none,none,none] [bQ (.scr A),.F,.F,.F,.F,.F,.F,.F]
def JK(A:P8):eQ (e7 A 1)=true:=by kernel_rfl
def JJ(A:P8):eQ (e7 A 2)=true:=by kernel_rfl
def JI(A:P8):eQ (e7 A 3)=true:=by kernel_rfl
def JH(A:P8):eQ (e7 A 4)=true:=by kernel_rfl
def JG(A:P8):eQ (e7 A 5)=true:=by kernel_rfl
set_option tactic.hygienic true in
def Gp(A:P8):CD 12 46 [.scr A]=.ok (.bl true):=by
 rw[yO (d:=11) (f:=fG) rfl];obtain⟨c,h⟩:=J6 10 A 0;obtain⟨n,E,G,B⟩:=J5 10 c;have iA:aK yL (CD 11) fG.body [some (.scr A),none,none,none,none,none,none,none] [bQ (.scr A),.F,.F,.F,.F,.F,.F,.F]=e7 A n:=by
  unfold e7;rw[BX];show aK yL (CD 11) (.seq (.a 1 mS) rq) _ _=_;have e:au (CD 11) mS [some (.scr A),none,none,none,none,none,none,none]=.ok (.int n):=by
   simp only[mS,xf,zH,yi,zq,zp,bU,zX,show CD 11 30 [.scr A,.int 0]=.ok (.int c)from h,B]
  rw[zz yL (CD 11) _ _ rfl,vX,e];simp only[c9];rw[Au rfl];rfl
 unfold yu;rw[N0 (by rfl)];show yY _ (aK yL (CD 11) fG.body [some (.scr A),none,none,none,none,none,none,none] [bQ (.scr A),.F,.F,.F,.F,.F,.F,.F])=_;rw[iA];refine Ep ?_;rcases(by lia:n=1\/n=2\/n=3\/n=4\/n=5)with rfl|rfl|rfl|rfl|rfl
 .exact JK A
 .exact JJ A
 .exact JI A
 .exact JH A
 .exact JG A
def pure(A:P8)(_:A.length<=63):∃m,xc (D.map (·.fn)) 12 46 [.rol (A.map Wd.int)] []=.ok (.bl true) m:=EG yL T 12 46 A (Gp A)
end R67
namespace Mini
open PySem PySem.Spec PyProof.Rows L2
def BW {run:Value->O7->Sem Value}{K:LS->Qb}(e:∀P,as=(K P).map (·.1))(h:Vx q loose XP (λw h=>(K w.params).In h) r d I run):PySem.W.WalkX q loose XP (PySem.W.X.obsZ as) (PySem.W.X.valZ K n t) r d I run:=
 λw A B M N G y a o pm O doc Q kV U Y j u z l E H J L g f m b i=>h w A B M N G (PySem.W.InK.keeps (K:=K) w _ _ (PySem.W.X.z_facts e y).2.1 L.keeps) a o pm O doc Q kV U Y j u z l E H J g f m b i
end Mini
namespace R67
open PySem L2 Mini PySem.W
noncomputable def fO(d:bm)(m:Value)(c:Addr):Obj:=mD d.on d.on d.st m c
def JR (X:(K P).In h)(G:h.Ns L0 A)(g:nsIn (K P) L0 d.nm=some (some (.ref a)))(l:(K P).lookup a=some (fO d m c))(k:codeIn (K P) (.ref c) d.on=true):jy (K P) A d:=
 dk X G g l k (by show(match (K P).lookup a with|some ⟨_,_,.func _,_⟩=>true|some ⟨_,_,.cls _,_⟩=>_|_=>false)=true;rw[l];rfl)
def JQ (X:(K P).In h)(G:h.Ns L0 A){l:List (bm×Addr×Addr×Value)}(e:l.map (λx=>(nsIn (K P) L0 x.1.nm,(K P).lookup x.2.1,codeIn (K P) (.ref x.2.2.1) x.1.on))=l.map λx=>(some (some (.ref x.2.1)),some (fO x.1 x.2.2.2 x.2.2.1),true)):∀d∈l.map (·.1),jy (K P) A d:=λd B=>by
 obtain⟨x,E,rfl⟩:=Wc.mp B;have q:=List.map_inj_left.mp e x E;exact JR X G (NY (·.1) q) (NY (·.2.1) q) (NY (·.2.2) q)
noncomputable def lD:List (bm×Addr×Addr×Value):=[(d0,46,45,m0),(d1,53,52,m0),(d2,60,59,m0),(d3,67,66,m1),(d4,74,73,m1),(d5,81,80,m1),(d6,86,85,m2),(d7,91,90,m2),(d8,98,97,m3),(d9,103,102,m3),(pO,108,107,m3),(pN,115,114,m4),(pM,120,119,m4),(pL,125,124,m4),(pK,132,131,m4),(pJ,144,143,m5),(pI,149,148,m5),(pH,156,155,m5),(pG,163,162,m5),(pF,170,169,m5),(pE,175,174,m5),(pD,182,181,m5),(pC,187,186,m6),(pB,194,193,m6),(pA,201,200,m6),(pz,208,207,m7),(pp,213,212,m7),(po,218,217,m7),(pk,225,224,m7),(pj,230,229,m7),(ph,237,236,m8),(pf,244,243,m8),(o9,251,250,m8),(o8,258,257,m8),(o7,265,264,m8),(o6,270,269,m8),(oZ,275,274,m8),(oY,280,279,m8),(oX,287,286,m8),(oW,292,291,m8),(oV,299,298,m8),(oU,304,303,m8),(oT,309,308,m8),(oS,314,313,m8),(oR,319,318,m8),(oQ,324,323,m8),(lB,329,328,m8)]
section
variable(P:LS)
def zb:∀A∈zm,nsIn (K P) L0 A=some none:=zk (by kernel_rfl) (by kernel_rfl) (by kernel_rfl) (by kernel_rfl) (by kernel_rfl) (by kernel_rfl) (by kernel_rfl) (by kernel_rfl) (by kernel_rfl) (by kernel_rfl) (by kernel_rfl) (by kernel_rfl) (by kernel_rfl) (by kernel_rfl) (by kernel_rfl) (by kernel_rfl) (by kernel_rfl) (by kernel_rfl)
end
end R67
open PySem PySem.W PyProof.Rows
set_option maxRecDepth 100000 in
theorem PySem.Challenge.cw_loopgyre_k67_books_holds : PySem.Challenge.rw_loopgyre_k67_books.Holds := by
 w_on;o_law
 refine holds_openX (q:=R67.qv) (loose:=R67.lp) (Xt:=R67.Xt) (XP:=XL R67.qv []) (Yf:=X.obsZ R67.as) (Ya:=X.valZ R67.K 330 635) (N:=4060) R67.hl (λs e=>xl_of s (QD.mp e).1) XL.keeps (by rfl) (by rfl) (by rfl) (λs e=>recFacts_of (QD.mp e).2) (by rfl) (by assumption) (by decide +kernel) ⟨rfl,rfl,rfl,rfl,rfl,by decide +kernel⟩ ?hw ?hc
 case hw=>w_witness2
 refine Mini.BW (K:=R67.K) (λ_=>rfl) ?_;refine Mini.Cf (l:=PySem.Challenge.rw_loopgyre_k67_books) (D:=R67.D) (C:=R67.C) (k:=12) (i:=46) (dl:=R67.lB) (x:="_law_script") (n:=63) rfl (by decide) rfl ⟨rfl,by decide,by decide⟩ (λw h Y=>Y) rfl R67.Ce R67.JV rfl rfl rfl ?F R67.pure
 case F=>
  intro w E H h A G B;exact R67.mk A G (t0:=348) (t1:=437) (t2:=469) (R67.JQ A G (l:=R67.lD) (by kernel_rfl)) (by kernel_rfl) (by kernel_rfl) (by kernel_rfl) (sa0:=133) (by kernel_rfl) (Mini.JT (a:=133) (b1:=134) (b2:=135) (b3:=136) (b4:=137) (t1:=350) (t2:=354) (t3:=357) (t4:=360) (ep:=4) (r1:=352) (z1:=353) (n1:=0) (o1:=none) (l1:=#[]) (r2:=355) (z2:=356) (n2:=0) (o2:=none) (l2:=#[]) (r3:=358) (z3:=359) (n3:=0) (o3:=none) (l3:=#[]) (r4:=361) (z4:=363) (n4:=0) (o4:=none) (l4:=#[]) (e1:=PyData.keyHash w.params ⟨⟨[85]⟩⟩) (e2:=PyData.keyHash w.params ⟨⟨[82]⟩⟩) (e3:=PyData.keyHash w.params ⟨⟨[68]⟩⟩) (e4:=PyData.keyHash w.params ⟨⟨[76]⟩⟩) rfl (by kernel_rfl) (by kernel_rfl) (by kernel_rfl) (by kernel_rfl) (by kernel_rfl) rfl rfl rfl rfl) (R67.zb w.params)
